/-
  What begin and end of the machine answer.
-/
import Derived.Test.YtklenppldblbdaaTq
import Derived.Test.YtklenppldblbdaaTm
namespace Go.Proofs.Ytklenppldblbdaa
open Go.RowKit Go.PlainAid
set_option linter.unusedSimpArgs false
set_option linter.unusedVariables false

theorem PenFit.behind {s : MS} (h : PenFit s) (w1 : Int) (l : List Int) (many : Bool) : PenFit (s.behind w1 l many).2 := by
  have hb := behind_stems s w1 l many
  unfold PenFit
  rw [hb.2.1, hb.2.2.1]
  exact h

set_option maxRecDepth 20000 in
set_option maxHeartbeats 2000000 in
theorem begin_21 (B M F : Nat) (L : Lay) (s : MS) (l : List Int) (a : Option Addr) (c : Nat) (w1 : Int) (w : World) (h : Mach w B M F L s) (hp : PenFit s) (ho : OpdsOk w l a c) (hF : FCell w F B w1) :
    Calls Try.prog 65 #[.pointer (some ⟨M, 0, none⟩), .int .i64 21, .slice a l.length c] w (PenPost B M F L (s.begin w1 21 l) (.tuple #[]) w) := by
  have H := Lib.hid h
  obtain ⟨many, hmany⟩ : ∃ b, decide (l.length = 2 + 1) = b := ⟨_, rfl⟩
  have HQ := Lib.hid (behind_k B M F L s l a c many w1 w h ho (fun e => by rw [e] at hmany; simp at hmany; omega) hF)
  have hqp := hp.behind w1 l many
  have hql := (behind_list s w1 l many).1
  have HE : Hid (s.begin w1 21 l = if (s.behind w1 l many).1.length ≠ 2 then (s.behind w1 l many).2.refuse 81 else (s.behind w1 l many).2.move ((s.behind w1 l many).1.getD 0 0) ((s.behind w1 l many).1.getD 1 0)) := by unfold Hid MS.begin; simp [hmany]
  rw [HE.out]
  clear HE
  generalize s.behind w1 l many = q at *
  obtain ⟨m, HM⟩ : ∃ m, Hid (q.1.length = m) := ⟨_, rfl⟩
  obtain ⟨n, HN⟩ : ∃ n, Hid (l.length = n) := ⟨_, rfl⟩
  have hn : n ≤ 1000 := by rw [← HN.out]; exact ho.few
  have hm : m ≤ 1000 := by rw [← HM.out]; exact Nat.le_trans hql ho.few
  rw [HN.out] at HQ ⊢
  rw [HM.out]
  have HQP := Lib.hid hqp
  have hmod : ((n : Int) == 2 + 1) = many := by rw [← hmany, HN.out]; apply Bool.eq_iff_iff.2; simp; omega
  have hmod2 : ((n : Int) == 3) = many := by rw [← hmany, HN.out]; apply Bool.eq_iff_iff.2; simp; omega
  clear h hp ho hF hql hmany hqp
  by_cases hlk : m ≠ 2
  · rw [if_pos hlk]
    have z1 : ((m : Int) != 2) = true := by simp; omega
    have z2 : ((m : Int) == 2) = false := by simp; omega
    clear hlk
    go_enter Try.func65, Try.ntmps65
    go_wp2_with fail
    refine HQ.out.mono ?_
    rintro e w2 ⟨a2, c2, rfl, h1, h2, h3, h4, h5⟩
    rw [HM.out] at h2 ⊢
    have H2 := Lib.hid h3
    have HB2 := Lib.hid h4
    have HK2 := Lib.hid h5
    clear h1 h2 h3 h4 h5 hmod hmod2
    go_wp2_with fail
    refine (refuse_c B M F L q.2 81 _ H2.out).mono ?_
    rintro e w3 ⟨rfl, h2, hb2, hk2⟩
    have H3 := Lib.hid h2
    have HB3 := Lib.hid (HB2.out.trans hb2)
    have HK3 := Lib.hid (HK2.out.trans hk2)
    clear h2 hb2 hk2
    go_wp2_with fail
    go_end0
    exact ⟨rfl, ⟨_, _, _, H3.out⟩, HB3.out, HK3.out⟩
  · rw [if_neg hlk]
    obtain rfl : m = 2 := by omega
    clear hlk
    obtain ⟨x, y, hq⟩ : ∃ x y, q.1 = [x, y] := by
      have := HM.out
      match hx : q.1, this with
      | [x, y], _ => exact ⟨x, y, rfl⟩
    have HX := Lib.hid hq
    rw [hq]
    clear hq
    go_enter Try.func65, Try.ntmps65
    go_wp2_with fail
    refine HQ.out.mono ?_
    rintro e w2 ⟨a2, c2, rfl, h1, h2, h3, h4, h5⟩
    rw [HM.out] at h2 ⊢
    rw [HX.out] at h1
    obtain ⟨g, off, rfl, hcell⟩ := h1.at (by simp)
    have k0 := hcell 0 x rfl
    have k1 := hcell 1 y rfl
    rw [Nat.add_zero] at k0
    have H2 := Lib.hid h3
    have HB2 := Lib.hid h4
    have HK2 := Lib.hid h5
    clear h1 h3 h4 h5 hcell hmod hmod2
    go_wp2_with fail
    refine wp_region_still_tail 9 (by kernel_rfl) (by kernel_rfl) ?_
    simp only [List.take_succ_cons, List.take_zero, List.drop_succ_cons, List.drop_zero]
    repeat still_step
    refine wpStill_nil ?_
    change wpList _ _ _ _ _ w2.drew
    have HD := Lib.hid (H2.out.below (Below.refl _ _).drew)
    have HKD := Lib.hid (keep_bel (Below.refl w2.heap.size w2).drew)
    go_wp2_with fail
    refine (move_c B M F L q.2 x y w2.drew HD.out HQP.out).mono ?_
    rintro e w3 ⟨rfl, ⟨oa3, oc3, vs3, hh3⟩, hb3, hk3⟩
    have H3 := Lib.hid hh3
    have HB3 := Lib.hid (HB2.out.drew.trans hb3)
    have HK3 := Lib.hid (HK2.out.trans (HKD.out.trans hk3))
    clear hh3 hb3 hk3 HD HKD
    go_wp2_with fail
    go_end0
    exact ⟨rfl, ⟨_, _, _, H3.out⟩, HB3.out, HK3.out⟩

set_option maxRecDepth 20000 in
set_option maxHeartbeats 2000000 in
theorem begin_22 (B M F : Nat) (L : Lay) (s : MS) (l : List Int) (a : Option Addr) (c : Nat) (w1 : Int) (w : World) (h : Mach w B M F L s) (hp : PenFit s) (ho : OpdsOk w l a c) (hF : FCell w F B w1) :
    Calls Try.prog 65 #[.pointer (some ⟨M, 0, none⟩), .int .i64 22, .slice a l.length c] w (PenPost B M F L (s.begin w1 22 l) (.tuple #[]) w) := by
  have H := Lib.hid h
  obtain ⟨many, hmany⟩ : ∃ b, decide (l.length = 1 + 1) = b := ⟨_, rfl⟩
  have HQ := Lib.hid (behind_k B M F L s l a c many w1 w h ho (fun e => by rw [e] at hmany; simp at hmany; omega) hF)
  have hqp := hp.behind w1 l many
  have hql := (behind_list s w1 l many).1
  have HE : Hid (s.begin w1 22 l = if (s.behind w1 l many).1.length ≠ 1 then (s.behind w1 l many).2.refuse 81 else (s.behind w1 l many).2.move ((s.behind w1 l many).1.getD 0 0) 0) := by unfold Hid MS.begin; simp [hmany]
  rw [HE.out]
  clear HE
  generalize s.behind w1 l many = q at *
  obtain ⟨m, HM⟩ : ∃ m, Hid (q.1.length = m) := ⟨_, rfl⟩
  obtain ⟨n, HN⟩ : ∃ n, Hid (l.length = n) := ⟨_, rfl⟩
  have hn : n ≤ 1000 := by rw [← HN.out]; exact ho.few
  have hm : m ≤ 1000 := by rw [← HM.out]; exact Nat.le_trans hql ho.few
  rw [HN.out] at HQ ⊢
  rw [HM.out]
  have HQP := Lib.hid hqp
  have hmod : ((n : Int) == 1 + 1) = many := by rw [← hmany, HN.out]; apply Bool.eq_iff_iff.2; simp; omega
  have hmod2 : ((n : Int) == 2) = many := by rw [← hmany, HN.out]; apply Bool.eq_iff_iff.2; simp; omega
  clear h hp ho hF hql hmany hqp
  by_cases hlk : m ≠ 1
  · rw [if_pos hlk]
    have z1 : ((m : Int) != 1) = true := by simp; omega
    have z2 : ((m : Int) == 1) = false := by simp; omega
    clear hlk
    go_enter Try.func65, Try.ntmps65
    go_wp2_with fail
    refine HQ.out.mono ?_
    rintro e w2 ⟨a2, c2, rfl, h1, h2, h3, h4, h5⟩
    rw [HM.out] at h2 ⊢
    have H2 := Lib.hid h3
    have HB2 := Lib.hid h4
    have HK2 := Lib.hid h5
    clear h1 h2 h3 h4 h5 hmod hmod2
    go_wp2_with fail
    refine (refuse_c B M F L q.2 81 _ H2.out).mono ?_
    rintro e w3 ⟨rfl, h2, hb2, hk2⟩
    have H3 := Lib.hid h2
    have HB3 := Lib.hid (HB2.out.trans hb2)
    have HK3 := Lib.hid (HK2.out.trans hk2)
    clear h2 hb2 hk2
    go_wp2_with fail
    go_end0
    exact ⟨rfl, ⟨_, _, _, H3.out⟩, HB3.out, HK3.out⟩
  · rw [if_neg hlk]
    obtain rfl : m = 1 := by omega
    clear hlk
    obtain ⟨x, hq⟩ : ∃ x, q.1 = [x] := by
      have := HM.out
      match hx : q.1, this with
      | [x], _ => exact ⟨x, rfl⟩
    have HX := Lib.hid hq
    rw [hq]
    clear hq
    go_enter Try.func65, Try.ntmps65
    go_wp2_with fail
    refine HQ.out.mono ?_
    rintro e w2 ⟨a2, c2, rfl, h1, h2, h3, h4, h5⟩
    rw [HM.out] at h2 ⊢
    rw [HX.out] at h1
    obtain ⟨g, off, rfl, hcell⟩ := h1.at (by simp)
    have k0 := hcell 0 x rfl
    rw [Nat.add_zero] at k0
    have H2 := Lib.hid h3
    have HB2 := Lib.hid h4
    have HK2 := Lib.hid h5
    clear h1 h3 h4 h5 hcell hmod hmod2
    go_wp2_with fail
    refine wp_region_still_tail 6 (by kernel_rfl) (by kernel_rfl) ?_
    simp only [List.take_succ_cons, List.take_zero, List.drop_succ_cons, List.drop_zero]
    repeat still_step
    refine wpStill_nil ?_
    change wpList _ _ _ _ _ w2.drew
    have HD := Lib.hid (H2.out.below (Below.refl _ _).drew)
    have HKD := Lib.hid (keep_bel (Below.refl w2.heap.size w2).drew)
    go_wp2_with fail
    refine (move_c B M F L q.2 x 0 w2.drew HD.out HQP.out).mono ?_
    rintro e w3 ⟨rfl, ⟨oa3, oc3, vs3, hh3⟩, hb3, hk3⟩
    have H3 := Lib.hid hh3
    have HB3 := Lib.hid (HB2.out.drew.trans hb3)
    have HK3 := Lib.hid (HK2.out.trans (HKD.out.trans hk3))
    clear hh3 hb3 hk3 HD HKD
    go_wp2_with fail
    go_end0
    exact ⟨rfl, ⟨_, _, _, H3.out⟩, HB3.out, HK3.out⟩

set_option maxRecDepth 20000 in
set_option maxHeartbeats 2000000 in
theorem begin_4 (B M F : Nat) (L : Lay) (s : MS) (l : List Int) (a : Option Addr) (c : Nat) (w1 : Int) (w : World) (h : Mach w B M F L s) (hp : PenFit s) (ho : OpdsOk w l a c) (hF : FCell w F B w1) :
    Calls Try.prog 65 #[.pointer (some ⟨M, 0, none⟩), .int .i64 4, .slice a l.length c] w (PenPost B M F L (s.begin w1 4 l) (.tuple #[]) w) := by
  have H := Lib.hid h
  obtain ⟨many, hmany⟩ : ∃ b, decide (l.length = 1 + 1) = b := ⟨_, rfl⟩
  have HQ := Lib.hid (behind_k B M F L s l a c many w1 w h ho (fun e => by rw [e] at hmany; simp at hmany; omega) hF)
  have hqp := hp.behind w1 l many
  have hql := (behind_list s w1 l many).1
  have HE : Hid (s.begin w1 4 l = if (s.behind w1 l many).1.length ≠ 1 then (s.behind w1 l many).2.refuse 81 else (s.behind w1 l many).2.move 0 ((s.behind w1 l many).1.getD 0 0)) := by unfold Hid MS.begin; simp [hmany]
  rw [HE.out]
  clear HE
  generalize s.behind w1 l many = q at *
  obtain ⟨m, HM⟩ : ∃ m, Hid (q.1.length = m) := ⟨_, rfl⟩
  obtain ⟨n, HN⟩ : ∃ n, Hid (l.length = n) := ⟨_, rfl⟩
  have hn : n ≤ 1000 := by rw [← HN.out]; exact ho.few
  have hm : m ≤ 1000 := by rw [← HM.out]; exact Nat.le_trans hql ho.few
  rw [HN.out] at HQ ⊢
  rw [HM.out]
  have HQP := Lib.hid hqp
  have hmod : ((n : Int) == 1 + 1) = many := by rw [← hmany, HN.out]; apply Bool.eq_iff_iff.2; simp; omega
  have hmod2 : ((n : Int) == 2) = many := by rw [← hmany, HN.out]; apply Bool.eq_iff_iff.2; simp; omega
  clear h hp ho hF hql hmany hqp
  by_cases hlk : m ≠ 1
  · rw [if_pos hlk]
    have z1 : ((m : Int) != 1) = true := by simp; omega
    have z2 : ((m : Int) == 1) = false := by simp; omega
    clear hlk
    go_enter Try.func65, Try.ntmps65
    go_wp2_with fail
    refine HQ.out.mono ?_
    rintro e w2 ⟨a2, c2, rfl, h1, h2, h3, h4, h5⟩
    rw [HM.out] at h2 ⊢
    have H2 := Lib.hid h3
    have HB2 := Lib.hid h4
    have HK2 := Lib.hid h5
    clear h1 h2 h3 h4 h5 hmod hmod2
    go_wp2_with fail
    refine (refuse_c B M F L q.2 81 _ H2.out).mono ?_
    rintro e w3 ⟨rfl, h2, hb2, hk2⟩
    have H3 := Lib.hid h2
    have HB3 := Lib.hid (HB2.out.trans hb2)
    have HK3 := Lib.hid (HK2.out.trans hk2)
    clear h2 hb2 hk2
    go_wp2_with fail
    go_end0
    exact ⟨rfl, ⟨_, _, _, H3.out⟩, HB3.out, HK3.out⟩
  · rw [if_neg hlk]
    obtain rfl : m = 1 := by omega
    clear hlk
    obtain ⟨x, hq⟩ : ∃ x, q.1 = [x] := by
      have := HM.out
      match hx : q.1, this with
      | [x], _ => exact ⟨x, rfl⟩
    have HX := Lib.hid hq
    rw [hq]
    clear hq
    go_enter Try.func65, Try.ntmps65
    go_wp2_with fail
    refine HQ.out.mono ?_
    rintro e w2 ⟨a2, c2, rfl, h1, h2, h3, h4, h5⟩
    rw [HM.out] at h2 ⊢
    rw [HX.out] at h1
    obtain ⟨g, off, rfl, hcell⟩ := h1.at (by simp)
    have k0 := hcell 0 x rfl
    rw [Nat.add_zero] at k0
    have H2 := Lib.hid h3
    have HB2 := Lib.hid h4
    have HK2 := Lib.hid h5
    clear h1 h3 h4 h5 hcell hmod hmod2
    go_wp2_with fail
    refine wp_region_still_tail 6 (by kernel_rfl) (by kernel_rfl) ?_
    simp only [List.take_succ_cons, List.take_zero, List.drop_succ_cons, List.drop_zero]
    repeat still_step
    refine wpStill_nil ?_
    change wpList _ _ _ _ _ w2.drew
    have HD := Lib.hid (H2.out.below (Below.refl _ _).drew)
    have HKD := Lib.hid (keep_bel (Below.refl w2.heap.size w2).drew)
    go_wp2_with fail
    refine (move_c B M F L q.2 0 x w2.drew HD.out HQP.out).mono ?_
    rintro e w3 ⟨rfl, ⟨oa3, oc3, vs3, hh3⟩, hb3, hk3⟩
    have H3 := Lib.hid hh3
    have HB3 := Lib.hid (HB2.out.drew.trans hb3)
    have HK3 := Lib.hid (HK2.out.trans (HKD.out.trans hk3))
    clear hh3 hb3 hk3 HD HKD
    go_wp2_with fail
    go_end0
    exact ⟨rfl, ⟨_, _, _, H3.out⟩, HB3.out, HK3.out⟩

set_option maxRecDepth 20000 in
set_option maxHeartbeats 2000000 in
theorem finish_m (B M F : Nat) (L : Lay) (s : MS) (l : List Int) (a : Option Addr) (c : Nat) (w1 : Int) (many one five : Bool) (w : World) (h : Mach w B M F L s) (ho : OpdsOk w l a c) (hF : FCell w F B w1)
    (h1 : decide (l.length = 1) = one) (h5 : decide (l.length = 5) = five) (hmany : (one || five) = many) :
    Calls Try.prog 66 #[.pointer (some ⟨M, 0, none⟩), .slice a l.length c] w (LPost B M F L (s.finish w1 l) (.tuple #[]) w) := by
  have H := Lib.hid h
  have HQ := Lib.hid (behind_k B M F L s l a c many w1 w h ho (fun e => by rw [e] at hmany; subst h1; subst h5; simp at hmany; omega) hF)
  have hql := (behind_list s w1 l many).1
  have HE : Hid (s.finish w1 l = if (s.behind w1 l many).1.length = 0 then { (s.behind w1 l many).2 with ended := true } else if (s.behind w1 l many).1.length = 4 then (s.behind w1 l many).2.refuse 82 else (s.behind w1 l many).2.refuse 81) := by unfold Hid MS.finish; rw [h1, h5, hmany]
  rw [HE.out]
  clear HE
  generalize s.behind w1 l many = q at *
  obtain ⟨m, HM⟩ : ∃ m, Hid (q.1.length = m) := ⟨_, rfl⟩
  obtain ⟨n, HN⟩ : ∃ n, Hid (l.length = n) := ⟨_, rfl⟩
  have hn : n ≤ 1000 := by rw [← HN.out]; exact ho.few
  have hm : m ≤ 1000 := by rw [← HM.out]; exact Nat.le_trans hql ho.few
  rw [HN.out] at HQ h1 h5 ⊢
  rw [HM.out]
  have y1 : ((n : Int) == 1) = one := by rw [← h1]; apply Bool.eq_iff_iff.2; simp; omega
  have y5 : ((n : Int) == 5) = five := by rw [← h5]; apply Bool.eq_iff_iff.2; simp; omega
  clear h ho hF hql h1 h5
  by_cases h0 : m = 0
  · rw [if_pos h0]
    subst h0
    cases one <;> cases five <;> subst hmany
    all_goals (
      go_enter Try.func66, Try.ntmps66
      go_wp2_with fail
      refine HQ.out.mono ?_
      rintro e w2 ⟨a2, c2, rfl, h1, h2, h3, h4, h5⟩
      rw [HM.out] at h2 ⊢
      have f12 := h3.f 12
      have c12 := h3.c12
      have H3 := Lib.hid (h3.setEnded true)
      have HB2 := Lib.hid (h4.trans (h3.bset 12 (.bool true)).1)
      have HK2 := Lib.hid (h5.trans (h3.bset 12 (.bool true)).2)
      clear h1 h2 h3 h4 h5
      go_wp2_with fail
      go_end0
      exact ⟨rfl, H3.out, HB2.out, HK2.out⟩)
  · rw [if_neg h0]
    have z0 : ((m : Int) == 0) = false := by simp; omega
    by_cases h4 : m = 4
    · rw [if_pos h4]
      subst h4
      clear h0 z0
      cases one <;> cases five <;> subst hmany
      all_goals (
        go_enter Try.func66, Try.ntmps66
        go_wp2_with fail
        refine HQ.out.mono ?_
        rintro e w2 ⟨a2, c2, rfl, h1, h2, h3, h4, h5⟩
        rw [HM.out] at h2 ⊢
        have H2 := Lib.hid h3
        have HB2 := Lib.hid h4
        have HK2 := Lib.hid h5
        clear h1 h2 h3 h4 h5
        go_wp2_with fail
        refine (refuse_c B M F L q.2 82 _ H2.out).mono ?_
        rintro e w3 ⟨rfl, h2, hb2, hk2⟩
        have H3 := Lib.hid h2
        have HB3 := Lib.hid (HB2.out.trans hb2)
        have HK3 := Lib.hid (HK2.out.trans hk2)
        clear h2 hb2 hk2
        go_wp2_with fail
        go_end0
        exact ⟨rfl, H3.out, HB3.out, HK3.out⟩)
    · rw [if_neg h4]
      have z4 : ((m : Int) == 4) = false := by simp; omega
      clear h0 h4
      cases one <;> cases five <;> subst hmany
      all_goals (
        go_enter Try.func66, Try.ntmps66
        go_wp2_with fail
        refine HQ.out.mono ?_
        rintro e w2 ⟨a2, c2, rfl, h1, h2, h3, h4, h5⟩
        rw [HM.out] at h2 ⊢
        have H2 := Lib.hid h3
        have HB2 := Lib.hid h4
        have HK2 := Lib.hid h5
        clear h1 h2 h3 h4 h5
        go_wp2_with fail
        refine (refuse_c B M F L q.2 81 _ H2.out).mono ?_
        rintro e w3 ⟨rfl, h2, hb2, hk2⟩
        have H3 := Lib.hid h2
        have HB3 := Lib.hid (HB2.out.trans hb2)
        have HK3 := Lib.hid (HK2.out.trans hk2)
        clear h2 hb2 hk2
        go_wp2_with fail
        go_end0
        exact ⟨rfl, H3.out, HB3.out, HK3.out⟩)

theorem finish_c (B M F : Nat) (L : Lay) (s : MS) (l : List Int) (a : Option Addr) (c : Nat) (w1 : Int) (w : World) (h : Mach w B M F L s) (ho : OpdsOk w l a c) (hF : FCell w F B w1) :
    Calls Try.prog 66 #[.pointer (some ⟨M, 0, none⟩), .slice a l.length c] w (LPost B M F L (s.finish w1 l) (.tuple #[]) w) :=
  finish_m B M F L s l a c w1 _ _ _ w h ho hF rfl rfl rfl

end Go.Proofs.Ytklenppldblbdaa
