import Derived.Test.YtklenppldblbdaaGreatK20
import Derived.Test.YtklenppldblbdaaGreatK08
set_option linter.unusedSimpArgs false
set_option linter.unusedVariables false
namespace Go.Proofs.YtklenppldblbdaaGreat
open Go.RowKit Go.PlainAid
def Smalls (l : List Int) : Prop := ∀ v ∈ l, -2147483648 ≤ v ∧ v ≤ 2147483648
theorem list7 {l : List Int} (h : l.length = 7) : ∃ a b c d e f g, l = [a, b, c, d, e, f, g] := by
 match l, h with
 | [a, b, c, d, e, f, g], _ => exact ⟨a, b, c, d, e, f, g, rfl⟩
theorem list9 {l : List Int} (h : l.length = 9) : ∃ a b c d e f g i j, l = [a, b, c, d, e, f, g, i, j] := by
 match l, h with
 | [a, b, c, d, e, f, g, i, j], _ => exact ⟨a, b, c, d, e, f, g, i, j, rfl⟩
theorem list11 {l : List Int} (h : l.length = 11) : ∃ a b c d e f g i j k m, l = [a, b, c, d, e, f, g, i, j, k, m] := by
 match l, h with
 | [a, b, c, d, e, f, g, i, j, k, m], _ => exact ⟨a, b, c, d, e, f, g, i, j, k, m, rfl⟩
theorem flex_c (B M F : Nat) (L : Lay) (s : MS) (op : Int) (l : List Int) (a : Option Addr) (c : Nat) (w : World) (h : Mach w B M F L s) (hp : PenFit s) (ho : Opds w l a) (hc : l.length ≤ c) (hs : Smalls l) (hk : (takesN op l.length).1 = true) (hop : 1200 ≤ op) :
 Calls Tryz.prog 95 #[.pointer (some ⟨M, 0, none⟩), .int .i64 op, .slice a l.length c] w (PenPost B M F L (MS.flex op l s) (.tuple #[]) w) := by
 rcases takes_cases hk with h1 | h1 | h1 | h1 | h1 | h1 | h1 | h1 | h1 | h1 | ⟨rfl, hn⟩ | ⟨rfl, hn⟩ | ⟨rfl, hn⟩ | ⟨rfl, hn⟩
 iterate 10 (exfalso; omega)
 ·obtain ⟨x0, x1, x2, x3, x4, x5, x6, rfl⟩ := list7 hn
  exact flex_1234 B M F L s x0 x1 x2 x3 x4 x5 x6 a c w h hp ho hc (hs x2 (by simp))
 ·rw [hn] at hc ⊢
  exact flex_1235 B M F L s l a c w h hp ho hn hc
 ·obtain ⟨x0, x1, x2, x3, x4, x5, x6, x7, x8, rfl⟩ := list9 hn
  exact flex_1236 B M F L s x0 x1 x2 x3 x4 x5 x6 x7 x8 a c w h hp ho hc
 ·obtain ⟨x0, x1, x2, x3, x4, x5, x6, x7, x8, x9, x10, rfl⟩ := list11 hn
  exact flex_1237 B M F L s x0 x1 x2 x3 x4 x5 x6 x7 x8 x9 x10 a c w h hp ho hc
theorem strokes_c (B M F : Nat) (L : Lay) (s : MS) (op : Int) (l : List Int) (a : Option Addr) (c : Nat) (w : World) (h : Mach w B M F L s) (hp : PenFit s) (ho : Opds w l a) (hc : l.length ≤ c) (hl : l.length ≤ 1000) (hk : (takesN op l.length).1 = true) (hop : op < 1200) :
 Calls Tryz.prog 96 #[.pointer (some ⟨M, 0, none⟩), .int .i64 op, .slice a l.length c] w (PenPost B M F L (MS.strokes op l s) (.tuple #[]) w) := by
 rcases takes_cases hk with ⟨rfl, hq⟩ | rfl | rfl | ⟨rfl, hq⟩ | ⟨rfl, h8, hq⟩ | ⟨rfl, h8, hq⟩ | ⟨rfl, hq⟩ | ⟨rfl, hq⟩ | rfl | rfl | h1 | h1 | h1 | h1
 ·exact strokes_5 B M F L s l a c w h hp ho hc hl hq
 ·exact strokes_6 B M F L s l a c w h hp ho hc hl
 ·exact strokes_7 B M F L s l a c w h hp ho hc hl
 ·exact strokes_8 B M F L s l a c w h hp ho hc hl hq
 ·exact strokes_24 B M F L s l a c w h hp ho hc hl h8 hq
 ·exact strokes_25 B M F L s l a c w h hp ho hc hl h8 hq
 ·exact strokes_26 B M F L s l a c w h hp ho hc hl hq
 ·exact strokes_27 B M F L s l a c w h hp ho hc hl hq
 ·exact strokes_30 B M F L s l a c w h hp ho hc hl
 ·exact strokes_31 B M F L s l a c w h hp ho hc hl
 iterate 4 (exfalso; omega)
set_option maxRecDepth 20000 in
set_option maxHeartbeats 2000000 in
theorem draw_c (B M F : Nat) (L : Lay) (s : MS) (op : Int) (l : List Int) (a : Option Addr) (c : Nat) (w : World) (h : Mach w B M F L s) (hp : PenFit s) (ho : Opds w l a) (hc : l.length ≤ c) (hl : l.length ≤ 1000) (hs : Smalls l) :
 Calls Tryz.prog 88 #[.pointer (some ⟨M, 0, none⟩), .int .i64 op, .slice a l.length c] w (PenPost B M F L (MS.draw op l s) (.tuple #[]) w) := by
 obtain ⟨x, hx⟩ : ∃ x, (takesN op l.length).1 = x := ⟨_, rfl⟩
 obtain ⟨y, hy⟩ : ∃ y, (takesN op l.length).2 = y := ⟨_, rfl⟩
 have HT := Lib.hid (takes_c op l.length x y w (by unfold Hid; rw [← hx, ← hy]) hl)
 have HE : Hid (MS.draw op l s = if y = false then s.refuse 82 else if x = false then s.refuse 81 else if 1200 ≤ op then s.flex op l else s.strokes op l) := by unfold Hid MS.draw; rw [hx, hy]
 rw [HE.out]
 have H := Lib.hid h
 cases y
 ·have HK := Lib.hid (refuse_c B M F L s 82 w h)
  obtain ⟨n, HN⟩ : ∃ n, Hid (l.length = n) := ⟨_, rfl⟩
  rw [HN.out] at HT ⊢
  clear h hp ho hc hl hs HE hx hy
  go_enter Tryz.func88, Tryz.ntmps88
  go_wp2_with fail
  refine HT.out.mono ?_
  rintro e w1 ⟨rfl, rfl⟩
  go_wp2_with fail
  refine HK.out.mono ?_
  rintro e w1 ⟨rfl, h1, hb1, hk1⟩
  have HX := Lib.hid (And.intro h1 (And.intro hb1 hk1))
  clear h1 hb1 hk1
  go_wp2_with fail
  go_end0
  exact ⟨rfl, ⟨_, _, _, HX.out.1⟩, HX.out.2⟩
 ·cases x
  ·have HK := Lib.hid (refuse_c B M F L s 81 w h)
   obtain ⟨n, HN⟩ : ∃ n, Hid (l.length = n) := ⟨_, rfl⟩
   rw [HN.out] at HT ⊢
   clear h hp ho hc hl hs HE hx hy
   go_enter Tryz.func88, Tryz.ntmps88
   go_wp2_with fail
   refine HT.out.mono ?_
   rintro e w1 ⟨rfl, rfl⟩
   go_wp2_with fail
   refine HK.out.mono ?_
   rintro e w1 ⟨rfl, h1, hb1, hk1⟩
   have HX := Lib.hid (And.intro h1 (And.intro hb1 hk1))
   clear h1 hb1 hk1
   go_wp2_with fail
   go_end0
   exact ⟨rfl, ⟨_, _, _, HX.out.1⟩, HX.out.2⟩
  ·by_cases hop : 1200 ≤ op
   ·have HK := Lib.hid (flex_c B M F L s op l a c w h hp ho hc hs hx hop)
    have HE2 : Hid ((if true = false then s.refuse 82 else if true = false then s.refuse 81 else if 1200 ≤ op then s.flex op l else s.strokes op l) = s.flex op l) := by unfold Hid; rw [if_neg (by simp), if_neg (by simp), if_pos hop]
    rw [HE2.out]
    generalize MS.flex op l s = s9 at *
    obtain ⟨n, HN⟩ : ∃ n, Hid (l.length = n) := ⟨_, rfl⟩
    rw [HN.out] at HT HK ⊢
    clear h hp ho hc hl hs HE hx hy HE2
    go_enter Tryz.func88, Tryz.ntmps88
    go_wp2_with fail
    refine HT.out.mono ?_
    rintro e w1 ⟨rfl, rfl⟩
    go_wp2_with fail
    refine HK.out.mono ?_
    rintro e w1 ⟨rfl, hz⟩
    have HX := Lib.hid hz
    clear hz
    go_wp2_with fail
    go_end0
    exact ⟨rfl, HX.out⟩
   ·have HK := Lib.hid (strokes_c B M F L s op l a c w h hp ho hc hl hx (by omega))
    have HE2 : Hid ((if true = false then s.refuse 82 else if true = false then s.refuse 81 else if 1200 ≤ op then s.flex op l else s.strokes op l) = s.strokes op l) := by unfold Hid; rw [if_neg (by simp), if_neg (by simp), if_neg hop]
    rw [HE2.out]
    generalize MS.strokes op l s = s9 at *
    obtain ⟨n, HN⟩ : ∃ n, Hid (l.length = n) := ⟨_, rfl⟩
    rw [HN.out] at HT HK ⊢
    clear h hp ho hc hl hs HE hx hy HE2
    go_enter Tryz.func88, Tryz.ntmps88
    go_wp2_with fail
    refine HT.out.mono ?_
    rintro e w1 ⟨rfl, rfl⟩
    go_wp2_with fail
    refine HK.out.mono ?_
    rintro e w1 ⟨rfl, hz⟩
    have HX := Lib.hid hz
    clear hz
    go_wp2_with fail
    go_end0
    exact ⟨rfl, HX.out⟩
theorem PenFit.strokes {s : MS} (h : PenFit s) (op : Int) (l : List Int) : PenFit (MS.strokes op l s) := by
 unfold MS.strokes MS.waves
 split
 ·exact PenFit.lines _ _ h
 split
 ·exact PenFit.steps _ _ _ h
 split
 ·exact PenFit.curves _ _ h
 split
 ·exact PenFit.lines _ _ (PenFit.curves _ _ h)
 split
 ·exact PenFit.curves _ _ (PenFit.lines _ _ h)
 split
 ·split <;> exact PenFit.wavesFrom _ _ _ _ h
 split
 ·exact PenFit.turns _ _ _ h
 ·exact h
theorem PenFit.fault {s : MS} (h : PenFit s) (f : Int) : PenFit { s with fault := f } := h
theorem PenFit.flex {s : MS} (h : PenFit s) (op : Int) (l : List Int) : PenFit (MS.flex op l s) := by
 unfold MS.flex
 simp only
 split
 ·exact (h.curve _ _ _ _ _ _).curve _ _ _ _ _ _
 split
 ·exact PenFit.curves _ _ h
 split
 ·exact ((h.fault _).curve _ _ _ _ _ _).curve _ _ _ _ _ _
 split
 ·exact (PenFit.curves _ _ (h.fault _)).curve _ _ _ _ _ _
 ·exact h
theorem PenFit.draw {s : MS} (h : PenFit s) (op : Int) (l : List Int) : PenFit (MS.draw op l s) := by
 unfold MS.draw
 split
 ·exact h.refuse _
 split
 ·exact h.refuse _
 split
 ·exact h.flex _ _
 ·exact h.strokes _ _
end Go.Proofs.YtklenppldblbdaaGreat
namespace Go.Proofs.YtklenppldblbdaaGreat
open Go.RowKit Go.PlainAid
theorem PenFit.behind {s : MS} (h : PenFit s) (w1 : Int) (l : List Int) (many : Bool) : PenFit (s.behind w1 l many).2 := by
 have hb := behind_stems s w1 l many
 unfold PenFit
 rw [hb.2.1, hb.2.2.1]
 exact h
set_option maxRecDepth 20000 in
set_option maxHeartbeats 2000000 in
theorem begin_21 (B M F : Nat) (L : Lay) (s : MS) (l : List Int) (a : Option Addr) (c : Nat) (w1 : Int) (w : World) (h : Mach w B M F L s) (hp : PenFit s) (ho : OpdsOk w l a c) (hF : FCell w F B w1) :
 Calls Tryz.prog 86 #[.pointer (some ⟨M, 0, none⟩), .int .i64 21, .slice a l.length c] w (PenPost B M F L (s.begin w1 21 l) (.tuple #[]) w) := by
 have H := Lib.hid h
 obtain ⟨many, hmany⟩ : ∃ b, decide (l.length = 2 + 1) = b := ⟨_, rfl⟩
 have HQ := Lib.hid (behind_k B M F L s l a c many w1 w h ho (fun e => by rw [e] at hmany; simp at hmany; omega) hF)
 have hqp := hp.behind w1 l many
 have hql := (behind_list s w1 l many).1
 have HE : Hid (s.begin w1 21 l = if (s.behind w1 l many).1.length ≠ 2 then (s.behind w1 l many).2.refuse 81 else (s.behind w1 l many).2.move ((s.behind w1 l many).1.getD 0 0) ((s.behind w1 l many).1.getD 1 0)) := by unfold Hid MS.begin; simp [hmany]
 rw [HE.out]
 clear HE
 generalize s.behind w1 l many = q at *
 obtain ⟨m, HM⟩ : ∃ m, Hid (q.1.length = m) := ⟨_, rfl⟩
 obtain ⟨n, HN⟩ : ∃ n, Hid (l.length = n) := ⟨_, rfl⟩
 have hn : n ≤ 1000 := by rw [← HN.out]; exact ho.few
 have hm : m ≤ 1000 := by rw [← HM.out]; exact Nat.le_trans hql ho.few
 rw [HN.out] at HQ ⊢
 rw [HM.out]
 have HQP := Lib.hid hqp
 have hmod : ((n : Int) == 2 + 1) = many := by rw [← hmany, HN.out]; apply Bool.eq_iff_iff.2; simp; omega
 have hmod2 : ((n : Int) == 3) = many := by rw [← hmany, HN.out]; apply Bool.eq_iff_iff.2; simp; omega
 clear h hp ho hF hql hmany hqp
 by_cases hlk : m ≠ 2
 ·rw [if_pos hlk]
  have z1 : ((m : Int) != 2) = true := by simp; omega
  have z2 : ((m : Int) == 2) = false := by simp; omega
  clear hlk
  go_enter Tryz.func86, Tryz.ntmps86
  go_wp2_with fail
  refine HQ.out.mono ?_
  rintro e w2 ⟨a2, c2, rfl, h1, h2, h3, h4, h5⟩
  rw [HM.out] at h2 ⊢
  have H2 := Lib.hid h3
  have HB2 := Lib.hid h4
  have HK2 := Lib.hid h5
  clear h1 h2 h3 h4 h5 hmod hmod2
  go_wp2_with fail
  refine (refuse_c B M F L q.2 81 _ H2.out).mono ?_
  rintro e w3 ⟨rfl, h2, hb2, hk2⟩
  have H3 := Lib.hid h2
  have HB3 := Lib.hid (HB2.out.trans hb2)
  have HK3 := Lib.hid (HK2.out.trans hk2)
  clear h2 hb2 hk2
  go_wp2_with fail
  go_end0
  exact ⟨rfl, ⟨_, _, _, H3.out⟩, HB3.out, HK3.out⟩
 ·rw [if_neg hlk]
  obtain rfl : m = 2 := by omega
  clear hlk
  obtain ⟨x, y, hq⟩ : ∃ x y, q.1 = [x, y] := by
   have := HM.out
   match hx : q.1, this with
   | [x, y], _ => exact ⟨x, y, rfl⟩
  have HX := Lib.hid hq
  rw [hq]
  clear hq
  go_enter Tryz.func86, Tryz.ntmps86
  go_wp2_with fail
  refine HQ.out.mono ?_
  rintro e w2 ⟨a2, c2, rfl, h1, h2, h3, h4, h5⟩
  rw [HM.out] at h2 ⊢
  rw [HX.out] at h1
  obtain ⟨g, off, rfl, hcell⟩ := h1.at (by simp)
  have k0 := hcell 0 x rfl
  have k1 := hcell 1 y rfl
  rw [Nat.add_zero] at k0
  have H2 := Lib.hid h3
  have HB2 := Lib.hid h4
  have HK2 := Lib.hid h5
  clear h1 h3 h4 h5 hcell hmod hmod2
  go_wp2_with fail
  refine wp_region_still_tail 9 (by kernel_rfl) (by kernel_rfl) ?_
  simp only [List.take_succ_cons, List.take_zero, List.drop_succ_cons, List.drop_zero]
  repeat still_step
  refine wpStill_nil ?_
  change wpList _ _ _ _ _ w2.drew
  have HD := Lib.hid (H2.out.below (Below.refl _ _).drew)
  have HKD := Lib.hid (keep_bel (Below.refl w2.heap.size w2).drew)
  go_wp2_with fail
  refine (move_c B M F L q.2 x y w2.drew HD.out HQP.out).mono ?_
  rintro e w3 ⟨rfl, ⟨oa3, oc3, vs3, hh3⟩, hb3, hk3⟩
  have H3 := Lib.hid hh3
  have HB3 := Lib.hid (HB2.out.drew.trans hb3)
  have HK3 := Lib.hid (HK2.out.trans (HKD.out.trans hk3))
  clear hh3 hb3 hk3 HD HKD
  go_wp2_with fail
  go_end0
  exact ⟨rfl, ⟨_, _, _, H3.out⟩, HB3.out, HK3.out⟩
set_option maxRecDepth 20000 in
set_option maxHeartbeats 2000000 in
theorem begin_22 (B M F : Nat) (L : Lay) (s : MS) (l : List Int) (a : Option Addr) (c : Nat) (w1 : Int) (w : World) (h : Mach w B M F L s) (hp : PenFit s) (ho : OpdsOk w l a c) (hF : FCell w F B w1) :
 Calls Tryz.prog 86 #[.pointer (some ⟨M, 0, none⟩), .int .i64 22, .slice a l.length c] w (PenPost B M F L (s.begin w1 22 l) (.tuple #[]) w) := by
 have H := Lib.hid h
 obtain ⟨many, hmany⟩ : ∃ b, decide (l.length = 1 + 1) = b := ⟨_, rfl⟩
 have HQ := Lib.hid (behind_k B M F L s l a c many w1 w h ho (fun e => by rw [e] at hmany; simp at hmany; omega) hF)
 have hqp := hp.behind w1 l many
 have hql := (behind_list s w1 l many).1
 have HE : Hid (s.begin w1 22 l = if (s.behind w1 l many).1.length ≠ 1 then (s.behind w1 l many).2.refuse 81 else (s.behind w1 l many).2.move ((s.behind w1 l many).1.getD 0 0) 0) := by unfold Hid MS.begin; simp [hmany]
 rw [HE.out]
 clear HE
 generalize s.behind w1 l many = q at *
 obtain ⟨m, HM⟩ : ∃ m, Hid (q.1.length = m) := ⟨_, rfl⟩
 obtain ⟨n, HN⟩ : ∃ n, Hid (l.length = n) := ⟨_, rfl⟩
 have hn : n ≤ 1000 := by rw [← HN.out]; exact ho.few
 have hm : m ≤ 1000 := by rw [← HM.out]; exact Nat.le_trans hql ho.few
 rw [HN.out] at HQ ⊢
 rw [HM.out]
 have HQP := Lib.hid hqp
 have hmod : ((n : Int) == 1 + 1) = many := by rw [← hmany, HN.out]; apply Bool.eq_iff_iff.2; simp; omega
 have hmod2 : ((n : Int) == 2) = many := by rw [← hmany, HN.out]; apply Bool.eq_iff_iff.2; simp; omega
 clear h hp ho hF hql hmany hqp
 by_cases hlk : m ≠ 1
 ·rw [if_pos hlk]
  have z1 : ((m : Int) != 1) = true := by simp; omega
  have z2 : ((m : Int) == 1) = false := by simp; omega
  clear hlk
  go_enter Tryz.func86, Tryz.ntmps86
  go_wp2_with fail
  refine HQ.out.mono ?_
  rintro e w2 ⟨a2, c2, rfl, h1, h2, h3, h4, h5⟩
  rw [HM.out] at h2 ⊢
  have H2 := Lib.hid h3
  have HB2 := Lib.hid h4
  have HK2 := Lib.hid h5
  clear h1 h2 h3 h4 h5 hmod hmod2
  go_wp2_with fail
  refine (refuse_c B M F L q.2 81 _ H2.out).mono ?_
  rintro e w3 ⟨rfl, h2, hb2, hk2⟩
  have H3 := Lib.hid h2
  have HB3 := Lib.hid (HB2.out.trans hb2)
  have HK3 := Lib.hid (HK2.out.trans hk2)
  clear h2 hb2 hk2
  go_wp2_with fail
  go_end0
  exact ⟨rfl, ⟨_, _, _, H3.out⟩, HB3.out, HK3.out⟩
 ·rw [if_neg hlk]
  obtain rfl : m = 1 := by omega
  clear hlk
  obtain ⟨x, hq⟩ : ∃ x, q.1 = [x] := by
   have := HM.out
   match hx : q.1, this with
   | [x], _ => exact ⟨x, rfl⟩
  have HX := Lib.hid hq
  rw [hq]
  clear hq
  go_enter Tryz.func86, Tryz.ntmps86
  go_wp2_with fail
  refine HQ.out.mono ?_
  rintro e w2 ⟨a2, c2, rfl, h1, h2, h3, h4, h5⟩
  rw [HM.out] at h2 ⊢
  rw [HX.out] at h1
  obtain ⟨g, off, rfl, hcell⟩ := h1.at (by simp)
  have k0 := hcell 0 x rfl
  rw [Nat.add_zero] at k0
  have H2 := Lib.hid h3
  have HB2 := Lib.hid h4
  have HK2 := Lib.hid h5
  clear h1 h3 h4 h5 hcell hmod hmod2
  go_wp2_with fail
  refine wp_region_still_tail 6 (by kernel_rfl) (by kernel_rfl) ?_
  simp only [List.take_succ_cons, List.take_zero, List.drop_succ_cons, List.drop_zero]
  repeat still_step
  refine wpStill_nil ?_
  change wpList _ _ _ _ _ w2.drew
  have HD := Lib.hid (H2.out.below (Below.refl _ _).drew)
  have HKD := Lib.hid (keep_bel (Below.refl w2.heap.size w2).drew)
  go_wp2_with fail
  refine (move_c B M F L q.2 x 0 w2.drew HD.out HQP.out).mono ?_
  rintro e w3 ⟨rfl, ⟨oa3, oc3, vs3, hh3⟩, hb3, hk3⟩
  have H3 := Lib.hid hh3
  have HB3 := Lib.hid (HB2.out.drew.trans hb3)
  have HK3 := Lib.hid (HK2.out.trans (HKD.out.trans hk3))
  clear hh3 hb3 hk3 HD HKD
  go_wp2_with fail
  go_end0
  exact ⟨rfl, ⟨_, _, _, H3.out⟩, HB3.out, HK3.out⟩
set_option maxRecDepth 20000 in
set_option maxHeartbeats 2000000 in
theorem begin_4 (B M F : Nat) (L : Lay) (s : MS) (l : List Int) (a : Option Addr) (c : Nat) (w1 : Int) (w : World) (h : Mach w B M F L s) (hp : PenFit s) (ho : OpdsOk w l a c) (hF : FCell w F B w1) :
 Calls Tryz.prog 86 #[.pointer (some ⟨M, 0, none⟩), .int .i64 4, .slice a l.length c] w (PenPost B M F L (s.begin w1 4 l) (.tuple #[]) w) := by
 have H := Lib.hid h
 obtain ⟨many, hmany⟩ : ∃ b, decide (l.length = 1 + 1) = b := ⟨_, rfl⟩
 have HQ := Lib.hid (behind_k B M F L s l a c many w1 w h ho (fun e => by rw [e] at hmany; simp at hmany; omega) hF)
 have hqp := hp.behind w1 l many
 have hql := (behind_list s w1 l many).1
 have HE : Hid (s.begin w1 4 l = if (s.behind w1 l many).1.length ≠ 1 then (s.behind w1 l many).2.refuse 81 else (s.behind w1 l many).2.move 0 ((s.behind w1 l many).1.getD 0 0)) := by unfold Hid MS.begin; simp [hmany]
 rw [HE.out]
 clear HE
 generalize s.behind w1 l many = q at *
 obtain ⟨m, HM⟩ : ∃ m, Hid (q.1.length = m) := ⟨_, rfl⟩
 obtain ⟨n, HN⟩ : ∃ n, Hid (l.length = n) := ⟨_, rfl⟩
 have hn : n ≤ 1000 := by rw [← HN.out]; exact ho.few
 have hm : m ≤ 1000 := by rw [← HM.out]; exact Nat.le_trans hql ho.few
 rw [HN.out] at HQ ⊢
 rw [HM.out]
 have HQP := Lib.hid hqp
 have hmod : ((n : Int) == 1 + 1) = many := by rw [← hmany, HN.out]; apply Bool.eq_iff_iff.2; simp; omega
 have hmod2 : ((n : Int) == 2) = many := by rw [← hmany, HN.out]; apply Bool.eq_iff_iff.2; simp; omega
 clear h hp ho hF hql hmany hqp
 by_cases hlk : m ≠ 1
 ·rw [if_pos hlk]
  have z1 : ((m : Int) != 1) = true := by simp; omega
  have z2 : ((m : Int) == 1) = false := by simp; omega
  clear hlk
  go_enter Tryz.func86, Tryz.ntmps86
  go_wp2_with fail
  refine HQ.out.mono ?_
  rintro e w2 ⟨a2, c2, rfl, h1, h2, h3, h4, h5⟩
  rw [HM.out] at h2 ⊢
  have H2 := Lib.hid h3
  have HB2 := Lib.hid h4
  have HK2 := Lib.hid h5
  clear h1 h2 h3 h4 h5 hmod hmod2
  go_wp2_with fail
  refine (refuse_c B M F L q.2 81 _ H2.out).mono ?_
  rintro e w3 ⟨rfl, h2, hb2, hk2⟩
  have H3 := Lib.hid h2
  have HB3 := Lib.hid (HB2.out.trans hb2)
  have HK3 := Lib.hid (HK2.out.trans hk2)
  clear h2 hb2 hk2
  go_wp2_with fail
  go_end0
  exact ⟨rfl, ⟨_, _, _, H3.out⟩, HB3.out, HK3.out⟩
 ·rw [if_neg hlk]
  obtain rfl : m = 1 := by omega
  clear hlk
  obtain ⟨x, hq⟩ : ∃ x, q.1 = [x] := by
   have := HM.out
   match hx : q.1, this with
   | [x], _ => exact ⟨x, rfl⟩
  have HX := Lib.hid hq
  rw [hq]
  clear hq
  go_enter Tryz.func86, Tryz.ntmps86
  go_wp2_with fail
  refine HQ.out.mono ?_
  rintro e w2 ⟨a2, c2, rfl, h1, h2, h3, h4, h5⟩
  rw [HM.out] at h2 ⊢
  rw [HX.out] at h1
  obtain ⟨g, off, rfl, hcell⟩ := h1.at (by simp)
  have k0 := hcell 0 x rfl
  rw [Nat.add_zero] at k0
  have H2 := Lib.hid h3
  have HB2 := Lib.hid h4
  have HK2 := Lib.hid h5
  clear h1 h3 h4 h5 hcell hmod hmod2
  go_wp2_with fail
  refine wp_region_still_tail 6 (by kernel_rfl) (by kernel_rfl) ?_
  simp only [List.take_succ_cons, List.take_zero, List.drop_succ_cons, List.drop_zero]
  repeat still_step
  refine wpStill_nil ?_
  change wpList _ _ _ _ _ w2.drew
  have HD := Lib.hid (H2.out.below (Below.refl _ _).drew)
  have HKD := Lib.hid (keep_bel (Below.refl w2.heap.size w2).drew)
  go_wp2_with fail
  refine (move_c B M F L q.2 0 x w2.drew HD.out HQP.out).mono ?_
  rintro e w3 ⟨rfl, ⟨oa3, oc3, vs3, hh3⟩, hb3, hk3⟩
  have H3 := Lib.hid hh3
  have HB3 := Lib.hid (HB2.out.drew.trans hb3)
  have HK3 := Lib.hid (HK2.out.trans (HKD.out.trans hk3))
  clear hh3 hb3 hk3 HD HKD
  go_wp2_with fail
  go_end0
  exact ⟨rfl, ⟨_, _, _, H3.out⟩, HB3.out, HK3.out⟩
set_option maxRecDepth 20000 in
set_option maxHeartbeats 2000000 in
theorem finish_m (B M F : Nat) (L : Lay) (s : MS) (l : List Int) (a : Option Addr) (c : Nat) (w1 : Int) (many one five : Bool) (w : World) (h : Mach w B M F L s) (ho : OpdsOk w l a c) (hF : FCell w F B w1)
 (h1 : decide (l.length = 1) = one) (h5 : decide (l.length = 5) = five) (hmany : (one || five) = many) :
 Calls Tryz.prog 87 #[.pointer (some ⟨M, 0, none⟩), .slice a l.length c] w (LPost B M F L (s.finish w1 l) (.tuple #[]) w) := by
 have H := Lib.hid h
 have HQ := Lib.hid (behind_k B M F L s l a c many w1 w h ho (fun e => by rw [e] at hmany; subst h1; subst h5; simp at hmany; omega) hF)
 have hql := (behind_list s w1 l many).1
 have HE : Hid (s.finish w1 l = if (s.behind w1 l many).1.length = 0 then { (s.behind w1 l many).2 with ended := true } else if (s.behind w1 l many).1.length = 4 then (s.behind w1 l many).2.refuse 82 else (s.behind w1 l many).2.refuse 81) := by unfold Hid MS.finish; rw [h1, h5, hmany]
 rw [HE.out]
 clear HE
 generalize s.behind w1 l many = q at *
 obtain ⟨m, HM⟩ : ∃ m, Hid (q.1.length = m) := ⟨_, rfl⟩
 obtain ⟨n, HN⟩ : ∃ n, Hid (l.length = n) := ⟨_, rfl⟩
 have hn : n ≤ 1000 := by rw [← HN.out]; exact ho.few
 have hm : m ≤ 1000 := by rw [← HM.out]; exact Nat.le_trans hql ho.few
 rw [HN.out] at HQ h1 h5 ⊢
 rw [HM.out]
 have y1 : ((n : Int) == 1) = one := by rw [← h1]; apply Bool.eq_iff_iff.2; simp; omega
 have y5 : ((n : Int) == 5) = five := by rw [← h5]; apply Bool.eq_iff_iff.2; simp; omega
 clear h ho hF hql h1 h5
 by_cases h0 : m = 0
 ·rw [if_pos h0]
  subst h0
  cases one <;> cases five <;> subst hmany
  all_goals (
   go_enter Tryz.func87, Tryz.ntmps87
   go_wp2_with fail
   refine HQ.out.mono ?_
   rintro e w2 ⟨a2, c2, rfl, h1, h2, h3, h4, h5⟩
   rw [HM.out] at h2 ⊢
   have f12 := h3.f 12
   have c12 := h3.c12
   have H3 := Lib.hid (h3.setEnded true)
   have HB2 := Lib.hid (h4.trans (h3.bset 12 (.bool true)).1)
   have HK2 := Lib.hid (h5.trans (h3.bset 12 (.bool true)).2)
   clear h1 h2 h3 h4 h5
   go_wp2_with fail
   go_end0
   exact ⟨rfl, H3.out, HB2.out, HK2.out⟩)
 ·rw [if_neg h0]
  have z0 : ((m : Int) == 0) = false := by simp; omega
  by_cases h4 : m = 4
  ·rw [if_pos h4]
   subst h4
   clear h0 z0
   cases one <;> cases five <;> subst hmany
   all_goals (
    go_enter Tryz.func87, Tryz.ntmps87
    go_wp2_with fail
    refine HQ.out.mono ?_
    rintro e w2 ⟨a2, c2, rfl, h1, h2, h3, h4, h5⟩
    rw [HM.out] at h2 ⊢
    have H2 := Lib.hid h3
    have HB2 := Lib.hid h4
    have HK2 := Lib.hid h5
    clear h1 h2 h3 h4 h5
    go_wp2_with fail
    refine (refuse_c B M F L q.2 82 _ H2.out).mono ?_
    rintro e w3 ⟨rfl, h2, hb2, hk2⟩
    have H3 := Lib.hid h2
    have HB3 := Lib.hid (HB2.out.trans hb2)
    have HK3 := Lib.hid (HK2.out.trans hk2)
    clear h2 hb2 hk2
    go_wp2_with fail
    go_end0
    exact ⟨rfl, H3.out, HB3.out, HK3.out⟩)
  ·rw [if_neg h4]
   have z4 : ((m : Int) == 4) = false := by simp; omega
   clear h0 h4
   cases one <;> cases five <;> subst hmany
   all_goals (
    go_enter Tryz.func87, Tryz.ntmps87
    go_wp2_with fail
    refine HQ.out.mono ?_
    rintro e w2 ⟨a2, c2, rfl, h1, h2, h3, h4, h5⟩
    rw [HM.out] at h2 ⊢
    have H2 := Lib.hid h3
    have HB2 := Lib.hid h4
    have HK2 := Lib.hid h5
    clear h1 h2 h3 h4 h5
    go_wp2_with fail
    refine (refuse_c B M F L q.2 81 _ H2.out).mono ?_
    rintro e w3 ⟨rfl, h2, hb2, hk2⟩
    have H3 := Lib.hid h2
    have HB3 := Lib.hid (HB2.out.trans hb2)
    have HK3 := Lib.hid (HK2.out.trans hk2)
    clear h2 hb2 hk2
    go_wp2_with fail
    go_end0
    exact ⟨rfl, H3.out, HB3.out, HK3.out⟩)
theorem finish_c (B M F : Nat) (L : Lay) (s : MS) (l : List Int) (a : Option Addr) (c : Nat) (w1 : Int) (w : World) (h : Mach w B M F L s) (ho : OpdsOk w l a c) (hF : FCell w F B w1) :
 Calls Tryz.prog 87 #[.pointer (some ⟨M, 0, none⟩), .slice a l.length c] w (LPost B M F L (s.finish w1 l) (.tuple #[]) w) :=
 finish_m B M F L s l a c w1 _ _ _ w h ho hF rfl rfl rfl
end Go.Proofs.YtklenppldblbdaaGreat
