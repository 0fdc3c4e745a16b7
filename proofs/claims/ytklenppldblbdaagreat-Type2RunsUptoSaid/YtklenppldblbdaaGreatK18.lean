import Derived.Test.YtklenppldblbdaaGreatK07
import Derived.Test.YtklenppldblbdaaGreatK05
set_option linter.unusedSimpArgs false
set_option linter.unusedVariables false
namespace Go.Proofs.YtklenppldblbdaaGreat
open Go.RowKit Go.PlainAid
set_option maxRecDepth 20000 in
set_option maxHeartbeats 4000000 in
theorem waves_c (B M F : Nat) (L : Lay) (s : MS) (l : List Int) (a : Option Addr) (c : Nat) (ax : Bool) (w : World) (h : Mach w B M F L s) (hp : PenFit s) (ho : Opds w l a) (hc : l.length ≤ c) (he : l.length % 4 ≤ 1) (hl : l.length ≤ 1000) :
 Calls Tryz.prog 104 #[.pointer (some ⟨M, 0, none⟩), .slice a l.length c, .bool ax] w (PenPost B M F L (MS.waves l ax s) (.tuple #[]) w) := by
 have H := Lib.hid h
 have HP := Lib.hid hp
 have HO := Lib.hid ho
 have HC := Lib.hid (And.intro hc hl)
 obtain ⟨n, HN⟩ : ∃ n, Hid (l.length = n) := ⟨_, rfl⟩
 by_cases hodd : l.length % 4 = 1
 ·obtain ⟨d, t, rfl⟩ : ∃ d t, l = d :: t := by
   cases l with
   | nil => simp at hodd
   | cons d t => exact ⟨d, t, rfl⟩
  obtain ⟨g, off, rfl, hcell⟩ := ho.at (by simp)
  have k0 := hcell 0 d rfl
  rw [Nat.add_zero] at k0
  rw [HN.out]
  have hm1 : n % 4 = 1 := by rw [← HN.out]; exact hodd
  have hn1 : 1 ≤ n := by omega
  have hn2 : n ≤ 1000 := by rw [← HN.out]; exact hl
  have hb0 : (0 : Int) < (n : Int) := by omega
  have hb1 : (1 : Int) ≤ (n : Int) := by omega
  have hb2 : (n : Int) ≤ (c : Int) := by rw [← HN.out]; omega
  have hmod : (((n : Int) % 4) == 1) = true := by simp; omega
  have HE0 : Hid (MS.wavesFrom d t ax s = MS.waves (d :: t) ax s) := by unfold Hid MS.waves; rw [if_pos hodd]; rfl
  have HT : Hid (t.length = n - 1 ∧ t.length ≤ c - 1 ∧ t.length % 4 = 0 ∧ t.length ≤ 1000) := by simp at hc hl hodd; have := HN.out; simp at this; unfold Hid; omega
  have HOT := fun wx (hk : IntKeep w wx) => Lib.hid ((ho.keep hk).rest (c := c) 1 (r := t) rfl hc)
  have HOT := Lib.hid HOT
  by_cases hc1 : c = 1
  ·obtain rfl : n = 1 := by omega
   have HT1 : Hid (t.length = 0 ∧ ∀ (wx : World) (ax : Option Addr), Opds wx t ax) := ⟨by have := HT.out.1; omega, fun wx ax => .inl (List.eq_nil_of_length_eq_zero (by have := HT.out.1; omega))⟩
   subst hc1
   clear h hp ho hc he hl hodd hcell hm1 hmod hn1 hn2 hb0 hb1 hb2 HOT
   go_enter Tryz.func104, Tryz.ntmps104
   go_wp2_with fail
   go_quiet (fail)
   have HMQ := Lib.hid (H.out.below (bel_drewN0 w nq))
   have HBQ : Hid (Below B w (w.drewN nq)) := bel_drewN (Below.refl _ _) nq
   have HKQ := Lib.hid (keep_bel (bel_drewN0 w nq))
   go_wp2_with fail
   go_loopw [1, 6] (fun v u wr => ∃ (n : Nat) (a : Option Addr) (c : Nat) (odd : Int) (l1 : List Int) (oa : Option Addr) (oc : Nat) (vs : List Value) (s1 : MS), v = .slice a n c ∧ u = .int .i64 odd ∧ Hid (l1.length = n) ∧ Hid (Opds wr l1 a) ∧ Hid (l1.length ≤ c ∧ l1.length % 4 = 0 ∧ l1.length ≤ 1000) ∧ Hid (Mach wr B M F { L with oa := oa, oc := oc, vs := vs } s1) ∧ Hid (PenFit s1) ∧ Hid (Below B w wr) ∧ Hid (IntKeep w wr) ∧ Hid (MS.wavesFrom odd l1 ax s1 = MS.waves (d :: t) ax s)) (fun v _ _ => lenOf v)
   case atStart => exact ⟨0, _, _, d, t, L.oa, L.oc, L.vs, s, rfl, rfl, HT1.out.1, HT1.out.2 _ _, ⟨by have := HT1.out.1; omega, HT.out.2.2⟩, HMQ, HP, HBQ, HKQ, HE0⟩
   case round =>
    clear H HP HO HC HN HMQ HBQ HKQ HT HE0 HT1
    obtain ⟨n1, a1, c1, odd, l1, oa1, oc1, vs1, s1, rfl, rfl, HN1, HO1, HC1, H1, HP1, HB1, HK1, HE1⟩ := hrel
    match l1, HN1, HO1, HC1, HE1 with
    | [], HN1, HO1, HC1, HE1 =>
      have h0 : n1 = 0 := HN1.out.symm
      subst h0
      have HEF : Hid (s1 = MS.waves (d :: t) ax s) := by unfold Hid; have := HE1.out; simpa [MS.wavesFrom] using this
      go_wp2_with fail
      go_end0
      rw [← HEF.out]
      exact ⟨rfl, ⟨_, _, _, H1.out⟩, HB1.out, HK1.out⟩
    | [x0], HN1, HO1, HC1, HE1 => exact absurd HC1.out.2.1 (by simp)
    | [x0, x1], HN1, HO1, HC1, HE1 => exact absurd HC1.out.2.1 (by simp)
    | [x0, x1, x2], HN1, HO1, HC1, HE1 => exact absurd HC1.out.2.1 (by simp)
    | x0 :: x1 :: x2 :: x3 :: r, HN1, HO1, HC1, HE1 =>
      obtain ⟨m, HM⟩ : ∃ m, Hid (r.length = m) := ⟨_, rfl⟩
      obtain rfl : n1 = m + 4 := by have h1 := HN1.out; have h2 := HM.out; simp only [List.length_cons] at h1; omega
      obtain ⟨g, off, rfl, hcell⟩ := HO1.out.at (by simp)
      have k0 := hcell 0 x0 rfl
      have k1 := hcell 1 x1 rfl
      have k2 := hcell 2 x2 rfl
      have k3 := hcell 3 x3 rfl
      rw [Nat.add_zero] at k0
      have hm : m ≤ 1000 := by have h1 := HC1.out.2; have h2 := HM.out; simp only [List.length_cons] at h1; omega
      have hmc : m + 4 ≤ c1 := by have h1 := HC1.out.1; have h2 := HM.out; simp only [List.length_cons] at h1; omega
      have h0 : (0 : Int) < (m : Int) + 4 := by omega
      have h1 : (1 : Int) < (m : Int) + 4 := by omega
      have h2 : (2 : Int) < (m : Int) + 4 := by omega
      have h3 : (3 : Int) < (m : Int) + 4 := by omega
      have hk : (4 : Int) ≤ (m : Int) + 4 := by omega
      have HC2 : Hid (r.length ≤ c1 - 4 ∧ r.length % 4 = 0 ∧ r.length ≤ 1000) := by have h1 := HC1.out; have h2 := HM.out; simp only [List.length_cons] at h1; unfold Hid; omega
      clear hcell HN1
      cases ax
      ·have HE2 : Hid (MS.wavesFrom 0 r false (s1.curve odd x0 x1 x2 0 x3) = MS.waves (d :: t) false s) := HE1.out
       go_wp2_with fail
       refine wp_region_still_tail 14 (by kernel_rfl) (by kernel_rfl) ?_
       simp only [List.take_succ_cons, List.take_zero, List.drop_succ_cons, List.drop_zero]
       repeat still_step
       refine wpStill_nil ?_
       change wpList _ _ _ _ _ wr.drew
       have HD := Lib.hid (H1.out.below (Below.refl _ _).drew)
       have HKD := Lib.hid (keep_bel (Below.refl wr.heap.size wr).drew)
       go_wp2_with fail
       refine (curve_c B M F _ s1 odd x0 x1 x2 0 x3 wr.drew HD.out HP1.out).mono ?_
       rintro e w2 ⟨rfl, ⟨oa2, oc2, vs2, hh2⟩, hb2, hk2⟩
       have H2 := Lib.hid hh2
       have HB2 := Lib.hid (HB1.out.drew.trans hb2)
       have HK0 := Lib.hid (HKD.out.trans hk2)
       have HK2 := Lib.hid (HK1.out.trans HK0.out)
       have HO2 := Lib.hid ((HO1.out.keep HK0.out).rest (c := c1) 4 (r := r) rfl HC1.out.1)
       have HP2 : Hid (PenFit (s1.curve odd x0 x1 x2 0 x3)) := HP1.out.curve _ _ _ _ _ _
       clear hh2 hb2 hk2 HD HKD HK0 k0 k1 k2 k3
       go_wp2_with fail
       exact ⟨⟨m, _, _, 0, r, oa2, oc2, vs2, _, rfl, rfl, HM, HO2, HC2, H2, HP2, HB2, HK2, HE2⟩, by simp [lenOf]⟩
      ·have HE2 : Hid (MS.wavesFrom 0 r true (s1.curve x0 odd x1 x2 x3 0) = MS.waves (d :: t) true s) := HE1.out
       go_wp2_with fail
       refine wp_region_still_tail 14 (by kernel_rfl) (by kernel_rfl) ?_
       simp only [List.take_succ_cons, List.take_zero, List.drop_succ_cons, List.drop_zero]
       repeat still_step
       refine wpStill_nil ?_
       change wpList _ _ _ _ _ wr.drew
       have HD := Lib.hid (H1.out.below (Below.refl _ _).drew)
       have HKD := Lib.hid (keep_bel (Below.refl wr.heap.size wr).drew)
       go_wp2_with fail
       refine (curve_c B M F _ s1 x0 odd x1 x2 x3 0 wr.drew HD.out HP1.out).mono ?_
       rintro e w2 ⟨rfl, ⟨oa2, oc2, vs2, hh2⟩, hb2, hk2⟩
       have H2 := Lib.hid hh2
       have HB2 := Lib.hid (HB1.out.drew.trans hb2)
       have HK0 := Lib.hid (HKD.out.trans hk2)
       have HK2 := Lib.hid (HK1.out.trans HK0.out)
       have HO2 := Lib.hid ((HO1.out.keep HK0.out).rest (c := c1) 4 (r := r) rfl HC1.out.1)
       have HP2 : Hid (PenFit (s1.curve x0 odd x1 x2 x3 0)) := HP1.out.curve _ _ _ _ _ _
       clear hh2 hb2 hk2 HD HKD HK0 k0 k1 k2 k3
       go_wp2_with fail
       exact ⟨⟨m, _, _, 0, r, oa2, oc2, vs2, _, rfl, rfl, HM, HO2, HC2, H2, HP2, HB2, HK2, HE2⟩, by simp [lenOf]⟩
  ·clear h hp ho hc he hl hodd hcell hm1
   go_enter Tryz.func104, Tryz.ntmps104
   go_wp2_with fail
   go_quiet (fail)
   have HMQ := Lib.hid (H.out.below (bel_drewN0 w nq))
   have HBQ : Hid (Below B w (w.drewN nq)) := bel_drewN (Below.refl _ _) nq
   have HKQ := Lib.hid (keep_bel (bel_drewN0 w nq))
   have HOQ := HOT.out _ HKQ.out
   rw [if_neg hc1] at HOQ
   go_wp2_with fail
   go_loopw [1, 6] (fun v u wr => ∃ (n : Nat) (a : Option Addr) (c : Nat) (odd : Int) (l1 : List Int) (oa : Option Addr) (oc : Nat) (vs : List Value) (s1 : MS), v = .slice a n c ∧ u = .int .i64 odd ∧ Hid (l1.length = n) ∧ Hid (Opds wr l1 a) ∧ Hid (l1.length ≤ c ∧ l1.length % 4 = 0 ∧ l1.length ≤ 1000) ∧ Hid (Mach wr B M F { L with oa := oa, oc := oc, vs := vs } s1) ∧ Hid (PenFit s1) ∧ Hid (Below B w wr) ∧ Hid (IntKeep w wr) ∧ Hid (MS.wavesFrom odd l1 ax s1 = MS.waves (d :: t) ax s)) (fun v _ _ => lenOf v)
   case atStart => exact ⟨n - 1, _, _, d, t, L.oa, L.oc, L.vs, s, rfl, rfl, HT.out.1, HOQ, HT.out.2, HMQ, HP, HBQ, HKQ, HE0⟩
   case round =>
    clear H HP HO HC HN HMQ HBQ HKQ HOQ HT HOT HE0
    obtain ⟨n1, a1, c1, odd, l1, oa1, oc1, vs1, s1, rfl, rfl, HN1, HO1, HC1, H1, HP1, HB1, HK1, HE1⟩ := hrel
    match l1, HN1, HO1, HC1, HE1 with
    | [], HN1, HO1, HC1, HE1 =>
      have h0 : n1 = 0 := HN1.out.symm
      subst h0
      have HEF : Hid (s1 = MS.waves (d :: t) ax s) := by unfold Hid; have := HE1.out; simpa [MS.wavesFrom] using this
      go_wp2_with fail
      go_end0
      rw [← HEF.out]
      exact ⟨rfl, ⟨_, _, _, H1.out⟩, HB1.out, HK1.out⟩
    | [x0], HN1, HO1, HC1, HE1 => exact absurd HC1.out.2.1 (by simp)
    | [x0, x1], HN1, HO1, HC1, HE1 => exact absurd HC1.out.2.1 (by simp)
    | [x0, x1, x2], HN1, HO1, HC1, HE1 => exact absurd HC1.out.2.1 (by simp)
    | x0 :: x1 :: x2 :: x3 :: r, HN1, HO1, HC1, HE1 =>
      obtain ⟨m, HM⟩ : ∃ m, Hid (r.length = m) := ⟨_, rfl⟩
      obtain rfl : n1 = m + 4 := by have h1 := HN1.out; have h2 := HM.out; simp only [List.length_cons] at h1; omega
      obtain ⟨g, off, rfl, hcell⟩ := HO1.out.at (by simp)
      have k0 := hcell 0 x0 rfl
      have k1 := hcell 1 x1 rfl
      have k2 := hcell 2 x2 rfl
      have k3 := hcell 3 x3 rfl
      rw [Nat.add_zero] at k0
      have hm : m ≤ 1000 := by have h1 := HC1.out.2; have h2 := HM.out; simp only [List.length_cons] at h1; omega
      have hmc : m + 4 ≤ c1 := by have h1 := HC1.out.1; have h2 := HM.out; simp only [List.length_cons] at h1; omega
      have h0 : (0 : Int) < (m : Int) + 4 := by omega
      have h1 : (1 : Int) < (m : Int) + 4 := by omega
      have h2 : (2 : Int) < (m : Int) + 4 := by omega
      have h3 : (3 : Int) < (m : Int) + 4 := by omega
      have hk : (4 : Int) ≤ (m : Int) + 4 := by omega
      have HC2 : Hid (r.length ≤ c1 - 4 ∧ r.length % 4 = 0 ∧ r.length ≤ 1000) := by have h1 := HC1.out; have h2 := HM.out; simp only [List.length_cons] at h1; unfold Hid; omega
      clear hcell HN1
      cases ax
      ·have HE2 : Hid (MS.wavesFrom 0 r false (s1.curve odd x0 x1 x2 0 x3) = MS.waves (d :: t) false s) := HE1.out
       go_wp2_with fail
       refine wp_region_still_tail 14 (by kernel_rfl) (by kernel_rfl) ?_
       simp only [List.take_succ_cons, List.take_zero, List.drop_succ_cons, List.drop_zero]
       repeat still_step
       refine wpStill_nil ?_
       change wpList _ _ _ _ _ wr.drew
       have HD := Lib.hid (H1.out.below (Below.refl _ _).drew)
       have HKD := Lib.hid (keep_bel (Below.refl wr.heap.size wr).drew)
       go_wp2_with fail
       refine (curve_c B M F _ s1 odd x0 x1 x2 0 x3 wr.drew HD.out HP1.out).mono ?_
       rintro e w2 ⟨rfl, ⟨oa2, oc2, vs2, hh2⟩, hb2, hk2⟩
       have H2 := Lib.hid hh2
       have HB2 := Lib.hid (HB1.out.drew.trans hb2)
       have HK0 := Lib.hid (HKD.out.trans hk2)
       have HK2 := Lib.hid (HK1.out.trans HK0.out)
       have HO2 := Lib.hid ((HO1.out.keep HK0.out).rest (c := c1) 4 (r := r) rfl HC1.out.1)
       have HP2 : Hid (PenFit (s1.curve odd x0 x1 x2 0 x3)) := HP1.out.curve _ _ _ _ _ _
       clear hh2 hb2 hk2 HD HKD HK0 k0 k1 k2 k3
       go_wp2_with fail
       exact ⟨⟨m, _, _, 0, r, oa2, oc2, vs2, _, rfl, rfl, HM, HO2, HC2, H2, HP2, HB2, HK2, HE2⟩, by simp [lenOf]⟩
      ·have HE2 : Hid (MS.wavesFrom 0 r true (s1.curve x0 odd x1 x2 x3 0) = MS.waves (d :: t) true s) := HE1.out
       go_wp2_with fail
       refine wp_region_still_tail 14 (by kernel_rfl) (by kernel_rfl) ?_
       simp only [List.take_succ_cons, List.take_zero, List.drop_succ_cons, List.drop_zero]
       repeat still_step
       refine wpStill_nil ?_
       change wpList _ _ _ _ _ wr.drew
       have HD := Lib.hid (H1.out.below (Below.refl _ _).drew)
       have HKD := Lib.hid (keep_bel (Below.refl wr.heap.size wr).drew)
       go_wp2_with fail
       refine (curve_c B M F _ s1 x0 odd x1 x2 x3 0 wr.drew HD.out HP1.out).mono ?_
       rintro e w2 ⟨rfl, ⟨oa2, oc2, vs2, hh2⟩, hb2, hk2⟩
       have H2 := Lib.hid hh2
       have HB2 := Lib.hid (HB1.out.drew.trans hb2)
       have HK0 := Lib.hid (HKD.out.trans hk2)
       have HK2 := Lib.hid (HK1.out.trans HK0.out)
       have HO2 := Lib.hid ((HO1.out.keep HK0.out).rest (c := c1) 4 (r := r) rfl HC1.out.1)
       have HP2 : Hid (PenFit (s1.curve x0 odd x1 x2 x3 0)) := HP1.out.curve _ _ _ _ _ _
       clear hh2 hb2 hk2 HD HKD HK0 k0 k1 k2 k3
       go_wp2_with fail
       exact ⟨⟨m, _, _, 0, r, oa2, oc2, vs2, _, rfl, rfl, HM, HO2, HC2, H2, HP2, HB2, HK2, HE2⟩, by simp [lenOf]⟩
 ·have he0 : l.length % 4 = 0 := by omega
  rw [HN.out]
  have hm0 : n % 4 = 0 := by rw [← HN.out]; exact he0
  have hn2 : n ≤ 1000 := by rw [← HN.out]; exact hl
  have hmod : (((n : Int) % 4) == 1) = false := by simp; omega
  have HE0 : Hid (MS.wavesFrom 0 l ax s = MS.waves l ax s) := by unfold Hid MS.waves; rw [if_neg hodd]
  have HT : Hid (l.length ≤ c ∧ l.length % 4 = 0 ∧ l.length ≤ 1000) := ⟨hc, he0, hl⟩
  clear h hp ho hc he hl hodd he0 hm0
  go_enter Tryz.func104, Tryz.ntmps104
  go_wp2_with fail
  go_loopw [1, 6] (fun v u wr => ∃ (n : Nat) (a : Option Addr) (c : Nat) (odd : Int) (l1 : List Int) (oa : Option Addr) (oc : Nat) (vs : List Value) (s1 : MS), v = .slice a n c ∧ u = .int .i64 odd ∧ Hid (l1.length = n) ∧ Hid (Opds wr l1 a) ∧ Hid (l1.length ≤ c ∧ l1.length % 4 = 0 ∧ l1.length ≤ 1000) ∧ Hid (Mach wr B M F { L with oa := oa, oc := oc, vs := vs } s1) ∧ Hid (PenFit s1) ∧ Hid (Below B w wr) ∧ Hid (IntKeep w wr) ∧ Hid (MS.wavesFrom odd l1 ax s1 = MS.waves l ax s)) (fun v _ _ => lenOf v)
  case atStart => exact ⟨n, a, c, 0, l, L.oa, L.oc, L.vs, s, rfl, rfl, HN, HO, HT, H, HP, Below.refl _ _, IntKeep.refl _, HE0⟩
  case round =>
   clear H HP HO HC HN HT HE0
   obtain ⟨n1, a1, c1, odd, l1, oa1, oc1, vs1, s1, rfl, rfl, HN1, HO1, HC1, H1, HP1, HB1, HK1, HE1⟩ := hrel
   match l1, HN1, HO1, HC1, HE1 with
   | [], HN1, HO1, HC1, HE1 =>
     have h0 : n1 = 0 := HN1.out.symm
     subst h0
     have HEF : Hid (s1 = MS.waves l ax s) := by unfold Hid; have := HE1.out; simpa [MS.wavesFrom] using this
     go_wp2_with fail
     go_end0
     rw [← HEF.out]
     exact ⟨rfl, ⟨_, _, _, H1.out⟩, HB1.out, HK1.out⟩
   | [x0], HN1, HO1, HC1, HE1 => exact absurd HC1.out.2.1 (by simp)
   | [x0, x1], HN1, HO1, HC1, HE1 => exact absurd HC1.out.2.1 (by simp)
   | [x0, x1, x2], HN1, HO1, HC1, HE1 => exact absurd HC1.out.2.1 (by simp)
   | x0 :: x1 :: x2 :: x3 :: r, HN1, HO1, HC1, HE1 =>
     obtain ⟨m, HM⟩ : ∃ m, Hid (r.length = m) := ⟨_, rfl⟩
     obtain rfl : n1 = m + 4 := by have h1 := HN1.out; have h2 := HM.out; simp only [List.length_cons] at h1; omega
     obtain ⟨g, off, rfl, hcell⟩ := HO1.out.at (by simp)
     have k0 := hcell 0 x0 rfl
     have k1 := hcell 1 x1 rfl
     have k2 := hcell 2 x2 rfl
     have k3 := hcell 3 x3 rfl
     rw [Nat.add_zero] at k0
     have hm : m ≤ 1000 := by have h1 := HC1.out.2; have h2 := HM.out; simp only [List.length_cons] at h1; omega
     have hmc : m + 4 ≤ c1 := by have h1 := HC1.out.1; have h2 := HM.out; simp only [List.length_cons] at h1; omega
     have h0 : (0 : Int) < (m : Int) + 4 := by omega
     have h1 : (1 : Int) < (m : Int) + 4 := by omega
     have h2 : (2 : Int) < (m : Int) + 4 := by omega
     have h3 : (3 : Int) < (m : Int) + 4 := by omega
     have hk : (4 : Int) ≤ (m : Int) + 4 := by omega
     have HC2 : Hid (r.length ≤ c1 - 4 ∧ r.length % 4 = 0 ∧ r.length ≤ 1000) := by have h1 := HC1.out; have h2 := HM.out; simp only [List.length_cons] at h1; unfold Hid; omega
     clear hcell HN1
     cases ax
     ·have HE2 : Hid (MS.wavesFrom 0 r false (s1.curve odd x0 x1 x2 0 x3) = MS.waves l false s) := HE1.out
      go_wp2_with fail
      refine wp_region_still_tail 14 (by kernel_rfl) (by kernel_rfl) ?_
      simp only [List.take_succ_cons, List.take_zero, List.drop_succ_cons, List.drop_zero]
      repeat still_step
      refine wpStill_nil ?_
      change wpList _ _ _ _ _ wr.drew
      have HD := Lib.hid (H1.out.below (Below.refl _ _).drew)
      have HKD := Lib.hid (keep_bel (Below.refl wr.heap.size wr).drew)
      go_wp2_with fail
      refine (curve_c B M F _ s1 odd x0 x1 x2 0 x3 wr.drew HD.out HP1.out).mono ?_
      rintro e w2 ⟨rfl, ⟨oa2, oc2, vs2, hh2⟩, hb2, hk2⟩
      have H2 := Lib.hid hh2
      have HB2 := Lib.hid (HB1.out.drew.trans hb2)
      have HK0 := Lib.hid (HKD.out.trans hk2)
      have HK2 := Lib.hid (HK1.out.trans HK0.out)
      have HO2 := Lib.hid ((HO1.out.keep HK0.out).rest (c := c1) 4 (r := r) rfl HC1.out.1)
      have HP2 : Hid (PenFit (s1.curve odd x0 x1 x2 0 x3)) := HP1.out.curve _ _ _ _ _ _
      clear hh2 hb2 hk2 HD HKD HK0 k0 k1 k2 k3
      go_wp2_with fail
      exact ⟨⟨m, _, _, 0, r, oa2, oc2, vs2, _, rfl, rfl, HM, HO2, HC2, H2, HP2, HB2, HK2, HE2⟩, by simp [lenOf]⟩
     ·have HE2 : Hid (MS.wavesFrom 0 r true (s1.curve x0 odd x1 x2 x3 0) = MS.waves l true s) := HE1.out
      go_wp2_with fail
      refine wp_region_still_tail 14 (by kernel_rfl) (by kernel_rfl) ?_
      simp only [List.take_succ_cons, List.take_zero, List.drop_succ_cons, List.drop_zero]
      repeat still_step
      refine wpStill_nil ?_
      change wpList _ _ _ _ _ wr.drew
      have HD := Lib.hid (H1.out.below (Below.refl _ _).drew)
      have HKD := Lib.hid (keep_bel (Below.refl wr.heap.size wr).drew)
      go_wp2_with fail
      refine (curve_c B M F _ s1 x0 odd x1 x2 x3 0 wr.drew HD.out HP1.out).mono ?_
      rintro e w2 ⟨rfl, ⟨oa2, oc2, vs2, hh2⟩, hb2, hk2⟩
      have H2 := Lib.hid hh2
      have HB2 := Lib.hid (HB1.out.drew.trans hb2)
      have HK0 := Lib.hid (HKD.out.trans hk2)
      have HK2 := Lib.hid (HK1.out.trans HK0.out)
      have HO2 := Lib.hid ((HO1.out.keep HK0.out).rest (c := c1) 4 (r := r) rfl HC1.out.1)
      have HP2 : Hid (PenFit (s1.curve x0 odd x1 x2 x3 0)) := HP1.out.curve _ _ _ _ _ _
      clear hh2 hb2 hk2 HD HKD HK0 k0 k1 k2 k3
      go_wp2_with fail
      exact ⟨⟨m, _, _, 0, r, oa2, oc2, vs2, _, rfl, rfl, HM, HO2, HC2, H2, HP2, HB2, HK2, HE2⟩, by simp [lenOf]⟩
set_option maxRecDepth 20000 in
set_option maxHeartbeats 4000000 in
theorem turns_c (B M F : Nat) (L : Lay) (s : MS) (l : List Int) (a : Option Addr) (c : Nat) (ax : Bool) (w : World) (h : Mach w B M F L s) (hp : PenFit s) (ho : Opds w l a) (hc : l.length ≤ c) (hl : l.length ≤ 1000) :
 Calls Tryz.prog 105 #[.pointer (some ⟨M, 0, none⟩), .slice a l.length c, .bool ax] w (PenPost B M F L (MS.turns l ax s) (.tuple #[]) w) := by
 have H := Lib.hid h
 have HP := Lib.hid hp
 have HO := Lib.hid ho
 have HC := Lib.hid (And.intro hc hl)
 obtain ⟨n, HN⟩ : ∃ n, Hid (l.length = n) := ⟨_, rfl⟩
 rw [HN.out]
 clear h hp ho hc hl
 go_enter Tryz.func105, Tryz.ntmps105
 go_wp2_with fail
 go_loopw [1, 2] (fun v b wr => ∃ (n : Nat) (a : Option Addr) (c : Nat) (ax1 : Bool) (l1 : List Int) (oa : Option Addr) (oc : Nat) (vs : List Value) (s1 : MS), v = .slice a n c ∧ b = .bool ax1 ∧ Hid (l1.length = n) ∧ Hid (Opds wr l1 a) ∧ Hid (l1.length ≤ c ∧ l1.length ≤ 1000) ∧ Hid (Mach wr B M F { L with oa := oa, oc := oc, vs := vs } s1) ∧ Hid (PenFit s1) ∧ Hid (Below B w wr) ∧ Hid (IntKeep w wr) ∧ Hid (MS.turns l1 ax1 s1 = MS.turns l ax s)) (fun v _ _ => lenOf v)
 case atStart => exact ⟨n, a, c, ax, l, L.oa, L.oc, L.vs, s, rfl, rfl, HN, HO, HC, H, HP, Below.refl _ _, IntKeep.refl _, rfl⟩
 case round =>
  obtain ⟨n1, a1, c1, ax1, l1, oa1, oc1, vs1, s1, rfl, rfl, HN1, HO1, HC1, H1, HP1, HB1, HK1, HE1⟩ := hrel
  clear H HP HO HC HN
  match l1, HN1, HO1, HC1, HE1 with
  | [], HN1, HO1, HC1, HE1 =>
    have h0 : n1 = 0 := HN1.out.symm
    subst h0
    have HEF : Hid (s1 = MS.turns l ax s) := by unfold Hid; have := HE1.out; simpa [MS.turns] using this
    go_wp2_with fail
    go_end0
    rw [← HEF.out]
    exact ⟨rfl, ⟨_, _, _, H1.out⟩, HB1.out, HK1.out⟩
  | [x0], HN1, HO1, HC1, HE1 =>
    have h0 : n1 = 1 := HN1.out.symm
    subst h0
    have HEF : Hid (s1 = MS.turns l ax s) := by unfold Hid; have := HE1.out; simpa [MS.turns] using this
    go_wp2_with fail
    go_end0
    rw [← HEF.out]
    exact ⟨rfl, ⟨_, _, _, H1.out⟩, HB1.out, HK1.out⟩
  | [x0, x1], HN1, HO1, HC1, HE1 =>
    have h0 : n1 = 2 := HN1.out.symm
    subst h0
    have HEF : Hid (s1 = MS.turns l ax s) := by unfold Hid; have := HE1.out; simpa [MS.turns] using this
    go_wp2_with fail
    go_end0
    rw [← HEF.out]
    exact ⟨rfl, ⟨_, _, _, H1.out⟩, HB1.out, HK1.out⟩
  | [x0, x1, x2], HN1, HO1, HC1, HE1 =>
    have h0 : n1 = 3 := HN1.out.symm
    subst h0
    have HEF : Hid (s1 = MS.turns l ax s) := by unfold Hid; have := HE1.out; simpa [MS.turns] using this
    go_wp2_with fail
    go_end0
    rw [← HEF.out]
    exact ⟨rfl, ⟨_, _, _, H1.out⟩, HB1.out, HK1.out⟩
  | [x0, x1, x2, x3, x4], HN1, HO1, HC1, HE1 =>
    obtain ⟨r, HRR⟩ : ∃ r, Hid (r = [x4]) := ⟨_, rfl⟩
    rw [← HRR.out] at HN1 HO1 HC1 HE1
    have HM : Hid (r.length = 1) := by unfold Hid; rw [HRR.out]; rfl
    obtain rfl : n1 = 5 := by have h1 := HN1.out; have h2 := HM.out; simp only [List.length_cons] at h1; omega
    obtain ⟨g, off, rfl, hcell⟩ := HO1.out.at (by simp)
    have k0 := hcell 0 x0 rfl
    have k1 := hcell 1 x1 rfl
    have k2 := hcell 2 x2 rfl
    have k3 := hcell 3 x3 rfl
    have k4 := hcell 4 x4 (by rw [HRR.out]; rfl)
    rw [Nat.add_zero] at k0
    have hmc : 5 ≤ c1 := by have h1 := HC1.out.1; have h2 := HM.out; simp only [List.length_cons] at h1; omega
    have HX : Hid ((if r.length = 1 then r.headD 0 else 0) = x4) := by unfold Hid; rw [HRR.out]; rfl
    have HC2 : Hid (r.length ≤ c1 - 4 ∧ r.length ≤ 1000) := by have h1 := HC1.out; have h2 := HM.out; simp only [List.length_cons] at h1; unfold Hid; omega
    clear hcell HN1
    cases ax1
    ·have HE2 : Hid (MS.turns r (!false) (s1.curve 0 x0 x1 x2 x3 x4) = MS.turns l ax s) := by have := HE1.out; simp only [MS.turns] at this; rw [HX.out] at this; exact this
     go_wp2_with fail
     refine wp_region_still_tail 14 (by kernel_rfl) (by kernel_rfl) ?_
     simp only [List.take_succ_cons, List.take_zero, List.drop_succ_cons, List.drop_zero]
     repeat still_step
     refine wpStill_nil ?_
     change wpList _ _ _ _ _ wr.drew
     have HD := Lib.hid (H1.out.below (Below.refl _ _).drew)
     have HKD := Lib.hid (keep_bel (Below.refl wr.heap.size wr).drew)
     go_wp2_with fail
     refine (curve_c B M F _ s1 0 x0 x1 x2 x3 x4 wr.drew HD.out HP1.out).mono ?_
     rintro e w2 ⟨rfl, ⟨oa2, oc2, vs2, hh2⟩, hb2, hk2⟩
     have H2 := Lib.hid hh2
     have HB2 := Lib.hid (HB1.out.drew.trans hb2)
     have HK0 := Lib.hid (HKD.out.trans hk2)
     have HK2 := Lib.hid (HK1.out.trans HK0.out)
     have HO2 := Lib.hid ((HO1.out.keep HK0.out).rest (c := c1) 4 (r := r) rfl HC1.out.1)
     have HP2 : Hid (PenFit (s1.curve 0 x0 x1 x2 x3 x4)) := HP1.out.curve _ _ _ _ _ _
     clear k4 hh2 hb2 hk2 HD HKD HK0 k0 k1 k2 k3
     go_wp2_with fail
     first
      | exact ⟨⟨1, _, _, _, r, oa2, oc2, vs2, _, rfl, rfl, HM, HO2, HC2, H2, HP2, HB2, HK2, HE2⟩, by simp [lenOf]⟩
      | (rw [if_neg (by omega)] at HO2; exact ⟨⟨1, _, _, _, r, oa2, oc2, vs2, _, rfl, rfl, HM, HO2, HC2, H2, HP2, HB2, HK2, HE2⟩, by simp [lenOf]⟩)
    ·have HE2 : Hid (MS.turns r (!true) (s1.curve x0 0 x1 x2 x4 x3) = MS.turns l ax s) := by have := HE1.out; simp only [MS.turns] at this; rw [HX.out] at this; exact this
     go_wp2_with fail
     refine wp_region_still_tail 14 (by kernel_rfl) (by kernel_rfl) ?_
     simp only [List.take_succ_cons, List.take_zero, List.drop_succ_cons, List.drop_zero]
     repeat still_step
     refine wpStill_nil ?_
     change wpList _ _ _ _ _ wr.drew
     have HD := Lib.hid (H1.out.below (Below.refl _ _).drew)
     have HKD := Lib.hid (keep_bel (Below.refl wr.heap.size wr).drew)
     go_wp2_with fail
     refine (curve_c B M F _ s1 x0 0 x1 x2 x4 x3 wr.drew HD.out HP1.out).mono ?_
     rintro e w2 ⟨rfl, ⟨oa2, oc2, vs2, hh2⟩, hb2, hk2⟩
     have H2 := Lib.hid hh2
     have HB2 := Lib.hid (HB1.out.drew.trans hb2)
     have HK0 := Lib.hid (HKD.out.trans hk2)
     have HK2 := Lib.hid (HK1.out.trans HK0.out)
     have HO2 := Lib.hid ((HO1.out.keep HK0.out).rest (c := c1) 4 (r := r) rfl HC1.out.1)
     have HP2 : Hid (PenFit (s1.curve x0 0 x1 x2 x4 x3)) := HP1.out.curve _ _ _ _ _ _
     clear k4 hh2 hb2 hk2 HD HKD HK0 k0 k1 k2 k3
     go_wp2_with fail
     first
      | exact ⟨⟨1, _, _, _, r, oa2, oc2, vs2, _, rfl, rfl, HM, HO2, HC2, H2, HP2, HB2, HK2, HE2⟩, by simp [lenOf]⟩
      | (rw [if_neg (by omega)] at HO2; exact ⟨⟨1, _, _, _, r, oa2, oc2, vs2, _, rfl, rfl, HM, HO2, HC2, H2, HP2, HB2, HK2, HE2⟩, by simp [lenOf]⟩)
  | [x0, x1, x2, x3], HN1, HO1, HC1, HE1 =>
    obtain ⟨r, HRR⟩ : ∃ r : List Int, Hid (r = []) := ⟨_, rfl⟩
    rw [← HRR.out] at HN1 HO1 HC1 HE1
    have HM : Hid (r.length = 0) := by unfold Hid; rw [HRR.out]; rfl
    obtain rfl : n1 = 4 := by have h1 := HN1.out; have h2 := HM.out; simp only [List.length_cons] at h1; omega
    obtain ⟨g, off, rfl, hcell⟩ := HO1.out.at (by simp)
    have k0 := hcell 0 x0 rfl
    have k1 := hcell 1 x1 rfl
    have k2 := hcell 2 x2 rfl
    have k3 := hcell 3 x3 rfl
    rw [Nat.add_zero] at k0
    have hmc : 4 ≤ c1 := by have h1 := HC1.out.1; have h2 := HM.out; simp only [List.length_cons] at h1; omega
    have HX : Hid ((if r.length = 1 then r.headD 0 else 0) = 0) := by unfold Hid; rw [HRR.out]; rfl
    have HC2 : Hid (r.length ≤ c1 - 4 ∧ r.length ≤ 1000) := by have h1 := HC1.out; have h2 := HM.out; simp only [List.length_cons] at h1; unfold Hid; omega
    clear hcell HN1
    cases ax1
    ·have HE2 : Hid (MS.turns r (!false) (s1.curve 0 x0 x1 x2 x3 0) = MS.turns l ax s) := by have := HE1.out; simp only [MS.turns] at this; rw [HX.out] at this; exact this
     go_wp2_with fail
     refine wp_region_still_tail 14 (by kernel_rfl) (by kernel_rfl) ?_
     simp only [List.take_succ_cons, List.take_zero, List.drop_succ_cons, List.drop_zero]
     repeat still_step
     refine wpStill_nil ?_
     change wpList _ _ _ _ _ wr.drew
     have HD := Lib.hid (H1.out.below (Below.refl _ _).drew)
     have HKD := Lib.hid (keep_bel (Below.refl wr.heap.size wr).drew)
     go_wp2_with fail
     refine (curve_c B M F _ s1 0 x0 x1 x2 x3 0 wr.drew HD.out HP1.out).mono ?_
     rintro e w2 ⟨rfl, ⟨oa2, oc2, vs2, hh2⟩, hb2, hk2⟩
     have H2 := Lib.hid hh2
     have HB2 := Lib.hid (HB1.out.drew.trans hb2)
     have HK0 := Lib.hid (HKD.out.trans hk2)
     have HK2 := Lib.hid (HK1.out.trans HK0.out)
     have HO2 := Lib.hid ((HO1.out.keep HK0.out).rest (c := c1) 4 (r := r) rfl HC1.out.1)
     have HP2 : Hid (PenFit (s1.curve 0 x0 x1 x2 x3 0)) := HP1.out.curve _ _ _ _ _ _
     clear hh2 hb2 hk2 HD HKD HK0 k0 k1 k2 k3
     go_wp2_with fail
     first
      | exact ⟨⟨0, _, _, _, r, oa2, oc2, vs2, _, rfl, rfl, HM, HO2, HC2, H2, HP2, HB2, HK2, HE2⟩, by simp [lenOf]⟩
      | (rw [if_neg (by omega)] at HO2; exact ⟨⟨0, _, _, _, r, oa2, oc2, vs2, _, rfl, rfl, HM, HO2, HC2, H2, HP2, HB2, HK2, HE2⟩, by simp [lenOf]⟩)
    ·have HE2 : Hid (MS.turns r (!true) (s1.curve x0 0 x1 x2 0 x3) = MS.turns l ax s) := by have := HE1.out; simp only [MS.turns] at this; rw [HX.out] at this; exact this
     go_wp2_with fail
     refine wp_region_still_tail 14 (by kernel_rfl) (by kernel_rfl) ?_
     simp only [List.take_succ_cons, List.take_zero, List.drop_succ_cons, List.drop_zero]
     repeat still_step
     refine wpStill_nil ?_
     change wpList _ _ _ _ _ wr.drew
     have HD := Lib.hid (H1.out.below (Below.refl _ _).drew)
     have HKD := Lib.hid (keep_bel (Below.refl wr.heap.size wr).drew)
     go_wp2_with fail
     refine (curve_c B M F _ s1 x0 0 x1 x2 0 x3 wr.drew HD.out HP1.out).mono ?_
     rintro e w2 ⟨rfl, ⟨oa2, oc2, vs2, hh2⟩, hb2, hk2⟩
     have H2 := Lib.hid hh2
     have HB2 := Lib.hid (HB1.out.drew.trans hb2)
     have HK0 := Lib.hid (HKD.out.trans hk2)
     have HK2 := Lib.hid (HK1.out.trans HK0.out)
     have HO2 := Lib.hid ((HO1.out.keep HK0.out).rest (c := c1) 4 (r := r) rfl HC1.out.1)
     have HP2 : Hid (PenFit (s1.curve x0 0 x1 x2 0 x3)) := HP1.out.curve _ _ _ _ _ _
     clear hh2 hb2 hk2 HD HKD HK0 k0 k1 k2 k3
     go_wp2_with fail
     first
      | exact ⟨⟨0, _, _, _, r, oa2, oc2, vs2, _, rfl, rfl, HM, HO2, HC2, H2, HP2, HB2, HK2, HE2⟩, by simp [lenOf]⟩
      | (rw [if_neg (by omega)] at HO2; exact ⟨⟨0, _, _, _, r, oa2, oc2, vs2, _, rfl, rfl, HM, HO2, HC2, H2, HP2, HB2, HK2, HE2⟩, by simp [lenOf]⟩)
  | x0 :: x1 :: x2 :: x3 :: y0 :: y1 :: r2, HN1, HO1, HC1, HE1 =>
    obtain ⟨r, HRR⟩ : ∃ r, Hid (r = y0 :: y1 :: r2) := ⟨_, rfl⟩
    rw [← HRR.out] at HN1 HO1 HC1 HE1
    obtain ⟨m, HM⟩ : ∃ m, Hid (r.length = m) := ⟨_, rfl⟩
    obtain rfl : n1 = m + 4 := by have h1 := HN1.out; have h2 := HM.out; simp only [List.length_cons] at h1; omega
    obtain ⟨g, off, rfl, hcell⟩ := HO1.out.at (by simp)
    have k0 := hcell 0 x0 rfl
    have k1 := hcell 1 x1 rfl
    have k2 := hcell 2 x2 rfl
    have k3 := hcell 3 x3 rfl
    rw [Nat.add_zero] at k0
    have hm6 : 2 ≤ m := by have := HM.out; rw [HRR.out] at this; simp at this; omega
    have h5 : ((m : Int) + 4 == 5) = false := by simp; omega
    have hm : m ≤ 1000 := by have h1 := HC1.out.2; have h2 := HM.out; simp only [List.length_cons] at h1; omega
    have hmc : m + 4 ≤ c1 := by have h1 := HC1.out.1; have h2 := HM.out; simp only [List.length_cons] at h1; omega
    have h0 : (0 : Int) < (m : Int) + 4 := by omega
    have h1 : (1 : Int) < (m : Int) + 4 := by omega
    have h2 : (2 : Int) < (m : Int) + 4 := by omega
    have h3 : (3 : Int) < (m : Int) + 4 := by omega
    have hk : (4 : Int) ≤ (m : Int) + 4 := by omega
    have h44 : ¬ (m : Int) + 4 < 4 := by omega
    have HX : Hid ((if r.length = 1 then r.headD 0 else 0) = 0) := by unfold Hid; rw [HRR.out]; rfl
    have HC2 : Hid (r.length ≤ c1 - 4 ∧ r.length ≤ 1000) := by have h1 := HC1.out; have h2 := HM.out; simp only [List.length_cons] at h1; unfold Hid; omega
    clear hcell HN1
    cases ax1
    ·have HE2 : Hid (MS.turns r (!false) (s1.curve 0 x0 x1 x2 x3 0) = MS.turns l ax s) := by have := HE1.out; simp only [MS.turns] at this; rw [HX.out] at this; exact this
     go_wp2_with fail
     refine wp_region_still_tail 14 (by kernel_rfl) (by kernel_rfl) ?_
     simp only [List.take_succ_cons, List.take_zero, List.drop_succ_cons, List.drop_zero]
     repeat still_step
     refine wpStill_nil ?_
     change wpList _ _ _ _ _ wr.drew
     have HD := Lib.hid (H1.out.below (Below.refl _ _).drew)
     have HKD := Lib.hid (keep_bel (Below.refl wr.heap.size wr).drew)
     go_wp2_with fail
     refine (curve_c B M F _ s1 0 x0 x1 x2 x3 0 wr.drew HD.out HP1.out).mono ?_
     rintro e w2 ⟨rfl, ⟨oa2, oc2, vs2, hh2⟩, hb2, hk2⟩
     have H2 := Lib.hid hh2
     have HB2 := Lib.hid (HB1.out.drew.trans hb2)
     have HK0 := Lib.hid (HKD.out.trans hk2)
     have HK2 := Lib.hid (HK1.out.trans HK0.out)
     have HO2 := Lib.hid ((HO1.out.keep HK0.out).rest (c := c1) 4 (r := r) rfl HC1.out.1)
     have HP2 : Hid (PenFit (s1.curve 0 x0 x1 x2 x3 0)) := HP1.out.curve _ _ _ _ _ _
     clear hh2 hb2 hk2 HD HKD HK0 k0 k1 k2 k3
     go_wp2_with fail
     first
      | exact ⟨⟨m, _, _, _, r, oa2, oc2, vs2, _, rfl, rfl, HM, HO2, HC2, H2, HP2, HB2, HK2, HE2⟩, by simp [lenOf]⟩
      | (rw [if_neg (by omega)] at HO2; exact ⟨⟨m, _, _, _, r, oa2, oc2, vs2, _, rfl, rfl, HM, HO2, HC2, H2, HP2, HB2, HK2, HE2⟩, by simp [lenOf]⟩)
    ·have HE2 : Hid (MS.turns r (!true) (s1.curve x0 0 x1 x2 0 x3) = MS.turns l ax s) := by have := HE1.out; simp only [MS.turns] at this; rw [HX.out] at this; exact this
     go_wp2_with fail
     refine wp_region_still_tail 14 (by kernel_rfl) (by kernel_rfl) ?_
     simp only [List.take_succ_cons, List.take_zero, List.drop_succ_cons, List.drop_zero]
     repeat still_step
     refine wpStill_nil ?_
     change wpList _ _ _ _ _ wr.drew
     have HD := Lib.hid (H1.out.below (Below.refl _ _).drew)
     have HKD := Lib.hid (keep_bel (Below.refl wr.heap.size wr).drew)
     go_wp2_with fail
     refine (curve_c B M F _ s1 x0 0 x1 x2 0 x3 wr.drew HD.out HP1.out).mono ?_
     rintro e w2 ⟨rfl, ⟨oa2, oc2, vs2, hh2⟩, hb2, hk2⟩
     have H2 := Lib.hid hh2
     have HB2 := Lib.hid (HB1.out.drew.trans hb2)
     have HK0 := Lib.hid (HKD.out.trans hk2)
     have HK2 := Lib.hid (HK1.out.trans HK0.out)
     have HO2 := Lib.hid ((HO1.out.keep HK0.out).rest (c := c1) 4 (r := r) rfl HC1.out.1)
     have HP2 : Hid (PenFit (s1.curve x0 0 x1 x2 0 x3)) := HP1.out.curve _ _ _ _ _ _
     clear hh2 hb2 hk2 HD HKD HK0 k0 k1 k2 k3
     go_wp2_with fail
     first
      | exact ⟨⟨m, _, _, _, r, oa2, oc2, vs2, _, rfl, rfl, HM, HO2, HC2, H2, HP2, HB2, HK2, HE2⟩, by simp [lenOf]⟩
      | (rw [if_neg (by omega)] at HO2; exact ⟨⟨m, _, _, _, r, oa2, oc2, vs2, _, rfl, rfl, HM, HO2, HC2, H2, HP2, HB2, HK2, HE2⟩, by simp [lenOf]⟩)
set_option maxRecDepth 20000 in
set_option maxHeartbeats 2000000 in
theorem sum_c (B M F : Nat) (L : Lay) (s : MS) (l : List Int) (g : Nat) (c : Nat) (w : World) (h : Mach w B M F L s) (ho : Opds w l (some ⟨g, 0, none⟩)) (hl : l.length ≤ 1000) :
 Calls Tryz.prog 101 #[.pointer (some ⟨M, 0, none⟩), .slice (some ⟨g, 0, none⟩) l.length c] w (LPost B M F L { s with fault := (sumsF l 0 s.fault).2 } (.int .i64 (sumsF l 0 s.fault).1) w) := by
 have H := Lib.hid h
 have HO := Lib.hid ho
 have HL := Lib.hid hl
 obtain ⟨n, HN⟩ : ∃ n, Hid (l.length = n) := ⟨_, rfl⟩
 rw [HN.out]
 clear h ho hl
 go_enter Tryz.func101, Tryz.ntmps101
 go_wp2_with fail
 go_loopw [5, 10] (fun b v wr => ∃ (i : Nat) (t f : Int), i ≤ n ∧ b = .int .i64 t ∧ v = .int .i64 (i : Int) ∧ Hid (Mach wr B M F L { s with fault := f }) ∧ Hid (Below B w wr) ∧ Hid (IntKeep w wr) ∧ Hid (sumsF (l.drop i) t f = sumsF l 0 s.fault)) (fun _ v _ => n - (intOf v).toNat)
 case atStart => exact ⟨0, 0, s.fault, Nat.zero_le _, rfl, rfl, H, Below.refl _ _, IntKeep.refl _, rfl⟩
 case round =>
  obtain ⟨i, t, f, hi, rfl, rfl, H1, HB1, HK1, HE1⟩ := hrel
  clear H
  by_cases hlt : i < n
  ·obtain ⟨d, hd⟩ := get_of (show i < l.length by have := HN.out; omega)
   obtain ⟨g', off', hgo, hc2⟩ := (HO.out.keep HK1.out).at (show 0 < l.length by have := HN.out; omega)
   cases hgo
   have k0 := hc2 i d hd
   rw [Nat.zero_add] at k0
   have h1 : (i : Int) < (n : Int) := by omega
   have h2 : (0 : Int) ≤ (i : Int) := by omega
   have hn : n ≤ 1000 := by have := HL.out; have := HN.out; omega
   have HE2 : Hid (sumsF (l.drop (i + 1)) (sumOr t d).1 (addF f t d) = sumsF l 0 s.fault) := by
    have := HE1.out
    rw [List.drop_eq_getElem_cons (show i < l.length by have := HN.out; omega), (List.getElem?_eq_some_iff.1 hd).2] at this
    exact this
   have HX := Lib.hid (next64 (j := i) (by omega))
   have HLT := Lib.hid hlt
   clear hc2 hd hlt HE1
   go_wp2_with fail
   refine (add_c B M F L _ t d wr H1.out).mono ?_
   rintro e w2 ⟨rfl, hh2, hb2, hk2⟩
   have H2 := Lib.hid hh2
   have HB2 := Lib.hid (HB1.out.trans hb2)
   have HK2 := Lib.hid (HK1.out.trans hk2)
   clear hh2 hb2 hk2 k0
   go_wp2_with fail
   exact ⟨⟨i + 1, _, _, HLT.out, rfl, by first | rw [HX.out] | go_num, H2, HB2, HK2, HE2⟩, by (try rw [HX.out]); have := HLT.out; simp only [intOf]; omega⟩
  ·obtain rfl : i = n := by omega
   have h1 : ¬ (i : Int) < (i : Int) := by omega
   have HEF : Hid ((t, f) = sumsF l 0 s.fault) := by
    have := HE1.out
    rw [List.drop_eq_nil_of_le (by have := HN.out; omega)] at this
    exact this
   go_wp2_with fail
   go_ret
   rw [← HEF.out]
   exact ⟨rfl, H1.out, HB1.out, HK1.out⟩
end Go.Proofs.YtklenppldblbdaaGreat
