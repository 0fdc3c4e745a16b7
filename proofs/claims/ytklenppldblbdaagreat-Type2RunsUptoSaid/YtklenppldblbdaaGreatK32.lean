import Derived.Test.YtklenppldblbdaaGreatK27
set_option linter.unusedSimpArgs false
set_option linter.unusedVariables false
namespace Go.Proofs.YtklenppldblbdaaGreat
open Go.RowKit Go.PlainAid
def RoutPostB (B : Nat) (r : Option ByteArray) (w : World) (e : Ending) (w' : World) : Prop := Below w.heap.size w w' ∧ match r with
 | none => e = .returned (.tuple #[.slice none 0 0, .bool false])
 | some P => ∃ ai ci, e = .returned (.tuple #[.slice ai P.size ci, .bool true]) ∧ InB B w ai P.size ci P
set_option maxRecDepth 20000 in
set_option maxHeartbeats 2000000 in
theorem routine_b (la : Option Addr) (lc : Nat) (Ps : List ByteArray) (st : List Int) (a : Option Addr) (c : Nat) (w : World) (B : Nat) (hL : ListB B w la Ps) (hP : Ps.length ≤ 100000) (ho : Opds w st a) (hn : st.length ≤ 1000) (hc : st.length ≤ c) (hsm : ∀ v ∈ st, -2147483648 ≤ v ∧ v ≤ 2147483648) :
 Calls Tryz.prog 28 #[.slice la Ps.length lc, .slice a st.length c] w (RoutPostB B (routineD Ps st) w) := by
 by_cases h0 : st.length = 0
 ·have HE : Hid (routineD Ps st = none) := by unfold Hid routineD; rw [if_pos h0]
  rw [HE.out]
  rw [h0]
  clear hL ho hn hc hsm h0 HE
  go_enter Tryz.func28, Tryz.ntmps28
  go_wp2_with fail
  go_ret2
  exact ⟨Below.refl _ _, rfl⟩
 ·obtain ⟨n, HN⟩ : ∃ n, Hid (st.length = n + 1) := ⟨st.length - 1, by unfold Hid; omega⟩
  obtain ⟨v, hv⟩ := get_of (show n < st.length by have := HN.out; omega)
  obtain ⟨g, off, rfl, hat⟩ := ho.at (by omega)
  have k0 := hat n v hv
  have hvb := hsm v (List.mem_of_getElem? hv)
  have hlast : st.getLast?.getD 0 = v := by rw [List.getLast?_eq_getElem?, HN.out, Nat.add_sub_cancel, hv]; rfl
  obtain ⟨m, HM⟩ : ∃ m, Hid (Ps.length = m) := ⟨_, rfl⟩
  obtain ⟨b, HB⟩ : ∃ b, Hid (biasN m = b) := ⟨_, rfl⟩
  have HE : Hid (routineD Ps st = if v / 65536 + b < 0 ∨ (m : Int) ≤ v / 65536 + b then none else some (Ps.getD (v / 65536 + b).toNat ByteArray.empty)) := by
   unfold Hid routineD; rw [if_neg h0, hlast, HM.out, HB.out]
  obtain ⟨l, HL1⟩ : ∃ l, Hid (st.length = l) := ⟨_, rfl⟩
  have HLN : Hid (l = n + 1) := by have := HN.out; have := HL1.out; unfold Hid; omega
  rw [HE.out, HM.out, HL1.out]
  have hbb := biasN_bound m
  rw [HB.out] at hbb
  have hmb : m ≤ 100000 := by have := HM.out; omega
  have hnb : n ≤ 1000 := by have := HN.out; omega
  have HL := Lib.hid hL
  have HC : Hid (n + 1 ≤ c) := by have := HN.out; unfold Hid; omega
  have hnn : (n : Int) < (l : Int) := by have := HLN.out; omega
  have hl0 : ((l : Int) == 0) = false := by have := HLN.out; simp; omega
  have hl1 : wrap64 ((l : Int) - 1) = (n : Int) := by have := HLN.out; unfold wrap64; omega
  have hn0 : (0 : Int) ≤ (n : Int) := by omega
  clear hL ho hn hc hsm h0 hv hat hlast HE hP
  have HV := Lib.hid (And.intro hvb hmb)
  by_cases hm1 : m < 1240
  ·have hb : b = 107 := by rw [← HB.out]; unfold biasN; rw [if_pos hm1]
   subst hb
   have z1 : (m : Int) < 33900 := by omega
   have z2 : (m : Int) < 1240 := by omega
   clear hbb hm1 hvb hmb
   by_cases hv1 : 0 ≤ v
   ·have s1 : ¬ v < 0 := by omega
    obtain ⟨q, hq⟩ : ∃ q, v / 65536 = q := ⟨_, rfl⟩
    have hq2 : Int.tdiv v 65536 = q := by rw [← hq]; exact Int.tdiv_eq_ediv_of_nonneg hv1
    have HQ : Hid (-40000 ≤ q ∧ q ≤ 40000) := by have := HV.out; unfold Hid; omega
    have hq3 : wrap64 q = q := by have := HQ.out; unfold wrap64; omega
    by_cases hr1 : v / 65536 + 107 < 0
    ·rw [if_pos (.inl hr1)]
     rw [hq] at hr1
     have hq4 : wrap64 (q + 107) = q + 107 := by have := HV.out; have := HQ.out; unfold wrap64; omega
     clear hq
     go_enter Tryz.func28, Tryz.ntmps28
     go_wp2_with fail
     go_ret2
     exact ⟨Below.refl _ _, rfl⟩
    by_cases hr2 : (m : Int) ≤ v / 65536 + 107
    ·rw [if_pos (.inr hr2)]
     rw [hq] at hr1 hr2
     have hq4 : wrap64 (q + 107) = q + 107 := by have := HV.out; have := HQ.out; unfold wrap64; omega
     clear hq
     go_enter Tryz.func28, Tryz.ntmps28
     go_wp2_with fail
     go_ret2
     exact ⟨Below.refl _ _, rfl⟩
    rw [if_neg (by omega)]
    rw [hq] at hr1 hr2 ⊢
    obtain ⟨k, hk⟩ := Int.eq_ofNat_of_zero_le (show 0 ≤ q + 107 by omega)
    rw [hk] at hr1 hr2 ⊢
    have hq4 : wrap64 (q + 107) = (k : Int) := by have := HV.out; have := HQ.out; rw [hk]; unfold wrap64; omega
    have hk1 : (k : Int) < (m : Int) := by omega
    have hk2 : (0 : Int) ≤ (k : Int) := by omega
    obtain ⟨P, hP⟩ := get_of (show k < Ps.length by have := HM.out; omega)
    have hPk : Ps.getD ((k : Int)).toNat ByteArray.empty = P := by rw [Int.toNat_natCast, List.getD_eq_getElem?_getD, hP]; rfl
    rw [hPk]
    rcases HL.out with h0 | ⟨lb, lo, rfl, _, hLL⟩
    ·rw [h0] at hP; simp at hP
    obtain ⟨ai, ci, hcell, hib⟩ := hLL k P hP
    have HIB := Lib.hid hib
    obtain ⟨z, HZ⟩ : ∃ z, Hid (P.size = z) := ⟨_, rfl⟩
    rw [HZ.out] at hcell
    clear hq hk hr1 hr2 hP hPk hLL hib
    suffices hS : Calls Tryz.prog 28 #[.slice (some ⟨lb, lo, none⟩) m lc, .slice (some ⟨g, off, none⟩) l c] w (fun e w' => e = .returned (.tuple #[.slice ai z ci, .bool true]) ∧ w = w') from hS.mono (by rintro e w' ⟨rfl, rfl⟩; exact ⟨Below.refl _ _, ai, ci, by rw [HZ.out], HIB.out⟩)
    clear HIB HB HM
    have hk3 : ¬ (m : Int) ≤ (k : Int) := by omega
    have hk4 : ¬ (k : Int) < 0 := by omega
    clear hk2
    go_enter Tryz.func28, Tryz.ntmps28
    go_wp2_with fail
    go_ret2
    exact ⟨rfl, rfl⟩
   have s1 : v < 0 := by omega
   clear hv1
   by_cases hr : Int.tmod v 65536 = 0
   ·obtain ⟨q, hq⟩ : ∃ q, v / 65536 = q := ⟨_, rfl⟩
    have hq2 : Int.tdiv v 65536 = q := by rw [← hq]; have := Int.mul_tdiv_add_tmod v 65536; have := HV.out; omega
    have HQ : Hid (-40000 ≤ q ∧ q ≤ 40000) := by have := HV.out; unfold Hid; omega
    have hq3 : wrap64 q = q := by have := HQ.out; unfold wrap64; omega
    by_cases hr1 : v / 65536 + 107 < 0
    ·rw [if_pos (.inl hr1)]
     rw [hq] at hr1
     have hq4 : wrap64 (q + 107) = q + 107 := by have := HV.out; have := HQ.out; unfold wrap64; omega
     clear hq
     go_enter Tryz.func28, Tryz.ntmps28
     go_wp2_with fail
     go_ret2
     exact ⟨Below.refl _ _, rfl⟩
    by_cases hr2 : (m : Int) ≤ v / 65536 + 107
    ·rw [if_pos (.inr hr2)]
     rw [hq] at hr1 hr2
     have hq4 : wrap64 (q + 107) = q + 107 := by have := HV.out; have := HQ.out; unfold wrap64; omega
     clear hq
     go_enter Tryz.func28, Tryz.ntmps28
     go_wp2_with fail
     go_ret2
     exact ⟨Below.refl _ _, rfl⟩
    rw [if_neg (by omega)]
    rw [hq] at hr1 hr2 ⊢
    obtain ⟨k, hk⟩ := Int.eq_ofNat_of_zero_le (show 0 ≤ q + 107 by omega)
    rw [hk] at hr1 hr2 ⊢
    have hq4 : wrap64 (q + 107) = (k : Int) := by have := HV.out; have := HQ.out; rw [hk]; unfold wrap64; omega
    have hk1 : (k : Int) < (m : Int) := by omega
    have hk2 : (0 : Int) ≤ (k : Int) := by omega
    obtain ⟨P, hP⟩ := get_of (show k < Ps.length by have := HM.out; omega)
    have hPk : Ps.getD ((k : Int)).toNat ByteArray.empty = P := by rw [Int.toNat_natCast, List.getD_eq_getElem?_getD, hP]; rfl
    rw [hPk]
    rcases HL.out with h0 | ⟨lb, lo, rfl, _, hLL⟩
    ·rw [h0] at hP; simp at hP
    obtain ⟨ai, ci, hcell, hib⟩ := hLL k P hP
    have HIB := Lib.hid hib
    obtain ⟨z, HZ⟩ : ∃ z, Hid (P.size = z) := ⟨_, rfl⟩
    rw [HZ.out] at hcell
    clear hq hk hr1 hr2 hP hPk hLL hib
    suffices hS : Calls Tryz.prog 28 #[.slice (some ⟨lb, lo, none⟩) m lc, .slice (some ⟨g, off, none⟩) l c] w (fun e w' => e = .returned (.tuple #[.slice ai z ci, .bool true]) ∧ w = w') from hS.mono (by rintro e w' ⟨rfl, rfl⟩; exact ⟨Below.refl _ _, ai, ci, by rw [HZ.out], HIB.out⟩)
    clear HIB HB HM
    have hk3 : ¬ (m : Int) ≤ (k : Int) := by omega
    have hk4 : ¬ (k : Int) < 0 := by omega
    clear hk2
    go_enter Tryz.func28, Tryz.ntmps28
    go_wp2_with fail
    go_ret2
    exact ⟨rfl, rfl⟩
   obtain ⟨q, hq⟩ : ∃ q, v / 65536 = q := ⟨_, rfl⟩
   obtain ⟨r, hr2'⟩ : ∃ r, Int.tmod v 65536 = r := ⟨_, rfl⟩
   rw [hr2'] at hr
   obtain ⟨q1, hq2⟩ : ∃ q1, Int.tdiv v 65536 = q1 := ⟨_, rfl⟩
   have HQ1 : Hid (q1 = q + 1 ∧ -70000 ≤ r ∧ r ≤ 70000) := by
    have e1 := Int.mul_tdiv_add_tmod v 65536
    have e1 := Int.mul_tdiv_add_tmod v 65536
    have e2 : Int.tmod v 65536 ≤ 0 := by have h := Int.neg_tmod (-v) 65536; rw [Int.neg_neg] at h; rw [h]; have := Int.tmod_nonneg 65536 (show 0 ≤ -v by omega); omega
    have e3 : -65536 < Int.tmod v 65536 := by have h := Int.neg_tmod (-v) 65536; rw [Int.neg_neg] at h; rw [h]; have := Int.tmod_lt_of_pos (-v) (show (0 : Int) < 65536 by decide); omega
    have := HV.out
    unfold Hid; omega
   have HQ : Hid (-40000 ≤ q ∧ q ≤ 40000) := by have := HV.out; unfold Hid; omega
   have hq3 : wrap64 q1 = q1 := by have := HQ.out; have := HQ1.out; unfold wrap64; omega
   have hq7 : wrap64 (q1 - 1) = q := by have := HQ.out; have := HQ1.out; unfold wrap64; omega
   have hr3 : (r != 0) = true := by simp; exact hr
   have hr4 : wrap64 r = r := by have := HQ1.out; unfold wrap64; omega
   clear hr
   by_cases hr1 : v / 65536 + 107 < 0
   ·rw [if_pos (.inl hr1)]
    rw [hq] at hr1
    have hq4 : wrap64 (q + 107) = q + 107 := by have := HV.out; have := HQ.out; unfold wrap64; omega
    clear hq
    go_enter Tryz.func28, Tryz.ntmps28
    go_wp2_with fail
    go_ret2
    exact ⟨Below.refl _ _, rfl⟩
   by_cases hr2 : (m : Int) ≤ v / 65536 + 107
   ·rw [if_pos (.inr hr2)]
    rw [hq] at hr1 hr2
    have hq4 : wrap64 (q + 107) = q + 107 := by have := HV.out; have := HQ.out; unfold wrap64; omega
    clear hq
    go_enter Tryz.func28, Tryz.ntmps28
    go_wp2_with fail
    go_ret2
    exact ⟨Below.refl _ _, rfl⟩
   rw [if_neg (by omega)]
   rw [hq] at hr1 hr2 ⊢
   obtain ⟨k, hk⟩ := Int.eq_ofNat_of_zero_le (show 0 ≤ q + 107 by omega)
   rw [hk] at hr1 hr2 ⊢
   have hq4 : wrap64 (q + 107) = (k : Int) := by have := HV.out; have := HQ.out; rw [hk]; unfold wrap64; omega
   have hk1 : (k : Int) < (m : Int) := by omega
   have hk2 : (0 : Int) ≤ (k : Int) := by omega
   obtain ⟨P, hP⟩ := get_of (show k < Ps.length by have := HM.out; omega)
   have hPk : Ps.getD ((k : Int)).toNat ByteArray.empty = P := by rw [Int.toNat_natCast, List.getD_eq_getElem?_getD, hP]; rfl
   rw [hPk]
   rcases HL.out with h0 | ⟨lb, lo, rfl, _, hLL⟩
   ·rw [h0] at hP; simp at hP
   obtain ⟨ai, ci, hcell, hib⟩ := hLL k P hP
   have HIB := Lib.hid hib
   obtain ⟨z, HZ⟩ : ∃ z, Hid (P.size = z) := ⟨_, rfl⟩
   rw [HZ.out] at hcell
   clear hq hk hr1 hr2 hP hPk hLL hib
   suffices hS : Calls Tryz.prog 28 #[.slice (some ⟨lb, lo, none⟩) m lc, .slice (some ⟨g, off, none⟩) l c] w (fun e w' => e = .returned (.tuple #[.slice ai z ci, .bool true]) ∧ w = w') from hS.mono (by rintro e w' ⟨rfl, rfl⟩; exact ⟨Below.refl _ _, ai, ci, by rw [HZ.out], HIB.out⟩)
   clear HIB HB HM
   have hk3 : ¬ (m : Int) ≤ (k : Int) := by omega
   have hk4 : ¬ (k : Int) < 0 := by omega
   clear hk2
   go_enter Tryz.func28, Tryz.ntmps28
   go_wp2_with fail
   go_ret2
   exact ⟨rfl, rfl⟩
  by_cases hm2 : m < 33900
  ·have hb : b = 1131 := by rw [← HB.out]; unfold biasN; rw [if_neg hm1, if_pos hm2]
   subst hb
   have z1 : (m : Int) < 33900 := by omega
   have z2 : ¬ (m : Int) < 1240 := by omega
   clear hbb hm1 hm2 hvb hmb
   by_cases hv1 : 0 ≤ v
   ·have s1 : ¬ v < 0 := by omega
    obtain ⟨q, hq⟩ : ∃ q, v / 65536 = q := ⟨_, rfl⟩
    have hq2 : Int.tdiv v 65536 = q := by rw [← hq]; exact Int.tdiv_eq_ediv_of_nonneg hv1
    have HQ : Hid (-40000 ≤ q ∧ q ≤ 40000) := by have := HV.out; unfold Hid; omega
    have hq3 : wrap64 q = q := by have := HQ.out; unfold wrap64; omega
    by_cases hr1 : v / 65536 + 1131 < 0
    ·rw [if_pos (.inl hr1)]
     rw [hq] at hr1
     have hq4 : wrap64 (q + 1131) = q + 1131 := by have := HV.out; have := HQ.out; unfold wrap64; omega
     clear hq
     go_enter Tryz.func28, Tryz.ntmps28
     go_wp2_with fail
     go_ret2
     exact ⟨Below.refl _ _, rfl⟩
    by_cases hr2 : (m : Int) ≤ v / 65536 + 1131
    ·rw [if_pos (.inr hr2)]
     rw [hq] at hr1 hr2
     have hq4 : wrap64 (q + 1131) = q + 1131 := by have := HV.out; have := HQ.out; unfold wrap64; omega
     clear hq
     go_enter Tryz.func28, Tryz.ntmps28
     go_wp2_with fail
     go_ret2
     exact ⟨Below.refl _ _, rfl⟩
    rw [if_neg (by omega)]
    rw [hq] at hr1 hr2 ⊢
    obtain ⟨k, hk⟩ := Int.eq_ofNat_of_zero_le (show 0 ≤ q + 1131 by omega)
    rw [hk] at hr1 hr2 ⊢
    have hq4 : wrap64 (q + 1131) = (k : Int) := by have := HV.out; have := HQ.out; rw [hk]; unfold wrap64; omega
    have hk1 : (k : Int) < (m : Int) := by omega
    have hk2 : (0 : Int) ≤ (k : Int) := by omega
    obtain ⟨P, hP⟩ := get_of (show k < Ps.length by have := HM.out; omega)
    have hPk : Ps.getD ((k : Int)).toNat ByteArray.empty = P := by rw [Int.toNat_natCast, List.getD_eq_getElem?_getD, hP]; rfl
    rw [hPk]
    rcases HL.out with h0 | ⟨lb, lo, rfl, _, hLL⟩
    ·rw [h0] at hP; simp at hP
    obtain ⟨ai, ci, hcell, hib⟩ := hLL k P hP
    have HIB := Lib.hid hib
    obtain ⟨z, HZ⟩ : ∃ z, Hid (P.size = z) := ⟨_, rfl⟩
    rw [HZ.out] at hcell
    clear hq hk hr1 hr2 hP hPk hLL hib
    suffices hS : Calls Tryz.prog 28 #[.slice (some ⟨lb, lo, none⟩) m lc, .slice (some ⟨g, off, none⟩) l c] w (fun e w' => e = .returned (.tuple #[.slice ai z ci, .bool true]) ∧ w = w') from hS.mono (by rintro e w' ⟨rfl, rfl⟩; exact ⟨Below.refl _ _, ai, ci, by rw [HZ.out], HIB.out⟩)
    clear HIB HB HM
    have hk3 : ¬ (m : Int) ≤ (k : Int) := by omega
    have hk4 : ¬ (k : Int) < 0 := by omega
    clear hk2
    go_enter Tryz.func28, Tryz.ntmps28
    go_wp2_with fail
    go_ret2
    exact ⟨rfl, rfl⟩
   have s1 : v < 0 := by omega
   clear hv1
   by_cases hr : Int.tmod v 65536 = 0
   ·obtain ⟨q, hq⟩ : ∃ q, v / 65536 = q := ⟨_, rfl⟩
    have hq2 : Int.tdiv v 65536 = q := by rw [← hq]; have := Int.mul_tdiv_add_tmod v 65536; have := HV.out; omega
    have HQ : Hid (-40000 ≤ q ∧ q ≤ 40000) := by have := HV.out; unfold Hid; omega
    have hq3 : wrap64 q = q := by have := HQ.out; unfold wrap64; omega
    by_cases hr1 : v / 65536 + 1131 < 0
    ·rw [if_pos (.inl hr1)]
     rw [hq] at hr1
     have hq4 : wrap64 (q + 1131) = q + 1131 := by have := HV.out; have := HQ.out; unfold wrap64; omega
     clear hq
     go_enter Tryz.func28, Tryz.ntmps28
     go_wp2_with fail
     go_ret2
     exact ⟨Below.refl _ _, rfl⟩
    by_cases hr2 : (m : Int) ≤ v / 65536 + 1131
    ·rw [if_pos (.inr hr2)]
     rw [hq] at hr1 hr2
     have hq4 : wrap64 (q + 1131) = q + 1131 := by have := HV.out; have := HQ.out; unfold wrap64; omega
     clear hq
     go_enter Tryz.func28, Tryz.ntmps28
     go_wp2_with fail
     go_ret2
     exact ⟨Below.refl _ _, rfl⟩
    rw [if_neg (by omega)]
    rw [hq] at hr1 hr2 ⊢
    obtain ⟨k, hk⟩ := Int.eq_ofNat_of_zero_le (show 0 ≤ q + 1131 by omega)
    rw [hk] at hr1 hr2 ⊢
    have hq4 : wrap64 (q + 1131) = (k : Int) := by have := HV.out; have := HQ.out; rw [hk]; unfold wrap64; omega
    have hk1 : (k : Int) < (m : Int) := by omega
    have hk2 : (0 : Int) ≤ (k : Int) := by omega
    obtain ⟨P, hP⟩ := get_of (show k < Ps.length by have := HM.out; omega)
    have hPk : Ps.getD ((k : Int)).toNat ByteArray.empty = P := by rw [Int.toNat_natCast, List.getD_eq_getElem?_getD, hP]; rfl
    rw [hPk]
    rcases HL.out with h0 | ⟨lb, lo, rfl, _, hLL⟩
    ·rw [h0] at hP; simp at hP
    obtain ⟨ai, ci, hcell, hib⟩ := hLL k P hP
    have HIB := Lib.hid hib
    obtain ⟨z, HZ⟩ : ∃ z, Hid (P.size = z) := ⟨_, rfl⟩
    rw [HZ.out] at hcell
    clear hq hk hr1 hr2 hP hPk hLL hib
    suffices hS : Calls Tryz.prog 28 #[.slice (some ⟨lb, lo, none⟩) m lc, .slice (some ⟨g, off, none⟩) l c] w (fun e w' => e = .returned (.tuple #[.slice ai z ci, .bool true]) ∧ w = w') from hS.mono (by rintro e w' ⟨rfl, rfl⟩; exact ⟨Below.refl _ _, ai, ci, by rw [HZ.out], HIB.out⟩)
    clear HIB HB HM
    have hk3 : ¬ (m : Int) ≤ (k : Int) := by omega
    have hk4 : ¬ (k : Int) < 0 := by omega
    clear hk2
    go_enter Tryz.func28, Tryz.ntmps28
    go_wp2_with fail
    go_ret2
    exact ⟨rfl, rfl⟩
   obtain ⟨q, hq⟩ : ∃ q, v / 65536 = q := ⟨_, rfl⟩
   obtain ⟨r, hr2'⟩ : ∃ r, Int.tmod v 65536 = r := ⟨_, rfl⟩
   rw [hr2'] at hr
   obtain ⟨q1, hq2⟩ : ∃ q1, Int.tdiv v 65536 = q1 := ⟨_, rfl⟩
   have HQ1 : Hid (q1 = q + 1 ∧ -70000 ≤ r ∧ r ≤ 70000) := by
    have e1 := Int.mul_tdiv_add_tmod v 65536
    have e1 := Int.mul_tdiv_add_tmod v 65536
    have e2 : Int.tmod v 65536 ≤ 0 := by have h := Int.neg_tmod (-v) 65536; rw [Int.neg_neg] at h; rw [h]; have := Int.tmod_nonneg 65536 (show 0 ≤ -v by omega); omega
    have e3 : -65536 < Int.tmod v 65536 := by have h := Int.neg_tmod (-v) 65536; rw [Int.neg_neg] at h; rw [h]; have := Int.tmod_lt_of_pos (-v) (show (0 : Int) < 65536 by decide); omega
    have := HV.out
    unfold Hid; omega
   have HQ : Hid (-40000 ≤ q ∧ q ≤ 40000) := by have := HV.out; unfold Hid; omega
   have hq3 : wrap64 q1 = q1 := by have := HQ.out; have := HQ1.out; unfold wrap64; omega
   have hq7 : wrap64 (q1 - 1) = q := by have := HQ.out; have := HQ1.out; unfold wrap64; omega
   have hr3 : (r != 0) = true := by simp; exact hr
   have hr4 : wrap64 r = r := by have := HQ1.out; unfold wrap64; omega
   clear hr
   by_cases hr1 : v / 65536 + 1131 < 0
   ·rw [if_pos (.inl hr1)]
    rw [hq] at hr1
    have hq4 : wrap64 (q + 1131) = q + 1131 := by have := HV.out; have := HQ.out; unfold wrap64; omega
    clear hq
    go_enter Tryz.func28, Tryz.ntmps28
    go_wp2_with fail
    go_ret2
    exact ⟨Below.refl _ _, rfl⟩
   by_cases hr2 : (m : Int) ≤ v / 65536 + 1131
   ·rw [if_pos (.inr hr2)]
    rw [hq] at hr1 hr2
    have hq4 : wrap64 (q + 1131) = q + 1131 := by have := HV.out; have := HQ.out; unfold wrap64; omega
    clear hq
    go_enter Tryz.func28, Tryz.ntmps28
    go_wp2_with fail
    go_ret2
    exact ⟨Below.refl _ _, rfl⟩
   rw [if_neg (by omega)]
   rw [hq] at hr1 hr2 ⊢
   obtain ⟨k, hk⟩ := Int.eq_ofNat_of_zero_le (show 0 ≤ q + 1131 by omega)
   rw [hk] at hr1 hr2 ⊢
   have hq4 : wrap64 (q + 1131) = (k : Int) := by have := HV.out; have := HQ.out; rw [hk]; unfold wrap64; omega
   have hk1 : (k : Int) < (m : Int) := by omega
   have hk2 : (0 : Int) ≤ (k : Int) := by omega
   obtain ⟨P, hP⟩ := get_of (show k < Ps.length by have := HM.out; omega)
   have hPk : Ps.getD ((k : Int)).toNat ByteArray.empty = P := by rw [Int.toNat_natCast, List.getD_eq_getElem?_getD, hP]; rfl
   rw [hPk]
   rcases HL.out with h0 | ⟨lb, lo, rfl, _, hLL⟩
   ·rw [h0] at hP; simp at hP
   obtain ⟨ai, ci, hcell, hib⟩ := hLL k P hP
   have HIB := Lib.hid hib
   obtain ⟨z, HZ⟩ : ∃ z, Hid (P.size = z) := ⟨_, rfl⟩
   rw [HZ.out] at hcell
   clear hq hk hr1 hr2 hP hPk hLL hib
   suffices hS : Calls Tryz.prog 28 #[.slice (some ⟨lb, lo, none⟩) m lc, .slice (some ⟨g, off, none⟩) l c] w (fun e w' => e = .returned (.tuple #[.slice ai z ci, .bool true]) ∧ w = w') from hS.mono (by rintro e w' ⟨rfl, rfl⟩; exact ⟨Below.refl _ _, ai, ci, by rw [HZ.out], HIB.out⟩)
   clear HIB HB HM
   have hk3 : ¬ (m : Int) ≤ (k : Int) := by omega
   have hk4 : ¬ (k : Int) < 0 := by omega
   clear hk2
   go_enter Tryz.func28, Tryz.ntmps28
   go_wp2_with fail
   go_ret2
   exact ⟨rfl, rfl⟩
  have hb : b = 32768 := by rw [← HB.out]; unfold biasN; rw [if_neg hm1, if_neg hm2]
  subst hb
  have z1 : ¬ (m : Int) < 33900 := by omega
  have z2 : ¬ (m : Int) < 1240 := by omega
  clear hbb hm1 hm2 hvb hmb
  by_cases hv1 : 0 ≤ v
  ·have s1 : ¬ v < 0 := by omega
   obtain ⟨q, hq⟩ : ∃ q, v / 65536 = q := ⟨_, rfl⟩
   have hq2 : Int.tdiv v 65536 = q := by rw [← hq]; exact Int.tdiv_eq_ediv_of_nonneg hv1
   have HQ : Hid (-40000 ≤ q ∧ q ≤ 40000) := by have := HV.out; unfold Hid; omega
   have hq3 : wrap64 q = q := by have := HQ.out; unfold wrap64; omega
   by_cases hr1 : v / 65536 + 32768 < 0
   ·rw [if_pos (.inl hr1)]
    rw [hq] at hr1
    have hq4 : wrap64 (q + 32768) = q + 32768 := by have := HV.out; have := HQ.out; unfold wrap64; omega
    clear hq
    go_enter Tryz.func28, Tryz.ntmps28
    go_wp2_with fail
    go_ret2
    exact ⟨Below.refl _ _, rfl⟩
   by_cases hr2 : (m : Int) ≤ v / 65536 + 32768
   ·rw [if_pos (.inr hr2)]
    rw [hq] at hr1 hr2
    have hq4 : wrap64 (q + 32768) = q + 32768 := by have := HV.out; have := HQ.out; unfold wrap64; omega
    clear hq
    go_enter Tryz.func28, Tryz.ntmps28
    go_wp2_with fail
    go_ret2
    exact ⟨Below.refl _ _, rfl⟩
   rw [if_neg (by omega)]
   rw [hq] at hr1 hr2 ⊢
   obtain ⟨k, hk⟩ := Int.eq_ofNat_of_zero_le (show 0 ≤ q + 32768 by omega)
   rw [hk] at hr1 hr2 ⊢
   have hq4 : wrap64 (q + 32768) = (k : Int) := by have := HV.out; have := HQ.out; rw [hk]; unfold wrap64; omega
   have hk1 : (k : Int) < (m : Int) := by omega
   have hk2 : (0 : Int) ≤ (k : Int) := by omega
   obtain ⟨P, hP⟩ := get_of (show k < Ps.length by have := HM.out; omega)
   have hPk : Ps.getD ((k : Int)).toNat ByteArray.empty = P := by rw [Int.toNat_natCast, List.getD_eq_getElem?_getD, hP]; rfl
   rw [hPk]
   rcases HL.out with h0 | ⟨lb, lo, rfl, _, hLL⟩
   ·rw [h0] at hP; simp at hP
   obtain ⟨ai, ci, hcell, hib⟩ := hLL k P hP
   have HIB := Lib.hid hib
   obtain ⟨z, HZ⟩ : ∃ z, Hid (P.size = z) := ⟨_, rfl⟩
   rw [HZ.out] at hcell
   clear hq hk hr1 hr2 hP hPk hLL hib
   suffices hS : Calls Tryz.prog 28 #[.slice (some ⟨lb, lo, none⟩) m lc, .slice (some ⟨g, off, none⟩) l c] w (fun e w' => e = .returned (.tuple #[.slice ai z ci, .bool true]) ∧ w = w') from hS.mono (by rintro e w' ⟨rfl, rfl⟩; exact ⟨Below.refl _ _, ai, ci, by rw [HZ.out], HIB.out⟩)
   clear HIB HB HM
   have hk3 : ¬ (m : Int) ≤ (k : Int) := by omega
   have hk4 : ¬ (k : Int) < 0 := by omega
   clear hk2
   go_enter Tryz.func28, Tryz.ntmps28
   go_wp2_with fail
   go_ret2
   exact ⟨rfl, rfl⟩
  have s1 : v < 0 := by omega
  clear hv1
  by_cases hr : Int.tmod v 65536 = 0
  ·obtain ⟨q, hq⟩ : ∃ q, v / 65536 = q := ⟨_, rfl⟩
   have hq2 : Int.tdiv v 65536 = q := by rw [← hq]; have := Int.mul_tdiv_add_tmod v 65536; have := HV.out; omega
   have HQ : Hid (-40000 ≤ q ∧ q ≤ 40000) := by have := HV.out; unfold Hid; omega
   have hq3 : wrap64 q = q := by have := HQ.out; unfold wrap64; omega
   by_cases hr1 : v / 65536 + 32768 < 0
   ·rw [if_pos (.inl hr1)]
    rw [hq] at hr1
    have hq4 : wrap64 (q + 32768) = q + 32768 := by have := HV.out; have := HQ.out; unfold wrap64; omega
    clear hq
    go_enter Tryz.func28, Tryz.ntmps28
    go_wp2_with fail
    go_ret2
    exact ⟨Below.refl _ _, rfl⟩
   by_cases hr2 : (m : Int) ≤ v / 65536 + 32768
   ·rw [if_pos (.inr hr2)]
    rw [hq] at hr1 hr2
    have hq4 : wrap64 (q + 32768) = q + 32768 := by have := HV.out; have := HQ.out; unfold wrap64; omega
    clear hq
    go_enter Tryz.func28, Tryz.ntmps28
    go_wp2_with fail
    go_ret2
    exact ⟨Below.refl _ _, rfl⟩
   rw [if_neg (by omega)]
   rw [hq] at hr1 hr2 ⊢
   obtain ⟨k, hk⟩ := Int.eq_ofNat_of_zero_le (show 0 ≤ q + 32768 by omega)
   rw [hk] at hr1 hr2 ⊢
   have hq4 : wrap64 (q + 32768) = (k : Int) := by have := HV.out; have := HQ.out; rw [hk]; unfold wrap64; omega
   have hk1 : (k : Int) < (m : Int) := by omega
   have hk2 : (0 : Int) ≤ (k : Int) := by omega
   obtain ⟨P, hP⟩ := get_of (show k < Ps.length by have := HM.out; omega)
   have hPk : Ps.getD ((k : Int)).toNat ByteArray.empty = P := by rw [Int.toNat_natCast, List.getD_eq_getElem?_getD, hP]; rfl
   rw [hPk]
   rcases HL.out with h0 | ⟨lb, lo, rfl, _, hLL⟩
   ·rw [h0] at hP; simp at hP
   obtain ⟨ai, ci, hcell, hib⟩ := hLL k P hP
   have HIB := Lib.hid hib
   obtain ⟨z, HZ⟩ : ∃ z, Hid (P.size = z) := ⟨_, rfl⟩
   rw [HZ.out] at hcell
   clear hq hk hr1 hr2 hP hPk hLL hib
   suffices hS : Calls Tryz.prog 28 #[.slice (some ⟨lb, lo, none⟩) m lc, .slice (some ⟨g, off, none⟩) l c] w (fun e w' => e = .returned (.tuple #[.slice ai z ci, .bool true]) ∧ w = w') from hS.mono (by rintro e w' ⟨rfl, rfl⟩; exact ⟨Below.refl _ _, ai, ci, by rw [HZ.out], HIB.out⟩)
   clear HIB HB HM
   have hk3 : ¬ (m : Int) ≤ (k : Int) := by omega
   have hk4 : ¬ (k : Int) < 0 := by omega
   clear hk2
   go_enter Tryz.func28, Tryz.ntmps28
   go_wp2_with fail
   go_ret2
   exact ⟨rfl, rfl⟩
  obtain ⟨q, hq⟩ : ∃ q, v / 65536 = q := ⟨_, rfl⟩
  obtain ⟨r, hr2'⟩ : ∃ r, Int.tmod v 65536 = r := ⟨_, rfl⟩
  rw [hr2'] at hr
  obtain ⟨q1, hq2⟩ : ∃ q1, Int.tdiv v 65536 = q1 := ⟨_, rfl⟩
  have HQ1 : Hid (q1 = q + 1 ∧ -70000 ≤ r ∧ r ≤ 70000) := by
   have e1 := Int.mul_tdiv_add_tmod v 65536
   have e1 := Int.mul_tdiv_add_tmod v 65536
   have e2 : Int.tmod v 65536 ≤ 0 := by have h := Int.neg_tmod (-v) 65536; rw [Int.neg_neg] at h; rw [h]; have := Int.tmod_nonneg 65536 (show 0 ≤ -v by omega); omega
   have e3 : -65536 < Int.tmod v 65536 := by have h := Int.neg_tmod (-v) 65536; rw [Int.neg_neg] at h; rw [h]; have := Int.tmod_lt_of_pos (-v) (show (0 : Int) < 65536 by decide); omega
   have := HV.out
   unfold Hid; omega
  have HQ : Hid (-40000 ≤ q ∧ q ≤ 40000) := by have := HV.out; unfold Hid; omega
  have hq3 : wrap64 q1 = q1 := by have := HQ.out; have := HQ1.out; unfold wrap64; omega
  have hq7 : wrap64 (q1 - 1) = q := by have := HQ.out; have := HQ1.out; unfold wrap64; omega
  have hr3 : (r != 0) = true := by simp; exact hr
  have hr4 : wrap64 r = r := by have := HQ1.out; unfold wrap64; omega
  clear hr
  by_cases hr1 : v / 65536 + 32768 < 0
  ·rw [if_pos (.inl hr1)]
   rw [hq] at hr1
   have hq4 : wrap64 (q + 32768) = q + 32768 := by have := HV.out; have := HQ.out; unfold wrap64; omega
   clear hq
   go_enter Tryz.func28, Tryz.ntmps28
   go_wp2_with fail
   go_ret2
   exact ⟨Below.refl _ _, rfl⟩
  by_cases hr2 : (m : Int) ≤ v / 65536 + 32768
  ·rw [if_pos (.inr hr2)]
   rw [hq] at hr1 hr2
   have hq4 : wrap64 (q + 32768) = q + 32768 := by have := HV.out; have := HQ.out; unfold wrap64; omega
   clear hq
   go_enter Tryz.func28, Tryz.ntmps28
   go_wp2_with fail
   go_ret2
   exact ⟨Below.refl _ _, rfl⟩
  rw [if_neg (by omega)]
  rw [hq] at hr1 hr2 ⊢
  obtain ⟨k, hk⟩ := Int.eq_ofNat_of_zero_le (show 0 ≤ q + 32768 by omega)
  rw [hk] at hr1 hr2 ⊢
  have hq4 : wrap64 (q + 32768) = (k : Int) := by have := HV.out; have := HQ.out; rw [hk]; unfold wrap64; omega
  have hk1 : (k : Int) < (m : Int) := by omega
  have hk2 : (0 : Int) ≤ (k : Int) := by omega
  obtain ⟨P, hP⟩ := get_of (show k < Ps.length by have := HM.out; omega)
  have hPk : Ps.getD ((k : Int)).toNat ByteArray.empty = P := by rw [Int.toNat_natCast, List.getD_eq_getElem?_getD, hP]; rfl
  rw [hPk]
  rcases HL.out with h0 | ⟨lb, lo, rfl, _, hLL⟩
  ·rw [h0] at hP; simp at hP
  obtain ⟨ai, ci, hcell, hib⟩ := hLL k P hP
  have HIB := Lib.hid hib
  obtain ⟨z, HZ⟩ : ∃ z, Hid (P.size = z) := ⟨_, rfl⟩
  rw [HZ.out] at hcell
  clear hq hk hr1 hr2 hP hPk hLL hib
  suffices hS : Calls Tryz.prog 28 #[.slice (some ⟨lb, lo, none⟩) m lc, .slice (some ⟨g, off, none⟩) l c] w (fun e w' => e = .returned (.tuple #[.slice ai z ci, .bool true]) ∧ w = w') from hS.mono (by rintro e w' ⟨rfl, rfl⟩; exact ⟨Below.refl _ _, ai, ci, by rw [HZ.out], HIB.out⟩)
  clear HIB HB HM
  have hk3 : ¬ (m : Int) ≤ (k : Int) := by omega
  have hk4 : ¬ (k : Int) < 0 := by omega
  clear hk2
  go_enter Tryz.func28, Tryz.ntmps28
  go_wp2_with fail
  go_ret2
  exact ⟨rfl, rfl⟩
end Go.Proofs.YtklenppldblbdaaGreat
