/-
  What knot of the pen answers.
-/
import Derived.Test.YtklenppldblbdaaTf
import Derived.Deep.RegionHeld3
import Derived.Deep.RegionWith
import Derived.Deep.DeepCutAuto
import Derived.Deep.CutBlock
import Derived.Test.YtklenppldblbdaaReg
namespace Go.Proofs.Ytklenppldblbdaa
open Go.RowKit Go.PlainAid
set_option linter.unusedSimpArgs false
set_option linter.unusedVariables false

/-- The outline's bounds. -/
def PenFit (s : MS) : Prop := s.knots ≤ 4096 ∧ s.out.length ≤ 256 ∧ (s.out.map List.length).sum = s.knots

theorem sum_mem : ∀ (l : List Nat) (x : Nat), x ∈ l → x ≤ l.sum
  | [], x, h => by simp at h
  | a :: l, x, h => by
    rw [List.sum_cons]
    rcases List.mem_cons.1 h with h | h
    · omega
    · have := sum_mem l x h; omega

theorem PenFit.len {s : MS} (h : PenFit s) {c : List Kn} (hc : c ∈ s.out) : c.length ≤ 4096 := by
  have := sum_mem (s.out.map List.length) c.length (List.mem_map.2 ⟨c, hc, rfl⟩)
  have := h.1; have := h.2.2; omega

theorem addF_comm (f a b c d : Int) : addF (addF f a b) c d = addF (addF f c d) a b := by
  unfold addF
  by_cases h1 : (sumOr a b).2 ≠ 0 <;> by_cases h2 : (sumOr c d).2 ≠ 0 <;> by_cases h3 : f = 0 <;> simp [h1, h2, h3]

theorem sumOr_bound (a b : Int) : -2147483647 ≤ (sumOr a b).1 ∧ (sumOr a b).1 ≤ 2147483647 := by
  unfold sumOr
  split
  · rename_i h
    exact fixB_true (Bool.and_eq_true_iff.1 h).2
  · simp

set_option maxRecDepth 20000 in
set_option maxHeartbeats 2000000 in
theorem knot_yes (B M F : Nat) (L : Lay) (s : MS) (dx dy k : Int) (w : World) (h : Mach w B M F L s) (hf : s.fault = 0) (ho : 0 < s.out.length) (hk : s.knots < 4096) (hp : PenFit s) :
    Calls Try.prog 76 #[.pointer (some ⟨M, 0, none⟩), .int .i64 dx, .int .i64 dy, .int .i64 k] w (PenPost B M F L (s.knot dx dy k) (.tuple #[]) w) := by
  have HE : Hid (s.knot dx dy k = { s with x := (sumOr s.x dx).1, y := (sumOr s.y dy).1, fault := addF (addF 0 s.x dx) s.y dy, out := snocLast s.out ⟨nearM (sumOr s.x dx).1, nearM (sumOr s.y dy).1, k⟩, knots := s.knots + 1 }) := by
    unfold Hid MS.knot
    rw [if_neg (by simp [hf]), if_neg (by omega), if_neg (by omega)]
  rw [HE.out]
  clear HE
  have H := Lib.hid h
  have HD := Lib.hid (h.below (Below.refl _ _).drew)
  have c0 := h.c0
  have c1 := h.c1
  have c2 := h.c2
  have c3 := h.c3
  have c4 := h.c4
  rw [hf] at c4
  have HF := Lib.hid hf
  have HO := Lib.hid ho
  have HK := Lib.hid hk
  have HP := Lib.hid hp
  have hknn : ¬ s.knots = 4096 := by omega
  obtain ⟨n, HN⟩ : ∃ n, Hid (s.out.length = n) := ⟨_, rfl⟩
  rw [HN.out] at c0 ho
  have z1 : ((n : Int) == 0) = false := by simp; omega
  have z2 : ((s.knots : Int) == 4096) = false := by simp; omega
  clear h hf hk hp HK
  go_enter Try.func76, Try.ntmps76
  go_upto_region 0 with (fail)
  go_cut [] (fun wx => Hid (Mach wx B M F L { s with x := (sumOr s.x dx).1, y := (sumOr s.y dy).1, fault := addF (addF 0 s.x dx) s.y dy }) ∧ Hid (Below B w wx) ∧ Hid (IntKeep w wx))
  case first =>
    go_region_with (first
        | (go_at_call 85; ((with_reducible refine (add_c B M F L s s.x dx _ HD.out).mono ?_); rintro e w2 ⟨rfl, h2, hb2, hk2⟩; have q2 := h2.c2; have q3 := h2.c3; have HX := Lib.hid h2; have HBX := Lib.hid hb2; have HKX := Lib.hid hk2; clear h2 hb2 hk2))
        | (go_at_call 85; ((with_reducible refine (add_c B M F L _ s.y dy _ HX.out).mono ?_); rintro e w3 ⟨rfl, h2, hb2, hk2⟩; have r2 := h2.c2; have r3 := h2.c3; have r4 := h2.f 2; have r5 := h2.f 3; have HXY := Lib.hid h2; have HBY := Lib.hid hb2; have HKY := Lib.hid hk2; clear h2 hb2 hk2)))
    all_goals (
      have HZ := Lib.hid ((HXY.out.setX (sumOr s.x dx).1).setY (sumOr s.y dy).1)
      rw [HF.out] at HZ
      have HBZ : Hid (Below B w ((w3.setCell ⟨M, 2, none⟩ (.int .i64 (sumOr s.x dx).1)).setCell ⟨M, 3, none⟩ (.int .i64 (sumOr s.y dy).1))) := bel_set (bel_set (((Below.refl B w).drew.trans HBX.out).trans HBY.out) H.out.mB _) H.out.mB _
      have HKZ : Hid (IntKeep w ((w3.setCell ⟨M, 2, none⟩ (.int .i64 (sumOr s.x dx).1)).setCell ⟨M, 3, none⟩ (.int .i64 (sumOr s.y dy).1))) := (((keep_bel (Below.refl w.heap.size w).drew).trans HKX.out).trans HKY.out).trans (((HXY.out.bset 2 _).2).trans (((HXY.out.setX (sumOr s.x dx).1).bset 3 _).2))
      go_wp2_with fail
      go_meet
      exact ⟨HZ, HBZ, HKZ⟩)
  case rest =>
    obtain ⟨HZ, HBZ, HKZ⟩ := hcut
    clear c0 c1 c2 c3 c4 z1 z2 hknn HD
    obtain ⟨m, rfl⟩ : ∃ m, n = m + 1 := ⟨n - 1, by omega⟩
    obtain ⟨G, hG, hGB, hGl, hGc⟩ := own_some HZ.out.out.own HO.out
    obtain ⟨c, hc⟩ := get_of (show s.out.length - 1 < s.out.length by have := HO.out; omega)
    obtain ⟨ai, ci, hv, hown⟩ := HZ.out.out.conts _ c hc
    have hor := HZ.out.out.own
    rw [hG] at hor
    have dg := own_lies hor _ _ hv
    rw [HN.out, Nat.add_sub_cancel, Nat.zero_add] at dg
    have d0' := HZ.out.c0
    rw [hG] at d0'
    have d0 : wc.cell? ⟨M, 0, none⟩ = some (.slice (some ⟨G, 0, none⟩) (m + 1) L.oc) := by rw [← HN.out]; exact d0'
    clear d0'
    have d2 := HZ.out.c2
    have d3 := HZ.out.c3
    have HXB : Hid (-2147483648 ≤ (sumOr s.x dx).1 ∧ (sumOr s.x dx).1 ≤ 2147483648) := by have := sumOr_bound s.x dx; unfold Hid; omega
    have HYB : Hid (-2147483648 ≤ (sumOr s.y dy).1 ∧ (sumOr s.y dy).1 ≤ 2147483648) := by have := sumOr_bound s.y dy; unfold Hid; omega
    have HCL : Hid (c.length ≤ 4096) := HP.out.len (List.mem_of_getElem? hc)
    have HZd := Lib.hid (HZ.out.below (Below.refl _ _).drew)
    have HBd := Lib.hid HBZ.out.drew
    have HKd := Lib.hid (HKZ.out.trans (keep_bel (Below.refl wc.heap.size wc).drew))
    have HG := Lib.hid hG
    have HC := Lib.hid hc
    have HV := Lib.hid hv
    obtain ⟨q, HQ⟩ : ∃ q, Hid (c.length = q) := ⟨_, rfl⟩
    rw [HQ.out] at dg
    have hm : m ≤ 255 := by have h1 := HP.out.2.1; have h2 := HN.out; omega
    have hGl2 : (0 : Int) ≤ (m : Int) := by omega
    have hGl3 : (m : Int) < ((m + 1 : Nat) : Int) := by omega
    clear hGB hGl hor hown hc hv hG ho HBZ HKZ HZ
    simp only at d2 d3
    obtain ⟨oc, HOC⟩ : ∃ oc, Hid (L.oc = oc) := ⟨_, rfl⟩
    rw [HOC.out] at d0 hGc
    obtain ⟨x, HX⟩ : ∃ x, Hid ((sumOr s.x dx).1 = x) := ⟨_, rfl⟩
    obtain ⟨y, HY⟩ : ∃ y, Hid ((sumOr s.y dy).1 = y) := ⟨_, rfl⟩
    rw [HX.out] at d2 HXB HZd
    rw [HY.out] at d3 HYB HZd
    go_wp2_with fail
    refine wp_region_upto (fun V => V.cell? ⟨M, 0, none⟩ = some (.slice (some ⟨G, 0, none⟩) (m + 1) oc) ∧ V.cell? ⟨M, 2, none⟩ = some (.int .i64 x) ∧ V.cell? ⟨M, 3, none⟩ = some (.int .i64 y) ∧ V.cell? ⟨G, m, none⟩ = some (.slice ai q ci)) 27 (by kernel_rfl) ⟨d0, d2, d3, dg⟩ (fun hH => ?_)
    refine wpUpto_take (i := 0) (v := (.pointer (some ⟨M, 0, none⟩))) rfl (by kernel_rfl) (by kernel_rfl) (by kernel_rfl) (by kernel_rfl) (fun _ _ _ h => h) (Or.inl ⟨by rfl, fun V hV => by go_simp⟩) hH ?_
    try simp only [Act.put, List.setIfInBounds_toArray, List.set_cons_zero, List.set_cons_succ]
    refine wpUpto_take (i := 1) (v := (.pointer (some ⟨M, 0, none⟩))) rfl (by kernel_rfl) (by kernel_rfl) (by kernel_rfl) (by kernel_rfl) (fun _ _ _ h => h) (Or.inl ⟨by rfl, fun V hV => by go_simp⟩) hH ?_
    try simp only [Act.put, List.setIfInBounds_toArray, List.set_cons_zero, List.set_cons_succ]
    refine wpUpto_take (i := 2) (v := (.pointer (some ⟨M, 0, none⟩))) rfl (by kernel_rfl) (by kernel_rfl) (by kernel_rfl) (by kernel_rfl) (fun _ _ _ h => h) (Or.inl ⟨by rfl, fun V hV => by go_simp⟩) hH ?_
    try simp only [Act.put, List.setIfInBounds_toArray, List.set_cons_zero, List.set_cons_succ]
    refine wpUpto_take (i := 3) (v := (.slice (some ⟨G, 0, none⟩) (m + 1) oc)) rfl (by kernel_rfl) (by kernel_rfl) (by kernel_rfl) (by kernel_rfl) (fun _ _ _ h => h) (Or.inl ⟨by rfl, fun V hV => by obtain ⟨h0, h1, h2, h3⟩ := hV; go_simp⟩) hH ?_
    try simp only [Act.put, List.setIfInBounds_toArray, List.set_cons_zero, List.set_cons_succ]
    refine wpUpto_take (i := 4) (v := (.int .i64 (m : Int))) rfl (by kernel_rfl) (by kernel_rfl) (by kernel_rfl) (by kernel_rfl) (fun _ _ _ h => h) (Or.inl ⟨by rfl, fun V hV => by go_simp⟩) hH ?_
    try simp only [Act.put, List.setIfInBounds_toArray, List.set_cons_zero, List.set_cons_succ]
    refine wpUpto_take (i := 5) (v := (.pointer (some ⟨M, 0, none⟩))) rfl (by kernel_rfl) (by kernel_rfl) (by kernel_rfl) (by kernel_rfl) (fun _ _ _ h => h) (Or.inl ⟨by rfl, fun V hV => by go_simp⟩) hH ?_
    try simp only [Act.put, List.setIfInBounds_toArray, List.set_cons_zero, List.set_cons_succ]
    refine wpUpto_take (i := 6) (v := (.pointer (some ⟨M, 0, none⟩))) rfl (by kernel_rfl) (by kernel_rfl) (by kernel_rfl) (by kernel_rfl) (fun _ _ _ h => h) (Or.inl ⟨by rfl, fun V hV => by go_simp⟩) hH ?_
    try simp only [Act.put, List.setIfInBounds_toArray, List.set_cons_zero, List.set_cons_succ]
    refine wpUpto_take (i := 7) (v := (.pointer (some ⟨M, 0, none⟩))) rfl (by kernel_rfl) (by kernel_rfl) (by kernel_rfl) (by kernel_rfl) (fun _ _ _ h => h) (Or.inl ⟨by rfl, fun V hV => by go_simp⟩) hH ?_
    try simp only [Act.put, List.setIfInBounds_toArray, List.set_cons_zero, List.set_cons_succ]
    refine wpUpto_take (i := 8) (v := (.slice (some ⟨G, 0, none⟩) (m + 1) oc)) rfl (by kernel_rfl) (by kernel_rfl) (by kernel_rfl) (by kernel_rfl) (fun _ _ _ h => h) (Or.inl ⟨by rfl, fun V hV => by obtain ⟨h0, h1, h2, h3⟩ := hV; go_simp⟩) hH ?_
    try simp only [Act.put, List.setIfInBounds_toArray, List.set_cons_zero, List.set_cons_succ]
    refine wpUpto_take (i := 9) (v := (.int .i64 (m : Int))) rfl (by kernel_rfl) (by kernel_rfl) (by kernel_rfl) (by kernel_rfl) (fun _ _ _ h => h) (Or.inl ⟨by rfl, fun V hV => by go_simp⟩) hH ?_
    try simp only [Act.put, List.setIfInBounds_toArray, List.set_cons_zero, List.set_cons_succ]
    refine wpUpto_take (i := 10) (v := (.pointer (some ⟨G, m, none⟩))) rfl (by kernel_rfl) (by kernel_rfl) (by kernel_rfl) (by kernel_rfl) (fun _ _ _ h => h) (Or.inl ⟨by rfl, fun V hV => by go_simp; intro h; omega⟩) hH ?_
    try simp only [Act.put, List.setIfInBounds_toArray, List.set_cons_zero, List.set_cons_succ]
    refine wpUpto_take (i := 11) (v := (.slice ai q ci)) rfl (by kernel_rfl) (by kernel_rfl) (by kernel_rfl) (by kernel_rfl) (fun _ _ _ h => h) (Or.inl ⟨by rfl, fun V hV => by obtain ⟨h0, h1, h2, h3⟩ := hV; go_simp⟩) hH ?_
    try simp only [Act.put, List.setIfInBounds_toArray, List.set_cons_zero, List.set_cons_succ]
    refine wpUpto_take (i := 12) (v := (.pointer (some ⟨M, 0, none⟩))) rfl (by kernel_rfl) (by kernel_rfl) (by kernel_rfl) (by kernel_rfl) (fun _ _ _ h => h) (Or.inl ⟨by rfl, fun V hV => by go_simp⟩) hH ?_
    try simp only [Act.put, List.setIfInBounds_toArray, List.set_cons_zero, List.set_cons_succ]
    refine wpUpto_take (i := 13) (v := (.pointer (some ⟨M, 0, none⟩))) rfl (by kernel_rfl) (by kernel_rfl) (by kernel_rfl) (by kernel_rfl) (fun _ _ _ h => h) (Or.inl ⟨by rfl, fun V hV => by go_simp⟩) hH ?_
    try simp only [Act.put, List.setIfInBounds_toArray, List.set_cons_zero, List.set_cons_succ]
    refine wpUpto_take (i := 14) (v := (.pointer (some ⟨M, 2, none⟩))) rfl (by kernel_rfl) (by kernel_rfl) (by kernel_rfl) (by kernel_rfl) (fun _ _ _ h => h) (Or.inl ⟨by rfl, fun V hV => by go_simp⟩) hH ?_
    try simp only [Act.put, List.setIfInBounds_toArray, List.set_cons_zero, List.set_cons_succ]
    refine wpUpto_take (i := 15) (v := (.int .i64 x)) rfl (by kernel_rfl) (by kernel_rfl) (by kernel_rfl) (by kernel_rfl) (fun _ _ _ h => h) (Or.inl ⟨by rfl, fun V hV => by obtain ⟨h0, h1, h2, h3⟩ := hV; go_simp⟩) hH ?_
    try simp only [Act.put, List.setIfInBounds_toArray, List.set_cons_zero, List.set_cons_succ]
    refine wpUpto_take (i := 17) (v := (.pointer (some ⟨M, 0, none⟩))) rfl (by kernel_rfl) (by kernel_rfl) (by kernel_rfl) (by kernel_rfl) (fun _ _ _ h => h) (Or.inl ⟨by rfl, fun V hV => by go_simp⟩) hH ?_
    try simp only [Act.put, List.setIfInBounds_toArray, List.set_cons_zero, List.set_cons_succ]
    refine wpUpto_take (i := 18) (v := (.pointer (some ⟨M, 0, none⟩))) rfl (by kernel_rfl) (by kernel_rfl) (by kernel_rfl) (by kernel_rfl) (fun _ _ _ h => h) (Or.inl ⟨by rfl, fun V hV => by go_simp⟩) hH ?_
    try simp only [Act.put, List.setIfInBounds_toArray, List.set_cons_zero, List.set_cons_succ]
    refine wpUpto_take (i := 19) (v := (.pointer (some ⟨M, 3, none⟩))) rfl (by kernel_rfl) (by kernel_rfl) (by kernel_rfl) (by kernel_rfl) (fun _ _ _ h => h) (Or.inl ⟨by rfl, fun V hV => by go_simp⟩) hH ?_
    try simp only [Act.put, List.setIfInBounds_toArray, List.set_cons_zero, List.set_cons_succ]
    refine wpUpto_take (i := 20) (v := (.int .i64 y)) rfl (by kernel_rfl) (by kernel_rfl) (by kernel_rfl) (by kernel_rfl) (fun _ _ _ h => h) (Or.inl ⟨by rfl, fun V hV => by obtain ⟨h0, h1, h2, h3⟩ := hV; go_simp⟩) hH ?_
    try simp only [Act.put, List.setIfInBounds_toArray, List.set_cons_zero, List.set_cons_succ]
    refine wpUpto_take (i := 22) (v := (.int .i64 k)) rfl (by kernel_rfl) (by kernel_rfl) (by kernel_rfl) (by kernel_rfl) (fun _ _ _ h => h) (Or.inl ⟨by rfl, fun V hV => by go_simp⟩) hH ?_
    try simp only [Act.put, List.setIfInBounds_toArray, List.set_cons_zero, List.set_cons_succ]
    refine wpUpto_one (i := 16) (by kernel_rfl) rfl (fun K hK => ?_)
    go_simp
    refine (nearest_c x wc.drew HXB.out.1 HXB.out.2).mono ?_
    rintro e w6 ⟨rfl, hb6⟩
    have hH6 : w6.cell? ⟨M, 0, none⟩ = some (.slice (some ⟨G, 0, none⟩) (m + 1) oc) ∧ w6.cell? ⟨M, 2, none⟩ = some (.int .i64 x) ∧ w6.cell? ⟨M, 3, none⟩ = some (.int .i64 y) ∧ w6.cell? ⟨G, m, none⟩ = some (.slice ai q ci) := ⟨keepC hb6 hH.1, keepC hb6 hH.2.1, keepC hb6 hH.2.2.1, keepC hb6 hH.2.2.2⟩
    refine hK.out _ _ (fun _ => hH6) ?_
    replace hH := hH6
    have HZ6 := Lib.hid (HZd.out.below hb6)
    have HB6 := Lib.hid (HBd.out.trans (hb6.mono HZd.out.le))
    have HK6 := Lib.hid (HKd.out.trans (keep_bel hb6))
    clear hb6 hH6
    clear hK K
    try simp only [Act.put, List.setIfInBounds_toArray, List.set_cons_zero, List.set_cons_succ]
    refine wpUpto_one (i := 21) (by kernel_rfl) rfl (fun K hK => ?_)
    go_simp
    refine (nearest_c y w6 HYB.out.1 HYB.out.2).mono ?_
    rintro e w7 ⟨rfl, hb7⟩
    have hH7 : w7.cell? ⟨M, 0, none⟩ = some (.slice (some ⟨G, 0, none⟩) (m + 1) oc) ∧ w7.cell? ⟨M, 2, none⟩ = some (.int .i64 x) ∧ w7.cell? ⟨M, 3, none⟩ = some (.int .i64 y) ∧ w7.cell? ⟨G, m, none⟩ = some (.slice ai q ci) := ⟨keepC hb7 hH.1, keepC hb7 hH.2.1, keepC hb7 hH.2.2.1, keepC hb7 hH.2.2.2⟩
    refine hK.out _ _ (fun _ => hH7) ?_
    replace hH := hH7
    have HZ7 := Lib.hid (HZ6.out.below hb7)
    have HB7 := Lib.hid (HB6.out.trans (hb7.mono HZ6.out.le))
    have HK7 := Lib.hid (HK6.out.trans (keep_bel hb7))
    clear hb7 hH7
    clear hK K
    try simp only [Act.put, List.setIfInBounds_toArray, List.set_cons_zero, List.set_cons_succ]
    refine wpUpto_one (i := 23) (by kernel_rfl) rfl (fun K hK => ?_)
    go_simp
    refine hK.out _ _ (fun _ => hH) ?_
    clear hK K
    try simp only [Act.put, List.setIfInBounds_toArray, List.set_cons_zero, List.set_cons_succ]
    refine wpUpto_one (i := 24) (by kernel_rfl) rfl (fun K hK => ?_)
    go_simp
    have hb8 : Below w7.heap.size w7 (w7.alloc (.cells #[.int .i64 (nearM x), .int .i64 (nearM y), .int .i64 k] 38)) := (Below.refl _ _).alloc (Nat.le_refl _) _
    have hH8 : (w7.alloc (.cells #[.int .i64 (nearM x), .int .i64 (nearM y), .int .i64 k] 38)).cell? ⟨M, 0, none⟩ = some (.slice (some ⟨G, 0, none⟩) (m + 1) oc) ∧ (w7.alloc (.cells #[.int .i64 (nearM x), .int .i64 (nearM y), .int .i64 k] 38)).cell? ⟨M, 2, none⟩ = some (.int .i64 x) ∧ (w7.alloc (.cells #[.int .i64 (nearM x), .int .i64 (nearM y), .int .i64 k] 38)).cell? ⟨M, 3, none⟩ = some (.int .i64 y) ∧ (w7.alloc (.cells #[.int .i64 (nearM x), .int .i64 (nearM y), .int .i64 k] 38)).cell? ⟨G, m, none⟩ = some (.slice ai q ci) := ⟨keepC hb8 hH.1, keepC hb8 hH.2.1, keepC hb8 hH.2.2.1, keepC hb8 hH.2.2.2⟩
    refine hK.out _ _ (fun _ => hH8) ?_
    replace hH := hH8
    have HZ8 := Lib.hid (HZ7.out.below hb8)
    have HB8 := Lib.hid (HB7.out.trans (hb8.mono HZ7.out.le))
    have HK8 := Lib.hid (HK7.out.trans (keep_bel hb8))
    clear hb8 hH8
    clear hK K
    try simp only [Act.put, List.setIfInBounds_toArray, List.set_cons_zero, List.set_cons_succ]
    have HOW : Hid ((w7.alloc (.cells #[.int .i64 (nearM x), .int .i64 (nearM y), .int .i64 k] 38)).ownsRow B 38 3 (.slice ai q ci) q (c.flatMap clK)) := by have h1 := HZ8.out.out.conts _ c HC.out; obtain ⟨a9, c9, h2, h3⟩ := h1; rw [HV.out] at h2; simp only [Option.some.injEq, Value.slice.injEq] at h2; obtain ⟨rfl, _, rfl⟩ := h2; rw [HQ.out] at h3; exact h3
    have HQL : Hid (q ≤ 4096) := by have h1 := HCL.out; have h2 := HQ.out; unfold Hid; omega
    refine wpUpto_one (i := 25) (by kernel_rfl) rfl (fun K hK => ?_)
    refine step_appA elK rfl _ _ rfl (w7.alloc (.cells #[.int .i64 (nearM x), .int .i64 (nearM y), .int .i64 k] 38)) B ai q ci (c.flatMap clK) w7.heap.size 1 1 (clK ⟨nearM x, nearM y, k⟩) rfl rfl HOW.out rfl lies_new (by intro u hu; exact clK_one (L := [⟨nearM x, nearM y, k⟩]) u (by simpa using hu)) (by decide) (by have := HQL.out; omega) (by have := HQL.out; omega) HZ8.out.le ?_
    intro g9 c9 w9 ho9 hg9 hat9
    have ht9 := typ_own HOW.out
    have hor9 := own_chg HZ8.out.out.own hg9 ht9 (by decide)
    rw [HG.out] at hor9
    have hv9 := own_lies hor9 _ _ HV.out
    rw [HN.out, Nat.add_sub_cancel, Nat.zero_add, HQ.out] at hv9
    have hm9 := blk_chg HZ8.out.mem hg9 ht9 (by decide)
    have hH9 : w9.cell? ⟨M, 0, none⟩ = some (.slice (some ⟨G, 0, none⟩) (m + 1) oc) ∧ w9.cell? ⟨M, 2, none⟩ = some (.int .i64 x) ∧ w9.cell? ⟨M, 3, none⟩ = some (.int .i64 y) ∧ w9.cell? ⟨G, m, none⟩ = some (.slice ai q ci) := ⟨by have := blk_cell hm9 0 (.slice L.oa s.out.length L.oc) rfl; rw [HG.out, HOC.out, HN.out] at this; exact this, blk_cell hm9 2 _ rfl, blk_cell hm9 3 _ rfl, hv9⟩
    have hfz9 : w9.frozen? ⟨G, m, none⟩ = false := by rcases hor9.2 with ⟨hx, _⟩ | ⟨gg, cap, cur, hx, hb, hgg, _⟩; { cases hx }; { cases hx; exact blk_free hgg m }
    have HZ10 := Lib.hid (Mach.knotted (k := ⟨nearM x, nearM y, k⟩) HZ8.out HC.out HV.out HG.out (by rw [HQ.out]; exact ho9) (by rw [HQ.out]; exact hg9) (by rw [HQ.out]; exact hat9))
    rw [HQ.out, HN.out, Nat.add_sub_cancel] at HZ10
    have hB9 : B ≤ g9 := (ownsRow_cap ho9).2.1
    have HB10 : Hid (Below B w (w9.setCell ⟨G, m, none⟩ (.slice (some ⟨g9, 0, none⟩) (q + 1) c9))) := by
      refine bel_set (Below.trans HB8.out ?_) (ownsRow_cap hor9).2.1 _
      refine ⟨hg9.os, hg9.tape, hg9.output, hg9.size, fun j hj => hg9.block j (Nat.lt_of_lt_of_le hj HZ8.out.le) (fun e => ?_)⟩
      have := (HOW.out.lt j e.symm).1
      omega
    have HK10 : Hid (IntKeep w (w9.setCell ⟨G, m, none⟩ (.slice (some ⟨g9, 0, none⟩) (q + 1) c9))) := (HK8.out.trans (keep_chg hg9 ht9 (by decide))).trans (keep_chg (grown_set w9 G m _) (typ_own hor9) (by decide))
    clear ho9 hg9 hat9 ht9 hor9 hv9 hm9
    refine hK.out _ _ (fun _ => hH9) ?_
    replace hH := hH9
    clear hK K hH9
    try simp only [Act.put, List.setIfInBounds_toArray, List.set_cons_zero, List.set_cons_succ]
    refine wpUpto_one (i := 26) (by kernel_rfl) rfl (fun K hK => ?_)
    go_simp
    rw [if_pos (show (m : Int) < (m : Int) + 1 by omega)]
    go_simp
    refine hK.out _ _ (fun _ => hH) ?_
    clear hK K
    try simp only [Act.put, List.setIfInBounds_toArray, List.set_cons_zero, List.set_cons_succ]
    refine wpUpto_one (i := 27) (by kernel_rfl) rfl (fun K hK => ?_)
    go_simp
    refine hK.out _ _ (fun h => absurd rfl h) ?_
    clear hK K
    try simp only [Act.put, List.setIfInBounds_toArray, List.set_cons_zero, List.set_cons_succ]
    refine wpUpto_done (by kernel_rfl) ?_ _
    generalize w9.setCell ⟨G, m, none⟩ (.slice (some ⟨g9, 0, none⟩) (q + 1) c9) = w10 at *
    have e1 := HZ10.out.c1
    have e2 := HZ10.out.f 1
    simp only at e1
    have HZ11 := Lib.hid (HZ10.out.setKnots (s.knots + 1))
    have hkn : s.knots ≤ 4096 := HP.out.1
    have HW : Hid (wrap64 ((s.knots : Int) + 1) = ((s.knots + 1 : Nat) : Int)) := by unfold Hid wrap64; omega
    have HBF := Lib.hid (bel_set HB10.out H.out.mB (o := 1) (.int .i64 ((s.knots + 1 : Nat) : Int)))
    have HKF := Lib.hid (HK10.out.trans (HZ10.out.bset 1 (.int .i64 ((s.knots + 1 : Nat) : Int))).2)
    clear hH d0 d2 d3 dg HZ10 HB10 HK10
    go_wp2_with fail
    go_end0
    rw [HX.out, HY.out]
    exact ⟨rfl, ⟨_, _, _, HZ11.out⟩, HBF.out, HKF.out⟩

end Go.Proofs.Ytklenppldblbdaa
