import Derived.Test.YtklenppldblbdaaGreatK12
set_option linter.unusedSimpArgs false
set_option linter.unusedVariables false
namespace Go.Proofs.YtklenppldblbdaaGreat
open Go.RowKit Go.PlainAid
def clS (d : Stp) : List Value := [.int .i64 d.1, .int .i64 d.2.1, .int .i64 d.2.2]
theorem clS_length (d : Stp) : (clS d).length = 3 := rfl
theorem clS_one {L : List Stp} : ∀ u ∈ L.flatMap clS, u.oneCell' = true := by
 intro u hu
 obtain ⟨d, _, hd⟩ := List.mem_flatMap.1 hu
 unfold clS at hd
 simp at hd
 rcases hd with rfl | rfl | rfl <;> rfl
theorem elA : ElT 107 112 3 24 := ⟨Tryz.underlying107, by decide, .agg #[.int .i64 0, .int .i64 0, .int .i64 0], by kernel_rfl, rfl⟩
def PathAt (w : World) (B g c : Nat) (p : List Stp) : Prop := w.ownsRow B 112 3 (.slice (some ⟨g, 0, none⟩) p.length c) p.length (p.flatMap clS)
def PathPost (p : List Stp) (b : Bool) (w : World) (e : Ending) (w' : World) : Prop :=
 ∃ g c, e = .returned (.tuple #[.slice (some ⟨g, 0, none⟩) p.length c, .bool b]) ∧ PathAt w' w.heap.size g c p ∧ Below w.heap.size w w'
theorem lines_len : ∀ (l : List Int), (linesD l).length ≤ l.length
 | a :: b :: r => by have := lines_len r; simp [linesD]; omega
 | [] => by simp [linesD]
 | [_] => by simp [linesD]
theorem drop_two {l : List Int} {i : Nat} {x y : Int} (hx : l[i]? = some x) (hy : l[i + 1]? = some y) : l.drop i = x :: y :: l.drop (i + 2) := by
 have h1 := (List.getElem?_eq_some_iff.1 hx)
 have h2 := (List.getElem?_eq_some_iff.1 hy)
 obtain ⟨a1, rfl⟩ := h1
 obtain ⟨a2, rfl⟩ := h2
 rw [List.drop_eq_getElem_cons a1, List.drop_eq_getElem_cons a2]
theorem lines_short : ∀ {l : List Int}, l.length ≤ 1 → linesD l = []
 | [], _ => rfl
 | [_], _ => rfl
 | _ :: _ :: _, h => by simp at h
theorem drop_six {l : List Int} {i : Nat} {x0 x1 x2 x3 x4 x5 : Int} (h0 : l[i]? = some x0) (h1 : l[i + 1]? = some x1) (h2 : l[i + 2]? = some x2) (h3 : l[i + 3]? = some x3) (h4 : l[i + 4]? = some x4) (h5 : l[i + 5]? = some x5) :
 l.drop i = x0 :: x1 :: x2 :: x3 :: x4 :: x5 :: l.drop (i + 6) := by
 rw [drop_two h0 h1, drop_two (i := i + 2) h2 h3, drop_two (i := i + 4) h4 h5]
theorem curv_short : ∀ {l : List Int}, l.length ≤ 5 → curvD l = []
 | [], _ => rfl
 | [_], _ => rfl
 | [_, _], _ => rfl
 | [_, _, _], _ => rfl
 | [_, _, _, _], _ => rfl
 | [_, _, _, _, _], _ => rfl
 | _ :: _ :: _ :: _ :: _ :: _ :: _, h => by simp at h
set_option maxRecDepth 20000 in
set_option maxHeartbeats 4000000 in
theorem steps5_d (l : List Int) (a : Option Addr) (c : Nat) (w : World) (ho : Opds w l a) (hn : l.length ≤ 1000) (hl : l.length ≤ c) :
 Calls Tryz.prog 43 #[.int .i64 5, .slice a l.length c] w (PathPost (linesD l) (stepsD 5 l).2 w) := by
 obtain ⟨n, HN⟩ : ∃ n, Hid (l.length = n) := ⟨_, rfl⟩
 have HO := Lib.hid ho
 have HNB : Hid (n ≤ 1000 ∧ n ≤ c) := by have := HN.out; unfold Hid; omega
 have hb : (stepsD 5 l).2 = (decide (2 ≤ l.length) && decide (l.length % 2 = 0)) := rfl
 rw [hb, HN.out]
 obtain ⟨pd, HPD⟩ : ∃ pd, Hid (linesD l = pd) := ⟨_, rfl⟩
 rw [HPD.out]
 have HP0 : Hid (pd = [] ++ linesD (l.drop 0)) := HPD.out.symm
 have HL0 : Hid ((w.alloc (.cells #[] 112)).ownsRow w.heap.size 112 3 (.slice (some ⟨w.heap.size, 0, none⟩) 0 0) 0 []) := World.ownsRow_lit (base := w.heap.size) (e := 112) (size := 3) w #[] 0 (Nat.le_refl _) (by decide) rfl
 have HB0 : Hid (Below w.heap.size w (w.alloc (.cells #[] 112))) := (Below.refl _ _).alloc (Nat.le_refl _) _
 clear ho hn hl HPD hb
 go_enter Tryz.func43, Tryz.ntmps43
 go_wp2_with fail
 go_loopw [6, 8] (fun ov iv wr => ∃ (i k g cc : Nat) (done : List Stp), ov = .slice (some ⟨g, 0, none⟩) k cc ∧ iv = .int .i64 (i : Int) ∧ Hid (done.length = k) ∧ Hid (k ≤ i ∧ i ≤ n + 1) ∧ Hid (wr.ownsRow w.heap.size 112 3 (.slice (some ⟨g, 0, none⟩) k cc) k (done.flatMap clS)) ∧ Hid (Below w.heap.size w wr) ∧ Hid (pd = done ++ linesD (l.drop i))) (fun _ iv _ => n - (intOf iv).toNat)
 case atStart => exact ⟨0, 0, _, _, [], rfl, rfl, rfl, ⟨Nat.le_refl _, Nat.zero_le _⟩, HL0, HB0, HP0⟩
 case round =>
  clear HL0 HB0 HP0
  obtain ⟨i, k, g, cc, done, rfl, rfl, HK, HI, HW, HB, HP⟩ := hrel
  have HW1 : Hid (IntKind.i64.wrap ((i : Int) + 1) = (i : Int) + 1) := IntWalk.i64_in _ (by have := HNB.out; have := HI.out; omega)
  have hw1 : wrap64 ((i : Int) + 1) = (i : Int) + 1 := by have := HNB.out; have := HI.out; unfold wrap64; omega
  by_cases hlt : i + 1 < n
  ·have hlt' : (i : Int) + 1 < (n : Int) := by omega
   have hi0 : (i : Int) < (n : Int) := by omega
   have hj0 : (0 : Int) ≤ (i : Int) := by omega
   obtain ⟨x0, hx0⟩ := get_of (show i < l.length by rw [HN.out]; omega)
   have hi1 : ((i : Int) + 1) < (n : Int) := by omega
   have hj1 : (0 : Int) ≤ ((i : Int) + 1) := by omega
   obtain ⟨x1, hx1⟩ := get_of (show (i + 1) < l.length by rw [HN.out]; omega)
   have HLT := Lib.hid hlt
   have HP2 : Hid (pd = (done ++ [(x0, x1, 1)]) ++ linesD (l.drop (i + 2))) := by
    have h := HP.out
    rw [drop_two hx0 hx1, linesD] at h
    rw [h]; unfold Hid; simp
   obtain ⟨q, off, rfl, hat⟩ := HO.out.at (by rw [HN.out]; omega)
   have HQ0 := Lib.hid (hat i x0 hx0)
   have k0 := keepC HB.out HQ0.out
   have HQ1 := Lib.hid (hat (i + 1) x1 hx1)
   have k1 := keepC HB.out HQ1.out
   have hw2 : wrap64 ((i : Int) + 2) = ((i + 2 : Nat) : Int) := by have := HNB.out; have := HI.out; unfold wrap64; omega
   clear hlt hx0 hx1 hat HP
   go_wp2_with fail
   refine wp_region_upto (fun V => V.cell? ⟨q, off + i, none⟩ = some (.int .i64 x0) ∧ V.cell? ⟨q, off + (i + 1), none⟩ = some (.int .i64 x1)) 13 (by kernel_rfl) ⟨k0, k1⟩ (fun hH => ?_)
   refine takeK 0 (.slice (some ⟨g, 0, none⟩) k cc) rfl (by kernel_rfl) hH ?_
   try simp only [Act.put, sA, sB, sC]
   refine takeK 1 (.slice (some ⟨q, off, none⟩) n c) rfl (by kernel_rfl) hH ?_
   try simp only [Act.put, sA, sB, sC]
   refine takeK 2 (.int .i64 (i : Int)) rfl (by kernel_rfl) hH ?_
   try simp only [Act.put, sA, sB, sC]
   refine takeK 3 (.pointer (some ⟨q, off + i, none⟩)) rfl (by kernel_rfl) hH ?_ (Or.inl ⟨by rfl, fun V hV => by go_simp; first | done | omega | (intro h; omega) | (constructor <;> omega)⟩)
   try simp only [Act.put, sA, sB, sC]
   refine takeK 4 (.int .i64 x0) rfl (by kernel_rfl) hH ?_ (Or.inl ⟨by rfl, fun V hV => by obtain ⟨h0, h1⟩ := hV; go_simp⟩)
   try simp only [Act.put, sA, sB, sC]
   refine takeK 5 (.slice (some ⟨q, off, none⟩) n c) rfl (by kernel_rfl) hH ?_
   try simp only [Act.put, sA, sB, sC]
   refine takeK 6 (.int .i64 (i : Int)) rfl (by kernel_rfl) hH ?_
   try simp only [Act.put, sA, sB, sC]
   refine takeK 7 (.int .i64 ((i : Int) + 1)) rfl (by kernel_rfl) hH ?_ (Or.inl ⟨by rfl, fun V hV => by go_simp; exact HW1.out⟩)
   try simp only [Act.put, sA, sB, sC]
   refine takeK 8 (.pointer (some ⟨q, off + (i + 1), none⟩)) rfl (by kernel_rfl) hH ?_ (Or.inl ⟨by rfl, fun V hV => by go_simp; first | done | omega | (intro h; omega) | (constructor <;> omega)⟩)
   try simp only [Act.put, sA, sB, sC]
   refine takeK 9 (.int .i64 x1) rfl (by kernel_rfl) hH ?_ (Or.inl ⟨by rfl, fun V hV => by obtain ⟨h0, h1⟩ := hV; go_simp⟩)
   try simp only [Act.put, sA, sB, sC]
   refine takeK 10 (.agg #[.int .i64 x0, .int .i64 x1, .int .i64 1]) rfl (by kernel_rfl) hH ?_
   try simp only [Act.put, sA, sB, sC]
   refine wpUpto_one (i := 11) (by kernel_rfl) rfl (fun K hK => ?_)
   go_simp
   have hb8 : Below wr.heap.size wr (wr.drew.alloc (.cells #[.int .i64 x0, .int .i64 x1, .int .i64 1] 112)) := (Below.refl _ _).drew.alloc (Nat.le_refl _) _
   have HB8 : Hid (Below w.heap.size w (wr.drew.alloc (.cells #[.int .i64 x0, .int .i64 x1, .int .i64 1] 112))) := HB.out.drew.alloc HB.out.size _
   have hH8 : (wr.drew.alloc (.cells #[.int .i64 x0, .int .i64 x1, .int .i64 1] 112)).cell? ⟨q, off + i, none⟩ = some (.int .i64 x0) ∧ (wr.drew.alloc (.cells #[.int .i64 x0, .int .i64 x1, .int .i64 1] 112)).cell? ⟨q, off + (i + 1), none⟩ = some (.int .i64 x1) := ⟨keepC hb8 k0, keepC hb8 k1⟩
   have HW8 := Lib.hid (own_below HW.out hb8)
   refine hK.out _ _ (fun _ => hH8) ?_
   replace hH := hH8
   clear hH8 hb8
   clear hK K
   try simp only [Act.put, sA, sB, sC]
   refine wpUpto_one (i := 12) (by kernel_rfl) rfl (fun K hK => ?_)
   refine step_appA elA rfl _ _ rfl (wr.drew.alloc (.cells #[.int .i64 x0, .int .i64 x1, .int .i64 1] 112)) w.heap.size (some ⟨g, 0, none⟩) k cc (done.flatMap clS) wr.heap.size 1 1 (([(x0, x1, 1)] : List Stp).flatMap clS) rfl rfl HW8.out rfl (lies_new (w := wr.drew)) (fun u hu => clS_one (L := [(x0, x1, 1)]) u hu) (by decide) (by have := HI.out; have := HNB.out; omega) (by have := HI.out; have := HNB.out; omega) HB8.out.size ?_
   intro g9 c9 w9 ho9 hg9 hat9
   have HB9 : Hid (Below w.heap.size w w9) := by
    refine Below.trans HB8.out ⟨hg9.os, hg9.tape, hg9.output, hg9.size, fun j hj => hg9.block j (Nat.lt_of_lt_of_le hj HB8.out.size) (fun e => ?_)⟩
    have := (HW8.out.lt j e.symm).1
    omega
   have HW9 : Hid (w9.ownsRow w.heap.size 112 3 (.slice (some ⟨g9, 0, none⟩) (k + 1) c9) (k + 1) ((done ++ [(x0, x1, 1)]).flatMap clS)) := by unfold Hid; rw [List.flatMap_append]; exact ho9
   have hH9 : w9.cell? ⟨q, off + i, none⟩ = some (.int .i64 x0) ∧ w9.cell? ⟨q, off + (i + 1), none⟩ = some (.int .i64 x1) := ⟨keepC HB9.out HQ0.out, keepC HB9.out HQ1.out⟩
   refine hK.out _ _ (fun _ => hH9) ?_
   replace hH := hH9
   clear hH9 ho9 hg9 hat9 hK K
   try simp only [Act.put, sA, sB, sC]
   refine wpUpto_one (i := 13) (by kernel_rfl) rfl (fun K hK => ?_)
   go_simp
   refine hK.out _ _ (fun h => absurd rfl h) ?_
   clear hK K
   try simp only [Act.put, sA, sB, sC]
   refine wpUpto_done (by kernel_rfl) ?_ _
   clear hH k0 k1
   clear hi0 hj0 hi1 hj1
   go_wp2_with fail
   exact ⟨⟨i + 2, k + 1, g9, c9, _, rfl, by first | rw [hw2] | go_num, by have := HK.out; unfold Hid; simp; omega, by have := HI.out; have := HLT.out; unfold Hid; omega, HW9, HB9, HP2⟩, by (try rw [hw2]); have := HLT.out; simp only [intOf]; omega⟩
  ·have he : pd = done := by
    have h := HP.out
    rw [lines_short (by rw [List.length_drop, HN.out]; omega), List.append_nil] at h
    exact h
   subst he
   go_wp2_with fail
   all_goals
    go_ret2
    have hk := HK.out
    subst hk
    first
     | (have hb : (decide (2 ≤ n) && decide (n % 2 = 0)) = false := by (simp; omega)
        rw [hb]
        exact ⟨g, cc, rfl, HW.out, HB.out⟩)
     | (have hb : (decide (2 ≤ n) && decide (n % 2 = 0)) = ((n : Int) % 2 == 0) := by (rw [Bool.eq_iff_iff]; simp; omega)
        rw [hb]
        exact ⟨g, cc, rfl, HW.out, HB.out⟩)
set_option maxRecDepth 20000 in
set_option maxHeartbeats 4000000 in
theorem steps8_d (l : List Int) (a : Option Addr) (c : Nat) (w : World) (ho : Opds w l a) (hn : l.length ≤ 1000) (hl : l.length ≤ c) :
 Calls Tryz.prog 43 #[.int .i64 8, .slice a l.length c] w (PathPost (curvD l) (stepsD 8 l).2 w) := by
 obtain ⟨n, HN⟩ : ∃ n, Hid (l.length = n) := ⟨_, rfl⟩
 have HO := Lib.hid ho
 have HNB : Hid (n ≤ 1000 ∧ n ≤ c) := by have := HN.out; unfold Hid; omega
 have hb : (stepsD 8 l).2 = (decide (6 ≤ l.length) && decide (l.length % 6 = 0)) := rfl
 rw [hb, HN.out]
 obtain ⟨pd, HPD⟩ : ∃ pd, Hid (curvD l = pd) := ⟨_, rfl⟩
 rw [HPD.out]
 have HP0 : Hid (pd = [] ++ curvD (l.drop 0)) := HPD.out.symm
 have HL0 : Hid ((w.alloc (.cells #[] 112)).ownsRow w.heap.size 112 3 (.slice (some ⟨w.heap.size, 0, none⟩) 0 0) 0 []) := World.ownsRow_lit (base := w.heap.size) (e := 112) (size := 3) w #[] 0 (Nat.le_refl _) (by decide) rfl
 have HB0 : Hid (Below w.heap.size w (w.alloc (.cells #[] 112))) := (Below.refl _ _).alloc (Nat.le_refl _) _
 clear ho hn hl HPD hb
 go_enter Tryz.func43, Tryz.ntmps43
 go_wp2_with fail
 go_loopw [6, 11] (fun ov iv wr => ∃ (i k g cc : Nat) (done : List Stp), ov = .slice (some ⟨g, 0, none⟩) k cc ∧ iv = .int .i64 (i : Int) ∧ Hid (done.length = k) ∧ Hid (k ≤ i ∧ i ≤ n + 5) ∧ Hid (wr.ownsRow w.heap.size 112 3 (.slice (some ⟨g, 0, none⟩) k cc) k (done.flatMap clS)) ∧ Hid (Below w.heap.size w wr) ∧ Hid (pd = done ++ curvD (l.drop i))) (fun _ iv _ => n - (intOf iv).toNat)
 case atStart => exact ⟨0, 0, _, _, [], rfl, rfl, rfl, ⟨Nat.le_refl _, Nat.zero_le _⟩, HL0, HB0, HP0⟩
 case round =>
  clear HL0 HB0 HP0
  obtain ⟨i, k, g, cc, done, rfl, rfl, HK, HI, HW, HB, HP⟩ := hrel
  have HW1 : Hid (IntKind.i64.wrap ((i : Int) + 1) = (i : Int) + 1) := IntWalk.i64_in _ (by have := HNB.out; have := HI.out; omega)
  have HW2 : Hid (IntKind.i64.wrap ((i : Int) + 2) = (i : Int) + 2) := IntWalk.i64_in _ (by have := HNB.out; have := HI.out; omega)
  have HW3 : Hid (IntKind.i64.wrap ((i : Int) + 3) = (i : Int) + 3) := IntWalk.i64_in _ (by have := HNB.out; have := HI.out; omega)
  have HW4 : Hid (IntKind.i64.wrap ((i : Int) + 4) = (i : Int) + 4) := IntWalk.i64_in _ (by have := HNB.out; have := HI.out; omega)
  have HW5 : Hid (IntKind.i64.wrap ((i : Int) + 5) = (i : Int) + 5) := IntWalk.i64_in _ (by have := HNB.out; have := HI.out; omega)
  have hw1 : wrap64 ((i : Int) + 5) = (i : Int) + 5 := by have := HNB.out; have := HI.out; unfold wrap64; omega
  by_cases hlt : i + 5 < n
  ·have hlt' : (i : Int) + 5 < (n : Int) := by omega
   have hi0 : (i : Int) < (n : Int) := by omega
   have hj0 : (0 : Int) ≤ (i : Int) := by omega
   obtain ⟨x0, hx0⟩ := get_of (show i < l.length by rw [HN.out]; omega)
   have hi1 : ((i : Int) + 1) < (n : Int) := by omega
   have hj1 : (0 : Int) ≤ ((i : Int) + 1) := by omega
   obtain ⟨x1, hx1⟩ := get_of (show (i + 1) < l.length by rw [HN.out]; omega)
   have hi2 : ((i : Int) + 2) < (n : Int) := by omega
   have hj2 : (0 : Int) ≤ ((i : Int) + 2) := by omega
   obtain ⟨x2, hx2⟩ := get_of (show (i + 2) < l.length by rw [HN.out]; omega)
   have hi3 : ((i : Int) + 3) < (n : Int) := by omega
   have hj3 : (0 : Int) ≤ ((i : Int) + 3) := by omega
   obtain ⟨x3, hx3⟩ := get_of (show (i + 3) < l.length by rw [HN.out]; omega)
   have hi4 : ((i : Int) + 4) < (n : Int) := by omega
   have hj4 : (0 : Int) ≤ ((i : Int) + 4) := by omega
   obtain ⟨x4, hx4⟩ := get_of (show (i + 4) < l.length by rw [HN.out]; omega)
   have hi5 : ((i : Int) + 5) < (n : Int) := by omega
   have hj5 : (0 : Int) ≤ ((i : Int) + 5) := by omega
   obtain ⟨x5, hx5⟩ := get_of (show (i + 5) < l.length by rw [HN.out]; omega)
   have HLT := Lib.hid hlt
   have HP2 : Hid (pd = (done ++ [(x0, x1, 3), (x2, x3, 3), (x4, x5, 1)]) ++ curvD (l.drop (i + 6))) := by
    have h := HP.out
    rw [drop_six hx0 hx1 hx2 hx3 hx4 hx5, curvD] at h
    rw [h]; unfold Hid; simp
   obtain ⟨q, off, rfl, hat⟩ := HO.out.at (by rw [HN.out]; omega)
   have HQ0 := Lib.hid (hat i x0 hx0)
   have k0 := keepC HB.out HQ0.out
   have HQ1 := Lib.hid (hat (i + 1) x1 hx1)
   have k1 := keepC HB.out HQ1.out
   have HQ2 := Lib.hid (hat (i + 2) x2 hx2)
   have k2 := keepC HB.out HQ2.out
   have HQ3 := Lib.hid (hat (i + 3) x3 hx3)
   have k3 := keepC HB.out HQ3.out
   have HQ4 := Lib.hid (hat (i + 4) x4 hx4)
   have k4 := keepC HB.out HQ4.out
   have HQ5 := Lib.hid (hat (i + 5) x5 hx5)
   have k5 := keepC HB.out HQ5.out
   have hw2 : wrap64 ((i : Int) + 6) = ((i + 6 : Nat) : Int) := by have := HNB.out; have := HI.out; unfold wrap64; omega
   clear hlt hx0 hx1 hx2 hx3 hx4 hx5 hat HP
   go_wp2_with fail
   refine wp_region_upto (fun V => V.cell? ⟨q, off + i, none⟩ = some (.int .i64 x0) ∧ V.cell? ⟨q, off + (i + 1), none⟩ = some (.int .i64 x1) ∧ V.cell? ⟨q, off + (i + 2), none⟩ = some (.int .i64 x2) ∧ V.cell? ⟨q, off + (i + 3), none⟩ = some (.int .i64 x3) ∧ V.cell? ⟨q, off + (i + 4), none⟩ = some (.int .i64 x4) ∧ V.cell? ⟨q, off + (i + 5), none⟩ = some (.int .i64 x5)) 35 (by kernel_rfl) ⟨k0, k1, k2, k3, k4, k5⟩ (fun hH => ?_)
   refine takeK 0 (.slice (some ⟨g, 0, none⟩) k cc) rfl (by kernel_rfl) hH ?_
   try simp only [Act.put, sA, sB, sC]
   refine takeK 1 (.slice (some ⟨q, off, none⟩) n c) rfl (by kernel_rfl) hH ?_
   try simp only [Act.put, sA, sB, sC]
   refine takeK 2 (.int .i64 (i : Int)) rfl (by kernel_rfl) hH ?_
   try simp only [Act.put, sA, sB, sC]
   refine takeK 3 (.pointer (some ⟨q, off + i, none⟩)) rfl (by kernel_rfl) hH ?_ (Or.inl ⟨by rfl, fun V hV => by go_simp; first | done | omega | (intro h; omega) | (constructor <;> omega)⟩)
   try simp only [Act.put, sA, sB, sC]
   refine takeK 4 (.int .i64 x0) rfl (by kernel_rfl) hH ?_ (Or.inl ⟨by rfl, fun V hV => by obtain ⟨h0, h1, h2, h3, h4, h5⟩ := hV; go_simp⟩)
   try simp only [Act.put, sA, sB, sC]
   refine takeK 5 (.slice (some ⟨q, off, none⟩) n c) rfl (by kernel_rfl) hH ?_
   try simp only [Act.put, sA, sB, sC]
   refine takeK 6 (.int .i64 (i : Int)) rfl (by kernel_rfl) hH ?_
   try simp only [Act.put, sA, sB, sC]
   refine takeK 7 (.int .i64 ((i : Int) + 1)) rfl (by kernel_rfl) hH ?_ (Or.inl ⟨by rfl, fun V hV => by go_simp; exact HW1.out⟩)
   try simp only [Act.put, sA, sB, sC]
   refine takeK 8 (.pointer (some ⟨q, off + (i + 1), none⟩)) rfl (by kernel_rfl) hH ?_ (Or.inl ⟨by rfl, fun V hV => by go_simp; first | done | omega | (intro h; omega) | (constructor <;> omega)⟩)
   try simp only [Act.put, sA, sB, sC]
   refine takeK 9 (.int .i64 x1) rfl (by kernel_rfl) hH ?_ (Or.inl ⟨by rfl, fun V hV => by obtain ⟨h0, h1, h2, h3, h4, h5⟩ := hV; go_simp⟩)
   try simp only [Act.put, sA, sB, sC]
   refine takeK 10 (.agg #[.int .i64 x0, .int .i64 x1, .int .i64 3]) rfl (by kernel_rfl) hH ?_
   try simp only [Act.put, sA, sB, sC]
   refine takeK 11 (.slice (some ⟨q, off, none⟩) n c) rfl (by kernel_rfl) hH ?_
   try simp only [Act.put, sA, sB, sC]
   refine takeK 12 (.int .i64 (i : Int)) rfl (by kernel_rfl) hH ?_
   try simp only [Act.put, sA, sB, sC]
   refine takeK 13 (.int .i64 ((i : Int) + 2)) rfl (by kernel_rfl) hH ?_ (Or.inl ⟨by rfl, fun V hV => by go_simp; exact HW2.out⟩)
   try simp only [Act.put, sA, sB, sC]
   refine takeK 14 (.pointer (some ⟨q, off + (i + 2), none⟩)) rfl (by kernel_rfl) hH ?_ (Or.inl ⟨by rfl, fun V hV => by go_simp; first | done | omega | (intro h; omega) | (constructor <;> omega)⟩)
   try simp only [Act.put, sA, sB, sC]
   refine takeK 15 (.int .i64 x2) rfl (by kernel_rfl) hH ?_ (Or.inl ⟨by rfl, fun V hV => by obtain ⟨h0, h1, h2, h3, h4, h5⟩ := hV; go_simp⟩)
   try simp only [Act.put, sA, sB, sC]
   refine takeK 16 (.slice (some ⟨q, off, none⟩) n c) rfl (by kernel_rfl) hH ?_
   try simp only [Act.put, sA, sB, sC]
   refine takeK 17 (.int .i64 (i : Int)) rfl (by kernel_rfl) hH ?_
   try simp only [Act.put, sA, sB, sC]
   refine takeK 18 (.int .i64 ((i : Int) + 3)) rfl (by kernel_rfl) hH ?_ (Or.inl ⟨by rfl, fun V hV => by go_simp; exact HW3.out⟩)
   try simp only [Act.put, sA, sB, sC]
   refine takeK 19 (.pointer (some ⟨q, off + (i + 3), none⟩)) rfl (by kernel_rfl) hH ?_ (Or.inl ⟨by rfl, fun V hV => by go_simp; first | done | omega | (intro h; omega) | (constructor <;> omega)⟩)
   try simp only [Act.put, sA, sB, sC]
   refine takeK 20 (.int .i64 x3) rfl (by kernel_rfl) hH ?_ (Or.inl ⟨by rfl, fun V hV => by obtain ⟨h0, h1, h2, h3, h4, h5⟩ := hV; go_simp⟩)
   try simp only [Act.put, sA, sB, sC]
   refine takeK 21 (.agg #[.int .i64 x2, .int .i64 x3, .int .i64 3]) rfl (by kernel_rfl) hH ?_
   try simp only [Act.put, sA, sB, sC]
   refine takeK 22 (.slice (some ⟨q, off, none⟩) n c) rfl (by kernel_rfl) hH ?_
   try simp only [Act.put, sA, sB, sC]
   refine takeK 23 (.int .i64 (i : Int)) rfl (by kernel_rfl) hH ?_
   try simp only [Act.put, sA, sB, sC]
   refine takeK 24 (.int .i64 ((i : Int) + 4)) rfl (by kernel_rfl) hH ?_ (Or.inl ⟨by rfl, fun V hV => by go_simp; exact HW4.out⟩)
   try simp only [Act.put, sA, sB, sC]
   refine takeK 25 (.pointer (some ⟨q, off + (i + 4), none⟩)) rfl (by kernel_rfl) hH ?_ (Or.inl ⟨by rfl, fun V hV => by go_simp; first | done | omega | (intro h; omega) | (constructor <;> omega)⟩)
   try simp only [Act.put, sA, sB, sC]
   refine takeK 26 (.int .i64 x4) rfl (by kernel_rfl) hH ?_ (Or.inl ⟨by rfl, fun V hV => by obtain ⟨h0, h1, h2, h3, h4, h5⟩ := hV; go_simp⟩)
   try simp only [Act.put, sA, sB, sC]
   refine takeK 27 (.slice (some ⟨q, off, none⟩) n c) rfl (by kernel_rfl) hH ?_
   try simp only [Act.put, sA, sB, sC]
   refine takeK 28 (.int .i64 (i : Int)) rfl (by kernel_rfl) hH ?_
   try simp only [Act.put, sA, sB, sC]
   refine takeK 29 (.int .i64 ((i : Int) + 5)) rfl (by kernel_rfl) hH ?_ (Or.inl ⟨by rfl, fun V hV => by go_simp; exact HW5.out⟩)
   try simp only [Act.put, sA, sB, sC]
   refine takeK 30 (.pointer (some ⟨q, off + (i + 5), none⟩)) rfl (by kernel_rfl) hH ?_ (Or.inl ⟨by rfl, fun V hV => by go_simp; first | done | omega | (intro h; omega) | (constructor <;> omega)⟩)
   try simp only [Act.put, sA, sB, sC]
   refine takeK 31 (.int .i64 x5) rfl (by kernel_rfl) hH ?_ (Or.inl ⟨by rfl, fun V hV => by obtain ⟨h0, h1, h2, h3, h4, h5⟩ := hV; go_simp⟩)
   try simp only [Act.put, sA, sB, sC]
   refine takeK 32 (.agg #[.int .i64 x4, .int .i64 x5, .int .i64 1]) rfl (by kernel_rfl) hH ?_
   try simp only [Act.put, sA, sB, sC]
   refine wpUpto_one (i := 33) (by kernel_rfl) rfl (fun K hK => ?_)
   go_simp
   have hb8 : Below wr.heap.size wr (wr.drew.alloc (.cells #[.int .i64 x0, .int .i64 x1, .int .i64 3, .int .i64 x2, .int .i64 x3, .int .i64 3, .int .i64 x4, .int .i64 x5, .int .i64 1] 112)) := (Below.refl _ _).drew.alloc (Nat.le_refl _) _
   have HB8 : Hid (Below w.heap.size w (wr.drew.alloc (.cells #[.int .i64 x0, .int .i64 x1, .int .i64 3, .int .i64 x2, .int .i64 x3, .int .i64 3, .int .i64 x4, .int .i64 x5, .int .i64 1] 112))) := HB.out.drew.alloc HB.out.size _
   have hH8 : (wr.drew.alloc (.cells #[.int .i64 x0, .int .i64 x1, .int .i64 3, .int .i64 x2, .int .i64 x3, .int .i64 3, .int .i64 x4, .int .i64 x5, .int .i64 1] 112)).cell? ⟨q, off + i, none⟩ = some (.int .i64 x0) ∧ (wr.drew.alloc (.cells #[.int .i64 x0, .int .i64 x1, .int .i64 3, .int .i64 x2, .int .i64 x3, .int .i64 3, .int .i64 x4, .int .i64 x5, .int .i64 1] 112)).cell? ⟨q, off + (i + 1), none⟩ = some (.int .i64 x1) ∧ (wr.drew.alloc (.cells #[.int .i64 x0, .int .i64 x1, .int .i64 3, .int .i64 x2, .int .i64 x3, .int .i64 3, .int .i64 x4, .int .i64 x5, .int .i64 1] 112)).cell? ⟨q, off + (i + 2), none⟩ = some (.int .i64 x2) ∧ (wr.drew.alloc (.cells #[.int .i64 x0, .int .i64 x1, .int .i64 3, .int .i64 x2, .int .i64 x3, .int .i64 3, .int .i64 x4, .int .i64 x5, .int .i64 1] 112)).cell? ⟨q, off + (i + 3), none⟩ = some (.int .i64 x3) ∧ (wr.drew.alloc (.cells #[.int .i64 x0, .int .i64 x1, .int .i64 3, .int .i64 x2, .int .i64 x3, .int .i64 3, .int .i64 x4, .int .i64 x5, .int .i64 1] 112)).cell? ⟨q, off + (i + 4), none⟩ = some (.int .i64 x4) ∧ (wr.drew.alloc (.cells #[.int .i64 x0, .int .i64 x1, .int .i64 3, .int .i64 x2, .int .i64 x3, .int .i64 3, .int .i64 x4, .int .i64 x5, .int .i64 1] 112)).cell? ⟨q, off + (i + 5), none⟩ = some (.int .i64 x5) := ⟨keepC hb8 k0, keepC hb8 k1, keepC hb8 k2, keepC hb8 k3, keepC hb8 k4, keepC hb8 k5⟩
   have HW8 := Lib.hid (own_below HW.out hb8)
   refine hK.out _ _ (fun _ => hH8) ?_
   replace hH := hH8
   clear hH8 hb8
   clear hK K
   try simp only [Act.put, sA, sB, sC]
   refine wpUpto_one (i := 34) (by kernel_rfl) rfl (fun K hK => ?_)
   refine step_appA elA rfl _ _ rfl (wr.drew.alloc (.cells #[.int .i64 x0, .int .i64 x1, .int .i64 3, .int .i64 x2, .int .i64 x3, .int .i64 3, .int .i64 x4, .int .i64 x5, .int .i64 1] 112)) w.heap.size (some ⟨g, 0, none⟩) k cc (done.flatMap clS) wr.heap.size 3 3 (([(x0, x1, 3), (x2, x3, 3), (x4, x5, 1)] : List Stp).flatMap clS) rfl rfl HW8.out rfl (lies_new (w := wr.drew)) (fun u hu => clS_one (L := [(x0, x1, 3), (x2, x3, 3), (x4, x5, 1)]) u hu) (by decide) (by have := HI.out; have := HNB.out; omega) (by have := HI.out; have := HNB.out; omega) HB8.out.size ?_
   intro g9 c9 w9 ho9 hg9 hat9
   have HB9 : Hid (Below w.heap.size w w9) := by
    refine Below.trans HB8.out ⟨hg9.os, hg9.tape, hg9.output, hg9.size, fun j hj => hg9.block j (Nat.lt_of_lt_of_le hj HB8.out.size) (fun e => ?_)⟩
    have := (HW8.out.lt j e.symm).1
    omega
   have HW9 : Hid (w9.ownsRow w.heap.size 112 3 (.slice (some ⟨g9, 0, none⟩) (k + 3) c9) (k + 3) ((done ++ [(x0, x1, 3), (x2, x3, 3), (x4, x5, 1)]).flatMap clS)) := by unfold Hid; rw [List.flatMap_append]; exact ho9
   have hH9 : w9.cell? ⟨q, off + i, none⟩ = some (.int .i64 x0) ∧ w9.cell? ⟨q, off + (i + 1), none⟩ = some (.int .i64 x1) ∧ w9.cell? ⟨q, off + (i + 2), none⟩ = some (.int .i64 x2) ∧ w9.cell? ⟨q, off + (i + 3), none⟩ = some (.int .i64 x3) ∧ w9.cell? ⟨q, off + (i + 4), none⟩ = some (.int .i64 x4) ∧ w9.cell? ⟨q, off + (i + 5), none⟩ = some (.int .i64 x5) := ⟨keepC HB9.out HQ0.out, keepC HB9.out HQ1.out, keepC HB9.out HQ2.out, keepC HB9.out HQ3.out, keepC HB9.out HQ4.out, keepC HB9.out HQ5.out⟩
   refine hK.out _ _ (fun _ => hH9) ?_
   replace hH := hH9
   clear hH9 ho9 hg9 hat9 hK K
   try simp only [Act.put, sA, sB, sC]
   refine wpUpto_one (i := 35) (by kernel_rfl) rfl (fun K hK => ?_)
   go_simp
   refine hK.out _ _ (fun h => absurd rfl h) ?_
   clear hK K
   try simp only [Act.put, sA, sB, sC]
   refine wpUpto_done (by kernel_rfl) ?_ _
   clear hH k0 k1 k2 k3 k4 k5
   clear hi0 hj0 hi1 hj1 hi2 hj2 hi3 hj3 hi4 hj4 hi5 hj5
   go_wp2_with fail
   exact ⟨⟨i + 6, k + 3, g9, c9, _, rfl, by first | rw [hw2] | go_num, by have := HK.out; unfold Hid; simp; omega, by have := HI.out; have := HLT.out; unfold Hid; omega, HW9, HB9, HP2⟩, by (try rw [hw2]); have := HLT.out; simp only [intOf]; omega⟩
  ·have he : pd = done := by
    have h := HP.out
    rw [curv_short (by rw [List.length_drop, HN.out]; omega), List.append_nil] at h
    exact h
   subst he
   go_wp2_with fail
   all_goals
    go_ret2
    have hk := HK.out
    subst hk
    first
     | (have hb : (decide (6 ≤ n) && decide (n % 6 = 0)) = false := by (simp; omega)
        rw [hb]
        exact ⟨g, cc, rfl, HW.out, HB.out⟩)
     | (have hb : (decide (6 ≤ n) && decide (n % 6 = 0)) = ((n : Int) % 6 == 0) := by (rw [Bool.eq_iff_iff]; simp; omega)
        rw [hb]
        exact ⟨g, cc, rfl, HW.out, HB.out⟩)
end Go.Proofs.YtklenppldblbdaaGreat
