import Derived.Test.YtklenppldblbdaaGreatK14
set_option linter.unusedSimpArgs false
set_option linter.unusedVariables false
namespace Go.Proofs.YtklenppldblbdaaGreat
open Go.RowKit Go.PlainAid
def RowPost8 (p : List Stp) (w : World) (e : Ending) (w' : World) : Prop :=
 ∃ g c, e = .returned (.slice (some ⟨g, 0, none⟩) p.length c) ∧ PathAt w' w.heap.size g c p ∧ Below w.heap.size w w'
theorem drop_four {l : List Int} {i : Nat} {x0 x1 x2 x3 : Int} (h0 : l[i]? = some x0) (h1 : l[i + 1]? = some x1) (h2 : l[i + 2]? = some x2) (h3 : l[i + 3]? = some x3) :
 l.drop i = x0 :: x1 :: x2 :: x3 :: l.drop (i + 4) := by
 rw [drop_two h0 h1, drop_two (i := i + 2) h2 h3]
theorem head_at {l : List Int} {y : Int} (h : l[0]? = some y) : l.headD 0 = y := by
 cases l with
 | nil => simp at h
 | cons a r => simpa using h
theorem wav_short : ∀ {l : List Int} {o : Int} {ax : Bool}, l.length ≤ 3 → wavD o l ax = []
 | [], _, _, _ => rfl
 | [_], _, _, _ => rfl
 | [_, _], _, _, _ => rfl
 | [_, _, _], _, _, _ => rfl
 | _ :: _ :: _ :: _ :: _, _, _, h => by simp at h
theorem wav_start (l : List Int) (ax : Bool) (od : Nat) (h : l.length % 4 = od) (h1 : od ≤ 1) : wavesD l ax = [] ++ wavD (if od = 1 then l.headD 0 else 0) (l.drop od) ax := by
 rw [List.nil_append]
 unfold wavesD
 have h2 : od = 0 ∨ od = 1 := by omega
 rcases h2 with e | e
 ·rw [if_neg (by omega), if_neg (by omega), e]; rfl
 ·rw [if_pos (by omega), if_pos e, e]
  cases l <;> rfl
set_option maxRecDepth 20000 in
set_option maxHeartbeats 4000000 in
theorem along26_d (l : List Int) (a : Option Addr) (c : Nat) (w : World) (ho : Opds w l a) (hn : l.length ≤ 1000) (hl : l.length ≤ c) (h4 : l.length % 4 ≤ 1) :
 Calls Tryz.prog 61 #[.int .i64 26, .slice a l.length c] w (RowPost8 (wavesD l false) w) := by
 obtain ⟨n, HN⟩ : ∃ n, Hid (l.length = n) := ⟨_, rfl⟩
 have HO := Lib.hid ho
 have HNB : Hid (n ≤ 1000 ∧ n ≤ c) := by have := HN.out; unfold Hid; omega
 obtain ⟨od, HOD⟩ : ∃ od, Hid (n % 4 = od) := ⟨_, rfl⟩
 have HO1 : Hid (od ≤ 1 ∧ od ≤ n) := by have := HOD.out; have := HN.out; unfold Hid; omega
 have hrem : (n : Int) % 4 = (od : Int) := by have := HOD.out; omega
 have HP0 : Hid (wavesD l false = [] ++ wavD (if od = 1 then l.headD 0 else 0) (l.drop od) false) := wav_start l false od (by rw [HN.out]; exact HOD.out) HO1.out.1
 obtain ⟨pd, HPD⟩ : ∃ pd, Hid (wavesD l false = pd) := ⟨_, rfl⟩
 rw [HN.out]
 rw [HPD.out] at HP0 ⊢
 have HL0 : Hid ((w.alloc (.cells #[] 112)).ownsRow w.heap.size 112 3 (.slice (some ⟨w.heap.size, 0, none⟩) 0 0) 0 []) := World.ownsRow_lit (base := w.heap.size) (e := 112) (size := 3) w #[] 0 (Nat.le_refl _) (by decide) rfl
 have HB0 : Hid (Below w.heap.size w (w.alloc (.cells #[] 112))) := (Below.refl _ _).alloc (Nat.le_refl _) _
 clear ho hn hl HPD h4 HOD
 go_enter Tryz.func61, Tryz.ntmps61
 go_wp2_with fail
 (try rw [hrem])
 go_loopw [5, 7] (fun ov iv wr => ∃ (i k g cc : Nat) (done : List Stp), ov = .slice (some ⟨g, 0, none⟩) k cc ∧ iv = .int .i64 (i : Int) ∧ Hid (done.length = k) ∧ Hid (k ≤ i ∧ i ≤ n + 3) ∧ Hid (wr.ownsRow w.heap.size 112 3 (.slice (some ⟨g, 0, none⟩) k cc) k (done.flatMap clS)) ∧ Hid (Below w.heap.size w wr) ∧ Hid (pd = done ++ wavD (if i = 1 then l.headD 0 else 0) (l.drop i) false)) (fun _ iv _ => n - (intOf iv).toNat)
 case atStart => exact ⟨od, 0, _, _, [], rfl, by first | rfl | rw [hrem] | go_num, rfl, ⟨Nat.zero_le _, by have := HO1.out; omega⟩, HL0, HB0, HP0⟩
 case round =>
  clear HL0 HB0 HP0 hrem HO1
  obtain ⟨i, k, g, cc, done, rfl, rfl, HK, HI, HW, HB, HP⟩ := hrel
  have HW1 : Hid (IntKind.i64.wrap ((i : Int) + 1) = (i : Int) + 1) := IntWalk.i64_in _ (by have := HNB.out; have := HI.out; omega)
  have HW2 : Hid (IntKind.i64.wrap ((i : Int) + 2) = (i : Int) + 2) := IntWalk.i64_in _ (by have := HNB.out; have := HI.out; omega)
  have HW3 : Hid (IntKind.i64.wrap ((i : Int) + 3) = (i : Int) + 3) := IntWalk.i64_in _ (by have := HNB.out; have := HI.out; omega)
  have hw1 : wrap64 ((i : Int) + 3) = (i : Int) + 3 := by have := HNB.out; have := HI.out; unfold wrap64; omega
  by_cases hlt : i + 3 < n
  ·have hlt' : (i : Int) + 3 < (n : Int) := by omega
   have hi0 : (i : Int) < (n : Int) := by omega
   have hj0 : (0 : Int) ≤ (i : Int) := by omega
   obtain ⟨x0, hx0⟩ := get_of (show i < l.length by rw [HN.out]; omega)
   have hi1 : ((i : Int) + 1) < (n : Int) := by omega
   have hj1 : (0 : Int) ≤ ((i : Int) + 1) := by omega
   obtain ⟨x1, hx1⟩ := get_of (show (i + 1) < l.length by rw [HN.out]; omega)
   have hi2 : ((i : Int) + 2) < (n : Int) := by omega
   have hj2 : (0 : Int) ≤ ((i : Int) + 2) := by omega
   obtain ⟨x2, hx2⟩ := get_of (show (i + 2) < l.length by rw [HN.out]; omega)
   have hi3 : ((i : Int) + 3) < (n : Int) := by omega
   have hj3 : (0 : Int) ≤ ((i : Int) + 3) := by omega
   obtain ⟨x3, hx3⟩ := get_of (show (i + 3) < l.length by rw [HN.out]; omega)
   have HLT := Lib.hid hlt
   obtain ⟨y, hy⟩ := get_of (show 0 < l.length by rw [HN.out]; omega)
   have hyd : l.headD 0 = y := head_at hy
   have hn0 : (0 : Int) < (n : Int) := by omega
   have HP2 : Hid (∀ fst, (if i = 1 then l.headD 0 else 0) = fst → pd = (done ++ [(fst, x0, 3), (x1, x2, 3), (0, x3, 1)]) ++ wavD (if i + 4 = 1 then l.headD 0 else 0) (l.drop (i + 4)) false) := by
    intro fst hf
    have h := HP.out
    rw [hf, drop_four hx0 hx1 hx2 hx3, wavD] at h
    rw [h, if_neg (show ¬ i + 4 = 1 by omega)]; simp
   obtain ⟨q, off, rfl, hat⟩ := HO.out.at (by rw [HN.out]; omega)
   have HQ0 := Lib.hid (hat i x0 hx0)
   have k0 := keepC HB.out HQ0.out
   have HQ1 := Lib.hid (hat (i + 1) x1 hx1)
   have k1 := keepC HB.out HQ1.out
   have HQ2 := Lib.hid (hat (i + 2) x2 hx2)
   have k2 := keepC HB.out HQ2.out
   have HQ3 := Lib.hid (hat (i + 3) x3 hx3)
   have k3 := keepC HB.out HQ3.out
   have ky := keepC HB.out (hat 0 y hy)
   rw [Nat.add_zero] at ky
   have hw2 : wrap64 ((i : Int) + 4) = ((i + 4 : Nat) : Int) := by have := HNB.out; have := HI.out; unfold wrap64; omega
   clear hlt hx0 hx1 hx2 hx3 hat HP hy
   by_cases h1 : i = 1
   ·have HP3 := Lib.hid (HP2.out y (by rw [if_pos h1]; exact hyd))
    have hq : ((i : Int) == 1) = true := by simp; omega
    clear HP2 hyd h1
    go_wp2_with fail
    (try generalize hfst : y = fst at *)
    refine wp_region_upto (fun V => V.cell? ⟨q, off + i, none⟩ = some (.int .i64 x0) ∧ V.cell? ⟨q, off + (i + 1), none⟩ = some (.int .i64 x1) ∧ V.cell? ⟨q, off + (i + 2), none⟩ = some (.int .i64 x2) ∧ V.cell? ⟨q, off + (i + 3), none⟩ = some (.int .i64 x3)) 26 (by kernel_rfl) ⟨k0, k1, k2, k3⟩ (fun hH => ?_)
    refine takeK 0 (.slice (some ⟨g, 0, none⟩) k cc) rfl (by kernel_rfl) hH ?_
    try simp only [Act.put, sA, sB, sC]
    refine takeK 1 (.int .i64 fst) rfl (by kernel_rfl) hH ?_
    try simp only [Act.put, sA, sB, sC]
    refine takeK 2 (.slice (some ⟨q, off, none⟩) n c) rfl (by kernel_rfl) hH ?_
    try simp only [Act.put, sA, sB, sC]
    refine takeK 3 (.int .i64 (i : Int)) rfl (by kernel_rfl) hH ?_
    try simp only [Act.put, sA, sB, sC]
    refine takeK 4 (.pointer (some ⟨q, off + i, none⟩)) rfl (by kernel_rfl) hH ?_ (Or.inl ⟨by rfl, fun V hV => by go_simp; first | done | omega | (intro h; omega) | (constructor <;> omega)⟩)
    try simp only [Act.put, sA, sB, sC]
    refine takeK 5 (.int .i64 x0) rfl (by kernel_rfl) hH ?_ (Or.inl ⟨by rfl, fun V hV => by obtain ⟨h0, h1, h2, h3⟩ := hV; go_simp⟩)
    try simp only [Act.put, sA, sB, sC]
    refine takeK 6 (.agg #[.int .i64 fst, .int .i64 x0, .int .i64 3]) rfl (by kernel_rfl) hH ?_
    try simp only [Act.put, sA, sB, sC]
    refine takeK 7 (.slice (some ⟨q, off, none⟩) n c) rfl (by kernel_rfl) hH ?_
    try simp only [Act.put, sA, sB, sC]
    refine takeK 8 (.int .i64 (i : Int)) rfl (by kernel_rfl) hH ?_
    try simp only [Act.put, sA, sB, sC]
    refine takeK 9 (.int .i64 ((i : Int) + 1)) rfl (by kernel_rfl) hH ?_ (Or.inl ⟨by rfl, fun V hV => by go_simp; exact HW1.out⟩)
    try simp only [Act.put, sA, sB, sC]
    refine takeK 10 (.pointer (some ⟨q, off + (i + 1), none⟩)) rfl (by kernel_rfl) hH ?_ (Or.inl ⟨by rfl, fun V hV => by go_simp; first | done | omega | (intro h; omega) | (constructor <;> omega)⟩)
    try simp only [Act.put, sA, sB, sC]
    refine takeK 11 (.int .i64 x1) rfl (by kernel_rfl) hH ?_ (Or.inl ⟨by rfl, fun V hV => by obtain ⟨h0, h1, h2, h3⟩ := hV; go_simp⟩)
    try simp only [Act.put, sA, sB, sC]
    refine takeK 12 (.slice (some ⟨q, off, none⟩) n c) rfl (by kernel_rfl) hH ?_
    try simp only [Act.put, sA, sB, sC]
    refine takeK 13 (.int .i64 (i : Int)) rfl (by kernel_rfl) hH ?_
    try simp only [Act.put, sA, sB, sC]
    refine takeK 14 (.int .i64 ((i : Int) + 2)) rfl (by kernel_rfl) hH ?_ (Or.inl ⟨by rfl, fun V hV => by go_simp; exact HW2.out⟩)
    try simp only [Act.put, sA, sB, sC]
    refine takeK 15 (.pointer (some ⟨q, off + (i + 2), none⟩)) rfl (by kernel_rfl) hH ?_ (Or.inl ⟨by rfl, fun V hV => by go_simp; first | done | omega | (intro h; omega) | (constructor <;> omega)⟩)
    try simp only [Act.put, sA, sB, sC]
    refine takeK 16 (.int .i64 x2) rfl (by kernel_rfl) hH ?_ (Or.inl ⟨by rfl, fun V hV => by obtain ⟨h0, h1, h2, h3⟩ := hV; go_simp⟩)
    try simp only [Act.put, sA, sB, sC]
    refine takeK 17 (.agg #[.int .i64 x1, .int .i64 x2, .int .i64 3]) rfl (by kernel_rfl) hH ?_
    try simp only [Act.put, sA, sB, sC]
    refine takeK 18 (.slice (some ⟨q, off, none⟩) n c) rfl (by kernel_rfl) hH ?_
    try simp only [Act.put, sA, sB, sC]
    refine takeK 19 (.int .i64 (i : Int)) rfl (by kernel_rfl) hH ?_
    try simp only [Act.put, sA, sB, sC]
    refine takeK 20 (.int .i64 ((i : Int) + 3)) rfl (by kernel_rfl) hH ?_ (Or.inl ⟨by rfl, fun V hV => by go_simp; exact HW3.out⟩)
    try simp only [Act.put, sA, sB, sC]
    refine takeK 21 (.pointer (some ⟨q, off + (i + 3), none⟩)) rfl (by kernel_rfl) hH ?_ (Or.inl ⟨by rfl, fun V hV => by go_simp; first | done | omega | (intro h; omega) | (constructor <;> omega)⟩)
    try simp only [Act.put, sA, sB, sC]
    refine takeK 22 (.int .i64 x3) rfl (by kernel_rfl) hH ?_ (Or.inl ⟨by rfl, fun V hV => by obtain ⟨h0, h1, h2, h3⟩ := hV; go_simp⟩)
    try simp only [Act.put, sA, sB, sC]
    refine takeK 23 (.agg #[.int .i64 0, .int .i64 x3, .int .i64 1]) rfl (by kernel_rfl) hH ?_
    try simp only [Act.put, sA, sB, sC]
    refine wpUpto_one (i := 24) (by kernel_rfl) rfl (fun K hK => ?_)
    go_simp
    have hb8 : Below wr.heap.size wr (wr.drew.alloc (.cells #[.int .i64 fst, .int .i64 x0, .int .i64 3, .int .i64 x1, .int .i64 x2, .int .i64 3, .int .i64 0, .int .i64 x3, .int .i64 1] 112)) := (Below.refl _ _).drew.alloc (Nat.le_refl _) _
    have HB8 : Hid (Below w.heap.size w (wr.drew.alloc (.cells #[.int .i64 fst, .int .i64 x0, .int .i64 3, .int .i64 x1, .int .i64 x2, .int .i64 3, .int .i64 0, .int .i64 x3, .int .i64 1] 112))) := HB.out.drew.alloc HB.out.size _
    have hH8 : (wr.drew.alloc (.cells #[.int .i64 fst, .int .i64 x0, .int .i64 3, .int .i64 x1, .int .i64 x2, .int .i64 3, .int .i64 0, .int .i64 x3, .int .i64 1] 112)).cell? ⟨q, off + i, none⟩ = some (.int .i64 x0) ∧ (wr.drew.alloc (.cells #[.int .i64 fst, .int .i64 x0, .int .i64 3, .int .i64 x1, .int .i64 x2, .int .i64 3, .int .i64 0, .int .i64 x3, .int .i64 1] 112)).cell? ⟨q, off + (i + 1), none⟩ = some (.int .i64 x1) ∧ (wr.drew.alloc (.cells #[.int .i64 fst, .int .i64 x0, .int .i64 3, .int .i64 x1, .int .i64 x2, .int .i64 3, .int .i64 0, .int .i64 x3, .int .i64 1] 112)).cell? ⟨q, off + (i + 2), none⟩ = some (.int .i64 x2) ∧ (wr.drew.alloc (.cells #[.int .i64 fst, .int .i64 x0, .int .i64 3, .int .i64 x1, .int .i64 x2, .int .i64 3, .int .i64 0, .int .i64 x3, .int .i64 1] 112)).cell? ⟨q, off + (i + 3), none⟩ = some (.int .i64 x3) := ⟨keepC hb8 k0, keepC hb8 k1, keepC hb8 k2, keepC hb8 k3⟩
    have HW8 := Lib.hid (own_below HW.out hb8)
    refine hK.out _ _ (fun _ => hH8) ?_
    replace hH := hH8
    clear hH8 hb8
    clear hK K
    try simp only [Act.put, sA, sB, sC]
    refine wpUpto_one (i := 25) (by kernel_rfl) rfl (fun K hK => ?_)
    refine step_appA elA rfl _ _ rfl (wr.drew.alloc (.cells #[.int .i64 fst, .int .i64 x0, .int .i64 3, .int .i64 x1, .int .i64 x2, .int .i64 3, .int .i64 0, .int .i64 x3, .int .i64 1] 112)) w.heap.size (some ⟨g, 0, none⟩) k cc (done.flatMap clS) wr.heap.size 3 3 (([(fst, x0, 3), (x1, x2, 3), (0, x3, 1)] : List Stp).flatMap clS) rfl rfl HW8.out rfl (lies_new (w := wr.drew)) (fun u hu => clS_one (L := [(fst, x0, 3), (x1, x2, 3), (0, x3, 1)]) u hu) (by decide) (by have := HI.out; have := HNB.out; omega) (by have := HI.out; have := HNB.out; omega) HB8.out.size ?_
    intro g9 c9 w9 ho9 hg9 hat9
    have HB9 : Hid (Below w.heap.size w w9) := by
     refine Below.trans HB8.out ⟨hg9.os, hg9.tape, hg9.output, hg9.size, fun j hj => hg9.block j (Nat.lt_of_lt_of_le hj HB8.out.size) (fun e => ?_)⟩
     have := (HW8.out.lt j e.symm).1
     omega
    have HW9 : Hid (w9.ownsRow w.heap.size 112 3 (.slice (some ⟨g9, 0, none⟩) (k + 3) c9) (k + 3) ((done ++ [(fst, x0, 3), (x1, x2, 3), (0, x3, 1)]).flatMap clS)) := by unfold Hid; rw [List.flatMap_append]; exact ho9
    have hH9 : w9.cell? ⟨q, off + i, none⟩ = some (.int .i64 x0) ∧ w9.cell? ⟨q, off + (i + 1), none⟩ = some (.int .i64 x1) ∧ w9.cell? ⟨q, off + (i + 2), none⟩ = some (.int .i64 x2) ∧ w9.cell? ⟨q, off + (i + 3), none⟩ = some (.int .i64 x3) := ⟨keepC HB9.out HQ0.out, keepC HB9.out HQ1.out, keepC HB9.out HQ2.out, keepC HB9.out HQ3.out⟩
    refine hK.out _ _ (fun _ => hH9) ?_
    replace hH := hH9
    clear hH9 ho9 hg9 hat9 hK K
    try simp only [Act.put, sA, sB, sC]
    refine wpUpto_one (i := 26) (by kernel_rfl) rfl (fun K hK => ?_)
    go_simp
    refine hK.out _ _ (fun h => absurd rfl h) ?_
    clear hK K
    try simp only [Act.put, sA, sB, sC]
    refine wpUpto_done (by kernel_rfl) ?_ _
    clear hH k0 k1 k2 k3
    clear hi0 hj0 hi1 hj1 hi2 hj2 hi3 hj3 hn0 ky
    go_wp2_with fail
    exact ⟨⟨i + 4, k + 3, g9, c9, _, rfl, by first | rw [hw2] | go_num, by have := HK.out; unfold Hid; simp; omega, by have := HI.out; have := HLT.out; unfold Hid; omega, HW9, HB9, HP3⟩, by (try rw [hw2]); have := HLT.out; simp only [intOf]; omega⟩
   ·have HP3 := Lib.hid (HP2.out 0 (if_neg h1))
    have hq : ((i : Int) == 1) = false := by simp; omega
    clear HP2 hyd h1
    go_wp2_with fail
    refine wp_region_upto (fun V => V.cell? ⟨q, off + i, none⟩ = some (.int .i64 x0) ∧ V.cell? ⟨q, off + (i + 1), none⟩ = some (.int .i64 x1) ∧ V.cell? ⟨q, off + (i + 2), none⟩ = some (.int .i64 x2) ∧ V.cell? ⟨q, off + (i + 3), none⟩ = some (.int .i64 x3)) 26 (by kernel_rfl) ⟨k0, k1, k2, k3⟩ (fun hH => ?_)
    refine takeK 0 (.slice (some ⟨g, 0, none⟩) k cc) rfl (by kernel_rfl) hH ?_
    try simp only [Act.put, sA, sB, sC]
    refine takeK 1 (.int .i64 0) rfl (by kernel_rfl) hH ?_
    try simp only [Act.put, sA, sB, sC]
    refine takeK 2 (.slice (some ⟨q, off, none⟩) n c) rfl (by kernel_rfl) hH ?_
    try simp only [Act.put, sA, sB, sC]
    refine takeK 3 (.int .i64 (i : Int)) rfl (by kernel_rfl) hH ?_
    try simp only [Act.put, sA, sB, sC]
    refine takeK 4 (.pointer (some ⟨q, off + i, none⟩)) rfl (by kernel_rfl) hH ?_ (Or.inl ⟨by rfl, fun V hV => by go_simp; first | done | omega | (intro h; omega) | (constructor <;> omega)⟩)
    try simp only [Act.put, sA, sB, sC]
    refine takeK 5 (.int .i64 x0) rfl (by kernel_rfl) hH ?_ (Or.inl ⟨by rfl, fun V hV => by obtain ⟨h0, h1, h2, h3⟩ := hV; go_simp⟩)
    try simp only [Act.put, sA, sB, sC]
    refine takeK 6 (.agg #[.int .i64 0, .int .i64 x0, .int .i64 3]) rfl (by kernel_rfl) hH ?_
    try simp only [Act.put, sA, sB, sC]
    refine takeK 7 (.slice (some ⟨q, off, none⟩) n c) rfl (by kernel_rfl) hH ?_
    try simp only [Act.put, sA, sB, sC]
    refine takeK 8 (.int .i64 (i : Int)) rfl (by kernel_rfl) hH ?_
    try simp only [Act.put, sA, sB, sC]
    refine takeK 9 (.int .i64 ((i : Int) + 1)) rfl (by kernel_rfl) hH ?_ (Or.inl ⟨by rfl, fun V hV => by go_simp; exact HW1.out⟩)
    try simp only [Act.put, sA, sB, sC]
    refine takeK 10 (.pointer (some ⟨q, off + (i + 1), none⟩)) rfl (by kernel_rfl) hH ?_ (Or.inl ⟨by rfl, fun V hV => by go_simp; first | done | omega | (intro h; omega) | (constructor <;> omega)⟩)
    try simp only [Act.put, sA, sB, sC]
    refine takeK 11 (.int .i64 x1) rfl (by kernel_rfl) hH ?_ (Or.inl ⟨by rfl, fun V hV => by obtain ⟨h0, h1, h2, h3⟩ := hV; go_simp⟩)
    try simp only [Act.put, sA, sB, sC]
    refine takeK 12 (.slice (some ⟨q, off, none⟩) n c) rfl (by kernel_rfl) hH ?_
    try simp only [Act.put, sA, sB, sC]
    refine takeK 13 (.int .i64 (i : Int)) rfl (by kernel_rfl) hH ?_
    try simp only [Act.put, sA, sB, sC]
    refine takeK 14 (.int .i64 ((i : Int) + 2)) rfl (by kernel_rfl) hH ?_ (Or.inl ⟨by rfl, fun V hV => by go_simp; exact HW2.out⟩)
    try simp only [Act.put, sA, sB, sC]
    refine takeK 15 (.pointer (some ⟨q, off + (i + 2), none⟩)) rfl (by kernel_rfl) hH ?_ (Or.inl ⟨by rfl, fun V hV => by go_simp; first | done | omega | (intro h; omega) | (constructor <;> omega)⟩)
    try simp only [Act.put, sA, sB, sC]
    refine takeK 16 (.int .i64 x2) rfl (by kernel_rfl) hH ?_ (Or.inl ⟨by rfl, fun V hV => by obtain ⟨h0, h1, h2, h3⟩ := hV; go_simp⟩)
    try simp only [Act.put, sA, sB, sC]
    refine takeK 17 (.agg #[.int .i64 x1, .int .i64 x2, .int .i64 3]) rfl (by kernel_rfl) hH ?_
    try simp only [Act.put, sA, sB, sC]
    refine takeK 18 (.slice (some ⟨q, off, none⟩) n c) rfl (by kernel_rfl) hH ?_
    try simp only [Act.put, sA, sB, sC]
    refine takeK 19 (.int .i64 (i : Int)) rfl (by kernel_rfl) hH ?_
    try simp only [Act.put, sA, sB, sC]
    refine takeK 20 (.int .i64 ((i : Int) + 3)) rfl (by kernel_rfl) hH ?_ (Or.inl ⟨by rfl, fun V hV => by go_simp; exact HW3.out⟩)
    try simp only [Act.put, sA, sB, sC]
    refine takeK 21 (.pointer (some ⟨q, off + (i + 3), none⟩)) rfl (by kernel_rfl) hH ?_ (Or.inl ⟨by rfl, fun V hV => by go_simp; first | done | omega | (intro h; omega) | (constructor <;> omega)⟩)
    try simp only [Act.put, sA, sB, sC]
    refine takeK 22 (.int .i64 x3) rfl (by kernel_rfl) hH ?_ (Or.inl ⟨by rfl, fun V hV => by obtain ⟨h0, h1, h2, h3⟩ := hV; go_simp⟩)
    try simp only [Act.put, sA, sB, sC]
    refine takeK 23 (.agg #[.int .i64 0, .int .i64 x3, .int .i64 1]) rfl (by kernel_rfl) hH ?_
    try simp only [Act.put, sA, sB, sC]
    refine wpUpto_one (i := 24) (by kernel_rfl) rfl (fun K hK => ?_)
    go_simp
    have hb8 : Below wr.heap.size wr (wr.drew.alloc (.cells #[.int .i64 0, .int .i64 x0, .int .i64 3, .int .i64 x1, .int .i64 x2, .int .i64 3, .int .i64 0, .int .i64 x3, .int .i64 1] 112)) := (Below.refl _ _).drew.alloc (Nat.le_refl _) _
    have HB8 : Hid (Below w.heap.size w (wr.drew.alloc (.cells #[.int .i64 0, .int .i64 x0, .int .i64 3, .int .i64 x1, .int .i64 x2, .int .i64 3, .int .i64 0, .int .i64 x3, .int .i64 1] 112))) := HB.out.drew.alloc HB.out.size _
    have hH8 : (wr.drew.alloc (.cells #[.int .i64 0, .int .i64 x0, .int .i64 3, .int .i64 x1, .int .i64 x2, .int .i64 3, .int .i64 0, .int .i64 x3, .int .i64 1] 112)).cell? ⟨q, off + i, none⟩ = some (.int .i64 x0) ∧ (wr.drew.alloc (.cells #[.int .i64 0, .int .i64 x0, .int .i64 3, .int .i64 x1, .int .i64 x2, .int .i64 3, .int .i64 0, .int .i64 x3, .int .i64 1] 112)).cell? ⟨q, off + (i + 1), none⟩ = some (.int .i64 x1) ∧ (wr.drew.alloc (.cells #[.int .i64 0, .int .i64 x0, .int .i64 3, .int .i64 x1, .int .i64 x2, .int .i64 3, .int .i64 0, .int .i64 x3, .int .i64 1] 112)).cell? ⟨q, off + (i + 2), none⟩ = some (.int .i64 x2) ∧ (wr.drew.alloc (.cells #[.int .i64 0, .int .i64 x0, .int .i64 3, .int .i64 x1, .int .i64 x2, .int .i64 3, .int .i64 0, .int .i64 x3, .int .i64 1] 112)).cell? ⟨q, off + (i + 3), none⟩ = some (.int .i64 x3) := ⟨keepC hb8 k0, keepC hb8 k1, keepC hb8 k2, keepC hb8 k3⟩
    have HW8 := Lib.hid (own_below HW.out hb8)
    refine hK.out _ _ (fun _ => hH8) ?_
    replace hH := hH8
    clear hH8 hb8
    clear hK K
    try simp only [Act.put, sA, sB, sC]
    refine wpUpto_one (i := 25) (by kernel_rfl) rfl (fun K hK => ?_)
    refine step_appA elA rfl _ _ rfl (wr.drew.alloc (.cells #[.int .i64 0, .int .i64 x0, .int .i64 3, .int .i64 x1, .int .i64 x2, .int .i64 3, .int .i64 0, .int .i64 x3, .int .i64 1] 112)) w.heap.size (some ⟨g, 0, none⟩) k cc (done.flatMap clS) wr.heap.size 3 3 (([(0, x0, 3), (x1, x2, 3), (0, x3, 1)] : List Stp).flatMap clS) rfl rfl HW8.out rfl (lies_new (w := wr.drew)) (fun u hu => clS_one (L := [(0, x0, 3), (x1, x2, 3), (0, x3, 1)]) u hu) (by decide) (by have := HI.out; have := HNB.out; omega) (by have := HI.out; have := HNB.out; omega) HB8.out.size ?_
    intro g9 c9 w9 ho9 hg9 hat9
    have HB9 : Hid (Below w.heap.size w w9) := by
     refine Below.trans HB8.out ⟨hg9.os, hg9.tape, hg9.output, hg9.size, fun j hj => hg9.block j (Nat.lt_of_lt_of_le hj HB8.out.size) (fun e => ?_)⟩
     have := (HW8.out.lt j e.symm).1
     omega
    have HW9 : Hid (w9.ownsRow w.heap.size 112 3 (.slice (some ⟨g9, 0, none⟩) (k + 3) c9) (k + 3) ((done ++ [(0, x0, 3), (x1, x2, 3), (0, x3, 1)]).flatMap clS)) := by unfold Hid; rw [List.flatMap_append]; exact ho9
    have hH9 : w9.cell? ⟨q, off + i, none⟩ = some (.int .i64 x0) ∧ w9.cell? ⟨q, off + (i + 1), none⟩ = some (.int .i64 x1) ∧ w9.cell? ⟨q, off + (i + 2), none⟩ = some (.int .i64 x2) ∧ w9.cell? ⟨q, off + (i + 3), none⟩ = some (.int .i64 x3) := ⟨keepC HB9.out HQ0.out, keepC HB9.out HQ1.out, keepC HB9.out HQ2.out, keepC HB9.out HQ3.out⟩
    refine hK.out _ _ (fun _ => hH9) ?_
    replace hH := hH9
    clear hH9 ho9 hg9 hat9 hK K
    try simp only [Act.put, sA, sB, sC]
    refine wpUpto_one (i := 26) (by kernel_rfl) rfl (fun K hK => ?_)
    go_simp
    refine hK.out _ _ (fun h => absurd rfl h) ?_
    clear hK K
    try simp only [Act.put, sA, sB, sC]
    refine wpUpto_done (by kernel_rfl) ?_ _
    clear hH k0 k1 k2 k3
    clear hi0 hj0 hi1 hj1 hi2 hj2 hi3 hj3 hn0 ky
    go_wp2_with fail
    exact ⟨⟨i + 4, k + 3, g9, c9, _, rfl, by first | rw [hw2] | go_num, by have := HK.out; unfold Hid; simp; omega, by have := HI.out; have := HLT.out; unfold Hid; omega, HW9, HB9, HP3⟩, by (try rw [hw2]); have := HLT.out; simp only [intOf]; omega⟩
  ·have he : pd = done := by
    have h := HP.out
    rw [wav_short (by rw [List.length_drop, HN.out]; omega), List.append_nil] at h
    exact h
   subst he
   go_wp2_with fail
   go_ret
   have hk := HK.out
   subst hk
   exact ⟨g, cc, rfl, HW.out, HB.out⟩
set_option maxRecDepth 20000 in
set_option maxHeartbeats 4000000 in
theorem along27_d (l : List Int) (a : Option Addr) (c : Nat) (w : World) (ho : Opds w l a) (hn : l.length ≤ 1000) (hl : l.length ≤ c) (h4 : l.length % 4 ≤ 1) :
 Calls Tryz.prog 61 #[.int .i64 27, .slice a l.length c] w (RowPost8 (wavesD l true) w) := by
 obtain ⟨n, HN⟩ : ∃ n, Hid (l.length = n) := ⟨_, rfl⟩
 have HO := Lib.hid ho
 have HNB : Hid (n ≤ 1000 ∧ n ≤ c) := by have := HN.out; unfold Hid; omega
 obtain ⟨od, HOD⟩ : ∃ od, Hid (n % 4 = od) := ⟨_, rfl⟩
 have HO1 : Hid (od ≤ 1 ∧ od ≤ n) := by have := HOD.out; have := HN.out; unfold Hid; omega
 have hrem : (n : Int) % 4 = (od : Int) := by have := HOD.out; omega
 have HP0 : Hid (wavesD l true = [] ++ wavD (if od = 1 then l.headD 0 else 0) (l.drop od) true) := wav_start l true od (by rw [HN.out]; exact HOD.out) HO1.out.1
 obtain ⟨pd, HPD⟩ : ∃ pd, Hid (wavesD l true = pd) := ⟨_, rfl⟩
 rw [HN.out]
 rw [HPD.out] at HP0 ⊢
 have HL0 : Hid ((w.alloc (.cells #[] 112)).ownsRow w.heap.size 112 3 (.slice (some ⟨w.heap.size, 0, none⟩) 0 0) 0 []) := World.ownsRow_lit (base := w.heap.size) (e := 112) (size := 3) w #[] 0 (Nat.le_refl _) (by decide) rfl
 have HB0 : Hid (Below w.heap.size w (w.alloc (.cells #[] 112))) := (Below.refl _ _).alloc (Nat.le_refl _) _
 clear ho hn hl HPD h4 HOD
 go_enter Tryz.func61, Tryz.ntmps61
 go_wp2_with fail
 (try rw [hrem])
 go_loopw [5, 7] (fun ov iv wr => ∃ (i k g cc : Nat) (done : List Stp), ov = .slice (some ⟨g, 0, none⟩) k cc ∧ iv = .int .i64 (i : Int) ∧ Hid (done.length = k) ∧ Hid (k ≤ i ∧ i ≤ n + 3) ∧ Hid (wr.ownsRow w.heap.size 112 3 (.slice (some ⟨g, 0, none⟩) k cc) k (done.flatMap clS)) ∧ Hid (Below w.heap.size w wr) ∧ Hid (pd = done ++ wavD (if i = 1 then l.headD 0 else 0) (l.drop i) true)) (fun _ iv _ => n - (intOf iv).toNat)
 case atStart => exact ⟨od, 0, _, _, [], rfl, by first | rfl | rw [hrem] | go_num, rfl, ⟨Nat.zero_le _, by have := HO1.out; omega⟩, HL0, HB0, HP0⟩
 case round =>
  clear HL0 HB0 HP0 hrem HO1
  obtain ⟨i, k, g, cc, done, rfl, rfl, HK, HI, HW, HB, HP⟩ := hrel
  have HW1 : Hid (IntKind.i64.wrap ((i : Int) + 1) = (i : Int) + 1) := IntWalk.i64_in _ (by have := HNB.out; have := HI.out; omega)
  have HW2 : Hid (IntKind.i64.wrap ((i : Int) + 2) = (i : Int) + 2) := IntWalk.i64_in _ (by have := HNB.out; have := HI.out; omega)
  have HW3 : Hid (IntKind.i64.wrap ((i : Int) + 3) = (i : Int) + 3) := IntWalk.i64_in _ (by have := HNB.out; have := HI.out; omega)
  have hw1 : wrap64 ((i : Int) + 3) = (i : Int) + 3 := by have := HNB.out; have := HI.out; unfold wrap64; omega
  by_cases hlt : i + 3 < n
  ·have hlt' : (i : Int) + 3 < (n : Int) := by omega
   have hi0 : (i : Int) < (n : Int) := by omega
   have hj0 : (0 : Int) ≤ (i : Int) := by omega
   obtain ⟨x0, hx0⟩ := get_of (show i < l.length by rw [HN.out]; omega)
   have hi1 : ((i : Int) + 1) < (n : Int) := by omega
   have hj1 : (0 : Int) ≤ ((i : Int) + 1) := by omega
   obtain ⟨x1, hx1⟩ := get_of (show (i + 1) < l.length by rw [HN.out]; omega)
   have hi2 : ((i : Int) + 2) < (n : Int) := by omega
   have hj2 : (0 : Int) ≤ ((i : Int) + 2) := by omega
   obtain ⟨x2, hx2⟩ := get_of (show (i + 2) < l.length by rw [HN.out]; omega)
   have hi3 : ((i : Int) + 3) < (n : Int) := by omega
   have hj3 : (0 : Int) ≤ ((i : Int) + 3) := by omega
   obtain ⟨x3, hx3⟩ := get_of (show (i + 3) < l.length by rw [HN.out]; omega)
   have HLT := Lib.hid hlt
   obtain ⟨y, hy⟩ := get_of (show 0 < l.length by rw [HN.out]; omega)
   have hyd : l.headD 0 = y := head_at hy
   have hn0 : (0 : Int) < (n : Int) := by omega
   have HP2 : Hid (∀ fst, (if i = 1 then l.headD 0 else 0) = fst → pd = (done ++ [(x0, fst, 3), (x1, x2, 3), (x3, 0, 1)]) ++ wavD (if i + 4 = 1 then l.headD 0 else 0) (l.drop (i + 4)) true) := by
    intro fst hf
    have h := HP.out
    rw [hf, drop_four hx0 hx1 hx2 hx3, wavD] at h
    rw [h, if_neg (show ¬ i + 4 = 1 by omega)]; simp
   obtain ⟨q, off, rfl, hat⟩ := HO.out.at (by rw [HN.out]; omega)
   have HQ0 := Lib.hid (hat i x0 hx0)
   have k0 := keepC HB.out HQ0.out
   have HQ1 := Lib.hid (hat (i + 1) x1 hx1)
   have k1 := keepC HB.out HQ1.out
   have HQ2 := Lib.hid (hat (i + 2) x2 hx2)
   have k2 := keepC HB.out HQ2.out
   have HQ3 := Lib.hid (hat (i + 3) x3 hx3)
   have k3 := keepC HB.out HQ3.out
   have ky := keepC HB.out (hat 0 y hy)
   rw [Nat.add_zero] at ky
   have hw2 : wrap64 ((i : Int) + 4) = ((i + 4 : Nat) : Int) := by have := HNB.out; have := HI.out; unfold wrap64; omega
   clear hlt hx0 hx1 hx2 hx3 hat HP hy
   by_cases h1 : i = 1
   ·have HP3 := Lib.hid (HP2.out y (by rw [if_pos h1]; exact hyd))
    have hq : ((i : Int) == 1) = true := by simp; omega
    clear HP2 hyd h1
    go_wp2_with fail
    (try generalize hfst : y = fst at *)
    refine wp_region_upto (fun V => V.cell? ⟨q, off + i, none⟩ = some (.int .i64 x0) ∧ V.cell? ⟨q, off + (i + 1), none⟩ = some (.int .i64 x1) ∧ V.cell? ⟨q, off + (i + 2), none⟩ = some (.int .i64 x2) ∧ V.cell? ⟨q, off + (i + 3), none⟩ = some (.int .i64 x3)) 26 (by kernel_rfl) ⟨k0, k1, k2, k3⟩ (fun hH => ?_)
    refine takeK 0 (.slice (some ⟨g, 0, none⟩) k cc) rfl (by kernel_rfl) hH ?_
    try simp only [Act.put, sA, sB, sC]
    refine takeK 1 (.slice (some ⟨q, off, none⟩) n c) rfl (by kernel_rfl) hH ?_
    try simp only [Act.put, sA, sB, sC]
    refine takeK 2 (.int .i64 (i : Int)) rfl (by kernel_rfl) hH ?_
    try simp only [Act.put, sA, sB, sC]
    refine takeK 3 (.pointer (some ⟨q, off + i, none⟩)) rfl (by kernel_rfl) hH ?_ (Or.inl ⟨by rfl, fun V hV => by go_simp; first | done | omega | (intro h; omega) | (constructor <;> omega)⟩)
    try simp only [Act.put, sA, sB, sC]
    refine takeK 4 (.int .i64 x0) rfl (by kernel_rfl) hH ?_ (Or.inl ⟨by rfl, fun V hV => by obtain ⟨h0, h1, h2, h3⟩ := hV; go_simp⟩)
    try simp only [Act.put, sA, sB, sC]
    refine takeK 5 (.int .i64 fst) rfl (by kernel_rfl) hH ?_
    try simp only [Act.put, sA, sB, sC]
    refine takeK 6 (.agg #[.int .i64 x0, .int .i64 fst, .int .i64 3]) rfl (by kernel_rfl) hH ?_
    try simp only [Act.put, sA, sB, sC]
    refine takeK 7 (.slice (some ⟨q, off, none⟩) n c) rfl (by kernel_rfl) hH ?_
    try simp only [Act.put, sA, sB, sC]
    refine takeK 8 (.int .i64 (i : Int)) rfl (by kernel_rfl) hH ?_
    try simp only [Act.put, sA, sB, sC]
    refine takeK 9 (.int .i64 ((i : Int) + 1)) rfl (by kernel_rfl) hH ?_ (Or.inl ⟨by rfl, fun V hV => by go_simp; exact HW1.out⟩)
    try simp only [Act.put, sA, sB, sC]
    refine takeK 10 (.pointer (some ⟨q, off + (i + 1), none⟩)) rfl (by kernel_rfl) hH ?_ (Or.inl ⟨by rfl, fun V hV => by go_simp; first | done | omega | (intro h; omega) | (constructor <;> omega)⟩)
    try simp only [Act.put, sA, sB, sC]
    refine takeK 11 (.int .i64 x1) rfl (by kernel_rfl) hH ?_ (Or.inl ⟨by rfl, fun V hV => by obtain ⟨h0, h1, h2, h3⟩ := hV; go_simp⟩)
    try simp only [Act.put, sA, sB, sC]
    refine takeK 12 (.slice (some ⟨q, off, none⟩) n c) rfl (by kernel_rfl) hH ?_
    try simp only [Act.put, sA, sB, sC]
    refine takeK 13 (.int .i64 (i : Int)) rfl (by kernel_rfl) hH ?_
    try simp only [Act.put, sA, sB, sC]
    refine takeK 14 (.int .i64 ((i : Int) + 2)) rfl (by kernel_rfl) hH ?_ (Or.inl ⟨by rfl, fun V hV => by go_simp; exact HW2.out⟩)
    try simp only [Act.put, sA, sB, sC]
    refine takeK 15 (.pointer (some ⟨q, off + (i + 2), none⟩)) rfl (by kernel_rfl) hH ?_ (Or.inl ⟨by rfl, fun V hV => by go_simp; first | done | omega | (intro h; omega) | (constructor <;> omega)⟩)
    try simp only [Act.put, sA, sB, sC]
    refine takeK 16 (.int .i64 x2) rfl (by kernel_rfl) hH ?_ (Or.inl ⟨by rfl, fun V hV => by obtain ⟨h0, h1, h2, h3⟩ := hV; go_simp⟩)
    try simp only [Act.put, sA, sB, sC]
    refine takeK 17 (.agg #[.int .i64 x1, .int .i64 x2, .int .i64 3]) rfl (by kernel_rfl) hH ?_
    try simp only [Act.put, sA, sB, sC]
    refine takeK 18 (.slice (some ⟨q, off, none⟩) n c) rfl (by kernel_rfl) hH ?_
    try simp only [Act.put, sA, sB, sC]
    refine takeK 19 (.int .i64 (i : Int)) rfl (by kernel_rfl) hH ?_
    try simp only [Act.put, sA, sB, sC]
    refine takeK 20 (.int .i64 ((i : Int) + 3)) rfl (by kernel_rfl) hH ?_ (Or.inl ⟨by rfl, fun V hV => by go_simp; exact HW3.out⟩)
    try simp only [Act.put, sA, sB, sC]
    refine takeK 21 (.pointer (some ⟨q, off + (i + 3), none⟩)) rfl (by kernel_rfl) hH ?_ (Or.inl ⟨by rfl, fun V hV => by go_simp; first | done | omega | (intro h; omega) | (constructor <;> omega)⟩)
    try simp only [Act.put, sA, sB, sC]
    refine takeK 22 (.int .i64 x3) rfl (by kernel_rfl) hH ?_ (Or.inl ⟨by rfl, fun V hV => by obtain ⟨h0, h1, h2, h3⟩ := hV; go_simp⟩)
    try simp only [Act.put, sA, sB, sC]
    refine takeK 23 (.agg #[.int .i64 x3, .int .i64 0, .int .i64 1]) rfl (by kernel_rfl) hH ?_
    try simp only [Act.put, sA, sB, sC]
    refine wpUpto_one (i := 24) (by kernel_rfl) rfl (fun K hK => ?_)
    go_simp
    have hb8 : Below wr.heap.size wr (wr.drew.alloc (.cells #[.int .i64 x0, .int .i64 fst, .int .i64 3, .int .i64 x1, .int .i64 x2, .int .i64 3, .int .i64 x3, .int .i64 0, .int .i64 1] 112)) := (Below.refl _ _).drew.alloc (Nat.le_refl _) _
    have HB8 : Hid (Below w.heap.size w (wr.drew.alloc (.cells #[.int .i64 x0, .int .i64 fst, .int .i64 3, .int .i64 x1, .int .i64 x2, .int .i64 3, .int .i64 x3, .int .i64 0, .int .i64 1] 112))) := HB.out.drew.alloc HB.out.size _
    have hH8 : (wr.drew.alloc (.cells #[.int .i64 x0, .int .i64 fst, .int .i64 3, .int .i64 x1, .int .i64 x2, .int .i64 3, .int .i64 x3, .int .i64 0, .int .i64 1] 112)).cell? ⟨q, off + i, none⟩ = some (.int .i64 x0) ∧ (wr.drew.alloc (.cells #[.int .i64 x0, .int .i64 fst, .int .i64 3, .int .i64 x1, .int .i64 x2, .int .i64 3, .int .i64 x3, .int .i64 0, .int .i64 1] 112)).cell? ⟨q, off + (i + 1), none⟩ = some (.int .i64 x1) ∧ (wr.drew.alloc (.cells #[.int .i64 x0, .int .i64 fst, .int .i64 3, .int .i64 x1, .int .i64 x2, .int .i64 3, .int .i64 x3, .int .i64 0, .int .i64 1] 112)).cell? ⟨q, off + (i + 2), none⟩ = some (.int .i64 x2) ∧ (wr.drew.alloc (.cells #[.int .i64 x0, .int .i64 fst, .int .i64 3, .int .i64 x1, .int .i64 x2, .int .i64 3, .int .i64 x3, .int .i64 0, .int .i64 1] 112)).cell? ⟨q, off + (i + 3), none⟩ = some (.int .i64 x3) := ⟨keepC hb8 k0, keepC hb8 k1, keepC hb8 k2, keepC hb8 k3⟩
    have HW8 := Lib.hid (own_below HW.out hb8)
    refine hK.out _ _ (fun _ => hH8) ?_
    replace hH := hH8
    clear hH8 hb8
    clear hK K
    try simp only [Act.put, sA, sB, sC]
    refine wpUpto_one (i := 25) (by kernel_rfl) rfl (fun K hK => ?_)
    refine step_appA elA rfl _ _ rfl (wr.drew.alloc (.cells #[.int .i64 x0, .int .i64 fst, .int .i64 3, .int .i64 x1, .int .i64 x2, .int .i64 3, .int .i64 x3, .int .i64 0, .int .i64 1] 112)) w.heap.size (some ⟨g, 0, none⟩) k cc (done.flatMap clS) wr.heap.size 3 3 (([(x0, fst, 3), (x1, x2, 3), (x3, 0, 1)] : List Stp).flatMap clS) rfl rfl HW8.out rfl (lies_new (w := wr.drew)) (fun u hu => clS_one (L := [(x0, fst, 3), (x1, x2, 3), (x3, 0, 1)]) u hu) (by decide) (by have := HI.out; have := HNB.out; omega) (by have := HI.out; have := HNB.out; omega) HB8.out.size ?_
    intro g9 c9 w9 ho9 hg9 hat9
    have HB9 : Hid (Below w.heap.size w w9) := by
     refine Below.trans HB8.out ⟨hg9.os, hg9.tape, hg9.output, hg9.size, fun j hj => hg9.block j (Nat.lt_of_lt_of_le hj HB8.out.size) (fun e => ?_)⟩
     have := (HW8.out.lt j e.symm).1
     omega
    have HW9 : Hid (w9.ownsRow w.heap.size 112 3 (.slice (some ⟨g9, 0, none⟩) (k + 3) c9) (k + 3) ((done ++ [(x0, fst, 3), (x1, x2, 3), (x3, 0, 1)]).flatMap clS)) := by unfold Hid; rw [List.flatMap_append]; exact ho9
    have hH9 : w9.cell? ⟨q, off + i, none⟩ = some (.int .i64 x0) ∧ w9.cell? ⟨q, off + (i + 1), none⟩ = some (.int .i64 x1) ∧ w9.cell? ⟨q, off + (i + 2), none⟩ = some (.int .i64 x2) ∧ w9.cell? ⟨q, off + (i + 3), none⟩ = some (.int .i64 x3) := ⟨keepC HB9.out HQ0.out, keepC HB9.out HQ1.out, keepC HB9.out HQ2.out, keepC HB9.out HQ3.out⟩
    refine hK.out _ _ (fun _ => hH9) ?_
    replace hH := hH9
    clear hH9 ho9 hg9 hat9 hK K
    try simp only [Act.put, sA, sB, sC]
    refine wpUpto_one (i := 26) (by kernel_rfl) rfl (fun K hK => ?_)
    go_simp
    refine hK.out _ _ (fun h => absurd rfl h) ?_
    clear hK K
    try simp only [Act.put, sA, sB, sC]
    refine wpUpto_done (by kernel_rfl) ?_ _
    clear hH k0 k1 k2 k3
    clear hi0 hj0 hi1 hj1 hi2 hj2 hi3 hj3 hn0 ky
    go_wp2_with fail
    exact ⟨⟨i + 4, k + 3, g9, c9, _, rfl, by first | rw [hw2] | go_num, by have := HK.out; unfold Hid; simp; omega, by have := HI.out; have := HLT.out; unfold Hid; omega, HW9, HB9, HP3⟩, by (try rw [hw2]); have := HLT.out; simp only [intOf]; omega⟩
   ·have HP3 := Lib.hid (HP2.out 0 (if_neg h1))
    have hq : ((i : Int) == 1) = false := by simp; omega
    clear HP2 hyd h1
    go_wp2_with fail
    refine wp_region_upto (fun V => V.cell? ⟨q, off + i, none⟩ = some (.int .i64 x0) ∧ V.cell? ⟨q, off + (i + 1), none⟩ = some (.int .i64 x1) ∧ V.cell? ⟨q, off + (i + 2), none⟩ = some (.int .i64 x2) ∧ V.cell? ⟨q, off + (i + 3), none⟩ = some (.int .i64 x3)) 26 (by kernel_rfl) ⟨k0, k1, k2, k3⟩ (fun hH => ?_)
    refine takeK 0 (.slice (some ⟨g, 0, none⟩) k cc) rfl (by kernel_rfl) hH ?_
    try simp only [Act.put, sA, sB, sC]
    refine takeK 1 (.slice (some ⟨q, off, none⟩) n c) rfl (by kernel_rfl) hH ?_
    try simp only [Act.put, sA, sB, sC]
    refine takeK 2 (.int .i64 (i : Int)) rfl (by kernel_rfl) hH ?_
    try simp only [Act.put, sA, sB, sC]
    refine takeK 3 (.pointer (some ⟨q, off + i, none⟩)) rfl (by kernel_rfl) hH ?_ (Or.inl ⟨by rfl, fun V hV => by go_simp; first | done | omega | (intro h; omega) | (constructor <;> omega)⟩)
    try simp only [Act.put, sA, sB, sC]
    refine takeK 4 (.int .i64 x0) rfl (by kernel_rfl) hH ?_ (Or.inl ⟨by rfl, fun V hV => by obtain ⟨h0, h1, h2, h3⟩ := hV; go_simp⟩)
    try simp only [Act.put, sA, sB, sC]
    refine takeK 5 (.int .i64 0) rfl (by kernel_rfl) hH ?_
    try simp only [Act.put, sA, sB, sC]
    refine takeK 6 (.agg #[.int .i64 x0, .int .i64 0, .int .i64 3]) rfl (by kernel_rfl) hH ?_
    try simp only [Act.put, sA, sB, sC]
    refine takeK 7 (.slice (some ⟨q, off, none⟩) n c) rfl (by kernel_rfl) hH ?_
    try simp only [Act.put, sA, sB, sC]
    refine takeK 8 (.int .i64 (i : Int)) rfl (by kernel_rfl) hH ?_
    try simp only [Act.put, sA, sB, sC]
    refine takeK 9 (.int .i64 ((i : Int) + 1)) rfl (by kernel_rfl) hH ?_ (Or.inl ⟨by rfl, fun V hV => by go_simp; exact HW1.out⟩)
    try simp only [Act.put, sA, sB, sC]
    refine takeK 10 (.pointer (some ⟨q, off + (i + 1), none⟩)) rfl (by kernel_rfl) hH ?_ (Or.inl ⟨by rfl, fun V hV => by go_simp; first | done | omega | (intro h; omega) | (constructor <;> omega)⟩)
    try simp only [Act.put, sA, sB, sC]
    refine takeK 11 (.int .i64 x1) rfl (by kernel_rfl) hH ?_ (Or.inl ⟨by rfl, fun V hV => by obtain ⟨h0, h1, h2, h3⟩ := hV; go_simp⟩)
    try simp only [Act.put, sA, sB, sC]
    refine takeK 12 (.slice (some ⟨q, off, none⟩) n c) rfl (by kernel_rfl) hH ?_
    try simp only [Act.put, sA, sB, sC]
    refine takeK 13 (.int .i64 (i : Int)) rfl (by kernel_rfl) hH ?_
    try simp only [Act.put, sA, sB, sC]
    refine takeK 14 (.int .i64 ((i : Int) + 2)) rfl (by kernel_rfl) hH ?_ (Or.inl ⟨by rfl, fun V hV => by go_simp; exact HW2.out⟩)
    try simp only [Act.put, sA, sB, sC]
    refine takeK 15 (.pointer (some ⟨q, off + (i + 2), none⟩)) rfl (by kernel_rfl) hH ?_ (Or.inl ⟨by rfl, fun V hV => by go_simp; first | done | omega | (intro h; omega) | (constructor <;> omega)⟩)
    try simp only [Act.put, sA, sB, sC]
    refine takeK 16 (.int .i64 x2) rfl (by kernel_rfl) hH ?_ (Or.inl ⟨by rfl, fun V hV => by obtain ⟨h0, h1, h2, h3⟩ := hV; go_simp⟩)
    try simp only [Act.put, sA, sB, sC]
    refine takeK 17 (.agg #[.int .i64 x1, .int .i64 x2, .int .i64 3]) rfl (by kernel_rfl) hH ?_
    try simp only [Act.put, sA, sB, sC]
    refine takeK 18 (.slice (some ⟨q, off, none⟩) n c) rfl (by kernel_rfl) hH ?_
    try simp only [Act.put, sA, sB, sC]
    refine takeK 19 (.int .i64 (i : Int)) rfl (by kernel_rfl) hH ?_
    try simp only [Act.put, sA, sB, sC]
    refine takeK 20 (.int .i64 ((i : Int) + 3)) rfl (by kernel_rfl) hH ?_ (Or.inl ⟨by rfl, fun V hV => by go_simp; exact HW3.out⟩)
    try simp only [Act.put, sA, sB, sC]
    refine takeK 21 (.pointer (some ⟨q, off + (i + 3), none⟩)) rfl (by kernel_rfl) hH ?_ (Or.inl ⟨by rfl, fun V hV => by go_simp; first | done | omega | (intro h; omega) | (constructor <;> omega)⟩)
    try simp only [Act.put, sA, sB, sC]
    refine takeK 22 (.int .i64 x3) rfl (by kernel_rfl) hH ?_ (Or.inl ⟨by rfl, fun V hV => by obtain ⟨h0, h1, h2, h3⟩ := hV; go_simp⟩)
    try simp only [Act.put, sA, sB, sC]
    refine takeK 23 (.agg #[.int .i64 x3, .int .i64 0, .int .i64 1]) rfl (by kernel_rfl) hH ?_
    try simp only [Act.put, sA, sB, sC]
    refine wpUpto_one (i := 24) (by kernel_rfl) rfl (fun K hK => ?_)
    go_simp
    have hb8 : Below wr.heap.size wr (wr.drew.alloc (.cells #[.int .i64 x0, .int .i64 0, .int .i64 3, .int .i64 x1, .int .i64 x2, .int .i64 3, .int .i64 x3, .int .i64 0, .int .i64 1] 112)) := (Below.refl _ _).drew.alloc (Nat.le_refl _) _
    have HB8 : Hid (Below w.heap.size w (wr.drew.alloc (.cells #[.int .i64 x0, .int .i64 0, .int .i64 3, .int .i64 x1, .int .i64 x2, .int .i64 3, .int .i64 x3, .int .i64 0, .int .i64 1] 112))) := HB.out.drew.alloc HB.out.size _
    have hH8 : (wr.drew.alloc (.cells #[.int .i64 x0, .int .i64 0, .int .i64 3, .int .i64 x1, .int .i64 x2, .int .i64 3, .int .i64 x3, .int .i64 0, .int .i64 1] 112)).cell? ⟨q, off + i, none⟩ = some (.int .i64 x0) ∧ (wr.drew.alloc (.cells #[.int .i64 x0, .int .i64 0, .int .i64 3, .int .i64 x1, .int .i64 x2, .int .i64 3, .int .i64 x3, .int .i64 0, .int .i64 1] 112)).cell? ⟨q, off + (i + 1), none⟩ = some (.int .i64 x1) ∧ (wr.drew.alloc (.cells #[.int .i64 x0, .int .i64 0, .int .i64 3, .int .i64 x1, .int .i64 x2, .int .i64 3, .int .i64 x3, .int .i64 0, .int .i64 1] 112)).cell? ⟨q, off + (i + 2), none⟩ = some (.int .i64 x2) ∧ (wr.drew.alloc (.cells #[.int .i64 x0, .int .i64 0, .int .i64 3, .int .i64 x1, .int .i64 x2, .int .i64 3, .int .i64 x3, .int .i64 0, .int .i64 1] 112)).cell? ⟨q, off + (i + 3), none⟩ = some (.int .i64 x3) := ⟨keepC hb8 k0, keepC hb8 k1, keepC hb8 k2, keepC hb8 k3⟩
    have HW8 := Lib.hid (own_below HW.out hb8)
    refine hK.out _ _ (fun _ => hH8) ?_
    replace hH := hH8
    clear hH8 hb8
    clear hK K
    try simp only [Act.put, sA, sB, sC]
    refine wpUpto_one (i := 25) (by kernel_rfl) rfl (fun K hK => ?_)
    refine step_appA elA rfl _ _ rfl (wr.drew.alloc (.cells #[.int .i64 x0, .int .i64 0, .int .i64 3, .int .i64 x1, .int .i64 x2, .int .i64 3, .int .i64 x3, .int .i64 0, .int .i64 1] 112)) w.heap.size (some ⟨g, 0, none⟩) k cc (done.flatMap clS) wr.heap.size 3 3 (([(x0, 0, 3), (x1, x2, 3), (x3, 0, 1)] : List Stp).flatMap clS) rfl rfl HW8.out rfl (lies_new (w := wr.drew)) (fun u hu => clS_one (L := [(x0, 0, 3), (x1, x2, 3), (x3, 0, 1)]) u hu) (by decide) (by have := HI.out; have := HNB.out; omega) (by have := HI.out; have := HNB.out; omega) HB8.out.size ?_
    intro g9 c9 w9 ho9 hg9 hat9
    have HB9 : Hid (Below w.heap.size w w9) := by
     refine Below.trans HB8.out ⟨hg9.os, hg9.tape, hg9.output, hg9.size, fun j hj => hg9.block j (Nat.lt_of_lt_of_le hj HB8.out.size) (fun e => ?_)⟩
     have := (HW8.out.lt j e.symm).1
     omega
    have HW9 : Hid (w9.ownsRow w.heap.size 112 3 (.slice (some ⟨g9, 0, none⟩) (k + 3) c9) (k + 3) ((done ++ [(x0, 0, 3), (x1, x2, 3), (x3, 0, 1)]).flatMap clS)) := by unfold Hid; rw [List.flatMap_append]; exact ho9
    have hH9 : w9.cell? ⟨q, off + i, none⟩ = some (.int .i64 x0) ∧ w9.cell? ⟨q, off + (i + 1), none⟩ = some (.int .i64 x1) ∧ w9.cell? ⟨q, off + (i + 2), none⟩ = some (.int .i64 x2) ∧ w9.cell? ⟨q, off + (i + 3), none⟩ = some (.int .i64 x3) := ⟨keepC HB9.out HQ0.out, keepC HB9.out HQ1.out, keepC HB9.out HQ2.out, keepC HB9.out HQ3.out⟩
    refine hK.out _ _ (fun _ => hH9) ?_
    replace hH := hH9
    clear hH9 ho9 hg9 hat9 hK K
    try simp only [Act.put, sA, sB, sC]
    refine wpUpto_one (i := 26) (by kernel_rfl) rfl (fun K hK => ?_)
    go_simp
    refine hK.out _ _ (fun h => absurd rfl h) ?_
    clear hK K
    try simp only [Act.put, sA, sB, sC]
    refine wpUpto_done (by kernel_rfl) ?_ _
    clear hH k0 k1 k2 k3
    clear hi0 hj0 hi1 hj1 hi2 hj2 hi3 hj3 hn0 ky
    go_wp2_with fail
    exact ⟨⟨i + 4, k + 3, g9, c9, _, rfl, by first | rw [hw2] | go_num, by have := HK.out; unfold Hid; simp; omega, by have := HI.out; have := HLT.out; unfold Hid; omega, HW9, HB9, HP3⟩, by (try rw [hw2]); have := HLT.out; simp only [intOf]; omega⟩
  ·have he : pd = done := by
    have h := HP.out
    rw [wav_short (by rw [List.length_drop, HN.out]; omega), List.append_nil] at h
    exact h
   subst he
   go_wp2_with fail
   go_ret
   have hk := HK.out
   subst hk
   exact ⟨g, cc, rfl, HW.out, HB.out⟩
end Go.Proofs.YtklenppldblbdaaGreat
