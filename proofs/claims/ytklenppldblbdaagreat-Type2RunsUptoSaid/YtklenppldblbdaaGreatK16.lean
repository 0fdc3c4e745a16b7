import Derived.Test.YtklenppldblbdaaGreatK15
set_option linter.unusedSimpArgs false
set_option linter.unusedVariables false
namespace Go.Proofs.YtklenppldblbdaaGreat
open Go.RowKit Go.PlainAid
theorem turn_short : ∀ {l : List Int} {ax : Bool}, l.length ≤ 3 → turnD l ax = []
 | [], _, _ => rfl
 | [_], _, _ => rfl
 | [_, _], _, _ => rfl
 | [_, _, _], _, _ => rfl
 | _ :: _ :: _ :: _ :: _, _, h => by simp at h
set_option maxRecDepth 20000 in
set_option maxHeartbeats 1600000 in
theorem across30_d (l : List Int) (a : Option Addr) (c : Nat) (w : World) (ho : Opds w l a) (hn : l.length ≤ 1000) (hl : l.length ≤ c) (h4 : l.length % 4 ≤ 1) :
 Calls Tryz.prog 62 #[.int .i64 30, .slice a l.length c] w (RowPost8 (turnD l false) w) := by
 obtain ⟨n, HN⟩ : ∃ n, Hid (l.length = n) := ⟨_, rfl⟩
 have HO := Lib.hid ho
 have HNB : Hid (n ≤ 1000 ∧ n ≤ c ∧ n % 4 ≤ 1) := by have := HN.out; unfold Hid; omega
 obtain ⟨m, HM⟩ : ∃ m, Hid (n / 4 = m) := ⟨_, rfl⟩
 have hquo : (n : Int) / 4 = (m : Int) := by have := HM.out; omega
 have hquo2 : Int.tdiv (n : Int) 4 = (m : Int) := by rw [Int.tdiv_eq_ediv_of_nonneg (by omega)]; exact hquo
 obtain ⟨pd, HPD⟩ : ∃ pd, Hid (turnD l false = pd) := ⟨_, rfl⟩
 have HP0 : Hid (pd = [] ++ turnD (l.drop (4 * 0)) false) := HPD.out.symm
 rw [HN.out, HPD.out]
 have HL0 : Hid ((w.alloc (.cells #[] 112)).ownsRow w.heap.size 112 3 (.slice (some ⟨w.heap.size, 0, none⟩) 0 0) 0 []) := World.ownsRow_lit (base := w.heap.size) (e := 112) (size := 3) w #[] 0 (Nat.le_refl _) (by decide) rfl
 have HB0 : Hid (Below w.heap.size w (w.alloc (.cells #[] 112))) := (Below.refl _ _).alloc (Nat.le_refl _) _
 have hmw : wrap64 (m : Int) = (m : Int) := by have := HM.out; have := HNB.out; unfold wrap64; omega
 have hqw : wrap64 ((n : Int) / 4) = (m : Int) := by rw [hquo]; exact hmw
 have hqw2 : wrap64 (Int.tdiv (n : Int) 4) = (m : Int) := by rw [hquo2]; exact hmw
 clear ho hn hl HPD h4
 go_enter Tryz.func62, Tryz.ntmps62
 go_wp2_with fail
 (try rw [hquo])
 (try rw [hquo2])
 (try rw [hmw])
 go_loopw [5, 7] (fun ov iv wr => ∃ (k g cc : Nat) (done : List Stp) (ax1 : Bool), ov = .slice (some ⟨g, 0, none⟩) (3 * k) cc ∧ iv = .int .i64 (k : Int) ∧ Hid (done.length = 3 * k) ∧ k ≤ m ∧ Hid (k % 2 = if ax1 = false then 0 else 1) ∧ Hid (wr.ownsRow w.heap.size 112 3 (.slice (some ⟨g, 0, none⟩) (3 * k) cc) (3 * k) (done.flatMap clS)) ∧ Hid (Below w.heap.size w wr) ∧ Hid (pd = done ++ turnD (l.drop (4 * k)) ax1)) (fun _ iv _ => m - (intOf iv).toNat)
 case atStart => exact ⟨0, _, _, [], false, rfl, rfl, rfl, Nat.zero_le _, rfl, HL0, HB0, HP0⟩
 case round =>
  clear HL0 HB0 HP0 hquo hquo2 hmw hqw hqw2
  obtain ⟨k, g, cc, done, ax1, rfl, rfl, HK, hk, HAX, HW, HB, HP⟩ := hrel
  by_cases hlt : k < m
  ·have hlt' : (k : Int) < (m : Int) := by omega
   have hk0 : (0 : Int) ≤ (k : Int) := by omega
   have hm4 : 4 * m ≤ n := by have := HM.out; omega
   have HKN : Hid (k + 1 ≤ m ∧ k ≤ 1000 ∧ m ≤ 1000 ∧ k < m) := by have := HNB.out; unfold Hid; omega
   obtain ⟨i, HI4⟩ : ∃ i, Hid (4 * k = i) := ⟨_, rfl⟩
   have hiN : i + 3 < n := by have := HI4.out; omega
   have h4k : wrap64 (4 * (k : Int)) = (i : Int) := by have := HI4.out; have := HNB.out; unfold wrap64; omega
   have h4k2 : 4 * (k : Int) = (i : Int) := by have := HI4.out; omega
   have H4K : Hid (IntKind.i64.wrap (4 * (k : Int)) = (i : Int)) := by unfold Hid; rw [h4k2]; exact IntWalk.i64_in _ (by have := HNB.out; omega)
   have HV1 : Hid (IntKind.i64.wrap ((i : Int) + 1) = (i : Int) + 1) := IntWalk.i64_in _ (by have := HNB.out; omega)
   have HV2 : Hid (IntKind.i64.wrap ((i : Int) + 2) = (i : Int) + 2) := IntWalk.i64_in _ (by have := HNB.out; omega)
   have HV3 : Hid (IntKind.i64.wrap ((i : Int) + 3) = (i : Int) + 3) := IntWalk.i64_in _ (by have := HNB.out; omega)
   have hw1 : wrap64 ((i : Int) + 1) = (i : Int) + 1 := by have := HNB.out; unfold wrap64; omega
   have hw2 : wrap64 ((i : Int) + 2) = (i : Int) + 2 := by have := HNB.out; unfold wrap64; omega
   have hw3 : wrap64 ((i : Int) + 3) = (i : Int) + 3 := by have := HNB.out; unfold wrap64; omega
   have hi0 : (i : Int) < (n : Int) := by omega
   have hj0 : (0 : Int) ≤ (i : Int) := by omega
   obtain ⟨x0, hx0⟩ := get_of (show i < l.length by rw [HN.out]; omega)
   have hi1 : ((i : Int) + 1) < (n : Int) := by omega
   have hj1 : (0 : Int) ≤ ((i : Int) + 1) := by omega
   obtain ⟨x1, hx1⟩ := get_of (show (i + 1) < l.length by rw [HN.out]; omega)
   have hi2 : ((i : Int) + 2) < (n : Int) := by omega
   have hj2 : (0 : Int) ≤ ((i : Int) + 2) := by omega
   obtain ⟨x2, hx2⟩ := get_of (show (i + 2) < l.length by rw [HN.out]; omega)
   have hi3 : ((i : Int) + 3) < (n : Int) := by omega
   have hj3 : (0 : Int) ≤ ((i : Int) + 3) := by omega
   obtain ⟨x3, hx3⟩ := get_of (show (i + 3) < l.length by rw [HN.out]; omega)
   have HP1 : Hid (pd = done ++ ((if ax1 = true then [(x0, 0, 3), (x1, x2, 3), (if (l.drop (i + 4)).length = 1 then (l.drop (i + 4)).headD 0 else 0, x3, 1)] else [(0, x0, 3), (x1, x2, 3), (x3, if (l.drop (i + 4)).length = 1 then (l.drop (i + 4)).headD 0 else 0, 1)]) ++ turnD (l.drop (i + 4)) (!ax1))) := by
    have h := HP.out
    rw [HI4.out, drop_four hx0 hx1 hx2 hx3, turnD] at h
    exact h
   obtain ⟨q, off, rfl, hat⟩ := HO.out.at (by rw [HN.out]; omega)
   have k0 := keepC HB.out (hat i x0 hx0)
   have k1 := keepC HB.out (hat (i + 1) x1 hx1)
   have k2 := keepC HB.out (hat (i + 2) x2 hx2)
   have k3 := keepC HB.out (hat (i + 3) x3 hx3)
   have HX := Lib.hid (next64 (j := k) (by have := HKN.out; omega))
   have hdl : (l.drop (i + 4)).length = n - (i + 4) := by rw [List.length_drop, HN.out]
   have hm1 : wrap64 ((m : Int) - 1) = (m : Int) - 1 := by have := HKN.out; unfold wrap64; omega
   have HDL := Lib.hid hdl
   have HHL := Lib.hid (And.intro hm4 (And.intro hiN hlt))
   have HAT := Lib.hid hat
   clear hdl hm4 hiN hlt hat hx0 hx1 hx2 hx3 hk
   go_wp2_with fail
   refine wp_region_upto (fun V => V.cell? ⟨q, off + i, none⟩ = some (.int .i64 x0) ∧ V.cell? ⟨q, off + (i + 1), none⟩ = some (.int .i64 x1) ∧ V.cell? ⟨q, off + (i + 2), none⟩ = some (.int .i64 x2) ∧ V.cell? ⟨q, off + (i + 3), none⟩ = some (.int .i64 x3)) 26 (by kernel_rfl) ⟨k0, k1, k2, k3⟩ (fun hH => ?_)
   refine takeK 0 (.slice (some ⟨q, off, none⟩) n c) rfl (by kernel_rfl) hH ?_
   try simp only [Act.put, sA, sB, sC]
   refine takeK 1 (.int .i64 (k : Int)) rfl (by kernel_rfl) hH ?_
   try simp only [Act.put, sA, sB, sC]
   refine takeK 2 (.int .i64 (i : Int)) rfl (by kernel_rfl) hH ?_ (Or.inl ⟨by rfl, fun V hV => by go_simp; first | done | exact H4K.out | exact IntWalk.i64_in _ (by have := HNB.out; have := HHL.out; omega)⟩)
   try simp only [Act.put, sA, sB, sC]
   refine takeK 3 (.pointer (some ⟨q, off + i, none⟩)) rfl (by kernel_rfl) hH ?_ (Or.inl ⟨by rfl, fun V hV => by go_simp; first | done | omega | (intro h; omega) | (constructor <;> omega)⟩)
   try simp only [Act.put, sA, sB, sC]
   refine takeK 4 (.int .i64 x0) rfl (by kernel_rfl) hH ?_ (Or.inl ⟨by rfl, fun V hV => by obtain ⟨h0, h1, h2, h3⟩ := hV; go_simp⟩)
   try simp only [Act.put, sA, sB, sC]
   refine takeK 5 (.slice (some ⟨q, off, none⟩) n c) rfl (by kernel_rfl) hH ?_
   try simp only [Act.put, sA, sB, sC]
   refine takeK 6 (.int .i64 (k : Int)) rfl (by kernel_rfl) hH ?_
   try simp only [Act.put, sA, sB, sC]
   refine takeK 7 (.int .i64 (i : Int)) rfl (by kernel_rfl) hH ?_ (Or.inl ⟨by rfl, fun V hV => by go_simp; first | done | exact H4K.out | exact IntWalk.i64_in _ (by have := HNB.out; have := HHL.out; omega)⟩)
   try simp only [Act.put, sA, sB, sC]
   refine takeK 8 (.int .i64 ((i : Int) + 1)) rfl (by kernel_rfl) hH ?_ (Or.inl ⟨by rfl, fun V hV => by go_simp; exact HV1.out⟩)
   try simp only [Act.put, sA, sB, sC]
   refine takeK 9 (.pointer (some ⟨q, off + (i + 1), none⟩)) rfl (by kernel_rfl) hH ?_ (Or.inl ⟨by rfl, fun V hV => by go_simp; first | done | omega | (intro h; omega) | (constructor <;> omega)⟩)
   try simp only [Act.put, sA, sB, sC]
   refine takeK 10 (.int .i64 x1) rfl (by kernel_rfl) hH ?_ (Or.inl ⟨by rfl, fun V hV => by obtain ⟨h0, h1, h2, h3⟩ := hV; go_simp⟩)
   try simp only [Act.put, sA, sB, sC]
   refine takeK 11 (.slice (some ⟨q, off, none⟩) n c) rfl (by kernel_rfl) hH ?_
   try simp only [Act.put, sA, sB, sC]
   refine takeK 12 (.int .i64 (k : Int)) rfl (by kernel_rfl) hH ?_
   try simp only [Act.put, sA, sB, sC]
   refine takeK 13 (.int .i64 (i : Int)) rfl (by kernel_rfl) hH ?_ (Or.inl ⟨by rfl, fun V hV => by go_simp; first | done | exact H4K.out | exact IntWalk.i64_in _ (by have := HNB.out; have := HHL.out; omega)⟩)
   try simp only [Act.put, sA, sB, sC]
   refine takeK 14 (.int .i64 ((i : Int) + 2)) rfl (by kernel_rfl) hH ?_ (Or.inl ⟨by rfl, fun V hV => by go_simp; exact HV2.out⟩)
   try simp only [Act.put, sA, sB, sC]
   refine takeK 15 (.pointer (some ⟨q, off + (i + 2), none⟩)) rfl (by kernel_rfl) hH ?_ (Or.inl ⟨by rfl, fun V hV => by go_simp; first | done | omega | (intro h; omega) | (constructor <;> omega)⟩)
   try simp only [Act.put, sA, sB, sC]
   refine takeK 16 (.int .i64 x2) rfl (by kernel_rfl) hH ?_ (Or.inl ⟨by rfl, fun V hV => by obtain ⟨h0, h1, h2, h3⟩ := hV; go_simp⟩)
   try simp only [Act.put, sA, sB, sC]
   refine takeK 17 (.slice (some ⟨q, off, none⟩) n c) rfl (by kernel_rfl) hH ?_
   try simp only [Act.put, sA, sB, sC]
   refine takeK 18 (.int .i64 (k : Int)) rfl (by kernel_rfl) hH ?_
   try simp only [Act.put, sA, sB, sC]
   refine takeK 19 (.int .i64 (i : Int)) rfl (by kernel_rfl) hH ?_ (Or.inl ⟨by rfl, fun V hV => by go_simp; first | done | exact H4K.out | exact IntWalk.i64_in _ (by have := HNB.out; have := HHL.out; omega)⟩)
   try simp only [Act.put, sA, sB, sC]
   refine takeK 20 (.int .i64 ((i : Int) + 3)) rfl (by kernel_rfl) hH ?_ (Or.inl ⟨by rfl, fun V hV => by go_simp; exact HV3.out⟩)
   try simp only [Act.put, sA, sB, sC]
   refine takeK 21 (.pointer (some ⟨q, off + (i + 3), none⟩)) rfl (by kernel_rfl) hH ?_ (Or.inl ⟨by rfl, fun V hV => by go_simp; first | done | omega | (intro h; omega) | (constructor <;> omega)⟩)
   try simp only [Act.put, sA, sB, sC]
   refine takeK 22 (.int .i64 x3) rfl (by kernel_rfl) hH ?_ (Or.inl ⟨by rfl, fun V hV => by obtain ⟨h0, h1, h2, h3⟩ := hV; go_simp⟩)
   try simp only [Act.put, sA, sB, sC]
   refine takeK 23 (.int .i64 x0) rfl (by kernel_rfl) hH ?_
   try simp only [Act.put, sA, sB, sC]
   refine takeK 24 (.int .i64 x1) rfl (by kernel_rfl) hH ?_
   try simp only [Act.put, sA, sB, sC]
   refine takeK 25 (.int .i64 x2) rfl (by kernel_rfl) hH ?_
   try simp only [Act.put, sA, sB, sC]
   refine wpUpto_one (i := 26) (by kernel_rfl) rfl (fun K hK => ?_)
   go_simp
   refine hK.out _ _ (fun h => absurd rfl h) ?_
   clear hK K
   try simp only [Act.put, sA, sB, sC]
   refine wpUpto_done (by kernel_rfl) ?_ _
   have hdl := HDL.out
   have hm4 := HHL.out.1
   have hiN := HHL.out.2.1
   have hlt := HHL.out.2.2
   have hat := HAT.out
   clear hH HDL HHL HAT
   by_cases hlast : k + 1 = m
   ·by_cases hodd : n % 4 = 1
    ·obtain ⟨y, hy⟩ := get_of (show n - 1 < l.length by rw [HN.out]; omega)
     have hr1 : (l.drop (i + 4)).length = 1 := by rw [hdl]; have := HI4.out; have := HM.out; omega
     have hry : (l.drop (i + 4)).headD 0 = y := by
      have e4 : i + 4 = n - 1 := by have := HI4.out; have := HM.out; omega
      rw [e4]
      have := List.drop_eq_getElem_cons (show n - 1 < l.length by rw [HN.out]; omega)
      rw [this]
      exact (List.getElem?_eq_some_iff.1 hy).2
     have HP2 := HP1
     rw [if_pos hr1, hry] at HP2
     have ky := keepC HB.out (hat (n - 1) y hy)
     have hn1 : wrap64 ((n : Int) - 1) = ((n - 1 : Nat) : Int) := by have := HNB.out; unfold wrap64; omega
     have hn2 : ((n - 1 : Nat) : Int) < (n : Int) := by omega
     have hq1 : ((k : Int) == (m : Int) - 1) = true := by simp; omega
     have hq2 : ((n : Int) % 4 == 1) = true := by simp; omega
     clear HP1 HP hr1 hry hy hat hdl hlast hodd hlt hm4 hiN
     cases ax1
     ·have hpar : ((k : Int) % 2 == 0) = true := by have := HAX.out; simp at this ⊢; omega
      have HP3 : Hid (pd = (done ++ [(0, x0, 3), (x1, x2, 3), (x3, y, 1)]) ++ turnD (l.drop (i + 4)) (!false)) := by have h := HP2.out; simp only [if_true, if_false, Bool.false_eq_true] at h; rw [h]; unfold Hid; simp
      have HAX2 : Hid ((k + 1) % 2 = if (!false) = false then 0 else 1) := by have := HAX.out; unfold Hid; simp at this ⊢; omega
      have hb8 : Below wr.heap.size wr (wr.drew.alloc (.cells #[.int .i64 0, .int .i64 x0, .int .i64 3, .int .i64 x1, .int .i64 x2, .int .i64 3, .int .i64 x3, .int .i64 y, .int .i64 1] 112)) := (Below.refl _ _).drew.alloc (Nat.le_refl _) _
      have HB8 : Hid (Below w.heap.size w (wr.drew.alloc (.cells #[.int .i64 0, .int .i64 x0, .int .i64 3, .int .i64 x1, .int .i64 x2, .int .i64 3, .int .i64 x3, .int .i64 y, .int .i64 1] 112))) := HB.out.drew.alloc HB.out.size _
      have HW8 := Lib.hid (own_below HW.out hb8)
      clear hb8 HP2
      go_wp2_with (at_builtin; refine wpList_appA elA rfl _ _ rfl (wr.drew.alloc (.cells #[.int .i64 0, .int .i64 x0, .int .i64 3, .int .i64 x1, .int .i64 x2, .int .i64 3, .int .i64 x3, .int .i64 y, .int .i64 1] 112)) w.heap.size (some ⟨g, 0, none⟩) (3 * k) cc (done.flatMap clS) wr.heap.size 3 3 (([(0, x0, 3), (x1, x2, 3), (x3, y, 1)] : List Stp).flatMap clS) rfl rfl HW8.out rfl (lies_new (w := wr.drew)) (fun u hu => clS_one (L := [(0, x0, 3), (x1, x2, 3), (x3, y, 1)]) u hu) (by decide) (by have := HKN.out; omega) (by have := HKN.out; omega) HB8.out.size ?_; intro g9 c9 w9 ho9 hg9 hat9)
      have HB9 : Hid (Below w.heap.size w w9) := by
       refine Below.trans HB8.out ⟨hg9.os, hg9.tape, hg9.output, hg9.size, fun j hj => hg9.block j (Nat.lt_of_lt_of_le hj HB8.out.size) (fun e => ?_)⟩
       have := (HW8.out.lt j e.symm).1
       omega
      have HW9 : Hid (w9.ownsRow w.heap.size 112 3 (.slice (some ⟨g9, 0, none⟩) (3 * (k + 1)) c9) (3 * (k + 1)) ((done ++ [(0, x0, 3), (x1, x2, 3), (x3, y, 1)]).flatMap clS)) := by unfold Hid; rw [List.flatMap_append, Nat.mul_add]; exact ho9
      clear ho9 hg9 hat9
      exact ⟨⟨k + 1, g9, c9, _, !false, by rw [Nat.mul_add], by first | rw [HX.out] | go_num, by have := HK.out; unfold Hid; simp; omega, HKN.out.1, HAX2, HW9, HB9, by have h := HP3.out; rw [← HI4.out] at h; rw [Nat.mul_add]; exact h⟩, by (try rw [HX.out]); have := HKN.out; simp only [intOf]; omega⟩
     ·have hpar : ((k : Int) % 2 == 0) = false := by have := HAX.out; simp at this ⊢; omega
      have HP3 : Hid (pd = (done ++ [(x0, 0, 3), (x1, x2, 3), (y, x3, 1)]) ++ turnD (l.drop (i + 4)) (!true)) := by have h := HP2.out; simp only [if_true, if_false, Bool.false_eq_true] at h; rw [h]; unfold Hid; simp
      have HAX2 : Hid ((k + 1) % 2 = if (!true) = false then 0 else 1) := by have := HAX.out; unfold Hid; simp at this ⊢; omega
      have hb8 : Below wr.heap.size wr (wr.drew.alloc (.cells #[.int .i64 x0, .int .i64 0, .int .i64 3, .int .i64 x1, .int .i64 x2, .int .i64 3, .int .i64 y, .int .i64 x3, .int .i64 1] 112)) := (Below.refl _ _).drew.alloc (Nat.le_refl _) _
      have HB8 : Hid (Below w.heap.size w (wr.drew.alloc (.cells #[.int .i64 x0, .int .i64 0, .int .i64 3, .int .i64 x1, .int .i64 x2, .int .i64 3, .int .i64 y, .int .i64 x3, .int .i64 1] 112))) := HB.out.drew.alloc HB.out.size _
      have HW8 := Lib.hid (own_below HW.out hb8)
      clear hb8 HP2
      go_wp2_with (at_builtin; refine wpList_appA elA rfl _ _ rfl (wr.drew.alloc (.cells #[.int .i64 x0, .int .i64 0, .int .i64 3, .int .i64 x1, .int .i64 x2, .int .i64 3, .int .i64 y, .int .i64 x3, .int .i64 1] 112)) w.heap.size (some ⟨g, 0, none⟩) (3 * k) cc (done.flatMap clS) wr.heap.size 3 3 (([(x0, 0, 3), (x1, x2, 3), (y, x3, 1)] : List Stp).flatMap clS) rfl rfl HW8.out rfl (lies_new (w := wr.drew)) (fun u hu => clS_one (L := [(x0, 0, 3), (x1, x2, 3), (y, x3, 1)]) u hu) (by decide) (by have := HKN.out; omega) (by have := HKN.out; omega) HB8.out.size ?_; intro g9 c9 w9 ho9 hg9 hat9)
      have HB9 : Hid (Below w.heap.size w w9) := by
       refine Below.trans HB8.out ⟨hg9.os, hg9.tape, hg9.output, hg9.size, fun j hj => hg9.block j (Nat.lt_of_lt_of_le hj HB8.out.size) (fun e => ?_)⟩
       have := (HW8.out.lt j e.symm).1
       omega
      have HW9 : Hid (w9.ownsRow w.heap.size 112 3 (.slice (some ⟨g9, 0, none⟩) (3 * (k + 1)) c9) (3 * (k + 1)) ((done ++ [(x0, 0, 3), (x1, x2, 3), (y, x3, 1)]).flatMap clS)) := by unfold Hid; rw [List.flatMap_append, Nat.mul_add]; exact ho9
      clear ho9 hg9 hat9
      exact ⟨⟨k + 1, g9, c9, _, !true, by rw [Nat.mul_add], by first | rw [HX.out] | go_num, by have := HK.out; unfold Hid; simp; omega, HKN.out.1, HAX2, HW9, HB9, by have h := HP3.out; rw [← HI4.out] at h; rw [Nat.mul_add]; exact h⟩, by (try rw [HX.out]); have := HKN.out; simp only [intOf]; omega⟩
    ·have hr1 : ¬ (l.drop (i + 4)).length = 1 := by rw [hdl]; have := HI4.out; have := HM.out; omega
     have HP2 := HP1
     rw [if_neg hr1] at HP2
     have hq1 : ((k : Int) == (m : Int) - 1) = true := by simp; omega
     have hq2 : ((n : Int) % 4 == 1) = false := by simp; omega
     clear HP1 HP hr1 hat hdl hlast hodd hlt hm4 hiN
     cases ax1
     ·have hpar : ((k : Int) % 2 == 0) = true := by have := HAX.out; simp at this ⊢; omega
      have HP3 : Hid (pd = (done ++ [(0, x0, 3), (x1, x2, 3), (x3, 0, 1)]) ++ turnD (l.drop (i + 4)) (!false)) := by have h := HP2.out; simp only [if_true, if_false, Bool.false_eq_true] at h; rw [h]; unfold Hid; simp
      have HAX2 : Hid ((k + 1) % 2 = if (!false) = false then 0 else 1) := by have := HAX.out; unfold Hid; simp at this ⊢; omega
      have hb8 : Below wr.heap.size wr (wr.drew.alloc (.cells #[.int .i64 0, .int .i64 x0, .int .i64 3, .int .i64 x1, .int .i64 x2, .int .i64 3, .int .i64 x3, .int .i64 0, .int .i64 1] 112)) := (Below.refl _ _).drew.alloc (Nat.le_refl _) _
      have HB8 : Hid (Below w.heap.size w (wr.drew.alloc (.cells #[.int .i64 0, .int .i64 x0, .int .i64 3, .int .i64 x1, .int .i64 x2, .int .i64 3, .int .i64 x3, .int .i64 0, .int .i64 1] 112))) := HB.out.drew.alloc HB.out.size _
      have HW8 := Lib.hid (own_below HW.out hb8)
      clear hb8 HP2
      go_wp2_with (at_builtin; refine wpList_appA elA rfl _ _ rfl (wr.drew.alloc (.cells #[.int .i64 0, .int .i64 x0, .int .i64 3, .int .i64 x1, .int .i64 x2, .int .i64 3, .int .i64 x3, .int .i64 0, .int .i64 1] 112)) w.heap.size (some ⟨g, 0, none⟩) (3 * k) cc (done.flatMap clS) wr.heap.size 3 3 (([(0, x0, 3), (x1, x2, 3), (x3, 0, 1)] : List Stp).flatMap clS) rfl rfl HW8.out rfl (lies_new (w := wr.drew)) (fun u hu => clS_one (L := [(0, x0, 3), (x1, x2, 3), (x3, 0, 1)]) u hu) (by decide) (by have := HKN.out; omega) (by have := HKN.out; omega) HB8.out.size ?_; intro g9 c9 w9 ho9 hg9 hat9)
      have HB9 : Hid (Below w.heap.size w w9) := by
       refine Below.trans HB8.out ⟨hg9.os, hg9.tape, hg9.output, hg9.size, fun j hj => hg9.block j (Nat.lt_of_lt_of_le hj HB8.out.size) (fun e => ?_)⟩
       have := (HW8.out.lt j e.symm).1
       omega
      have HW9 : Hid (w9.ownsRow w.heap.size 112 3 (.slice (some ⟨g9, 0, none⟩) (3 * (k + 1)) c9) (3 * (k + 1)) ((done ++ [(0, x0, 3), (x1, x2, 3), (x3, 0, 1)]).flatMap clS)) := by unfold Hid; rw [List.flatMap_append, Nat.mul_add]; exact ho9
      clear ho9 hg9 hat9
      exact ⟨⟨k + 1, g9, c9, _, !false, by rw [Nat.mul_add], by first | rw [HX.out] | go_num, by have := HK.out; unfold Hid; simp; omega, HKN.out.1, HAX2, HW9, HB9, by have h := HP3.out; rw [← HI4.out] at h; rw [Nat.mul_add]; exact h⟩, by (try rw [HX.out]); have := HKN.out; simp only [intOf]; omega⟩
     ·have hpar : ((k : Int) % 2 == 0) = false := by have := HAX.out; simp at this ⊢; omega
      have HP3 : Hid (pd = (done ++ [(x0, 0, 3), (x1, x2, 3), (0, x3, 1)]) ++ turnD (l.drop (i + 4)) (!true)) := by have h := HP2.out; simp only [if_true, if_false, Bool.false_eq_true] at h; rw [h]; unfold Hid; simp
      have HAX2 : Hid ((k + 1) % 2 = if (!true) = false then 0 else 1) := by have := HAX.out; unfold Hid; simp at this ⊢; omega
      have hb8 : Below wr.heap.size wr (wr.drew.alloc (.cells #[.int .i64 x0, .int .i64 0, .int .i64 3, .int .i64 x1, .int .i64 x2, .int .i64 3, .int .i64 0, .int .i64 x3, .int .i64 1] 112)) := (Below.refl _ _).drew.alloc (Nat.le_refl _) _
      have HB8 : Hid (Below w.heap.size w (wr.drew.alloc (.cells #[.int .i64 x0, .int .i64 0, .int .i64 3, .int .i64 x1, .int .i64 x2, .int .i64 3, .int .i64 0, .int .i64 x3, .int .i64 1] 112))) := HB.out.drew.alloc HB.out.size _
      have HW8 := Lib.hid (own_below HW.out hb8)
      clear hb8 HP2
      go_wp2_with (at_builtin; refine wpList_appA elA rfl _ _ rfl (wr.drew.alloc (.cells #[.int .i64 x0, .int .i64 0, .int .i64 3, .int .i64 x1, .int .i64 x2, .int .i64 3, .int .i64 0, .int .i64 x3, .int .i64 1] 112)) w.heap.size (some ⟨g, 0, none⟩) (3 * k) cc (done.flatMap clS) wr.heap.size 3 3 (([(x0, 0, 3), (x1, x2, 3), (0, x3, 1)] : List Stp).flatMap clS) rfl rfl HW8.out rfl (lies_new (w := wr.drew)) (fun u hu => clS_one (L := [(x0, 0, 3), (x1, x2, 3), (0, x3, 1)]) u hu) (by decide) (by have := HKN.out; omega) (by have := HKN.out; omega) HB8.out.size ?_; intro g9 c9 w9 ho9 hg9 hat9)
      have HB9 : Hid (Below w.heap.size w w9) := by
       refine Below.trans HB8.out ⟨hg9.os, hg9.tape, hg9.output, hg9.size, fun j hj => hg9.block j (Nat.lt_of_lt_of_le hj HB8.out.size) (fun e => ?_)⟩
       have := (HW8.out.lt j e.symm).1
       omega
      have HW9 : Hid (w9.ownsRow w.heap.size 112 3 (.slice (some ⟨g9, 0, none⟩) (3 * (k + 1)) c9) (3 * (k + 1)) ((done ++ [(x0, 0, 3), (x1, x2, 3), (0, x3, 1)]).flatMap clS)) := by unfold Hid; rw [List.flatMap_append, Nat.mul_add]; exact ho9
      clear ho9 hg9 hat9
      exact ⟨⟨k + 1, g9, c9, _, !true, by rw [Nat.mul_add], by first | rw [HX.out] | go_num, by have := HK.out; unfold Hid; simp; omega, HKN.out.1, HAX2, HW9, HB9, by have h := HP3.out; rw [← HI4.out] at h; rw [Nat.mul_add]; exact h⟩, by (try rw [HX.out]); have := HKN.out; simp only [intOf]; omega⟩
   ·have hr1 : ¬ (l.drop (i + 4)).length = 1 := by rw [hdl]; have := HI4.out; have := HM.out; have := HNB.out; omega
    have HP2 := HP1
    rw [if_neg hr1] at HP2
    have hq1 : ((k : Int) == (m : Int) - 1) = false := by simp; omega
    clear HP1 HP hr1 hat hdl hlast hlt hm4 hiN
    cases ax1
    ·have hpar : ((k : Int) % 2 == 0) = true := by have := HAX.out; simp at this ⊢; omega
     have HP3 : Hid (pd = (done ++ [(0, x0, 3), (x1, x2, 3), (x3, 0, 1)]) ++ turnD (l.drop (i + 4)) (!false)) := by have h := HP2.out; simp only [if_true, if_false, Bool.false_eq_true] at h; rw [h]; unfold Hid; simp
     have HAX2 : Hid ((k + 1) % 2 = if (!false) = false then 0 else 1) := by have := HAX.out; unfold Hid; simp at this ⊢; omega
     have hb8 : Below wr.heap.size wr (wr.drew.alloc (.cells #[.int .i64 0, .int .i64 x0, .int .i64 3, .int .i64 x1, .int .i64 x2, .int .i64 3, .int .i64 x3, .int .i64 0, .int .i64 1] 112)) := (Below.refl _ _).drew.alloc (Nat.le_refl _) _
     have HB8 : Hid (Below w.heap.size w (wr.drew.alloc (.cells #[.int .i64 0, .int .i64 x0, .int .i64 3, .int .i64 x1, .int .i64 x2, .int .i64 3, .int .i64 x3, .int .i64 0, .int .i64 1] 112))) := HB.out.drew.alloc HB.out.size _
     have HW8 := Lib.hid (own_below HW.out hb8)
     clear hb8 HP2
     go_wp2_with (at_builtin; refine wpList_appA elA rfl _ _ rfl (wr.drew.alloc (.cells #[.int .i64 0, .int .i64 x0, .int .i64 3, .int .i64 x1, .int .i64 x2, .int .i64 3, .int .i64 x3, .int .i64 0, .int .i64 1] 112)) w.heap.size (some ⟨g, 0, none⟩) (3 * k) cc (done.flatMap clS) wr.heap.size 3 3 (([(0, x0, 3), (x1, x2, 3), (x3, 0, 1)] : List Stp).flatMap clS) rfl rfl HW8.out rfl (lies_new (w := wr.drew)) (fun u hu => clS_one (L := [(0, x0, 3), (x1, x2, 3), (x3, 0, 1)]) u hu) (by decide) (by have := HKN.out; omega) (by have := HKN.out; omega) HB8.out.size ?_; intro g9 c9 w9 ho9 hg9 hat9)
     have HB9 : Hid (Below w.heap.size w w9) := by
      refine Below.trans HB8.out ⟨hg9.os, hg9.tape, hg9.output, hg9.size, fun j hj => hg9.block j (Nat.lt_of_lt_of_le hj HB8.out.size) (fun e => ?_)⟩
      have := (HW8.out.lt j e.symm).1
      omega
     have HW9 : Hid (w9.ownsRow w.heap.size 112 3 (.slice (some ⟨g9, 0, none⟩) (3 * (k + 1)) c9) (3 * (k + 1)) ((done ++ [(0, x0, 3), (x1, x2, 3), (x3, 0, 1)]).flatMap clS)) := by unfold Hid; rw [List.flatMap_append, Nat.mul_add]; exact ho9
     clear ho9 hg9 hat9
     exact ⟨⟨k + 1, g9, c9, _, !false, by rw [Nat.mul_add], by first | rw [HX.out] | go_num, by have := HK.out; unfold Hid; simp; omega, HKN.out.1, HAX2, HW9, HB9, by have h := HP3.out; rw [← HI4.out] at h; rw [Nat.mul_add]; exact h⟩, by (try rw [HX.out]); have := HKN.out; simp only [intOf]; omega⟩
    ·have hpar : ((k : Int) % 2 == 0) = false := by have := HAX.out; simp at this ⊢; omega
     have HP3 : Hid (pd = (done ++ [(x0, 0, 3), (x1, x2, 3), (0, x3, 1)]) ++ turnD (l.drop (i + 4)) (!true)) := by have h := HP2.out; simp only [if_true, if_false, Bool.false_eq_true] at h; rw [h]; unfold Hid; simp
     have HAX2 : Hid ((k + 1) % 2 = if (!true) = false then 0 else 1) := by have := HAX.out; unfold Hid; simp at this ⊢; omega
     have hb8 : Below wr.heap.size wr (wr.drew.alloc (.cells #[.int .i64 x0, .int .i64 0, .int .i64 3, .int .i64 x1, .int .i64 x2, .int .i64 3, .int .i64 0, .int .i64 x3, .int .i64 1] 112)) := (Below.refl _ _).drew.alloc (Nat.le_refl _) _
     have HB8 : Hid (Below w.heap.size w (wr.drew.alloc (.cells #[.int .i64 x0, .int .i64 0, .int .i64 3, .int .i64 x1, .int .i64 x2, .int .i64 3, .int .i64 0, .int .i64 x3, .int .i64 1] 112))) := HB.out.drew.alloc HB.out.size _
     have HW8 := Lib.hid (own_below HW.out hb8)
     clear hb8 HP2
     go_wp2_with (at_builtin; refine wpList_appA elA rfl _ _ rfl (wr.drew.alloc (.cells #[.int .i64 x0, .int .i64 0, .int .i64 3, .int .i64 x1, .int .i64 x2, .int .i64 3, .int .i64 0, .int .i64 x3, .int .i64 1] 112)) w.heap.size (some ⟨g, 0, none⟩) (3 * k) cc (done.flatMap clS) wr.heap.size 3 3 (([(x0, 0, 3), (x1, x2, 3), (0, x3, 1)] : List Stp).flatMap clS) rfl rfl HW8.out rfl (lies_new (w := wr.drew)) (fun u hu => clS_one (L := [(x0, 0, 3), (x1, x2, 3), (0, x3, 1)]) u hu) (by decide) (by have := HKN.out; omega) (by have := HKN.out; omega) HB8.out.size ?_; intro g9 c9 w9 ho9 hg9 hat9)
     have HB9 : Hid (Below w.heap.size w w9) := by
      refine Below.trans HB8.out ⟨hg9.os, hg9.tape, hg9.output, hg9.size, fun j hj => hg9.block j (Nat.lt_of_lt_of_le hj HB8.out.size) (fun e => ?_)⟩
      have := (HW8.out.lt j e.symm).1
      omega
     have HW9 : Hid (w9.ownsRow w.heap.size 112 3 (.slice (some ⟨g9, 0, none⟩) (3 * (k + 1)) c9) (3 * (k + 1)) ((done ++ [(x0, 0, 3), (x1, x2, 3), (0, x3, 1)]).flatMap clS)) := by unfold Hid; rw [List.flatMap_append, Nat.mul_add]; exact ho9
     clear ho9 hg9 hat9
     exact ⟨⟨k + 1, g9, c9, _, !true, by rw [Nat.mul_add], by first | rw [HX.out] | go_num, by have := HK.out; unfold Hid; simp; omega, HKN.out.1, HAX2, HW9, HB9, by have h := HP3.out; rw [← HI4.out] at h; rw [Nat.mul_add]; exact h⟩, by (try rw [HX.out]); have := HKN.out; simp only [intOf]; omega⟩
  ·obtain rfl : k = m := by omega
   have h1 : ¬ (k : Int) < (k : Int) := by omega
   have he : pd = done := by
    have h := HP.out
    have hs : (l.drop (4 * k)).length ≤ 3 := by rw [List.length_drop, HN.out]; have := HM.out; omega
    rw [turn_short hs, List.append_nil] at h
    exact h
   subst he
   have HL := HK.out
   clear hlt hk
   go_wp2_with fail
   go_ret
   exact ⟨g, cc, by rw [HL]; rfl, by unfold PathAt; rw [HL]; exact HW.out, HB.out⟩
set_option maxRecDepth 20000 in
set_option maxHeartbeats 1600000 in
theorem across31_d (l : List Int) (a : Option Addr) (c : Nat) (w : World) (ho : Opds w l a) (hn : l.length ≤ 1000) (hl : l.length ≤ c) (h4 : l.length % 4 ≤ 1) :
 Calls Tryz.prog 62 #[.int .i64 31, .slice a l.length c] w (RowPost8 (turnD l true) w) := by
 obtain ⟨n, HN⟩ : ∃ n, Hid (l.length = n) := ⟨_, rfl⟩
 have HO := Lib.hid ho
 have HNB : Hid (n ≤ 1000 ∧ n ≤ c ∧ n % 4 ≤ 1) := by have := HN.out; unfold Hid; omega
 obtain ⟨m, HM⟩ : ∃ m, Hid (n / 4 = m) := ⟨_, rfl⟩
 have hquo : (n : Int) / 4 = (m : Int) := by have := HM.out; omega
 have hquo2 : Int.tdiv (n : Int) 4 = (m : Int) := by rw [Int.tdiv_eq_ediv_of_nonneg (by omega)]; exact hquo
 obtain ⟨pd, HPD⟩ : ∃ pd, Hid (turnD l true = pd) := ⟨_, rfl⟩
 have HP0 : Hid (pd = [] ++ turnD (l.drop (4 * 0)) true) := HPD.out.symm
 rw [HN.out, HPD.out]
 have HL0 : Hid ((w.alloc (.cells #[] 112)).ownsRow w.heap.size 112 3 (.slice (some ⟨w.heap.size, 0, none⟩) 0 0) 0 []) := World.ownsRow_lit (base := w.heap.size) (e := 112) (size := 3) w #[] 0 (Nat.le_refl _) (by decide) rfl
 have HB0 : Hid (Below w.heap.size w (w.alloc (.cells #[] 112))) := (Below.refl _ _).alloc (Nat.le_refl _) _
 have hmw : wrap64 (m : Int) = (m : Int) := by have := HM.out; have := HNB.out; unfold wrap64; omega
 have hqw : wrap64 ((n : Int) / 4) = (m : Int) := by rw [hquo]; exact hmw
 have hqw2 : wrap64 (Int.tdiv (n : Int) 4) = (m : Int) := by rw [hquo2]; exact hmw
 clear ho hn hl HPD h4
 go_enter Tryz.func62, Tryz.ntmps62
 go_wp2_with fail
 (try rw [hquo])
 (try rw [hquo2])
 (try rw [hmw])
 go_loopw [5, 7] (fun ov iv wr => ∃ (k g cc : Nat) (done : List Stp) (ax1 : Bool), ov = .slice (some ⟨g, 0, none⟩) (3 * k) cc ∧ iv = .int .i64 (k : Int) ∧ Hid (done.length = 3 * k) ∧ k ≤ m ∧ Hid (k % 2 = if ax1 = true then 0 else 1) ∧ Hid (wr.ownsRow w.heap.size 112 3 (.slice (some ⟨g, 0, none⟩) (3 * k) cc) (3 * k) (done.flatMap clS)) ∧ Hid (Below w.heap.size w wr) ∧ Hid (pd = done ++ turnD (l.drop (4 * k)) ax1)) (fun _ iv _ => m - (intOf iv).toNat)
 case atStart => exact ⟨0, _, _, [], true, rfl, rfl, rfl, Nat.zero_le _, rfl, HL0, HB0, HP0⟩
 case round =>
  clear HL0 HB0 HP0 hquo hquo2 hmw hqw hqw2
  obtain ⟨k, g, cc, done, ax1, rfl, rfl, HK, hk, HAX, HW, HB, HP⟩ := hrel
  by_cases hlt : k < m
  ·have hlt' : (k : Int) < (m : Int) := by omega
   have hk0 : (0 : Int) ≤ (k : Int) := by omega
   have hm4 : 4 * m ≤ n := by have := HM.out; omega
   have HKN : Hid (k + 1 ≤ m ∧ k ≤ 1000 ∧ m ≤ 1000 ∧ k < m) := by have := HNB.out; unfold Hid; omega
   obtain ⟨i, HI4⟩ : ∃ i, Hid (4 * k = i) := ⟨_, rfl⟩
   have hiN : i + 3 < n := by have := HI4.out; omega
   have h4k : wrap64 (4 * (k : Int)) = (i : Int) := by have := HI4.out; have := HNB.out; unfold wrap64; omega
   have h4k2 : 4 * (k : Int) = (i : Int) := by have := HI4.out; omega
   have H4K : Hid (IntKind.i64.wrap (4 * (k : Int)) = (i : Int)) := by unfold Hid; rw [h4k2]; exact IntWalk.i64_in _ (by have := HNB.out; omega)
   have HV1 : Hid (IntKind.i64.wrap ((i : Int) + 1) = (i : Int) + 1) := IntWalk.i64_in _ (by have := HNB.out; omega)
   have HV2 : Hid (IntKind.i64.wrap ((i : Int) + 2) = (i : Int) + 2) := IntWalk.i64_in _ (by have := HNB.out; omega)
   have HV3 : Hid (IntKind.i64.wrap ((i : Int) + 3) = (i : Int) + 3) := IntWalk.i64_in _ (by have := HNB.out; omega)
   have hw1 : wrap64 ((i : Int) + 1) = (i : Int) + 1 := by have := HNB.out; unfold wrap64; omega
   have hw2 : wrap64 ((i : Int) + 2) = (i : Int) + 2 := by have := HNB.out; unfold wrap64; omega
   have hw3 : wrap64 ((i : Int) + 3) = (i : Int) + 3 := by have := HNB.out; unfold wrap64; omega
   have hi0 : (i : Int) < (n : Int) := by omega
   have hj0 : (0 : Int) ≤ (i : Int) := by omega
   obtain ⟨x0, hx0⟩ := get_of (show i < l.length by rw [HN.out]; omega)
   have hi1 : ((i : Int) + 1) < (n : Int) := by omega
   have hj1 : (0 : Int) ≤ ((i : Int) + 1) := by omega
   obtain ⟨x1, hx1⟩ := get_of (show (i + 1) < l.length by rw [HN.out]; omega)
   have hi2 : ((i : Int) + 2) < (n : Int) := by omega
   have hj2 : (0 : Int) ≤ ((i : Int) + 2) := by omega
   obtain ⟨x2, hx2⟩ := get_of (show (i + 2) < l.length by rw [HN.out]; omega)
   have hi3 : ((i : Int) + 3) < (n : Int) := by omega
   have hj3 : (0 : Int) ≤ ((i : Int) + 3) := by omega
   obtain ⟨x3, hx3⟩ := get_of (show (i + 3) < l.length by rw [HN.out]; omega)
   have HP1 : Hid (pd = done ++ ((if ax1 = true then [(x0, 0, 3), (x1, x2, 3), (if (l.drop (i + 4)).length = 1 then (l.drop (i + 4)).headD 0 else 0, x3, 1)] else [(0, x0, 3), (x1, x2, 3), (x3, if (l.drop (i + 4)).length = 1 then (l.drop (i + 4)).headD 0 else 0, 1)]) ++ turnD (l.drop (i + 4)) (!ax1))) := by
    have h := HP.out
    rw [HI4.out, drop_four hx0 hx1 hx2 hx3, turnD] at h
    exact h
   obtain ⟨q, off, rfl, hat⟩ := HO.out.at (by rw [HN.out]; omega)
   have k0 := keepC HB.out (hat i x0 hx0)
   have k1 := keepC HB.out (hat (i + 1) x1 hx1)
   have k2 := keepC HB.out (hat (i + 2) x2 hx2)
   have k3 := keepC HB.out (hat (i + 3) x3 hx3)
   have HX := Lib.hid (next64 (j := k) (by have := HKN.out; omega))
   have hdl : (l.drop (i + 4)).length = n - (i + 4) := by rw [List.length_drop, HN.out]
   have hm1 : wrap64 ((m : Int) - 1) = (m : Int) - 1 := by have := HKN.out; unfold wrap64; omega
   have HDL := Lib.hid hdl
   have HHL := Lib.hid (And.intro hm4 (And.intro hiN hlt))
   have HAT := Lib.hid hat
   clear hdl hm4 hiN hlt hat hx0 hx1 hx2 hx3 hk
   go_wp2_with fail
   refine wp_region_upto (fun V => V.cell? ⟨q, off + i, none⟩ = some (.int .i64 x0) ∧ V.cell? ⟨q, off + (i + 1), none⟩ = some (.int .i64 x1) ∧ V.cell? ⟨q, off + (i + 2), none⟩ = some (.int .i64 x2) ∧ V.cell? ⟨q, off + (i + 3), none⟩ = some (.int .i64 x3)) 26 (by kernel_rfl) ⟨k0, k1, k2, k3⟩ (fun hH => ?_)
   refine takeK 0 (.slice (some ⟨q, off, none⟩) n c) rfl (by kernel_rfl) hH ?_
   try simp only [Act.put, sA, sB, sC]
   refine takeK 1 (.int .i64 (k : Int)) rfl (by kernel_rfl) hH ?_
   try simp only [Act.put, sA, sB, sC]
   refine takeK 2 (.int .i64 (i : Int)) rfl (by kernel_rfl) hH ?_ (Or.inl ⟨by rfl, fun V hV => by go_simp; first | done | exact H4K.out | exact IntWalk.i64_in _ (by have := HNB.out; have := HHL.out; omega)⟩)
   try simp only [Act.put, sA, sB, sC]
   refine takeK 3 (.pointer (some ⟨q, off + i, none⟩)) rfl (by kernel_rfl) hH ?_ (Or.inl ⟨by rfl, fun V hV => by go_simp; first | done | omega | (intro h; omega) | (constructor <;> omega)⟩)
   try simp only [Act.put, sA, sB, sC]
   refine takeK 4 (.int .i64 x0) rfl (by kernel_rfl) hH ?_ (Or.inl ⟨by rfl, fun V hV => by obtain ⟨h0, h1, h2, h3⟩ := hV; go_simp⟩)
   try simp only [Act.put, sA, sB, sC]
   refine takeK 5 (.slice (some ⟨q, off, none⟩) n c) rfl (by kernel_rfl) hH ?_
   try simp only [Act.put, sA, sB, sC]
   refine takeK 6 (.int .i64 (k : Int)) rfl (by kernel_rfl) hH ?_
   try simp only [Act.put, sA, sB, sC]
   refine takeK 7 (.int .i64 (i : Int)) rfl (by kernel_rfl) hH ?_ (Or.inl ⟨by rfl, fun V hV => by go_simp; first | done | exact H4K.out | exact IntWalk.i64_in _ (by have := HNB.out; have := HHL.out; omega)⟩)
   try simp only [Act.put, sA, sB, sC]
   refine takeK 8 (.int .i64 ((i : Int) + 1)) rfl (by kernel_rfl) hH ?_ (Or.inl ⟨by rfl, fun V hV => by go_simp; exact HV1.out⟩)
   try simp only [Act.put, sA, sB, sC]
   refine takeK 9 (.pointer (some ⟨q, off + (i + 1), none⟩)) rfl (by kernel_rfl) hH ?_ (Or.inl ⟨by rfl, fun V hV => by go_simp; first | done | omega | (intro h; omega) | (constructor <;> omega)⟩)
   try simp only [Act.put, sA, sB, sC]
   refine takeK 10 (.int .i64 x1) rfl (by kernel_rfl) hH ?_ (Or.inl ⟨by rfl, fun V hV => by obtain ⟨h0, h1, h2, h3⟩ := hV; go_simp⟩)
   try simp only [Act.put, sA, sB, sC]
   refine takeK 11 (.slice (some ⟨q, off, none⟩) n c) rfl (by kernel_rfl) hH ?_
   try simp only [Act.put, sA, sB, sC]
   refine takeK 12 (.int .i64 (k : Int)) rfl (by kernel_rfl) hH ?_
   try simp only [Act.put, sA, sB, sC]
   refine takeK 13 (.int .i64 (i : Int)) rfl (by kernel_rfl) hH ?_ (Or.inl ⟨by rfl, fun V hV => by go_simp; first | done | exact H4K.out | exact IntWalk.i64_in _ (by have := HNB.out; have := HHL.out; omega)⟩)
   try simp only [Act.put, sA, sB, sC]
   refine takeK 14 (.int .i64 ((i : Int) + 2)) rfl (by kernel_rfl) hH ?_ (Or.inl ⟨by rfl, fun V hV => by go_simp; exact HV2.out⟩)
   try simp only [Act.put, sA, sB, sC]
   refine takeK 15 (.pointer (some ⟨q, off + (i + 2), none⟩)) rfl (by kernel_rfl) hH ?_ (Or.inl ⟨by rfl, fun V hV => by go_simp; first | done | omega | (intro h; omega) | (constructor <;> omega)⟩)
   try simp only [Act.put, sA, sB, sC]
   refine takeK 16 (.int .i64 x2) rfl (by kernel_rfl) hH ?_ (Or.inl ⟨by rfl, fun V hV => by obtain ⟨h0, h1, h2, h3⟩ := hV; go_simp⟩)
   try simp only [Act.put, sA, sB, sC]
   refine takeK 17 (.slice (some ⟨q, off, none⟩) n c) rfl (by kernel_rfl) hH ?_
   try simp only [Act.put, sA, sB, sC]
   refine takeK 18 (.int .i64 (k : Int)) rfl (by kernel_rfl) hH ?_
   try simp only [Act.put, sA, sB, sC]
   refine takeK 19 (.int .i64 (i : Int)) rfl (by kernel_rfl) hH ?_ (Or.inl ⟨by rfl, fun V hV => by go_simp; first | done | exact H4K.out | exact IntWalk.i64_in _ (by have := HNB.out; have := HHL.out; omega)⟩)
   try simp only [Act.put, sA, sB, sC]
   refine takeK 20 (.int .i64 ((i : Int) + 3)) rfl (by kernel_rfl) hH ?_ (Or.inl ⟨by rfl, fun V hV => by go_simp; exact HV3.out⟩)
   try simp only [Act.put, sA, sB, sC]
   refine takeK 21 (.pointer (some ⟨q, off + (i + 3), none⟩)) rfl (by kernel_rfl) hH ?_ (Or.inl ⟨by rfl, fun V hV => by go_simp; first | done | omega | (intro h; omega) | (constructor <;> omega)⟩)
   try simp only [Act.put, sA, sB, sC]
   refine takeK 22 (.int .i64 x3) rfl (by kernel_rfl) hH ?_ (Or.inl ⟨by rfl, fun V hV => by obtain ⟨h0, h1, h2, h3⟩ := hV; go_simp⟩)
   try simp only [Act.put, sA, sB, sC]
   refine takeK 23 (.int .i64 x0) rfl (by kernel_rfl) hH ?_
   try simp only [Act.put, sA, sB, sC]
   refine takeK 24 (.int .i64 x1) rfl (by kernel_rfl) hH ?_
   try simp only [Act.put, sA, sB, sC]
   refine takeK 25 (.int .i64 x2) rfl (by kernel_rfl) hH ?_
   try simp only [Act.put, sA, sB, sC]
   refine wpUpto_one (i := 26) (by kernel_rfl) rfl (fun K hK => ?_)
   go_simp
   refine hK.out _ _ (fun h => absurd rfl h) ?_
   clear hK K
   try simp only [Act.put, sA, sB, sC]
   refine wpUpto_done (by kernel_rfl) ?_ _
   have hdl := HDL.out
   have hm4 := HHL.out.1
   have hiN := HHL.out.2.1
   have hlt := HHL.out.2.2
   have hat := HAT.out
   clear hH HDL HHL HAT
   by_cases hlast : k + 1 = m
   ·by_cases hodd : n % 4 = 1
    ·obtain ⟨y, hy⟩ := get_of (show n - 1 < l.length by rw [HN.out]; omega)
     have hr1 : (l.drop (i + 4)).length = 1 := by rw [hdl]; have := HI4.out; have := HM.out; omega
     have hry : (l.drop (i + 4)).headD 0 = y := by
      have e4 : i + 4 = n - 1 := by have := HI4.out; have := HM.out; omega
      rw [e4]
      have := List.drop_eq_getElem_cons (show n - 1 < l.length by rw [HN.out]; omega)
      rw [this]
      exact (List.getElem?_eq_some_iff.1 hy).2
     have HP2 := HP1
     rw [if_pos hr1, hry] at HP2
     have ky := keepC HB.out (hat (n - 1) y hy)
     have hn1 : wrap64 ((n : Int) - 1) = ((n - 1 : Nat) : Int) := by have := HNB.out; unfold wrap64; omega
     have hn2 : ((n - 1 : Nat) : Int) < (n : Int) := by omega
     have hq1 : ((k : Int) == (m : Int) - 1) = true := by simp; omega
     have hq2 : ((n : Int) % 4 == 1) = true := by simp; omega
     clear HP1 HP hr1 hry hy hat hdl hlast hodd hlt hm4 hiN
     cases ax1
     ·have hpar : ((k : Int) % 2 == 0) = false := by have := HAX.out; simp at this ⊢; omega
      have HP3 : Hid (pd = (done ++ [(0, x0, 3), (x1, x2, 3), (x3, y, 1)]) ++ turnD (l.drop (i + 4)) (!false)) := by have h := HP2.out; simp only [if_true, if_false, Bool.false_eq_true] at h; rw [h]; unfold Hid; simp
      have HAX2 : Hid ((k + 1) % 2 = if (!false) = true then 0 else 1) := by have := HAX.out; unfold Hid; simp at this ⊢; omega
      have hb8 : Below wr.heap.size wr (wr.drew.alloc (.cells #[.int .i64 0, .int .i64 x0, .int .i64 3, .int .i64 x1, .int .i64 x2, .int .i64 3, .int .i64 x3, .int .i64 y, .int .i64 1] 112)) := (Below.refl _ _).drew.alloc (Nat.le_refl _) _
      have HB8 : Hid (Below w.heap.size w (wr.drew.alloc (.cells #[.int .i64 0, .int .i64 x0, .int .i64 3, .int .i64 x1, .int .i64 x2, .int .i64 3, .int .i64 x3, .int .i64 y, .int .i64 1] 112))) := HB.out.drew.alloc HB.out.size _
      have HW8 := Lib.hid (own_below HW.out hb8)
      clear hb8 HP2
      go_wp2_with (at_builtin; refine wpList_appA elA rfl _ _ rfl (wr.drew.alloc (.cells #[.int .i64 0, .int .i64 x0, .int .i64 3, .int .i64 x1, .int .i64 x2, .int .i64 3, .int .i64 x3, .int .i64 y, .int .i64 1] 112)) w.heap.size (some ⟨g, 0, none⟩) (3 * k) cc (done.flatMap clS) wr.heap.size 3 3 (([(0, x0, 3), (x1, x2, 3), (x3, y, 1)] : List Stp).flatMap clS) rfl rfl HW8.out rfl (lies_new (w := wr.drew)) (fun u hu => clS_one (L := [(0, x0, 3), (x1, x2, 3), (x3, y, 1)]) u hu) (by decide) (by have := HKN.out; omega) (by have := HKN.out; omega) HB8.out.size ?_; intro g9 c9 w9 ho9 hg9 hat9)
      have HB9 : Hid (Below w.heap.size w w9) := by
       refine Below.trans HB8.out ⟨hg9.os, hg9.tape, hg9.output, hg9.size, fun j hj => hg9.block j (Nat.lt_of_lt_of_le hj HB8.out.size) (fun e => ?_)⟩
       have := (HW8.out.lt j e.symm).1
       omega
      have HW9 : Hid (w9.ownsRow w.heap.size 112 3 (.slice (some ⟨g9, 0, none⟩) (3 * (k + 1)) c9) (3 * (k + 1)) ((done ++ [(0, x0, 3), (x1, x2, 3), (x3, y, 1)]).flatMap clS)) := by unfold Hid; rw [List.flatMap_append, Nat.mul_add]; exact ho9
      clear ho9 hg9 hat9
      exact ⟨⟨k + 1, g9, c9, _, !false, by rw [Nat.mul_add], by first | rw [HX.out] | go_num, by have := HK.out; unfold Hid; simp; omega, HKN.out.1, HAX2, HW9, HB9, by have h := HP3.out; rw [← HI4.out] at h; rw [Nat.mul_add]; exact h⟩, by (try rw [HX.out]); have := HKN.out; simp only [intOf]; omega⟩
     ·have hpar : ((k : Int) % 2 == 0) = true := by have := HAX.out; simp at this ⊢; omega
      have HP3 : Hid (pd = (done ++ [(x0, 0, 3), (x1, x2, 3), (y, x3, 1)]) ++ turnD (l.drop (i + 4)) (!true)) := by have h := HP2.out; simp only [if_true, if_false, Bool.false_eq_true] at h; rw [h]; unfold Hid; simp
      have HAX2 : Hid ((k + 1) % 2 = if (!true) = true then 0 else 1) := by have := HAX.out; unfold Hid; simp at this ⊢; omega
      have hb8 : Below wr.heap.size wr (wr.drew.alloc (.cells #[.int .i64 x0, .int .i64 0, .int .i64 3, .int .i64 x1, .int .i64 x2, .int .i64 3, .int .i64 y, .int .i64 x3, .int .i64 1] 112)) := (Below.refl _ _).drew.alloc (Nat.le_refl _) _
      have HB8 : Hid (Below w.heap.size w (wr.drew.alloc (.cells #[.int .i64 x0, .int .i64 0, .int .i64 3, .int .i64 x1, .int .i64 x2, .int .i64 3, .int .i64 y, .int .i64 x3, .int .i64 1] 112))) := HB.out.drew.alloc HB.out.size _
      have HW8 := Lib.hid (own_below HW.out hb8)
      clear hb8 HP2
      go_wp2_with (at_builtin; refine wpList_appA elA rfl _ _ rfl (wr.drew.alloc (.cells #[.int .i64 x0, .int .i64 0, .int .i64 3, .int .i64 x1, .int .i64 x2, .int .i64 3, .int .i64 y, .int .i64 x3, .int .i64 1] 112)) w.heap.size (some ⟨g, 0, none⟩) (3 * k) cc (done.flatMap clS) wr.heap.size 3 3 (([(x0, 0, 3), (x1, x2, 3), (y, x3, 1)] : List Stp).flatMap clS) rfl rfl HW8.out rfl (lies_new (w := wr.drew)) (fun u hu => clS_one (L := [(x0, 0, 3), (x1, x2, 3), (y, x3, 1)]) u hu) (by decide) (by have := HKN.out; omega) (by have := HKN.out; omega) HB8.out.size ?_; intro g9 c9 w9 ho9 hg9 hat9)
      have HB9 : Hid (Below w.heap.size w w9) := by
       refine Below.trans HB8.out ⟨hg9.os, hg9.tape, hg9.output, hg9.size, fun j hj => hg9.block j (Nat.lt_of_lt_of_le hj HB8.out.size) (fun e => ?_)⟩
       have := (HW8.out.lt j e.symm).1
       omega
      have HW9 : Hid (w9.ownsRow w.heap.size 112 3 (.slice (some ⟨g9, 0, none⟩) (3 * (k + 1)) c9) (3 * (k + 1)) ((done ++ [(x0, 0, 3), (x1, x2, 3), (y, x3, 1)]).flatMap clS)) := by unfold Hid; rw [List.flatMap_append, Nat.mul_add]; exact ho9
      clear ho9 hg9 hat9
      exact ⟨⟨k + 1, g9, c9, _, !true, by rw [Nat.mul_add], by first | rw [HX.out] | go_num, by have := HK.out; unfold Hid; simp; omega, HKN.out.1, HAX2, HW9, HB9, by have h := HP3.out; rw [← HI4.out] at h; rw [Nat.mul_add]; exact h⟩, by (try rw [HX.out]); have := HKN.out; simp only [intOf]; omega⟩
    ·have hr1 : ¬ (l.drop (i + 4)).length = 1 := by rw [hdl]; have := HI4.out; have := HM.out; omega
     have HP2 := HP1
     rw [if_neg hr1] at HP2
     have hq1 : ((k : Int) == (m : Int) - 1) = true := by simp; omega
     have hq2 : ((n : Int) % 4 == 1) = false := by simp; omega
     clear HP1 HP hr1 hat hdl hlast hodd hlt hm4 hiN
     cases ax1
     ·have hpar : ((k : Int) % 2 == 0) = false := by have := HAX.out; simp at this ⊢; omega
      have HP3 : Hid (pd = (done ++ [(0, x0, 3), (x1, x2, 3), (x3, 0, 1)]) ++ turnD (l.drop (i + 4)) (!false)) := by have h := HP2.out; simp only [if_true, if_false, Bool.false_eq_true] at h; rw [h]; unfold Hid; simp
      have HAX2 : Hid ((k + 1) % 2 = if (!false) = true then 0 else 1) := by have := HAX.out; unfold Hid; simp at this ⊢; omega
      have hb8 : Below wr.heap.size wr (wr.drew.alloc (.cells #[.int .i64 0, .int .i64 x0, .int .i64 3, .int .i64 x1, .int .i64 x2, .int .i64 3, .int .i64 x3, .int .i64 0, .int .i64 1] 112)) := (Below.refl _ _).drew.alloc (Nat.le_refl _) _
      have HB8 : Hid (Below w.heap.size w (wr.drew.alloc (.cells #[.int .i64 0, .int .i64 x0, .int .i64 3, .int .i64 x1, .int .i64 x2, .int .i64 3, .int .i64 x3, .int .i64 0, .int .i64 1] 112))) := HB.out.drew.alloc HB.out.size _
      have HW8 := Lib.hid (own_below HW.out hb8)
      clear hb8 HP2
      go_wp2_with (at_builtin; refine wpList_appA elA rfl _ _ rfl (wr.drew.alloc (.cells #[.int .i64 0, .int .i64 x0, .int .i64 3, .int .i64 x1, .int .i64 x2, .int .i64 3, .int .i64 x3, .int .i64 0, .int .i64 1] 112)) w.heap.size (some ⟨g, 0, none⟩) (3 * k) cc (done.flatMap clS) wr.heap.size 3 3 (([(0, x0, 3), (x1, x2, 3), (x3, 0, 1)] : List Stp).flatMap clS) rfl rfl HW8.out rfl (lies_new (w := wr.drew)) (fun u hu => clS_one (L := [(0, x0, 3), (x1, x2, 3), (x3, 0, 1)]) u hu) (by decide) (by have := HKN.out; omega) (by have := HKN.out; omega) HB8.out.size ?_; intro g9 c9 w9 ho9 hg9 hat9)
      have HB9 : Hid (Below w.heap.size w w9) := by
       refine Below.trans HB8.out ⟨hg9.os, hg9.tape, hg9.output, hg9.size, fun j hj => hg9.block j (Nat.lt_of_lt_of_le hj HB8.out.size) (fun e => ?_)⟩
       have := (HW8.out.lt j e.symm).1
       omega
      have HW9 : Hid (w9.ownsRow w.heap.size 112 3 (.slice (some ⟨g9, 0, none⟩) (3 * (k + 1)) c9) (3 * (k + 1)) ((done ++ [(0, x0, 3), (x1, x2, 3), (x3, 0, 1)]).flatMap clS)) := by unfold Hid; rw [List.flatMap_append, Nat.mul_add]; exact ho9
      clear ho9 hg9 hat9
      exact ⟨⟨k + 1, g9, c9, _, !false, by rw [Nat.mul_add], by first | rw [HX.out] | go_num, by have := HK.out; unfold Hid; simp; omega, HKN.out.1, HAX2, HW9, HB9, by have h := HP3.out; rw [← HI4.out] at h; rw [Nat.mul_add]; exact h⟩, by (try rw [HX.out]); have := HKN.out; simp only [intOf]; omega⟩
     ·have hpar : ((k : Int) % 2 == 0) = true := by have := HAX.out; simp at this ⊢; omega
      have HP3 : Hid (pd = (done ++ [(x0, 0, 3), (x1, x2, 3), (0, x3, 1)]) ++ turnD (l.drop (i + 4)) (!true)) := by have h := HP2.out; simp only [if_true, if_false, Bool.false_eq_true] at h; rw [h]; unfold Hid; simp
      have HAX2 : Hid ((k + 1) % 2 = if (!true) = true then 0 else 1) := by have := HAX.out; unfold Hid; simp at this ⊢; omega
      have hb8 : Below wr.heap.size wr (wr.drew.alloc (.cells #[.int .i64 x0, .int .i64 0, .int .i64 3, .int .i64 x1, .int .i64 x2, .int .i64 3, .int .i64 0, .int .i64 x3, .int .i64 1] 112)) := (Below.refl _ _).drew.alloc (Nat.le_refl _) _
      have HB8 : Hid (Below w.heap.size w (wr.drew.alloc (.cells #[.int .i64 x0, .int .i64 0, .int .i64 3, .int .i64 x1, .int .i64 x2, .int .i64 3, .int .i64 0, .int .i64 x3, .int .i64 1] 112))) := HB.out.drew.alloc HB.out.size _
      have HW8 := Lib.hid (own_below HW.out hb8)
      clear hb8 HP2
      go_wp2_with (at_builtin; refine wpList_appA elA rfl _ _ rfl (wr.drew.alloc (.cells #[.int .i64 x0, .int .i64 0, .int .i64 3, .int .i64 x1, .int .i64 x2, .int .i64 3, .int .i64 0, .int .i64 x3, .int .i64 1] 112)) w.heap.size (some ⟨g, 0, none⟩) (3 * k) cc (done.flatMap clS) wr.heap.size 3 3 (([(x0, 0, 3), (x1, x2, 3), (0, x3, 1)] : List Stp).flatMap clS) rfl rfl HW8.out rfl (lies_new (w := wr.drew)) (fun u hu => clS_one (L := [(x0, 0, 3), (x1, x2, 3), (0, x3, 1)]) u hu) (by decide) (by have := HKN.out; omega) (by have := HKN.out; omega) HB8.out.size ?_; intro g9 c9 w9 ho9 hg9 hat9)
      have HB9 : Hid (Below w.heap.size w w9) := by
       refine Below.trans HB8.out ⟨hg9.os, hg9.tape, hg9.output, hg9.size, fun j hj => hg9.block j (Nat.lt_of_lt_of_le hj HB8.out.size) (fun e => ?_)⟩
       have := (HW8.out.lt j e.symm).1
       omega
      have HW9 : Hid (w9.ownsRow w.heap.size 112 3 (.slice (some ⟨g9, 0, none⟩) (3 * (k + 1)) c9) (3 * (k + 1)) ((done ++ [(x0, 0, 3), (x1, x2, 3), (0, x3, 1)]).flatMap clS)) := by unfold Hid; rw [List.flatMap_append, Nat.mul_add]; exact ho9
      clear ho9 hg9 hat9
      exact ⟨⟨k + 1, g9, c9, _, !true, by rw [Nat.mul_add], by first | rw [HX.out] | go_num, by have := HK.out; unfold Hid; simp; omega, HKN.out.1, HAX2, HW9, HB9, by have h := HP3.out; rw [← HI4.out] at h; rw [Nat.mul_add]; exact h⟩, by (try rw [HX.out]); have := HKN.out; simp only [intOf]; omega⟩
   ·have hr1 : ¬ (l.drop (i + 4)).length = 1 := by rw [hdl]; have := HI4.out; have := HM.out; have := HNB.out; omega
    have HP2 := HP1
    rw [if_neg hr1] at HP2
    have hq1 : ((k : Int) == (m : Int) - 1) = false := by simp; omega
    clear HP1 HP hr1 hat hdl hlast hlt hm4 hiN
    cases ax1
    ·have hpar : ((k : Int) % 2 == 0) = false := by have := HAX.out; simp at this ⊢; omega
     have HP3 : Hid (pd = (done ++ [(0, x0, 3), (x1, x2, 3), (x3, 0, 1)]) ++ turnD (l.drop (i + 4)) (!false)) := by have h := HP2.out; simp only [if_true, if_false, Bool.false_eq_true] at h; rw [h]; unfold Hid; simp
     have HAX2 : Hid ((k + 1) % 2 = if (!false) = true then 0 else 1) := by have := HAX.out; unfold Hid; simp at this ⊢; omega
     have hb8 : Below wr.heap.size wr (wr.drew.alloc (.cells #[.int .i64 0, .int .i64 x0, .int .i64 3, .int .i64 x1, .int .i64 x2, .int .i64 3, .int .i64 x3, .int .i64 0, .int .i64 1] 112)) := (Below.refl _ _).drew.alloc (Nat.le_refl _) _
     have HB8 : Hid (Below w.heap.size w (wr.drew.alloc (.cells #[.int .i64 0, .int .i64 x0, .int .i64 3, .int .i64 x1, .int .i64 x2, .int .i64 3, .int .i64 x3, .int .i64 0, .int .i64 1] 112))) := HB.out.drew.alloc HB.out.size _
     have HW8 := Lib.hid (own_below HW.out hb8)
     clear hb8 HP2
     go_wp2_with (at_builtin; refine wpList_appA elA rfl _ _ rfl (wr.drew.alloc (.cells #[.int .i64 0, .int .i64 x0, .int .i64 3, .int .i64 x1, .int .i64 x2, .int .i64 3, .int .i64 x3, .int .i64 0, .int .i64 1] 112)) w.heap.size (some ⟨g, 0, none⟩) (3 * k) cc (done.flatMap clS) wr.heap.size 3 3 (([(0, x0, 3), (x1, x2, 3), (x3, 0, 1)] : List Stp).flatMap clS) rfl rfl HW8.out rfl (lies_new (w := wr.drew)) (fun u hu => clS_one (L := [(0, x0, 3), (x1, x2, 3), (x3, 0, 1)]) u hu) (by decide) (by have := HKN.out; omega) (by have := HKN.out; omega) HB8.out.size ?_; intro g9 c9 w9 ho9 hg9 hat9)
     have HB9 : Hid (Below w.heap.size w w9) := by
      refine Below.trans HB8.out ⟨hg9.os, hg9.tape, hg9.output, hg9.size, fun j hj => hg9.block j (Nat.lt_of_lt_of_le hj HB8.out.size) (fun e => ?_)⟩
      have := (HW8.out.lt j e.symm).1
      omega
     have HW9 : Hid (w9.ownsRow w.heap.size 112 3 (.slice (some ⟨g9, 0, none⟩) (3 * (k + 1)) c9) (3 * (k + 1)) ((done ++ [(0, x0, 3), (x1, x2, 3), (x3, 0, 1)]).flatMap clS)) := by unfold Hid; rw [List.flatMap_append, Nat.mul_add]; exact ho9
     clear ho9 hg9 hat9
     exact ⟨⟨k + 1, g9, c9, _, !false, by rw [Nat.mul_add], by first | rw [HX.out] | go_num, by have := HK.out; unfold Hid; simp; omega, HKN.out.1, HAX2, HW9, HB9, by have h := HP3.out; rw [← HI4.out] at h; rw [Nat.mul_add]; exact h⟩, by (try rw [HX.out]); have := HKN.out; simp only [intOf]; omega⟩
    ·have hpar : ((k : Int) % 2 == 0) = true := by have := HAX.out; simp at this ⊢; omega
     have HP3 : Hid (pd = (done ++ [(x0, 0, 3), (x1, x2, 3), (0, x3, 1)]) ++ turnD (l.drop (i + 4)) (!true)) := by have h := HP2.out; simp only [if_true, if_false, Bool.false_eq_true] at h; rw [h]; unfold Hid; simp
     have HAX2 : Hid ((k + 1) % 2 = if (!true) = true then 0 else 1) := by have := HAX.out; unfold Hid; simp at this ⊢; omega
     have hb8 : Below wr.heap.size wr (wr.drew.alloc (.cells #[.int .i64 x0, .int .i64 0, .int .i64 3, .int .i64 x1, .int .i64 x2, .int .i64 3, .int .i64 0, .int .i64 x3, .int .i64 1] 112)) := (Below.refl _ _).drew.alloc (Nat.le_refl _) _
     have HB8 : Hid (Below w.heap.size w (wr.drew.alloc (.cells #[.int .i64 x0, .int .i64 0, .int .i64 3, .int .i64 x1, .int .i64 x2, .int .i64 3, .int .i64 0, .int .i64 x3, .int .i64 1] 112))) := HB.out.drew.alloc HB.out.size _
     have HW8 := Lib.hid (own_below HW.out hb8)
     clear hb8 HP2
     go_wp2_with (at_builtin; refine wpList_appA elA rfl _ _ rfl (wr.drew.alloc (.cells #[.int .i64 x0, .int .i64 0, .int .i64 3, .int .i64 x1, .int .i64 x2, .int .i64 3, .int .i64 0, .int .i64 x3, .int .i64 1] 112)) w.heap.size (some ⟨g, 0, none⟩) (3 * k) cc (done.flatMap clS) wr.heap.size 3 3 (([(x0, 0, 3), (x1, x2, 3), (0, x3, 1)] : List Stp).flatMap clS) rfl rfl HW8.out rfl (lies_new (w := wr.drew)) (fun u hu => clS_one (L := [(x0, 0, 3), (x1, x2, 3), (0, x3, 1)]) u hu) (by decide) (by have := HKN.out; omega) (by have := HKN.out; omega) HB8.out.size ?_; intro g9 c9 w9 ho9 hg9 hat9)
     have HB9 : Hid (Below w.heap.size w w9) := by
      refine Below.trans HB8.out ⟨hg9.os, hg9.tape, hg9.output, hg9.size, fun j hj => hg9.block j (Nat.lt_of_lt_of_le hj HB8.out.size) (fun e => ?_)⟩
      have := (HW8.out.lt j e.symm).1
      omega
     have HW9 : Hid (w9.ownsRow w.heap.size 112 3 (.slice (some ⟨g9, 0, none⟩) (3 * (k + 1)) c9) (3 * (k + 1)) ((done ++ [(x0, 0, 3), (x1, x2, 3), (0, x3, 1)]).flatMap clS)) := by unfold Hid; rw [List.flatMap_append, Nat.mul_add]; exact ho9
     clear ho9 hg9 hat9
     exact ⟨⟨k + 1, g9, c9, _, !true, by rw [Nat.mul_add], by first | rw [HX.out] | go_num, by have := HK.out; unfold Hid; simp; omega, HKN.out.1, HAX2, HW9, HB9, by have h := HP3.out; rw [← HI4.out] at h; rw [Nat.mul_add]; exact h⟩, by (try rw [HX.out]); have := HKN.out; simp only [intOf]; omega⟩
  ·obtain rfl : k = m := by omega
   have h1 : ¬ (k : Int) < (k : Int) := by omega
   have he : pd = done := by
    have h := HP.out
    have hs : (l.drop (4 * k)).length ≤ 3 := by rw [List.length_drop, HN.out]; have := HM.out; omega
    rw [turn_short hs, List.append_nil] at h
    exact h
   subst he
   have HL := HK.out
   clear hlt hk
   go_wp2_with fail
   go_ret
   exact ⟨g, cc, by rw [HL]; rfl, by unfold PathAt; rw [HL]; exact HW.out, HB.out⟩
end Go.Proofs.YtklenppldblbdaaGreat
