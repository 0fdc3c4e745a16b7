import Derived.Test.YtklenppldblbdaaGreatK13
set_option linter.unusedSimpArgs false
set_option linter.unusedVariables false
namespace Go.Proofs.YtklenppldblbdaaGreat
open Go.RowKit Go.PlainAid
set_option maxRecDepth 20000 in
set_option maxHeartbeats 4000000 in
theorem steps6_d (l : List Int) (a : Option Addr) (c : Nat) (w : World) (ho : Opds w l a) (hn : l.length ≤ 1000) (hl : l.length ≤ c) :
 Calls Tryz.prog 43 #[.int .i64 6, .slice a l.length c] w (PathPost (altD l true) (stepsD 6 l).2 w) := by
 obtain ⟨n, HN⟩ : ∃ n, Hid (l.length = n) := ⟨_, rfl⟩
 have HO := Lib.hid ho
 have HNB : Hid (n ≤ 1000 ∧ n ≤ c) := by have := HN.out; unfold Hid; omega
 have hb : (stepsD 6 l).2 = (decide (1 ≤ l.length)) := rfl
 rw [hb, HN.out]
 obtain ⟨pd, HPD⟩ : ∃ pd, Hid (altD l true = pd) := ⟨_, rfl⟩
 rw [HPD.out]
 have HP0 : Hid (pd = [] ++ altD (l.drop 0) true) := HPD.out.symm
 have HL0 : Hid ((w.alloc (.cells #[] 112)).ownsRow w.heap.size 112 3 (.slice (some ⟨w.heap.size, 0, none⟩) 0 0) 0 []) := World.ownsRow_lit (base := w.heap.size) (e := 112) (size := 3) w #[] 0 (Nat.le_refl _) (by decide) rfl
 have HB0 : Hid (Below w.heap.size w (w.alloc (.cells #[] 112))) := (Below.refl _ _).alloc (Nat.le_refl _) _
 clear ho hn hl HPD hb
 go_enter Tryz.func43, Tryz.ntmps43
 go_wp2_with fail
 go_loopw [6, 58] (fun ov iv wr => ∃ (i g cc : Nat) (done : List Stp) (ax1 : Bool), ov = .slice (some ⟨g, 0, none⟩) i cc ∧ iv = .int .i64 (i : Int) ∧ Hid (done.length = i) ∧ i ≤ n ∧ Hid (i % 2 = if ax1 = true then 0 else 1) ∧ Hid (wr.ownsRow w.heap.size 112 3 (.slice (some ⟨g, 0, none⟩) i cc) i (done.flatMap clS)) ∧ Hid (Below w.heap.size w wr) ∧ Hid (pd = done ++ altD (l.drop i) ax1)) (fun _ iv _ => n - (intOf iv).toNat)
 case atStart => exact ⟨0, _, _, [], true, rfl, rfl, rfl, Nat.zero_le _, rfl, HL0, HB0, HP0⟩
 case round =>
  clear HL0 HB0 HP0
  obtain ⟨i, g, cc, done, ax1, rfl, rfl, HK, hi, HAX, HW, HB, HP⟩ := hrel
  by_cases hlt : i < n
  ·have hlt' : (i : Int) < (n : Int) := by omega
   have hi0 : (0 : Int) ≤ (i : Int) := by omega
   have HLT := Lib.hid hlt
   obtain ⟨d, hd⟩ := get_of (show i < l.length by rw [HN.out]; omega)
   have HS : Hid (l.drop i = d :: l.drop (i + 1)) := by
    unfold Hid
    rw [List.drop_eq_getElem_cons (show i < l.length by have := HN.out; omega)]
    have := (List.getElem?_eq_some_iff.1 hd).2
    rw [this]
   obtain ⟨q, off, rfl, hat⟩ := HO.out.at (by rw [HN.out]; omega)
   have k0 := keepC HB.out (hat i d hd)
   have HX := Lib.hid (next64 (j := i) (by have := HNB.out; omega))
   clear hlt hd hat hi
   cases ax1
   ·have hpar : ((i : Int) % 2 == 0) = false := by have := HAX.out; simp at this ⊢; omega
    have HP2 : Hid (pd = (done ++ [(0, d, 1)]) ++ altD (l.drop (i + 1)) (!false)) := by
     have h := HP.out
     rw [HS.out, altD] at h
     rw [h]; unfold Hid; simp
    have HAX2 : Hid ((i + 1) % 2 = if (!false) = true then 0 else 1) := by have := HAX.out; unfold Hid; simp at this ⊢; omega
    have hb8 : Below wr.heap.size wr (wr.alloc (.cells #[.int .i64 0, .int .i64 d, .int .i64 1] 112)) := (Below.refl _ _).alloc (Nat.le_refl _) _
    have HB8 : Hid (Below w.heap.size w (wr.alloc (.cells #[.int .i64 0, .int .i64 d, .int .i64 1] 112))) := HB.out.alloc HB.out.size _
    have HW8 := Lib.hid (own_below HW.out hb8)
    clear hb8
    go_wp2_with (at_builtin; refine wpList_appA elA rfl _ _ rfl (wr.alloc (.cells #[.int .i64 0, .int .i64 d, .int .i64 1] 112)) w.heap.size (some ⟨g, 0, none⟩) i cc (done.flatMap clS) wr.heap.size 1 1 (([(0, d, 1)] : List Stp).flatMap clS) rfl rfl HW8.out rfl (lies_new (w := wr)) (fun u hu => clS_one (L := [(0, d, 1)]) u hu) (by decide) (by have := HLT.out; have := HNB.out; omega) (by have := HLT.out; have := HNB.out; omega) HB8.out.size ?_; intro g9 c9 w9 ho9 hg9 hat9)
    have HB9 : Hid (Below w.heap.size w w9) := by
     refine Below.trans HB8.out ⟨hg9.os, hg9.tape, hg9.output, hg9.size, fun j hj => hg9.block j (Nat.lt_of_lt_of_le hj HB8.out.size) (fun e => ?_)⟩
     have := (HW8.out.lt j e.symm).1
     omega
    have HW9 : Hid (w9.ownsRow w.heap.size 112 3 (.slice (some ⟨g9, 0, none⟩) (i + 1) c9) (i + 1) ((done ++ [(0, d, 1)]).flatMap clS)) := by unfold Hid; rw [List.flatMap_append]; exact ho9
    clear ho9 hg9 hat9
    exact ⟨⟨i + 1, g9, c9, _, !false, rfl, by first | rw [HX.out] | go_num, by have := HK.out; unfold Hid; simp; omega, HLT.out, HAX2, HW9, HB9, HP2⟩, by (try rw [HX.out]); have := HLT.out; simp only [intOf]; omega⟩
   ·have hpar : ((i : Int) % 2 == 0) = true := by have := HAX.out; simp at this ⊢; omega
    have HP2 : Hid (pd = (done ++ [(d, 0, 1)]) ++ altD (l.drop (i + 1)) (!true)) := by
     have h := HP.out
     rw [HS.out, altD] at h
     rw [h]; unfold Hid; simp
    have HAX2 : Hid ((i + 1) % 2 = if (!true) = true then 0 else 1) := by have := HAX.out; unfold Hid; simp at this ⊢; omega
    have hb8 : Below wr.heap.size wr (wr.alloc (.cells #[.int .i64 d, .int .i64 0, .int .i64 1] 112)) := (Below.refl _ _).alloc (Nat.le_refl _) _
    have HB8 : Hid (Below w.heap.size w (wr.alloc (.cells #[.int .i64 d, .int .i64 0, .int .i64 1] 112))) := HB.out.alloc HB.out.size _
    have HW8 := Lib.hid (own_below HW.out hb8)
    clear hb8
    go_wp2_with (at_builtin; refine wpList_appA elA rfl _ _ rfl (wr.alloc (.cells #[.int .i64 d, .int .i64 0, .int .i64 1] 112)) w.heap.size (some ⟨g, 0, none⟩) i cc (done.flatMap clS) wr.heap.size 1 1 (([(d, 0, 1)] : List Stp).flatMap clS) rfl rfl HW8.out rfl (lies_new (w := wr)) (fun u hu => clS_one (L := [(d, 0, 1)]) u hu) (by decide) (by have := HLT.out; have := HNB.out; omega) (by have := HLT.out; have := HNB.out; omega) HB8.out.size ?_; intro g9 c9 w9 ho9 hg9 hat9)
    have HB9 : Hid (Below w.heap.size w w9) := by
     refine Below.trans HB8.out ⟨hg9.os, hg9.tape, hg9.output, hg9.size, fun j hj => hg9.block j (Nat.lt_of_lt_of_le hj HB8.out.size) (fun e => ?_)⟩
     have := (HW8.out.lt j e.symm).1
     omega
    have HW9 : Hid (w9.ownsRow w.heap.size 112 3 (.slice (some ⟨g9, 0, none⟩) (i + 1) c9) (i + 1) ((done ++ [(d, 0, 1)]).flatMap clS)) := by unfold Hid; rw [List.flatMap_append]; exact ho9
    clear ho9 hg9 hat9
    exact ⟨⟨i + 1, g9, c9, _, !true, rfl, by first | rw [HX.out] | go_num, by have := HK.out; unfold Hid; simp; omega, HLT.out, HAX2, HW9, HB9, HP2⟩, by (try rw [HX.out]); have := HLT.out; simp only [intOf]; omega⟩
  ·obtain rfl : i = n := by omega
   have h1 : ¬ (i : Int) < (i : Int) := by omega
   have he : pd = done := by
    have h := HP.out
    rw [List.drop_eq_nil_of_le (by rw [HN.out]; exact Nat.le_refl _)] at h
    simpa [altD] using h
   subst he
   have HL := HK.out
   clear hlt hi
   go_wp2_with fail
   go_ret2
   have hb : (decide (1 ≤ i)) = decide ((1 : Int) ≤ (i : Int)) := by rw [Bool.eq_iff_iff]; simp; omega
   rw [hb]
   subst HL
   exact ⟨g, cc, rfl, HW.out, HB.out⟩
set_option maxRecDepth 20000 in
set_option maxHeartbeats 4000000 in
theorem steps7_d (l : List Int) (a : Option Addr) (c : Nat) (w : World) (ho : Opds w l a) (hn : l.length ≤ 1000) (hl : l.length ≤ c) :
 Calls Tryz.prog 43 #[.int .i64 7, .slice a l.length c] w (PathPost (altD l false) (stepsD 7 l).2 w) := by
 obtain ⟨n, HN⟩ : ∃ n, Hid (l.length = n) := ⟨_, rfl⟩
 have HO := Lib.hid ho
 have HNB : Hid (n ≤ 1000 ∧ n ≤ c) := by have := HN.out; unfold Hid; omega
 have hb : (stepsD 7 l).2 = (decide (1 ≤ l.length)) := rfl
 rw [hb, HN.out]
 obtain ⟨pd, HPD⟩ : ∃ pd, Hid (altD l false = pd) := ⟨_, rfl⟩
 rw [HPD.out]
 have HP0 : Hid (pd = [] ++ altD (l.drop 0) false) := HPD.out.symm
 have HL0 : Hid ((w.alloc (.cells #[] 112)).ownsRow w.heap.size 112 3 (.slice (some ⟨w.heap.size, 0, none⟩) 0 0) 0 []) := World.ownsRow_lit (base := w.heap.size) (e := 112) (size := 3) w #[] 0 (Nat.le_refl _) (by decide) rfl
 have HB0 : Hid (Below w.heap.size w (w.alloc (.cells #[] 112))) := (Below.refl _ _).alloc (Nat.le_refl _) _
 clear ho hn hl HPD hb
 go_enter Tryz.func43, Tryz.ntmps43
 go_wp2_with fail
 go_loopw [6, 58] (fun ov iv wr => ∃ (i g cc : Nat) (done : List Stp) (ax1 : Bool), ov = .slice (some ⟨g, 0, none⟩) i cc ∧ iv = .int .i64 (i : Int) ∧ Hid (done.length = i) ∧ i ≤ n ∧ Hid (i % 2 = if ax1 = false then 0 else 1) ∧ Hid (wr.ownsRow w.heap.size 112 3 (.slice (some ⟨g, 0, none⟩) i cc) i (done.flatMap clS)) ∧ Hid (Below w.heap.size w wr) ∧ Hid (pd = done ++ altD (l.drop i) ax1)) (fun _ iv _ => n - (intOf iv).toNat)
 case atStart => exact ⟨0, _, _, [], false, rfl, rfl, rfl, Nat.zero_le _, rfl, HL0, HB0, HP0⟩
 case round =>
  clear HL0 HB0 HP0
  obtain ⟨i, g, cc, done, ax1, rfl, rfl, HK, hi, HAX, HW, HB, HP⟩ := hrel
  by_cases hlt : i < n
  ·have hlt' : (i : Int) < (n : Int) := by omega
   have hi0 : (0 : Int) ≤ (i : Int) := by omega
   have HLT := Lib.hid hlt
   obtain ⟨d, hd⟩ := get_of (show i < l.length by rw [HN.out]; omega)
   have HS : Hid (l.drop i = d :: l.drop (i + 1)) := by
    unfold Hid
    rw [List.drop_eq_getElem_cons (show i < l.length by have := HN.out; omega)]
    have := (List.getElem?_eq_some_iff.1 hd).2
    rw [this]
   obtain ⟨q, off, rfl, hat⟩ := HO.out.at (by rw [HN.out]; omega)
   have k0 := keepC HB.out (hat i d hd)
   have HX := Lib.hid (next64 (j := i) (by have := HNB.out; omega))
   clear hlt hd hat hi
   cases ax1
   ·have hpar : ((i : Int) % 2 == 0) = true := by have := HAX.out; simp at this ⊢; omega
    have HP2 : Hid (pd = (done ++ [(0, d, 1)]) ++ altD (l.drop (i + 1)) (!false)) := by
     have h := HP.out
     rw [HS.out, altD] at h
     rw [h]; unfold Hid; simp
    have HAX2 : Hid ((i + 1) % 2 = if (!false) = false then 0 else 1) := by have := HAX.out; unfold Hid; simp at this ⊢; omega
    have hb8 : Below wr.heap.size wr (wr.alloc (.cells #[.int .i64 0, .int .i64 d, .int .i64 1] 112)) := (Below.refl _ _).alloc (Nat.le_refl _) _
    have HB8 : Hid (Below w.heap.size w (wr.alloc (.cells #[.int .i64 0, .int .i64 d, .int .i64 1] 112))) := HB.out.alloc HB.out.size _
    have HW8 := Lib.hid (own_below HW.out hb8)
    clear hb8
    go_wp2_with (at_builtin; refine wpList_appA elA rfl _ _ rfl (wr.alloc (.cells #[.int .i64 0, .int .i64 d, .int .i64 1] 112)) w.heap.size (some ⟨g, 0, none⟩) i cc (done.flatMap clS) wr.heap.size 1 1 (([(0, d, 1)] : List Stp).flatMap clS) rfl rfl HW8.out rfl (lies_new (w := wr)) (fun u hu => clS_one (L := [(0, d, 1)]) u hu) (by decide) (by have := HLT.out; have := HNB.out; omega) (by have := HLT.out; have := HNB.out; omega) HB8.out.size ?_; intro g9 c9 w9 ho9 hg9 hat9)
    have HB9 : Hid (Below w.heap.size w w9) := by
     refine Below.trans HB8.out ⟨hg9.os, hg9.tape, hg9.output, hg9.size, fun j hj => hg9.block j (Nat.lt_of_lt_of_le hj HB8.out.size) (fun e => ?_)⟩
     have := (HW8.out.lt j e.symm).1
     omega
    have HW9 : Hid (w9.ownsRow w.heap.size 112 3 (.slice (some ⟨g9, 0, none⟩) (i + 1) c9) (i + 1) ((done ++ [(0, d, 1)]).flatMap clS)) := by unfold Hid; rw [List.flatMap_append]; exact ho9
    clear ho9 hg9 hat9
    exact ⟨⟨i + 1, g9, c9, _, !false, rfl, by first | rw [HX.out] | go_num, by have := HK.out; unfold Hid; simp; omega, HLT.out, HAX2, HW9, HB9, HP2⟩, by (try rw [HX.out]); have := HLT.out; simp only [intOf]; omega⟩
   ·have hpar : ((i : Int) % 2 == 0) = false := by have := HAX.out; simp at this ⊢; omega
    have HP2 : Hid (pd = (done ++ [(d, 0, 1)]) ++ altD (l.drop (i + 1)) (!true)) := by
     have h := HP.out
     rw [HS.out, altD] at h
     rw [h]; unfold Hid; simp
    have HAX2 : Hid ((i + 1) % 2 = if (!true) = false then 0 else 1) := by have := HAX.out; unfold Hid; simp at this ⊢; omega
    have hb8 : Below wr.heap.size wr (wr.alloc (.cells #[.int .i64 d, .int .i64 0, .int .i64 1] 112)) := (Below.refl _ _).alloc (Nat.le_refl _) _
    have HB8 : Hid (Below w.heap.size w (wr.alloc (.cells #[.int .i64 d, .int .i64 0, .int .i64 1] 112))) := HB.out.alloc HB.out.size _
    have HW8 := Lib.hid (own_below HW.out hb8)
    clear hb8
    go_wp2_with (at_builtin; refine wpList_appA elA rfl _ _ rfl (wr.alloc (.cells #[.int .i64 d, .int .i64 0, .int .i64 1] 112)) w.heap.size (some ⟨g, 0, none⟩) i cc (done.flatMap clS) wr.heap.size 1 1 (([(d, 0, 1)] : List Stp).flatMap clS) rfl rfl HW8.out rfl (lies_new (w := wr)) (fun u hu => clS_one (L := [(d, 0, 1)]) u hu) (by decide) (by have := HLT.out; have := HNB.out; omega) (by have := HLT.out; have := HNB.out; omega) HB8.out.size ?_; intro g9 c9 w9 ho9 hg9 hat9)
    have HB9 : Hid (Below w.heap.size w w9) := by
     refine Below.trans HB8.out ⟨hg9.os, hg9.tape, hg9.output, hg9.size, fun j hj => hg9.block j (Nat.lt_of_lt_of_le hj HB8.out.size) (fun e => ?_)⟩
     have := (HW8.out.lt j e.symm).1
     omega
    have HW9 : Hid (w9.ownsRow w.heap.size 112 3 (.slice (some ⟨g9, 0, none⟩) (i + 1) c9) (i + 1) ((done ++ [(d, 0, 1)]).flatMap clS)) := by unfold Hid; rw [List.flatMap_append]; exact ho9
    clear ho9 hg9 hat9
    exact ⟨⟨i + 1, g9, c9, _, !true, rfl, by first | rw [HX.out] | go_num, by have := HK.out; unfold Hid; simp; omega, HLT.out, HAX2, HW9, HB9, HP2⟩, by (try rw [HX.out]); have := HLT.out; simp only [intOf]; omega⟩
  ·obtain rfl : i = n := by omega
   have h1 : ¬ (i : Int) < (i : Int) := by omega
   have he : pd = done := by
    have h := HP.out
    rw [List.drop_eq_nil_of_le (by rw [HN.out]; exact Nat.le_refl _)] at h
    simpa [altD] using h
   subst he
   have HL := HK.out
   clear hlt hi
   go_wp2_with fail
   go_ret2
   have hb : (decide (1 ≤ i)) = decide ((1 : Int) ≤ (i : Int)) := by rw [Bool.eq_iff_iff]; simp; omega
   rw [hb]
   subst HL
   exact ⟨g, cc, rfl, HW.out, HB.out⟩
end Go.Proofs.YtklenppldblbdaaGreat
