import Derived.Test.YtklenppldblbdaaGreatK16
set_option linter.unusedSimpArgs false
set_option linter.unusedVariables false
namespace Go.Proofs.YtklenppldblbdaaGreat
open Go.RowKit Go.PlainAid
theorem own_base {w : World} {B B' : Nat} {e : TypeId} {s n : Nat} {v : Value} {xs : List Value} (h : w.ownsRow B' e s v n xs) (hb : B ≤ B') : w.ownsRow B e s v n xs := by
 refine ⟨h.1, ?_⟩
 rcases h.2 with h2 | ⟨g, cap, cur, hv, hb', rest⟩
 ·exact .inl h2
 ·exact .inr ⟨g, cap, cur, hv, Nat.le_trans hb hb', rest⟩
set_option maxRecDepth 20000 in
set_option maxHeartbeats 1600000 in
theorem steps26_d (l : List Int) (a : Option Addr) (c : Nat) (w : World) (ho : Opds w l a) (hn : l.length ≤ 1000) (hl : l.length ≤ c) (hy : 4 ≤ l.length ∧ l.length % 4 ≤ 1) :
 Calls Tryz.prog 43 #[.int .i64 26, .slice a l.length c] w (PathPost (wavesD l false) true w) := by
 have hb0 : Below w.heap.size w (w.alloc (.cells #[] 112)) := (Below.refl _ _).alloc (Nat.le_refl _) _
 have HC := Lib.hid (along26_d l a c (w.alloc (.cells #[] 112)) (ho.keep (keep_bel hb0)) hn hl hy.2)
 have HB0 := Lib.hid hb0
 obtain ⟨n, HN⟩ : ∃ n, Hid (l.length = n) := ⟨_, rfl⟩
 rw [HN.out] at HC hy ⊢
 have z1 : ¬ (n : Int) < 4 := by omega
 have z2 : ¬ (1 : Int) < (n : Int) % 4 := by omega
 clear ho hn hl hy hb0
 go_enter Tryz.func43, Tryz.ntmps43
 go_wp2_with fail
 refine HC.out.mono ?_
 rintro e w1 ⟨g, cc, rfl, hp, hb⟩
 go_wp2_with fail
 go_ret2
 exact ⟨g, cc, rfl, own_base hp (by simp), bel_next HB0.out hb⟩
set_option maxRecDepth 20000 in
set_option maxHeartbeats 1600000 in
theorem steps26_no (l : List Int) (a : Option Addr) (c : Nat) (w : World) (hn : l.length ≤ 1000) (hy : ¬ (4 ≤ l.length ∧ l.length % 4 ≤ 1)) :
 Calls Tryz.prog 43 #[.int .i64 26, .slice a l.length c] w (fun e w' => e = .returned (.tuple #[.slice none 0 0, .bool false]) ∧ Below w.heap.size w w') := by
 have HB0 : Hid (Below w.heap.size w (w.alloc (.cells #[] 112))) := (Below.refl _ _).alloc (Nat.le_refl _) _
 obtain ⟨n, HN⟩ : ∃ n, Hid (l.length = n) := ⟨_, rfl⟩
 rw [HN.out] at hy ⊢
 by_cases h4 : n < 4
 ·have z1 : (n : Int) < 4 := by omega
  clear hn hy h4
  go_enter Tryz.func43, Tryz.ntmps43
  go_wp2_with fail
  go_ret2
  exact ⟨rfl, HB0.out⟩
 ·have z1 : ¬ (n : Int) < 4 := by omega
  have z2 : (1 : Int) < (n : Int) % 4 := by omega
  clear hn hy h4
  go_enter Tryz.func43, Tryz.ntmps43
  go_wp2_with fail
  go_ret2
  exact ⟨rfl, HB0.out⟩
set_option maxRecDepth 20000 in
set_option maxHeartbeats 1600000 in
theorem steps27_d (l : List Int) (a : Option Addr) (c : Nat) (w : World) (ho : Opds w l a) (hn : l.length ≤ 1000) (hl : l.length ≤ c) (hy : 4 ≤ l.length ∧ l.length % 4 ≤ 1) :
 Calls Tryz.prog 43 #[.int .i64 27, .slice a l.length c] w (PathPost (wavesD l true) true w) := by
 have hb0 : Below w.heap.size w (w.alloc (.cells #[] 112)) := (Below.refl _ _).alloc (Nat.le_refl _) _
 have HC := Lib.hid (along27_d l a c (w.alloc (.cells #[] 112)) (ho.keep (keep_bel hb0)) hn hl hy.2)
 have HB0 := Lib.hid hb0
 obtain ⟨n, HN⟩ : ∃ n, Hid (l.length = n) := ⟨_, rfl⟩
 rw [HN.out] at HC hy ⊢
 have z1 : ¬ (n : Int) < 4 := by omega
 have z2 : ¬ (1 : Int) < (n : Int) % 4 := by omega
 clear ho hn hl hy hb0
 go_enter Tryz.func43, Tryz.ntmps43
 go_wp2_with fail
 refine HC.out.mono ?_
 rintro e w1 ⟨g, cc, rfl, hp, hb⟩
 go_wp2_with fail
 go_ret2
 exact ⟨g, cc, rfl, own_base hp (by simp), bel_next HB0.out hb⟩
set_option maxRecDepth 20000 in
set_option maxHeartbeats 1600000 in
theorem steps27_no (l : List Int) (a : Option Addr) (c : Nat) (w : World) (hn : l.length ≤ 1000) (hy : ¬ (4 ≤ l.length ∧ l.length % 4 ≤ 1)) :
 Calls Tryz.prog 43 #[.int .i64 27, .slice a l.length c] w (fun e w' => e = .returned (.tuple #[.slice none 0 0, .bool false]) ∧ Below w.heap.size w w') := by
 have HB0 : Hid (Below w.heap.size w (w.alloc (.cells #[] 112))) := (Below.refl _ _).alloc (Nat.le_refl _) _
 obtain ⟨n, HN⟩ : ∃ n, Hid (l.length = n) := ⟨_, rfl⟩
 rw [HN.out] at hy ⊢
 by_cases h4 : n < 4
 ·have z1 : (n : Int) < 4 := by omega
  clear hn hy h4
  go_enter Tryz.func43, Tryz.ntmps43
  go_wp2_with fail
  go_ret2
  exact ⟨rfl, HB0.out⟩
 ·have z1 : ¬ (n : Int) < 4 := by omega
  have z2 : (1 : Int) < (n : Int) % 4 := by omega
  clear hn hy h4
  go_enter Tryz.func43, Tryz.ntmps43
  go_wp2_with fail
  go_ret2
  exact ⟨rfl, HB0.out⟩
set_option maxRecDepth 20000 in
set_option maxHeartbeats 1600000 in
theorem steps30_d (l : List Int) (a : Option Addr) (c : Nat) (w : World) (ho : Opds w l a) (hn : l.length ≤ 1000) (hl : l.length ≤ c) (hy : 4 ≤ l.length ∧ l.length % 4 ≤ 1) :
 Calls Tryz.prog 43 #[.int .i64 30, .slice a l.length c] w (PathPost (turnD l false) true w) := by
 have hb0 : Below w.heap.size w (w.alloc (.cells #[] 112)) := (Below.refl _ _).alloc (Nat.le_refl _) _
 have HC := Lib.hid (across30_d l a c (w.alloc (.cells #[] 112)) (ho.keep (keep_bel hb0)) hn hl hy.2)
 have HB0 := Lib.hid hb0
 obtain ⟨n, HN⟩ : ∃ n, Hid (l.length = n) := ⟨_, rfl⟩
 rw [HN.out] at HC hy ⊢
 have z1 : ¬ (n : Int) < 4 := by omega
 have z2 : ¬ (1 : Int) < (n : Int) % 4 := by omega
 clear ho hn hl hy hb0
 go_enter Tryz.func43, Tryz.ntmps43
 go_wp2_with fail
 refine HC.out.mono ?_
 rintro e w1 ⟨g, cc, rfl, hp, hb⟩
 go_wp2_with fail
 go_ret2
 exact ⟨g, cc, rfl, own_base hp (by simp), bel_next HB0.out hb⟩
set_option maxRecDepth 20000 in
set_option maxHeartbeats 1600000 in
theorem steps30_no (l : List Int) (a : Option Addr) (c : Nat) (w : World) (hn : l.length ≤ 1000) (hy : ¬ (4 ≤ l.length ∧ l.length % 4 ≤ 1)) :
 Calls Tryz.prog 43 #[.int .i64 30, .slice a l.length c] w (fun e w' => e = .returned (.tuple #[.slice none 0 0, .bool false]) ∧ Below w.heap.size w w') := by
 have HB0 : Hid (Below w.heap.size w (w.alloc (.cells #[] 112))) := (Below.refl _ _).alloc (Nat.le_refl _) _
 obtain ⟨n, HN⟩ : ∃ n, Hid (l.length = n) := ⟨_, rfl⟩
 rw [HN.out] at hy ⊢
 by_cases h4 : n < 4
 ·have z1 : (n : Int) < 4 := by omega
  clear hn hy h4
  go_enter Tryz.func43, Tryz.ntmps43
  go_wp2_with fail
  go_ret2
  exact ⟨rfl, HB0.out⟩
 ·have z1 : ¬ (n : Int) < 4 := by omega
  have z2 : (1 : Int) < (n : Int) % 4 := by omega
  clear hn hy h4
  go_enter Tryz.func43, Tryz.ntmps43
  go_wp2_with fail
  go_ret2
  exact ⟨rfl, HB0.out⟩
set_option maxRecDepth 20000 in
set_option maxHeartbeats 1600000 in
theorem steps31_d (l : List Int) (a : Option Addr) (c : Nat) (w : World) (ho : Opds w l a) (hn : l.length ≤ 1000) (hl : l.length ≤ c) (hy : 4 ≤ l.length ∧ l.length % 4 ≤ 1) :
 Calls Tryz.prog 43 #[.int .i64 31, .slice a l.length c] w (PathPost (turnD l true) true w) := by
 have hb0 : Below w.heap.size w (w.alloc (.cells #[] 112)) := (Below.refl _ _).alloc (Nat.le_refl _) _
 have HC := Lib.hid (across31_d l a c (w.alloc (.cells #[] 112)) (ho.keep (keep_bel hb0)) hn hl hy.2)
 have HB0 := Lib.hid hb0
 obtain ⟨n, HN⟩ : ∃ n, Hid (l.length = n) := ⟨_, rfl⟩
 rw [HN.out] at HC hy ⊢
 have z1 : ¬ (n : Int) < 4 := by omega
 have z2 : ¬ (1 : Int) < (n : Int) % 4 := by omega
 clear ho hn hl hy hb0
 go_enter Tryz.func43, Tryz.ntmps43
 go_wp2_with fail
 refine HC.out.mono ?_
 rintro e w1 ⟨g, cc, rfl, hp, hb⟩
 go_wp2_with fail
 go_ret2
 exact ⟨g, cc, rfl, own_base hp (by simp), bel_next HB0.out hb⟩
set_option maxRecDepth 20000 in
set_option maxHeartbeats 1600000 in
theorem steps31_no (l : List Int) (a : Option Addr) (c : Nat) (w : World) (hn : l.length ≤ 1000) (hy : ¬ (4 ≤ l.length ∧ l.length % 4 ≤ 1)) :
 Calls Tryz.prog 43 #[.int .i64 31, .slice a l.length c] w (fun e w' => e = .returned (.tuple #[.slice none 0 0, .bool false]) ∧ Below w.heap.size w w') := by
 have HB0 : Hid (Below w.heap.size w (w.alloc (.cells #[] 112))) := (Below.refl _ _).alloc (Nat.le_refl _) _
 obtain ⟨n, HN⟩ : ∃ n, Hid (l.length = n) := ⟨_, rfl⟩
 rw [HN.out] at hy ⊢
 by_cases h4 : n < 4
 ·have z1 : (n : Int) < 4 := by omega
  clear hn hy h4
  go_enter Tryz.func43, Tryz.ntmps43
  go_wp2_with fail
  go_ret2
  exact ⟨rfl, HB0.out⟩
 ·have z1 : ¬ (n : Int) < 4 := by omega
  have z2 : (1 : Int) < (n : Int) % 4 := by omega
  clear hn hy h4
  go_enter Tryz.func43, Tryz.ntmps43
  go_wp2_with fail
  go_ret2
  exact ⟨rfl, HB0.out⟩
end Go.Proofs.YtklenppldblbdaaGreat
namespace Go.Proofs.YtklenppldblbdaaGreat
open Go.RowKit Go.PlainAid
set_option maxRecDepth 20000 in
set_option maxHeartbeats 1600000 in
theorem steps24_no (l : List Int) (a : Option Addr) (c : Nat) (w : World) (hn : l.length ≤ 1000) (hy : l.length < 8 ∨ l.length % 6 ≠ 2) :
 Calls Tryz.prog 43 #[.int .i64 24, .slice a l.length c] w (fun e w' => e = .returned (.tuple #[.slice none 0 0, .bool false]) ∧ Below w.heap.size w w') := by
 have HB0 : Hid (Below w.heap.size w (w.alloc (.cells #[] 112))) := (Below.refl _ _).alloc (Nat.le_refl _) _
 obtain ⟨n, HN⟩ : ∃ n, Hid (l.length = n) := ⟨_, rfl⟩
 rw [HN.out] at hy ⊢
 by_cases h8 : n < 8
 ·have z1 : (n : Int) < 8 := by omega
  clear hn hy h8
  go_enter Tryz.func43, Tryz.ntmps43
  go_wp2_with fail
  go_ret2
  exact ⟨rfl, HB0.out⟩
 ·have z1 : ¬ (n : Int) < 8 := by omega
  have z2 : ((n : Int) % 6 == 2) = false := by simp; omega
  clear hn hy h8
  go_enter Tryz.func43, Tryz.ntmps43
  go_wp2_with fail
  go_ret2
  exact ⟨rfl, HB0.out⟩
set_option maxRecDepth 20000 in
set_option maxHeartbeats 1600000 in
theorem steps25_no (l : List Int) (a : Option Addr) (c : Nat) (w : World) (hn : l.length ≤ 1000) (hy : l.length < 8 ∨ l.length % 2 ≠ 0) :
 Calls Tryz.prog 43 #[.int .i64 25, .slice a l.length c] w (fun e w' => e = .returned (.tuple #[.slice none 0 0, .bool false]) ∧ Below w.heap.size w w') := by
 have HB0 : Hid (Below w.heap.size w (w.alloc (.cells #[] 112))) := (Below.refl _ _).alloc (Nat.le_refl _) _
 obtain ⟨n, HN⟩ : ∃ n, Hid (l.length = n) := ⟨_, rfl⟩
 rw [HN.out] at hy ⊢
 by_cases h8 : n < 8
 ·have z1 : (n : Int) < 8 := by omega
  clear hn hy h8
  go_enter Tryz.func43, Tryz.ntmps43
  go_wp2_with fail
  go_ret2
  exact ⟨rfl, HB0.out⟩
 ·have z1 : ¬ (n : Int) < 8 := by omega
  have z2 : ((n : Int) % 2 == 0) = false := by simp; omega
  clear hn hy h8
  go_enter Tryz.func43, Tryz.ntmps43
  go_wp2_with fail
  go_ret2
  exact ⟨rfl, HB0.out⟩
end Go.Proofs.YtklenppldblbdaaGreat
namespace Go.Proofs.YtklenppldblbdaaGreat
open Go.RowKit Go.PlainAid
theorem curv_len : ∀ (l : List Int), (curvD l).length ≤ l.length
 | a :: b :: c :: d :: e :: f :: r => by have := curv_len r; simp [curvD]; omega
 | [] => by simp [curvD]
 | [_] => by simp [curvD]
 | [_, _] => by simp [curvD]
 | [_, _, _] => by simp [curvD]
 | [_, _, _, _] => by simp [curvD]
 | [_, _, _, _, _] => by simp [curvD]
set_option maxRecDepth 20000 in
set_option maxHeartbeats 1600000 in
theorem steps24_d (l : List Int) (a : Option Addr) (c : Nat) (w : World) (ho : Opds w l a) (hn : l.length ≤ 1000) (hl : l.length ≤ c) (hy : ¬ (l.length < 8 ∨ l.length % 6 ≠ 2)) :
 Calls Tryz.prog 43 #[.int .i64 24, .slice a l.length c] w (PathPost (curvD (l.take (l.length - 2)) ++ linesD (l.drop (l.length - 2))) true w) := by
 have hb0 : Below w.heap.size w (w.alloc (.cells #[] 112)) := (Below.refl _ _).alloc (Nat.le_refl _) _
 have HB0 := Lib.hid hb0
 obtain ⟨n, HN⟩ : ∃ n, Hid (l.length = n) := ⟨_, rfl⟩
 have HO := Lib.hid ho
 obtain ⟨q, off, rfl, _⟩ := ho.at (by omega)
 rw [HN.out] at hn hl hy ⊢
 have htl : (l.take (n - 2)).length = n - 2 := by rw [List.length_take, HN.out]; omega
 have hdl : (l.drop (n - 2)).length = 2 := by rw [List.length_drop, HN.out]; omega
 have hc1 := steps8_d (l.take (n - 2)) (some ⟨q, off, none⟩) c (w.alloc (.cells #[] 112)) ((HO.out.keep (keep_bel hb0)).take _) (by omega) (by omega)
 rw [htl] at hc1
 have HC1 := Lib.hid hc1
 have z1 : ¬ (n : Int) < 8 := by omega
 have z2 : ((n : Int) % 6 == 2) = true := by simp; omega
 have z3 : wrap64 ((n : Int) - 2) = ((n - 2 : Nat) : Int) := by unfold wrap64; omega
 have z4 : ((n - 2 : Nat) : Int) ≤ (c : Int) := by omega
 have z5 : (0 : Int) ≤ ((n - 2 : Nat) : Int) := by omega
 clear hc1 hb0 hy
 go_enter Tryz.func43, Tryz.ntmps43
 go_wp2_with fail
 refine HC1.out.mono ?_
 rintro e w1 ⟨g1, c1, rfl, hp1, hb1⟩
 have hb9 := bel_next HB0.out hb1
 have ho2 := HO.out.keep (keep_bel hb9)
 have hc2 := steps5_d (l.drop (n - 2)) (some ⟨q, off + (n - 2), none⟩) (c - (n - 2)) w1 (ho2.drop _) (by omega) (by omega)
 rw [hdl] at hc2
 have HC2 := Lib.hid hc2
 have HB9 := Lib.hid hb9
 have HP1 := Lib.hid hp1
 have hcne : ¬ c = n - 2 := by omega
 have hn2 : n - (n - 2) = 2 := by omega
 clear hc2 hb9 hp1 ho2 hb1 htl hdl ho
 go_wp2_with fail
 refine HC2.out.mono ?_
 rintro e w2 ⟨g2, c2, rfl, hp2, hb2⟩
 have HBZ := Lib.hid (HB9.out.trans (hb2.mono HB9.out.size))
 have HOA : Hid (w2.ownsRow w.heap.size 112 3 (.slice (some ⟨g1, 0, none⟩) (curvD (l.take (n - 2))).length c1) (curvD (l.take (n - 2))).length ((curvD (l.take (n - 2))).flatMap clS)) := own_below (own_base HP1.out (by simp)) hb2
 have HOB := Lib.hid hp2
 have HLA : Hid ((curvD (l.take (n - 2))).length ≤ 1000 ∧ (linesD (l.drop (n - 2))).length ≤ 1000) := ⟨Nat.le_trans (curv_len _) (by rw [List.length_take]; omega), Nat.le_trans (lines_len _) (by rw [List.length_drop, HN.out]; omega)⟩
 clear hp2 hb2
 generalize curvD (l.take (n - 2)) = pa at *
 generalize linesD (l.drop (n - 2)) = pb at *
 go_wp2_with (at_builtin; refine wpList_app elA rfl _ _ rfl w2 w.heap.size g1 c1 pa.length (pa.flatMap clS) (some ⟨g2, 0, none⟩) pb.length c2 (pb.flatMap clS) rfl rfl HOA.out (flat_length clS_length pb) (.inr ⟨g2, 0, rfl, own_lies HOB.out⟩) clS_one (by have := HLA.out; omega) (by have := HLA.out; omega) HBZ.out.size ?_; intro g9 c9 w9 ho9 hg9 hat9)
 go_ret2
 refine ⟨g9, c9, by rw [List.length_append]; rfl, ?_, ?_⟩
 ·unfold PathAt; rw [List.flatMap_append, List.length_append]; exact ho9
 ·refine Below.trans HBZ.out ⟨hg9.os, hg9.tape, hg9.output, hg9.size, fun j hj => hg9.block j (Nat.lt_of_lt_of_le hj HBZ.out.size) (fun e => ?_)⟩
  have := (HOA.out.lt j e.symm).1
  omega
set_option maxRecDepth 20000 in
set_option maxHeartbeats 1600000 in
theorem steps25_d (l : List Int) (a : Option Addr) (c : Nat) (w : World) (ho : Opds w l a) (hn : l.length ≤ 1000) (hl : l.length ≤ c) (hy : ¬ (l.length < 8 ∨ l.length % 2 ≠ 0)) :
 Calls Tryz.prog 43 #[.int .i64 25, .slice a l.length c] w (PathPost (linesD (l.take (l.length - 6)) ++ curvD (l.drop (l.length - 6))) true w) := by
 have hb0 : Below w.heap.size w (w.alloc (.cells #[] 112)) := (Below.refl _ _).alloc (Nat.le_refl _) _
 have HB0 := Lib.hid hb0
 obtain ⟨n, HN⟩ : ∃ n, Hid (l.length = n) := ⟨_, rfl⟩
 have HO := Lib.hid ho
 obtain ⟨q, off, rfl, _⟩ := ho.at (by omega)
 rw [HN.out] at hn hl hy ⊢
 have htl : (l.take (n - 6)).length = n - 6 := by rw [List.length_take, HN.out]; omega
 have hdl : (l.drop (n - 6)).length = 6 := by rw [List.length_drop, HN.out]; omega
 have hc1 := steps5_d (l.take (n - 6)) (some ⟨q, off, none⟩) c (w.alloc (.cells #[] 112)) ((HO.out.keep (keep_bel hb0)).take _) (by omega) (by omega)
 rw [htl] at hc1
 have HC1 := Lib.hid hc1
 have z1 : ¬ (n : Int) < 8 := by omega
 have z2 : ((n : Int) % 2 == 0) = true := by simp; omega
 have z3 : wrap64 ((n : Int) - 6) = ((n - 6 : Nat) : Int) := by unfold wrap64; omega
 have z4 : ((n - 6 : Nat) : Int) ≤ (c : Int) := by omega
 have z5 : (0 : Int) ≤ ((n - 6 : Nat) : Int) := by omega
 clear hc1 hb0 hy
 go_enter Tryz.func43, Tryz.ntmps43
 go_wp2_with fail
 refine HC1.out.mono ?_
 rintro e w1 ⟨g1, c1, rfl, hp1, hb1⟩
 have hb9 := bel_next HB0.out hb1
 have ho2 := HO.out.keep (keep_bel hb9)
 have hc2 := steps8_d (l.drop (n - 6)) (some ⟨q, off + (n - 6), none⟩) (c - (n - 6)) w1 (ho2.drop _) (by omega) (by omega)
 rw [hdl] at hc2
 have HC2 := Lib.hid hc2
 have HB9 := Lib.hid hb9
 have HP1 := Lib.hid hp1
 have hcne : ¬ c = n - 6 := by omega
 have hn2 : n - (n - 6) = 6 := by omega
 clear hc2 hb9 hp1 ho2 hb1 htl hdl ho
 go_wp2_with fail
 refine HC2.out.mono ?_
 rintro e w2 ⟨g2, c2, rfl, hp2, hb2⟩
 have HBZ := Lib.hid (HB9.out.trans (hb2.mono HB9.out.size))
 have HOA : Hid (w2.ownsRow w.heap.size 112 3 (.slice (some ⟨g1, 0, none⟩) (linesD (l.take (n - 6))).length c1) (linesD (l.take (n - 6))).length ((linesD (l.take (n - 6))).flatMap clS)) := own_below (own_base HP1.out (by simp)) hb2
 have HOB := Lib.hid hp2
 have HLA : Hid ((linesD (l.take (n - 6))).length ≤ 1000 ∧ (curvD (l.drop (n - 6))).length ≤ 1000) := ⟨Nat.le_trans (lines_len _) (by rw [List.length_take]; omega), Nat.le_trans (curv_len _) (by rw [List.length_drop, HN.out]; omega)⟩
 clear hp2 hb2
 generalize linesD (l.take (n - 6)) = pa at *
 generalize curvD (l.drop (n - 6)) = pb at *
 go_wp2_with (at_builtin; refine wpList_app elA rfl _ _ rfl w2 w.heap.size g1 c1 pa.length (pa.flatMap clS) (some ⟨g2, 0, none⟩) pb.length c2 (pb.flatMap clS) rfl rfl HOA.out (flat_length clS_length pb) (.inr ⟨g2, 0, rfl, own_lies HOB.out⟩) clS_one (by have := HLA.out; omega) (by have := HLA.out; omega) HBZ.out.size ?_; intro g9 c9 w9 ho9 hg9 hat9)
 go_ret2
 refine ⟨g9, c9, by rw [List.length_append]; rfl, ?_, ?_⟩
 ·unfold PathAt; rw [List.flatMap_append, List.length_append]; exact ho9
 ·refine Below.trans HBZ.out ⟨hg9.os, hg9.tape, hg9.output, hg9.size, fun j hj => hg9.block j (Nat.lt_of_lt_of_le hj HBZ.out.size) (fun e => ?_)⟩
  have := (HOA.out.lt j e.symm).1
  omega
end Go.Proofs.YtklenppldblbdaaGreat
namespace Go.Proofs.YtklenppldblbdaaGreat
open Go.RowKit Go.PlainAid
def StepsPost (r : List Stp × Bool) (w : World) (e : Ending) (w' : World) : Prop :=
 (r.2 = true → PathPost r.1 true w e w') ∧ (r.2 = false → (∃ a n c, e = .returned (.tuple #[.slice a n c, .bool false])) ∧ Below w.heap.size w w')
theorem stepsPost_of {p : List Stp} {b : Bool} {w w' : World} {e : Ending} (h : PathPost p b w e w') : StepsPost (p, b) w e w' := by
 cases b
 ·obtain ⟨g, c, he, _, hb⟩ := h
  exact ⟨fun e => by simp at e, fun _ => ⟨⟨_, _, _, he⟩, hb⟩⟩
 ·exact ⟨fun _ => h, fun e => by simp at e⟩
theorem stepsPost_no {w w' : World} {e : Ending} (h : e = .returned (.tuple #[.slice none 0 0, .bool false]) ∧ Below w.heap.size w w') : StepsPost ([], false) w e w' :=
 ⟨fun e => by simp at e, fun _ => ⟨⟨_, _, _, h.1⟩, h.2⟩⟩
theorem steps_d (op : Int) (l : List Int) (a : Option Addr) (c : Nat) (w : World) (hs : strokeOp op) (ho : Opds w l a) (hn : l.length ≤ 1000) (hl : l.length ≤ c) :
 Calls Tryz.prog 43 #[.int .i64 op, .slice a l.length c] w (StepsPost (stepsD op l) w) := by
 unfold strokeOp at hs
 rcases hs with rfl | rfl | rfl | rfl | rfl | rfl | rfl | rfl | rfl | rfl
 ·exact (steps5_d l a c w ho hn hl).mono fun e w' h => stepsPost_of h
 ·exact (steps6_d l a c w ho hn hl).mono fun e w' h => stepsPost_of h
 ·exact (steps7_d l a c w ho hn hl).mono fun e w' h => stepsPost_of h
 ·exact (steps8_d l a c w ho hn hl).mono fun e w' h => stepsPost_of h
 ·by_cases hy : l.length < 8 ∨ l.length % 6 ≠ 2
  ·rw [show stepsD 24 l = ([], false) from if_pos hy]
   exact (steps24_no l a c w hn hy).mono fun e w' h => stepsPost_no h
  ·rw [show stepsD 24 l = _ from if_neg hy]
   exact (steps24_d l a c w ho hn hl hy).mono fun e w' h => stepsPost_of h
 ·by_cases hy : l.length < 8 ∨ l.length % 2 ≠ 0
  ·rw [show stepsD 25 l = ([], false) from if_pos hy]
   exact (steps25_no l a c w hn hy).mono fun e w' h => stepsPost_no h
  ·rw [show stepsD 25 l = _ from if_neg hy]
   exact (steps25_d l a c w ho hn hl hy).mono fun e w' h => stepsPost_of h
 ·by_cases hy : l.length < 4 ∨ 1 < l.length % 4
  ·rw [show stepsD 26 l = ([], false) from if_pos hy]
   exact (steps26_no l a c w hn (by omega)).mono fun e w' h => stepsPost_no h
  ·rw [show stepsD 26 l = (wavesD l false, true) from if_neg hy]
   exact (steps26_d l a c w ho hn hl (by omega)).mono fun e w' h => stepsPost_of h
 ·by_cases hy : l.length < 4 ∨ 1 < l.length % 4
  ·rw [show stepsD 27 l = ([], false) from if_pos hy]
   exact (steps27_no l a c w hn (by omega)).mono fun e w' h => stepsPost_no h
  ·rw [show stepsD 27 l = (wavesD l true, true) from if_neg hy]
   exact (steps27_d l a c w ho hn hl (by omega)).mono fun e w' h => stepsPost_of h
 ·by_cases hy : l.length < 4 ∨ 1 < l.length % 4
  ·rw [show stepsD 30 l = ([], false) from if_pos hy]
   exact (steps30_no l a c w hn (by omega)).mono fun e w' h => stepsPost_no h
  ·rw [show stepsD 30 l = (turnD l false, true) from if_neg hy]
   exact (steps30_d l a c w ho hn hl (by omega)).mono fun e w' h => stepsPost_of h
 ·by_cases hy : l.length < 4 ∨ 1 < l.length % 4
  ·rw [show stepsD 31 l = ([], false) from if_pos hy]
   exact (steps31_no l a c w hn (by omega)).mono fun e w' h => stepsPost_no h
  ·rw [show stepsD 31 l = (turnD l true, true) from if_neg hy]
   exact (steps31_d l a c w ho hn hl (by omega)).mono fun e w' h => stepsPost_of h
end Go.Proofs.YtklenppldblbdaaGreat
