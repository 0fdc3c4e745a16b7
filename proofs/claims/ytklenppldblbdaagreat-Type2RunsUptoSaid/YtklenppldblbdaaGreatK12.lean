import Derived.Test.YtklenppldblbdaaGreatK11
set_option linter.unusedSimpArgs false
set_option linter.unusedVariables false
namespace Go.Proofs.YtklenppldblbdaaGreat
open Go.RowKit Go.PlainAid
set_option maxRecDepth 20000 in
set_option maxHeartbeats 4000000 in
theorem step_no (sa : Option Addr) (sc : Nat) (oa : Option Addr) (oc : Nat) (s : MS) (dx dy kd er : Int) (w : World)
 (h : (s.out.length = 0 ∧ er = 81) ∨ (0 < s.out.length ∧ 4096 ≤ s.knots ∧ er = 83) ∨ (0 < s.out.length ∧ s.knots < 4096 ∧ (∃ x y ex ey, sumOr s.x dx = (x, ex) ∧ sumOr s.y dy = (y, ey) ∧ (ex ≠ 0 ∨ (ex = 0 ∧ ey ≠ 0))) ∧ er = 84)) :
 Calls Tryz.prog 42 #[.agg (stV sa sc oa oc s), .int .i64 dx, .int .i64 dy, .int .i64 kd] w (fun e w' => e = .returned (.tuple #[.agg (stV sa sc oa oc s), .int .i64 er]) ∧ Below w.heap.size w w') := by
 obtain ⟨l, HL⟩ : ∃ l, Hid (s.stack.length = l) := ⟨_, rfl⟩
 obtain ⟨k, HK⟩ : ∃ k, Hid (s.out.length = k) := ⟨_, rfl⟩
 unfold stV
 rw [HK.out, HL.out]
 rw [HK.out] at h
 have h2 := alloc2 w (.cells #[.slice sa l sc, .slice oa k oc, .int .i64 s.x, .int .i64 s.y, .int .i64 (s.knots : Int), .int .i64 (s.stems : Int), .int .i64 (s.fuel : Int), .int .i64 s.width, .bool s.asked] 52) (.cells #[.slice none 0 0, .slice none 0 0, .int .i64 0, .int .i64 0, .int .i64 0, .int .i64 0, .int .i64 0, .int .i64 0, .bool false] 52)
 obtain ⟨A, HAA⟩ : ∃ A, Hid (w.heap.size = A) := ⟨_, rfl⟩
 have HA1 := Lib.hid h2
 clear h2
 have HPO : Hid (∀ w', Below w.heap.size w w' → (fun (e : Ending) (w' : World) => e = .returned (.tuple #[.agg #[.slice sa l sc, .slice oa k oc, .int .i64 s.x, .int .i64 s.y, .int .i64 (s.knots : Int), .int .i64 (s.stems : Int), .int .i64 (s.fuel : Int), .int .i64 s.width, .bool s.asked], .int .i64 er]) ∧ Below w.heap.size w w') (.returned (.tuple #[.agg #[.slice sa l sc, .slice oa k oc, .int .i64 s.x, .int .i64 s.y, .int .i64 (s.knots : Int), .int .i64 (s.stems : Int), .int .i64 (s.fuel : Int), .int .i64 s.width, .bool s.asked], .int .i64 er])) w') := fun w' hb => ⟨rfl, hb⟩
 generalize (fun (e : Ending) (w' : World) => e = .returned (.tuple #[.agg #[.slice sa l sc, .slice oa k oc, .int .i64 s.x, .int .i64 s.y, .int .i64 (s.knots : Int), .int .i64 (s.stems : Int), .int .i64 (s.fuel : Int), .int .i64 s.width, .bool s.asked], .int .i64 er]) ∧ Below w.heap.size w w') = QQ at *
 rcases h with ⟨rfl, rfl⟩ | ⟨hk0, hkn, rfl⟩ | ⟨hk0, hkn, ⟨x, y, ex, ey, hsx, hsy, hne⟩, rfl⟩
 ·go_enter Tryz.func42, Tryz.ntmps42
  go_upto_region 1 with fail
  have h2 := HA1.out
  generalize ((w.alloc (.cells #[.slice sa l sc, .slice oa 0 oc, .int .i64 s.x, .int .i64 s.y, .int .i64 (s.knots : Int), .int .i64 (s.stems : Int), .int .i64 (s.fuel : Int), .int .i64 s.width, .bool s.asked] 52)).alloc (.cells #[.slice none 0 0, .slice none 0 0, .int .i64 0, .int .i64 0, .int .i64 0, .int .i64 0, .int .i64 0, .int .i64 0, .bool false] 52)) = w0 at *
  clear HA1
  rw [HAA.out] at h2 HPO ⊢
  obtain ⟨e2, e3, hb0⟩ := h2
  have HBW := Lib.hid hb0
  have hDE : A ≠ A + 1 := by omega
  have hAE : A ≤ A + 1 := by omega
  have hAD : A ≤ A := Nat.le_refl _
  clear hb0
  generalize hEE : A + 1 = E at *
  clear hEE
  skip
  have cc0 := blk_cell e2 0 _ rfl
  have cc1 := blk_cell e2 1 _ rfl
  have cc2 := blk_cell e2 2 _ rfl
  have cc3 := blk_cell e2 3 _ rfl
  have cc4 := blk_cell e2 4 _ rfl
  have cc5 := blk_cell e2 5 _ rfl
  have cc6 := blk_cell e2 6 _ rfl
  have cc7 := blk_cell e2 7 _ rfl
  have cc8 := blk_cell e2 8 _ rfl
  have dd0 := blk_cell e3 0 _ rfl
  have dd1 := blk_cell e3 1 _ rfl
  have dd2 := blk_cell e3 2 _ rfl
  have dd3 := blk_cell e3 3 _ rfl
  have dd4 := blk_cell e3 4 _ rfl
  have dd5 := blk_cell e3 5 _ rfl
  have dd6 := blk_cell e3 6 _ rfl
  have dd7 := blk_cell e3 7 _ rfl
  have dd8 := blk_cell e3 8 _ rfl
  have hh0 := blk_free e3 0
  have hh1 := blk_free e3 1
  have hh2 := blk_free e3 2
  have hh3 := blk_free e3 3
  have hh4 := blk_free e3 4
  have hh5 := blk_free e3 5
  have hh6 := blk_free e3 6
  have hh7 := blk_free e3 7
  have hh8 := blk_free e3 8
  have hED : E ≠ A := fun e => hDE e.symm
  clear e2 e3
  go_wp2_with fail
  have hfin := (((((((((HBW.out.setCell hAE (p := ⟨E, 0, none⟩) (.slice sa l sc)).setCell hAE (p := ⟨E, 1, none⟩) (.slice oa 0 oc)).setCell hAE (p := ⟨E, 2, none⟩) (.int .i64 s.x)).setCell hAE (p := ⟨E, 3, none⟩) (.int .i64 s.y)).setCell hAE (p := ⟨E, 4, none⟩) (.int .i64 (s.knots : Int))).setCell hAE (p := ⟨E, 5, none⟩) (.int .i64 (s.stems : Int))).setCell hAE (p := ⟨E, 6, none⟩) (.int .i64 (s.fuel : Int))).setCell hAE (p := ⟨E, 7, none⟩) (.int .i64 s.width)).setCell hAE (p := ⟨E, 8, none⟩) (.bool s.asked))
  refine bodyPost_ret (v := .tuple #[.agg #[.slice sa l sc, .slice oa 0 oc, .int .i64 s.x, .int .i64 s.y, .int .i64 (s.knots : Int), .int .i64 (s.stems : Int), .int .i64 (s.fuel : Int), .int .i64 s.width, .bool s.asked], .int .i64 81]) ?_ rfl (HPO.out _ hfin)
  simp [results, Tryz.results42, go_sem, dd0, hh0, dd1, hh1, dd2, hh2, dd3, hh3, dd4, hh4, dd5, hh5, dd6, hh6, dd7, hh7, dd8, hh8, hED]
 ·have z1 : (((k : Nat) : Int) == 0) = false := by simp; omega
  have z2 : (4096 : Int) ≤ (s.knots : Int) := by omega
  go_enter Tryz.func42, Tryz.ntmps42
  go_upto_region 1 with fail
  have h2 := HA1.out
  generalize ((w.alloc (.cells #[.slice sa l sc, .slice oa k oc, .int .i64 s.x, .int .i64 s.y, .int .i64 (s.knots : Int), .int .i64 (s.stems : Int), .int .i64 (s.fuel : Int), .int .i64 s.width, .bool s.asked] 52)).alloc (.cells #[.slice none 0 0, .slice none 0 0, .int .i64 0, .int .i64 0, .int .i64 0, .int .i64 0, .int .i64 0, .int .i64 0, .bool false] 52)) = w0 at *
  clear HA1
  rw [HAA.out] at h2 HPO ⊢
  obtain ⟨e2, e3, hb0⟩ := h2
  have HBW := Lib.hid hb0
  have hDE : A ≠ A + 1 := by omega
  have hAE : A ≤ A + 1 := by omega
  have hAD : A ≤ A := Nat.le_refl _
  clear hb0
  generalize hEE : A + 1 = E at *
  clear hEE
  skip
  have cc0 := blk_cell e2 0 _ rfl
  have cc1 := blk_cell e2 1 _ rfl
  have cc2 := blk_cell e2 2 _ rfl
  have cc3 := blk_cell e2 3 _ rfl
  have cc4 := blk_cell e2 4 _ rfl
  have cc5 := blk_cell e2 5 _ rfl
  have cc6 := blk_cell e2 6 _ rfl
  have cc7 := blk_cell e2 7 _ rfl
  have cc8 := blk_cell e2 8 _ rfl
  have dd0 := blk_cell e3 0 _ rfl
  have dd1 := blk_cell e3 1 _ rfl
  have dd2 := blk_cell e3 2 _ rfl
  have dd3 := blk_cell e3 3 _ rfl
  have dd4 := blk_cell e3 4 _ rfl
  have dd5 := blk_cell e3 5 _ rfl
  have dd6 := blk_cell e3 6 _ rfl
  have dd7 := blk_cell e3 7 _ rfl
  have dd8 := blk_cell e3 8 _ rfl
  have hh0 := blk_free e3 0
  have hh1 := blk_free e3 1
  have hh2 := blk_free e3 2
  have hh3 := blk_free e3 3
  have hh4 := blk_free e3 4
  have hh5 := blk_free e3 5
  have hh6 := blk_free e3 6
  have hh7 := blk_free e3 7
  have hh8 := blk_free e3 8
  have hED : E ≠ A := fun e => hDE e.symm
  clear e2 e3
  go_wp2_with fail
  have hfin := (((((((((HBW.out.setCell hAE (p := ⟨E, 0, none⟩) (.slice sa l sc)).setCell hAE (p := ⟨E, 1, none⟩) (.slice oa k oc)).setCell hAE (p := ⟨E, 2, none⟩) (.int .i64 s.x)).setCell hAE (p := ⟨E, 3, none⟩) (.int .i64 s.y)).setCell hAE (p := ⟨E, 4, none⟩) (.int .i64 (s.knots : Int))).setCell hAE (p := ⟨E, 5, none⟩) (.int .i64 (s.stems : Int))).setCell hAE (p := ⟨E, 6, none⟩) (.int .i64 (s.fuel : Int))).setCell hAE (p := ⟨E, 7, none⟩) (.int .i64 s.width)).setCell hAE (p := ⟨E, 8, none⟩) (.bool s.asked))
  refine bodyPost_ret (v := .tuple #[.agg #[.slice sa l sc, .slice oa k oc, .int .i64 s.x, .int .i64 s.y, .int .i64 (s.knots : Int), .int .i64 (s.stems : Int), .int .i64 (s.fuel : Int), .int .i64 s.width, .bool s.asked], .int .i64 83]) ?_ rfl (HPO.out _ hfin)
  simp [results, Tryz.results42, go_sem, dd0, hh0, dd1, hh1, dd2, hh2, dd3, hh3, dd4, hh4, dd5, hh5, dd6, hh6, dd7, hh7, dd8, hh8, hED]
 ·have z1 : (((k : Nat) : Int) == 0) = false := by simp; omega
  have z2 : ¬ (4096 : Int) ≤ (s.knots : Int) := by omega
  have HSX := Lib.hid hsx
  have HSY := Lib.hid hsy
  clear hsx hsy
  rcases hne with hne | ⟨rfl, hne⟩
  ·have z3 : (ex == 0) = false := by simpa using hne
   go_enter Tryz.func42, Tryz.ntmps42
   go_upto_region 1 with fail
   have h2 := HA1.out
   generalize ((w.alloc (.cells #[.slice sa l sc, .slice oa k oc, .int .i64 s.x, .int .i64 s.y, .int .i64 (s.knots : Int), .int .i64 (s.stems : Int), .int .i64 (s.fuel : Int), .int .i64 s.width, .bool s.asked] 52)).alloc (.cells #[.slice none 0 0, .slice none 0 0, .int .i64 0, .int .i64 0, .int .i64 0, .int .i64 0, .int .i64 0, .int .i64 0, .bool false] 52)) = w0 at *
   clear HA1
   rw [HAA.out] at h2 HPO ⊢
   obtain ⟨e2, e3, hb0⟩ := h2
   have HBW := Lib.hid hb0
   have hDE : A ≠ A + 1 := by omega
   have hAE : A ≤ A + 1 := by omega
   have hAD : A ≤ A := Nat.le_refl _
   clear hb0
   generalize hEE : A + 1 = E at *
   clear hEE
   skip
   have cc0 := blk_cell e2 0 _ rfl
   have cc1 := blk_cell e2 1 _ rfl
   have cc2 := blk_cell e2 2 _ rfl
   have cc3 := blk_cell e2 3 _ rfl
   have cc4 := blk_cell e2 4 _ rfl
   have cc5 := blk_cell e2 5 _ rfl
   have cc6 := blk_cell e2 6 _ rfl
   have cc7 := blk_cell e2 7 _ rfl
   have cc8 := blk_cell e2 8 _ rfl
   have dd0 := blk_cell e3 0 _ rfl
   have dd1 := blk_cell e3 1 _ rfl
   have dd2 := blk_cell e3 2 _ rfl
   have dd3 := blk_cell e3 3 _ rfl
   have dd4 := blk_cell e3 4 _ rfl
   have dd5 := blk_cell e3 5 _ rfl
   have dd6 := blk_cell e3 6 _ rfl
   have dd7 := blk_cell e3 7 _ rfl
   have dd8 := blk_cell e3 8 _ rfl
   have hh0 := blk_free e3 0
   have hh1 := blk_free e3 1
   have hh2 := blk_free e3 2
   have hh3 := blk_free e3 3
   have hh4 := blk_free e3 4
   have hh5 := blk_free e3 5
   have hh6 := blk_free e3 6
   have hh7 := blk_free e3 7
   have hh8 := blk_free e3 8
   have hED : E ≠ A := fun e => hDE e.symm
   clear e2 e3
   go_wp2_with fail
   refine (refsum_d s.x dx x ex w0 HSX).mono ?_
   rintro e w1 ⟨rfl, rfl⟩
   go_wp2_with fail
   refine (refsum_d s.y dy y ey w0 HSY).mono ?_
   rintro e w1 ⟨rfl, rfl⟩
   go_wp2_with fail
   have hfin := (((((((((HBW.out.setCell hAE (p := ⟨E, 0, none⟩) (.slice sa l sc)).setCell hAE (p := ⟨E, 1, none⟩) (.slice oa k oc)).setCell hAE (p := ⟨E, 2, none⟩) (.int .i64 s.x)).setCell hAE (p := ⟨E, 3, none⟩) (.int .i64 s.y)).setCell hAE (p := ⟨E, 4, none⟩) (.int .i64 (s.knots : Int))).setCell hAE (p := ⟨E, 5, none⟩) (.int .i64 (s.stems : Int))).setCell hAE (p := ⟨E, 6, none⟩) (.int .i64 (s.fuel : Int))).setCell hAE (p := ⟨E, 7, none⟩) (.int .i64 s.width)).setCell hAE (p := ⟨E, 8, none⟩) (.bool s.asked))
   refine bodyPost_ret (v := .tuple #[.agg #[.slice sa l sc, .slice oa k oc, .int .i64 s.x, .int .i64 s.y, .int .i64 (s.knots : Int), .int .i64 (s.stems : Int), .int .i64 (s.fuel : Int), .int .i64 s.width, .bool s.asked], .int .i64 84]) ?_ rfl (HPO.out _ hfin)
   simp [results, Tryz.results42, go_sem, dd0, hh0, dd1, hh1, dd2, hh2, dd3, hh3, dd4, hh4, dd5, hh5, dd6, hh6, dd7, hh7, dd8, hh8, hED]
  ·have z3 : (ey == 0) = false := by simpa using hne
   go_enter Tryz.func42, Tryz.ntmps42
   go_upto_region 1 with fail
   have h2 := HA1.out
   generalize ((w.alloc (.cells #[.slice sa l sc, .slice oa k oc, .int .i64 s.x, .int .i64 s.y, .int .i64 (s.knots : Int), .int .i64 (s.stems : Int), .int .i64 (s.fuel : Int), .int .i64 s.width, .bool s.asked] 52)).alloc (.cells #[.slice none 0 0, .slice none 0 0, .int .i64 0, .int .i64 0, .int .i64 0, .int .i64 0, .int .i64 0, .int .i64 0, .bool false] 52)) = w0 at *
   clear HA1
   rw [HAA.out] at h2 HPO ⊢
   obtain ⟨e2, e3, hb0⟩ := h2
   have HBW := Lib.hid hb0
   have hDE : A ≠ A + 1 := by omega
   have hAE : A ≤ A + 1 := by omega
   have hAD : A ≤ A := Nat.le_refl _
   clear hb0
   generalize hEE : A + 1 = E at *
   clear hEE
   skip
   have cc0 := blk_cell e2 0 _ rfl
   have cc1 := blk_cell e2 1 _ rfl
   have cc2 := blk_cell e2 2 _ rfl
   have cc3 := blk_cell e2 3 _ rfl
   have cc4 := blk_cell e2 4 _ rfl
   have cc5 := blk_cell e2 5 _ rfl
   have cc6 := blk_cell e2 6 _ rfl
   have cc7 := blk_cell e2 7 _ rfl
   have cc8 := blk_cell e2 8 _ rfl
   have dd0 := blk_cell e3 0 _ rfl
   have dd1 := blk_cell e3 1 _ rfl
   have dd2 := blk_cell e3 2 _ rfl
   have dd3 := blk_cell e3 3 _ rfl
   have dd4 := blk_cell e3 4 _ rfl
   have dd5 := blk_cell e3 5 _ rfl
   have dd6 := blk_cell e3 6 _ rfl
   have dd7 := blk_cell e3 7 _ rfl
   have dd8 := blk_cell e3 8 _ rfl
   have hh0 := blk_free e3 0
   have hh1 := blk_free e3 1
   have hh2 := blk_free e3 2
   have hh3 := blk_free e3 3
   have hh4 := blk_free e3 4
   have hh5 := blk_free e3 5
   have hh6 := blk_free e3 6
   have hh7 := blk_free e3 7
   have hh8 := blk_free e3 8
   have hED : E ≠ A := fun e => hDE e.symm
   clear e2 e3
   go_wp2_with fail
   refine (refsum_d s.x dx x 0 w0 HSX).mono ?_
   rintro e w1 ⟨rfl, rfl⟩
   go_wp2_with fail
   refine (refsum_d s.y dy y ey w0 HSY).mono ?_
   rintro e w1 ⟨rfl, rfl⟩
   go_wp2_with fail
   have hfin := (((((((((HBW.out.setCell hAE (p := ⟨E, 0, none⟩) (.slice sa l sc)).setCell hAE (p := ⟨E, 1, none⟩) (.slice oa k oc)).setCell hAE (p := ⟨E, 2, none⟩) (.int .i64 s.x)).setCell hAE (p := ⟨E, 3, none⟩) (.int .i64 s.y)).setCell hAE (p := ⟨E, 4, none⟩) (.int .i64 (s.knots : Int))).setCell hAE (p := ⟨E, 5, none⟩) (.int .i64 (s.stems : Int))).setCell hAE (p := ⟨E, 6, none⟩) (.int .i64 (s.fuel : Int))).setCell hAE (p := ⟨E, 7, none⟩) (.int .i64 s.width)).setCell hAE (p := ⟨E, 8, none⟩) (.bool s.asked))
   refine bodyPost_ret (v := .tuple #[.agg #[.slice sa l sc, .slice oa k oc, .int .i64 s.x, .int .i64 s.y, .int .i64 (s.knots : Int), .int .i64 (s.stems : Int), .int .i64 (s.fuel : Int), .int .i64 s.width, .bool s.asked], .int .i64 84]) ?_ rfl (HPO.out _ hfin)
   simp [results, Tryz.results42, go_sem, dd0, hh0, dd1, hh1, dd2, hh2, dd3, hh3, dd4, hh4, dd5, hh5, dd6, hh6, dd7, hh7, dd8, hh8, hED]
theorem knot_ok {s : MS} {dx dy k x y : Int} (h0 : s.fault = 0) (ho : 0 < s.out.length) (hk : s.knots < 4096) (hx : sumOr s.x dx = (x, 0)) (hy : sumOr s.y dy = (y, 0)) :
 s.knot dx dy k = { s with x := x, y := y, out := snocLast s.out ⟨nearM x, nearM y, k⟩, knots := s.knots + 1 } := by
 unfold MS.knot
 rw [if_neg (by omega), if_neg (by omega), if_neg (by omega)]
 unfold addF
 rw [hx, hy]
 obtain ⟨o, kn, x0, y0, f, r, st, fu, sm, wd, a, e⟩ := s
 simp only at h0
 subst h0
 simp
theorem knot_bad {s : MS} {dx dy k x y ex ey : Int} (h0 : s.fault = 0) (ho : 0 < s.out.length) (hk : s.knots < 4096) (hx : sumOr s.x dx = (x, ex)) (hy : sumOr s.y dy = (y, ey)) (hne : ex ≠ 0 ∨ (ex = 0 ∧ ey ≠ 0)) :
 (s.knot dx dy k).fault = 84 := by
 unfold MS.knot
 rw [if_neg (by omega), if_neg (by omega), if_neg (by omega)]
 unfold addF
 rw [hx, hy]
 rcases hne with h | ⟨rfl, h⟩
 ·simp [h]
 ·simp [h]
end Go.Proofs.YtklenppldblbdaaGreat
