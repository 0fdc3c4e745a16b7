/-
  What middle of package path and middle of the document's answer give, for coordinates that are FIX.
-/
import Derived.Test.YthjhekmlhmljlaaPtC
namespace Go.Proofs.Ythjhekmlhmljlaa
open Go.RowKit Go.PlainAid
set_option linter.unusedSimpArgs false
set_option linter.unusedVariables false

theorem sum_bd {a b : Int} (ha : In (-2147483647) 2147483647 a) (hb : In (-2147483647) 2147483647 b) : IntKind.i64.wrap (a + b) = a + b ∧ (-2147483647) * ((2 : Nat) : Int) ≤ a + b ∧ a + b ≤ 2147483647 * ((2 : Nat) : Int) := by
  obtain ⟨a1, a2⟩ := ha
  obtain ⟨b1, b2⟩ := hb
  exact ⟨IntWalk.i64_in _ (by omega), by omega, by omega⟩
theorem nearest2_h (n : Int) (w : World) (h : Hid ((-2147483647) * ((2 : Nat) : Int) ≤ n ∧ n ≤ 2147483647 * ((2 : Nat) : Int))) : Calls Try.prog 80 #[.int .i64 n, .int .i64 2] w fun e w' => e = .returned (.int .i64 (nearQ n 2)) ∧ Below w.heap.size w w' := nearest_c n 2 w (by decide) (by decide) h.out.1 h.out.2

/-- What middle works with: two boxes, and the place of its answer. -/
structure MidW (V : World) (g : Nat) (a b : Sp) : Prop where
  c0 : V.cell? ⟨g, 0, none⟩ = some (.int .i64 a.x)
  c1 : V.cell? ⟨g, 1, none⟩ = some (.int .i64 a.y)
  d0 : V.cell? ⟨g + 1, 0, none⟩ = some (.int .i64 b.x)
  d1 : V.cell? ⟨g + 1, 1, none⟩ = some (.int .i64 b.y)
  o0 : V.cell? ⟨g + 1 + 1, 0, none⟩ = some (.int .i64 0)
  o1 : V.cell? ⟨g + 1 + 1, 1, none⟩ = some (.int .i64 0)
  f0 : V.frozen? ⟨g + 1 + 1, 0, none⟩ = false
  f1 : V.frozen? ⟨g + 1 + 1, 1, none⟩ = false
theorem MidW.below {V V' : World} {g : Nat} {a b : Sp} (h : MidW V g a b) (hb : Below V.heap.size V V') : MidW V' g a b :=
  ⟨keepC hb h.c0, keepC hb h.c1, keepC hb h.d0, keepC hb h.d1, keepC hb h.o0, keepC hb h.o1, keepF hb h.o0 h.f0, keepF hb h.o1 h.f1⟩
theorem MidW.drew {V : World} {g : Nat} {a b : Sp} (h : MidW V g a b) : MidW V.drew g a b := ⟨h.c0, h.c1, h.d0, h.d1, h.o0, h.o1, h.f0, h.f1⟩
theorem midW_new (w : World) (a b : Sp) : MidW (((w.alloc (.cells #[.int .i64 a.x, .int .i64 a.y] 47)).alloc (.cells #[.int .i64 b.x, .int .i64 b.y] 47)).alloc (.cells #[.int .i64 0, .int .i64 0] 47)) w.heap.size a b := by
  constructor <;> simp [go_sem]

set_option maxHeartbeats 1000000 in
theorem middle_c (a b : Sp) (w : World) (ha : FixS a) (hb : FixS b) : Calls Try.prog 74 #[spV a, spV b] w fun e w' => e = .returned (spV (mid a b)) ∧ Below w.heap.size w w' := by
  obtain ⟨x1, x2, x3⟩ := sum_bd ha.1 hb.1
  obtain ⟨y1, y2, y3⟩ := sum_bd ha.2 hb.2
  obtain ⟨X, HX⟩ : ∃ X, Hid (a.x + b.x = X) := ⟨_, rfl⟩
  obtain ⟨Y, HY⟩ : ∃ Y, Hid (a.y + b.y = Y) := ⟨_, rfl⟩
  replace x1 := x1.trans HX.out
  replace y1 := y1.trans HY.out
  rw [HX.out] at x2 x3
  rw [HY.out] at y2 y3
  have H1 := Lib.hid (And.intro x2 x3)
  have H2 := Lib.hid (And.intro y2 y3)
  have HE : Hid (mid a b = ⟨nearQ X 2, nearQ Y 2⟩) := by unfold Hid mid; rw [HX.out, HY.out]
  have HM0 := Lib.hid (midW_new w a b)
  have HB0 : Hid (Below w.heap.size w (((w.alloc (.cells #[.int .i64 a.x, .int .i64 a.y] 47)).alloc (.cells #[.int .i64 b.x, .int .i64 b.y] 47)).alloc (.cells #[.int .i64 0, .int .i64 0] 47))) := bel_alloc (bel_alloc ((Below.refl _ _).alloc (Nat.le_refl _) _) _) _
  clear x2 x3 y2 y3 ha hb
  unfold spV
  go_enter Try.func74, Try.ntmps74
  go_wp2_with fail
  generalize (((w.alloc (.cells #[.int .i64 a.x, .int .i64 a.y] 47)).alloc (.cells #[.int .i64 b.x, .int .i64 b.y] 47)).alloc (.cells #[.int .i64 0, .int .i64 0] 47)) = W at *
  replace HM0 := Lib.hid HM0.out.drew
  replace HB0 := Lib.hid HB0.out.drew
  go_region_held3 (fun V => V.cell? ⟨w.heap.size, 0, none⟩ = some (.int .i64 a.x) ∧ V.cell? ⟨w.heap.size, 1, none⟩ = some (.int .i64 a.y) ∧ V.cell? ⟨w.heap.size + 1, 0, none⟩ = some (.int .i64 b.x) ∧ V.cell? ⟨w.heap.size + 1, 1, none⟩ = some (.int .i64 b.y)) (first | exact ⟨HM0.out.c0, HM0.out.c1, HM0.out.d0, HM0.out.d1⟩ | exact ⟨HM1.out.c0, HM1.out.c1, HM1.out.d0, HM1.out.d1⟩ | exact ⟨((keepS (by omega)).trans (keepS (by omega))).trans HM1.out.c0, ((keepS (by omega)).trans (keepS (by omega))).trans HM1.out.c1, ((keepS (by omega)).trans (keepS (by omega))).trans HM1.out.d0, ((keepS (by omega)).trans (keepS (by omega))).trans HM1.out.d1⟩)
    (first | (go_at_call 80; refine (nearest2_h _ _ (by assumption)).mono ?_; rintro e w1 ⟨rfl, hb1⟩; (first | (have HM1 := Lib.hid (HM0.out.below hb1); have HB1 := Lib.hid (bel_next HB0.out hb1)) | (have HM1 := Lib.hid (HM1.out.below hb1); have HB1 := Lib.hid (bel_next HB1.out hb1))); clear hb1; have o0 := HM1.out.o0; have o1 := HM1.out.o1; have f0 := HM1.out.f0; have f1 := HM1.out.f1))
  go_wp2_with fail
  refine bodyPost_ret (v := .agg #[.int .i64 (nearQ X 2), .int .i64 (nearQ Y 2)]) (by simp [results, Try.results74, go_sem, o0, o1]) rfl ⟨by rw [HE.out], ?_⟩
  refine bel_set (bel_set HB1.out ?_ _) ?_ _ <;> omega

theorem refhalf_h (n : Int) (w : World) (h : Hid ((-2147483647) * ((2 : Nat) : Int) ≤ n ∧ n ≤ 2147483647 * ((2 : Nat) : Int))) : Calls Try.prog 68 #[.int .i64 n] w fun e w' => e = .returned (.int .i64 (nearQ n 2)) ∧ Below w.heap.size w w' :=
  (refhalf_c n w (by have := h.out; omega) (by have := h.out; omega)).mono fun e w' ⟨he, hw⟩ => ⟨he, by rw [hw]; exact Below.refl _ _⟩
theorem midW_new3 (w : World) (a b : Kn) : MidW (((w.alloc (.cells #[.int .i64 a.x, .int .i64 a.y, .int .i64 a.k] 37)).alloc (.cells #[.int .i64 b.x, .int .i64 b.y, .int .i64 b.k] 37)).alloc (.cells #[.int .i64 0, .int .i64 0] 47)) w.heap.size a.sp b.sp := by
  constructor <;> simp [go_sem, Kn.sp]

set_option maxHeartbeats 1000000 in
theorem refmiddle_c (a b : Kn) (w : World) (ha : FixS a.sp) (hb : FixS b.sp) : Calls Try.prog 53 #[knV a, knV b] w fun e w' => e = .returned (spV (mid a.sp b.sp)) ∧ Below w.heap.size w w' := by
  obtain ⟨x1, x2, x3⟩ := sum_bd ha.1 hb.1
  obtain ⟨y1, y2, y3⟩ := sum_bd ha.2 hb.2
  obtain ⟨X, HX⟩ : ∃ X, Hid (a.sp.x + b.sp.x = X) := ⟨_, rfl⟩
  obtain ⟨Y, HY⟩ : ∃ Y, Hid (a.sp.y + b.sp.y = Y) := ⟨_, rfl⟩
  replace x1 : IntKind.i64.wrap (a.x + b.x) = X := x1.trans HX.out
  replace y1 : IntKind.i64.wrap (a.y + b.y) = Y := y1.trans HY.out
  rw [HX.out] at x2 x3
  rw [HY.out] at y2 y3
  have H1 := Lib.hid (And.intro x2 x3)
  have H2 := Lib.hid (And.intro y2 y3)
  have HE : Hid (mid a.sp b.sp = ⟨nearQ X 2, nearQ Y 2⟩) := by unfold Hid mid; rw [HX.out, HY.out]
  have HM0 := Lib.hid (midW_new3 w a b)
  have HB0 : Hid (Below w.heap.size w (((w.alloc (.cells #[.int .i64 a.x, .int .i64 a.y, .int .i64 a.k] 37)).alloc (.cells #[.int .i64 b.x, .int .i64 b.y, .int .i64 b.k] 37)).alloc (.cells #[.int .i64 0, .int .i64 0] 47))) := bel_alloc (bel_alloc ((Below.refl _ _).alloc (Nat.le_refl _) _) _) _
  clear x2 x3 y2 y3 ha hb
  unfold spV knV
  go_enter Try.func53, Try.ntmps53
  go_wp2_with fail
  generalize (((w.alloc (.cells #[.int .i64 a.x, .int .i64 a.y, .int .i64 a.k] 37)).alloc (.cells #[.int .i64 b.x, .int .i64 b.y, .int .i64 b.k] 37)).alloc (.cells #[.int .i64 0, .int .i64 0] 47)) = W at *
  replace HM0 := Lib.hid HM0.out.drew
  replace HB0 := Lib.hid HB0.out.drew
  go_region_held3 (fun V => V.cell? ⟨w.heap.size, 0, none⟩ = some (.int .i64 a.x) ∧ V.cell? ⟨w.heap.size, 1, none⟩ = some (.int .i64 a.y) ∧ V.cell? ⟨w.heap.size + 1, 0, none⟩ = some (.int .i64 b.x) ∧ V.cell? ⟨w.heap.size + 1, 1, none⟩ = some (.int .i64 b.y)) (first | exact ⟨HM0.out.c0, HM0.out.c1, HM0.out.d0, HM0.out.d1⟩ | exact ⟨HM1.out.c0, HM1.out.c1, HM1.out.d0, HM1.out.d1⟩ | exact ⟨((keepS (by omega)).trans (keepS (by omega))).trans HM1.out.c0, ((keepS (by omega)).trans (keepS (by omega))).trans HM1.out.c1, ((keepS (by omega)).trans (keepS (by omega))).trans HM1.out.d0, ((keepS (by omega)).trans (keepS (by omega))).trans HM1.out.d1⟩)
    (first | (go_at_call 68; refine (refhalf_h _ _ (by assumption)).mono ?_; rintro e w1 ⟨rfl, hb1⟩; (first | (have HM1 := Lib.hid (HM0.out.below hb1); have HB1 := Lib.hid (bel_next HB0.out hb1)) | (have HM1 := Lib.hid (HM1.out.below hb1); have HB1 := Lib.hid (bel_next HB1.out hb1))); clear hb1; have o0 := HM1.out.o0; have o1 := HM1.out.o1; have f0 := HM1.out.f0; have f1 := HM1.out.f1))
  go_wp2_with fail
  refine bodyPost_ret (v := .agg #[.int .i64 (nearQ X 2), .int .i64 (nearQ Y 2)]) (by simp [results, Try.results53, go_sem, o0, o1]) rfl ⟨by rw [HE.out], ?_⟩
  refine bel_set (bel_set HB1.out ?_ _) ?_ _ <;> omega

end Go.Proofs.Ythjhekmlhmljlaa
