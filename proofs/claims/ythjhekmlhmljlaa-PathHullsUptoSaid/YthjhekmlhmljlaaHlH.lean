/-
  What Hull and Bounds of package path give: the least box of an outline's knots, of polygons' points.
-/
import Derived.Test.YthjhekmlhmljlaaHlC
import Derived.Test.YthjhekmlhmljlaaHlD
namespace Go.Proofs.Ythjhekmlhmljlaa
open Go.RowKit Go.PlainAid
set_option linter.unusedSimpArgs false
set_option linter.unusedVariables false

/-- A box and whether there is one. -/
def BoxPost (w : World) (l : List Sp) (e : Ending) (w' : World) : Prop := e = .returned (.tuple #[bxV (hullB l), .bool (anyS l)]) ∧ Below w.heap.size w w'
set_option maxHeartbeats 1000000 in
theorem hull_c (a : Option Addr) (cap : Nat) (O : List (List Kn)) (w : World) (ho : IsO clK w a O) (hl : Long O) : Calls Try.prog 22 #[.slice a O.length cap] w (BoxPost w (spotsL O)) := by
  have HB0 : Hid (Below w.heap.size w (w.alloc (.cells #[.int .i64 0, .int .i64 0, .int .i64 0, .int .i64 0] 50))) := (Below.refl _ _).alloc (Nat.le_refl _) _
  have HR0 : Hid (BoxAt (w.alloc (.cells #[.int .i64 0, .int .i64 0, .int .i64 0, .int .i64 0] 50)) w.heap.size ⟨0, 0, 0, 0⟩) := boxAt_new w
  have HC := Lib.hid (leastK_c a cap O _ (ho.below HB0.out) hl)
  unfold BoxPost
  obtain ⟨Bq, HBQ⟩ : ∃ Bq, Hid (hullB (spotsL O) = Bq) := ⟨_, rfl⟩
  rw [HBQ.out] at HC
  rw [HBQ.out]
  clear ho hl
  unfold bxV at HC
  go_enter Try.func22, Try.ntmps22
  go_wp2_with fail
  refine HC.out.mono ?_
  rintro e w1 ⟨rfl, hb1⟩
  have HB1 := Lib.hid (bel_next HB0.out hb1)
  have HR1 := Lib.hid (HR0.out.below hb1)
  obtain ⟨r0, r1, r2, r3⟩ := HR1.out.cells
  have f0 := HR1.out.fr 0
  have f1 := HR1.out.fr 1
  have f2 := HR1.out.fr 2
  have f3 := HR1.out.fr 3
  clear hb1 HC
  go_wp2_with fail
  refine bodyPost_ret (v := .tuple #[.agg #[.int .i64 Bq.x0, .int .i64 Bq.y0, .int .i64 Bq.x1, .int .i64 Bq.y1], .bool (anyS (spotsL O))]) (by simp [results, Try.results22, go_sem, r0, r1, r2, r3]) rfl ⟨rfl, ?_⟩
  exact bel_at (bel_at (bel_at (bel_at HB1.out)))
set_option maxHeartbeats 1000000 in
theorem bounds_c (a : Option Addr) (cap : Nat) (O : List (List Sp)) (w : World) (ho : IsO clS w a O) (hl : LongA O) : Calls Try.prog 23 #[.slice a O.length cap] w (BoxPost w O.flatten) := by
  have HB0 : Hid (Below w.heap.size w (w.alloc (.cells #[.int .i64 0, .int .i64 0, .int .i64 0, .int .i64 0] 50))) := (Below.refl _ _).alloc (Nat.le_refl _) _
  have HR0 : Hid (BoxAt (w.alloc (.cells #[.int .i64 0, .int .i64 0, .int .i64 0, .int .i64 0] 50)) w.heap.size ⟨0, 0, 0, 0⟩) := boxAt_new w
  have HC := Lib.hid (leastS_c a cap O _ (ho.below HB0.out) hl)
  unfold BoxPost
  obtain ⟨Bq, HBQ⟩ : ∃ Bq, Hid (hullB O.flatten = Bq) := ⟨_, rfl⟩
  rw [HBQ.out] at HC
  rw [HBQ.out]
  clear ho hl
  unfold bxV at HC
  go_enter Try.func23, Try.ntmps23
  go_wp2_with fail
  refine HC.out.mono ?_
  rintro e w1 ⟨rfl, hb1⟩
  have HB1 := Lib.hid (bel_next HB0.out hb1)
  have HR1 := Lib.hid (HR0.out.below hb1)
  obtain ⟨r0, r1, r2, r3⟩ := HR1.out.cells
  have f0 := HR1.out.fr 0
  have f1 := HR1.out.fr 1
  have f2 := HR1.out.fr 2
  have f3 := HR1.out.fr 3
  clear hb1 HC
  go_wp2_with fail
  refine bodyPost_ret (v := .tuple #[.agg #[.int .i64 Bq.x0, .int .i64 Bq.y0, .int .i64 Bq.x1, .int .i64 Bq.y1], .bool (anyS O.flatten)]) (by simp [results, Try.results23, go_sem, r0, r1, r2, r3]) rfl ⟨rfl, ?_⟩
  exact bel_at (bel_at (bel_at (bel_at HB1.out)))

end Go.Proofs.Ythjhekmlhmljlaa
