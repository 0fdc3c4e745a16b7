/-
  Four points in memory; the steps of a cubic curve's sum; bend by names.
-/
import Derived.Test.YthjhekmlhmljlaaPtH
namespace Go.Proofs.Ythjhekmlhmljlaa
open Go.RowKit Go.PlainAid
set_option linter.unusedSimpArgs false
set_option linter.unusedVariables false

/-- Four points in four blocks. -/
structure BoxC (V : World) (g : Nat) (a c d b : Sp) : Prop where
  a0 : V.cell? ⟨g, 0, none⟩ = some (.int .i64 a.x)
  a1 : V.cell? ⟨g, 1, none⟩ = some (.int .i64 a.y)
  c0 : V.cell? ⟨g + 1, 0, none⟩ = some (.int .i64 c.x)
  c1 : V.cell? ⟨g + 1, 1, none⟩ = some (.int .i64 c.y)
  d0 : V.cell? ⟨g + 1 + 1, 0, none⟩ = some (.int .i64 d.x)
  d1 : V.cell? ⟨g + 1 + 1, 1, none⟩ = some (.int .i64 d.y)
  b0 : V.cell? ⟨g + 1 + 1 + 1, 0, none⟩ = some (.int .i64 b.x)
  b1 : V.cell? ⟨g + 1 + 1 + 1, 1, none⟩ = some (.int .i64 b.y)
theorem BoxC.below {V V' : World} {g : Nat} {a c d b : Sp} (h : BoxC V g a c d b) (k : Below V.heap.size V V') : BoxC V' g a c d b := ⟨keepC k h.a0, keepC k h.a1, keepC k h.c0, keepC k h.c1, keepC k h.d0, keepC k h.d1, keepC k h.b0, keepC k h.b1⟩
theorem BoxC.grown {V V' : World} {g g1 : Nat} {a c d b : Sp} (h : BoxC V g a c d b) (k : V.grownBy V' (some g1)) (hg : g1 < g ∨ g + 4 ≤ g1) : BoxC V' g a c d b :=
  ⟨grown_cell k h.a0 (by omega), grown_cell k h.a1 (by omega), grown_cell k h.c0 (by omega), grown_cell k h.c1 (by omega), grown_cell k h.d0 (by omega), grown_cell k h.d1 (by omega), grown_cell k h.b0 (by omega), grown_cell k h.b1 (by omega)⟩
theorem BoxC.drew {V : World} {g : Nat} {a c d b : Sp} (h : BoxC V g a c d b) : BoxC V.drew g a c d b := ⟨h.a0, h.a1, h.c0, h.c1, h.d0, h.d1, h.b0, h.b1⟩

/-- The steps of a cubic curve's sum. -/
structure CubC (a c d b I J P1 P2 P3 Q0 Q1 Q2 Q3 S1 D0 D1 D2 D3 S2 R1 R2 R3 X : Int) : Prop where
  p1 : IntKind.i64.wrap (a * J) = P1
  p2 : IntKind.i64.wrap (P1 * J) = P2
  p3 : IntKind.i64.wrap (P2 * J) = P3
  q0 : IntKind.i64.wrap (3 * c) = Q0
  q1 : IntKind.i64.wrap (Q0 * I) = Q1
  q2 : IntKind.i64.wrap (Q1 * J) = Q2
  q3 : IntKind.i64.wrap (Q2 * J) = Q3
  s1 : IntKind.i64.wrap (P3 + Q3) = S1
  d0 : IntKind.i64.wrap (3 * d) = D0
  d1 : IntKind.i64.wrap (D0 * I) = D1
  d2 : IntKind.i64.wrap (D1 * I) = D2
  d3 : IntKind.i64.wrap (D2 * J) = D3
  s2 : IntKind.i64.wrap (S1 + D3) = S2
  r1 : IntKind.i64.wrap (b * I) = R1
  r2 : IntKind.i64.wrap (R1 * I) = R2
  r3 : IntKind.i64.wrap (R2 * I) = R3
  x : IntKind.i64.wrap (S2 + R3) = X
theorem w64_in {n : Int} (h1 : -1000000000000000 ≤ n) (h2 : n ≤ 1000000000000000) : IntKind.i64.wrap n = n := IntWalk.i64_in _ (by omega)
theorem cub_chain {a c d b : Int} {i j : Nat} (hi : i ≤ 16) (hj : j ≤ 16) (ha : In (-2147483647) 2147483647 a) (hc : In (-2147483647) 2147483647 c) (hd : In (-2147483647) 2147483647 d) (hb : In (-2147483647) 2147483647 b) :
    ∃ P1 P2 P3 Q0 Q1 Q2 Q3 S1 D0 D1 D2 D3 S2 R1 R2 R3, CubC a c d b i j P1 P2 P3 Q0 Q1 Q2 Q3 S1 D0 D1 D2 D3 S2 R1 R2 R3 (cubN a c d b i j) := by
  have p1 := mul16 (B := 2147483647) (by decide) ha.1 ha.2 hj
  have p2 := mul16 (B := 34359738352) (by decide) (by omega) (by omega) hj (a := a * (j : Int))
  have p3 := mul16 (B := 549755813632) (by decide) (by omega) (by omega) hj (a := a * (j : Int) * (j : Int))
  have q0 : -6442450941 ≤ 3 * c ∧ 3 * c ≤ 6442450941 := by have := hc.1; have := hc.2; omega
  have q1 := mul16 (B := 6442450941) (by decide) (by omega) (by omega) hi (a := 3 * c)
  have q2 := mul16 (B := 103079215056) (by decide) (by omega) (by omega) hj (a := 3 * c * (i : Int))
  have q3 := mul16 (B := 1649267440896) (by decide) (by omega) (by omega) hj (a := 3 * c * (i : Int) * (j : Int))
  have d0 : -6442450941 ≤ 3 * d ∧ 3 * d ≤ 6442450941 := by have := hd.1; have := hd.2; omega
  have d1 := mul16 (B := 6442450941) (by decide) (by omega) (by omega) hi (a := 3 * d)
  have d2 := mul16 (B := 103079215056) (by decide) (by omega) (by omega) hi (a := 3 * d * (i : Int))
  have d3 := mul16 (B := 1649267440896) (by decide) (by omega) (by omega) hj (a := 3 * d * (i : Int) * (i : Int))
  have r1 := mul16 (B := 2147483647) (by decide) hb.1 hb.2 hi
  have r2 := mul16 (B := 34359738352) (by decide) (by omega) (by omega) hi (a := b * (i : Int))
  have r3 := mul16 (B := 549755813632) (by decide) (by omega) (by omega) hi (a := b * (i : Int) * (i : Int))
  refine ⟨a * j, a * j * j, a * j * j * j, 3 * c, 3 * c * i, 3 * c * i * j, 3 * c * i * j * j, a * j * j * j + 3 * c * i * j * j, 3 * d, 3 * d * i, 3 * d * i * i, 3 * d * i * i * j, a * j * j * j + 3 * c * i * j * j + 3 * d * i * i * j, b * i, b * i * i, b * i * i * i, ?_⟩
  exact ⟨w64_in (by omega) (by omega), w64_in (by omega) (by omega), w64_in (by omega) (by omega), w64_in (by omega) (by omega), w64_in (by omega) (by omega), w64_in (by omega) (by omega), w64_in (by omega) (by omega), w64_in (by omega) (by omega), w64_in (by omega) (by omega), w64_in (by omega) (by omega), w64_in (by omega) (by omega), w64_in (by omega) (by omega), w64_in (by omega) (by omega), w64_in (by omega) (by omega), w64_in (by omega) (by omega), w64_in (by omega) (by omega), w64_in (by omega) (by omega)⟩
theorem nnn_wrap {n : Nat} (h : n ≤ 16) : ∃ D2 : Int, IntKind.i64.wrap ((n : Int) * (n : Int)) = D2 ∧ IntKind.i64.wrap (D2 * (n : Int)) = ((n * n * n : Nat) : Int) ∧ n * n * n ≤ 4096 := by
  have h1 : n * n ≤ 16 * 16 := Nat.mul_le_mul h h
  have h2 : n * n * n ≤ 16 * 16 * 16 := Nat.mul_le_mul h1 h
  refine ⟨((n * n : Nat) : Int), ?_, ?_, by omega⟩
  · rw [← Int.natCast_mul]; exact w64_in (by omega) (by omega)
  · rw [← Int.natCast_mul]; exact w64_in (by omega) (by omega)
theorem bend_h (a c b : Sp) (w : World) (ha : Hid (FixS a)) (hc : Hid (FixS c)) (hb : Hid (FixS b)) (d : Int) (hd : Hid (bendD a c b = d)) : Calls Try.prog 85 #[spV a, spV c, spV b] w fun e w' => e = .returned (.int .i64 d) ∧ Below w.heap.size w w' := by
  rw [← hd.out]; exact bend_c a c b w ha.out hc.out hb.out
theorem bend_le {a c b : Sp} (ha : FixS a) (hc : FixS c) (hb : FixS b) : 0 ≤ bendD a c b ∧ bendD a c b ≤ 20000000000 := by
  obtain ⟨_, _, _, _, _, x6⟩ := lin_bd ha.1 hc.1 hb.1
  obtain ⟨_, _, _, _, _, y6⟩ := lin_bd ha.2 hc.2 hb.2
  unfold bendD; omega

end Go.Proofs.Ythjhekmlhmljlaa
