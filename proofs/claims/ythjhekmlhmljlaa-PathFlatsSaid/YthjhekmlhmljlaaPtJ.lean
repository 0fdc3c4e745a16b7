/-
  What Points of the document's answer gives: an arc's points from a place, in a new row. For coordinates that are FIX.
-/
import Derived.Test.YthjhekmlhmljlaaPtK
namespace Go.Proofs.Ythjhekmlhmljlaa
open Go.RowKit Go.PlainAid
set_option linter.unusedSimpArgs false
set_option linter.unusedVariables false

/-- The steps of the curves' sums, in the walk's other spelling. -/
structure QuadW (a c b I J P1 P2 Q1 Q2 Q3 S1 R1 R2 X : Int) : Prop where
  p1 : wrap64 (a * J) = P1
  p2 : wrap64 (P1 * J) = P2
  q1 : wrap64 (2 * c) = Q1
  q2 : wrap64 (Q1 * I) = Q2
  q3 : wrap64 (Q2 * J) = Q3
  s1 : wrap64 (P2 + Q3) = S1
  r1 : wrap64 (b * I) = R1
  r2 : wrap64 (R1 * I) = R2
  x : wrap64 (S1 + R2) = X
theorem QuadC.w {a c b I J P1 P2 Q1 Q2 Q3 S1 R1 R2 X : Int} (h : QuadC a c b I J P1 P2 Q1 Q2 Q3 S1 R1 R2 X) : QuadW a c b I J P1 P2 Q1 Q2 Q3 S1 R1 R2 X := ⟨(IntWalk.i64_left _).symm.trans h.p1, (IntWalk.i64_left _).symm.trans h.p2, (IntWalk.i64_left _).symm.trans h.q1, (IntWalk.i64_left _).symm.trans h.q2, (IntWalk.i64_left _).symm.trans h.q3, (IntWalk.i64_left _).symm.trans h.s1, (IntWalk.i64_left _).symm.trans h.r1, (IntWalk.i64_left _).symm.trans h.r2, (IntWalk.i64_left _).symm.trans h.x⟩
structure CubW (a c d b I J P1 P2 P3 Q0 Q1 Q2 Q3 S1 D0 D1 D2 D3 S2 R1 R2 R3 X : Int) : Prop where
  p1 : wrap64 (a * J) = P1
  p2 : wrap64 (P1 * J) = P2
  p3 : wrap64 (P2 * J) = P3
  q0 : wrap64 (3 * c) = Q0
  q1 : wrap64 (Q0 * I) = Q1
  q2 : wrap64 (Q1 * J) = Q2
  q3 : wrap64 (Q2 * J) = Q3
  s1 : wrap64 (P3 + Q3) = S1
  d0 : wrap64 (3 * d) = D0
  d1 : wrap64 (D0 * I) = D1
  d2 : wrap64 (D1 * I) = D2
  d3 : wrap64 (D2 * J) = D3
  s2 : wrap64 (S1 + D3) = S2
  r1 : wrap64 (b * I) = R1
  r2 : wrap64 (R1 * I) = R2
  r3 : wrap64 (R2 * I) = R3
  x : wrap64 (S2 + R3) = X
theorem CubC.w {a c d b I J P1 P2 P3 Q0 Q1 Q2 Q3 S1 D0 D1 D2 D3 S2 R1 R2 R3 X : Int} (h : CubC a c d b I J P1 P2 P3 Q0 Q1 Q2 Q3 S1 D0 D1 D2 D3 S2 R1 R2 R3 X) : CubW a c d b I J P1 P2 P3 Q0 Q1 Q2 Q3 S1 D0 D1 D2 D3 S2 R1 R2 R3 X := ⟨(IntWalk.i64_left _).symm.trans h.p1, (IntWalk.i64_left _).symm.trans h.p2, (IntWalk.i64_left _).symm.trans h.p3, (IntWalk.i64_left _).symm.trans h.q0, (IntWalk.i64_left _).symm.trans h.q1, (IntWalk.i64_left _).symm.trans h.q2, (IntWalk.i64_left _).symm.trans h.q3, (IntWalk.i64_left _).symm.trans h.s1, (IntWalk.i64_left _).symm.trans h.d0, (IntWalk.i64_left _).symm.trans h.d1, (IntWalk.i64_left _).symm.trans h.d2, (IntWalk.i64_left _).symm.trans h.d3, (IntWalk.i64_left _).symm.trans h.s2, (IntWalk.i64_left _).symm.trans h.r1, (IntWalk.i64_left _).symm.trans h.r2, (IntWalk.i64_left _).symm.trans h.r3, (IntWalk.i64_left _).symm.trans h.x⟩

/-- An arc as a value. -/
def arcV (ac : Option Addr) (cc : Nat) (r : Arc) : Value := .agg #[.slice ac r.cs.length cc, .int .i64 r.e.x, .int .i64 r.e.y]
/-- A new row of points. -/
def NewPts (w : World) (L : List Sp) (e : Ending) (w' : World) : Prop :=
  ∃ g c, e = .returned (.slice (some ⟨g, 0, none⟩) L.length c) ∧ w'.ownsRow w.heap.size 47 2 (.slice (some ⟨g, 0, none⟩) L.length c) L.length (L.flatMap clS) ∧ Below w.heap.size w w'

set_option maxRecDepth 20000 in
set_option maxHeartbeats 2000000 in
theorem points_line (a e : Sp) (ac : Option Addr) (cc : Nat) (w : World) : Calls Try.prog 38 #[spV a, arcV ac cc ⟨[], e⟩] w (NewPts w (arcPts a ⟨[], e⟩)) := by
  unfold spV arcV
  simp only [List.length_nil]
  have HB : Hid (Below w.heap.size w (((w.alloc (.cells #[.int .i64 a.x, .int .i64 a.y] 47)).alloc (.cells #[.slice ac 0 cc, .int .i64 e.x, .int .i64 e.y] 72)).alloc (.cells #[.int .i64 e.x, .int .i64 e.y] 47))) := bel_alloc (bel_alloc ((Below.refl _ _).alloc (Nat.le_refl _) _) _) _
  have HO := Lib.hid (World.ownsRow_lit (base := w.heap.size) (e := 47) (size := 2) ((w.alloc (.cells #[.int .i64 a.x, .int .i64 a.y] 47)).alloc (.cells #[.slice ac 0 cc, .int .i64 e.x, .int .i64 e.y] 72)) #[.int .i64 e.x, .int .i64 e.y] 1 (by simp; omega) (by decide) rfl)
  go_enter Try.func38, Try.ntmps38
  have HO2 : Hid (_ = _) := Lib.hid (show ((w.alloc (.cells #[.int .i64 a.x, .int .i64 a.y] 47)).alloc (.cells #[.slice ac 0 cc, .int .i64 e.x, .int .i64 e.y] 72)).heap.size = w.heap.size + 1 + 1 by simp)
  rw [HO2.out] at HO
  go_wp2_with fail
  go_ret
  exact ⟨_, 1, rfl, HO.out, HB.out⟩

theorem refnear_h (n D : Int) (d : Nat) (w : World) (hd : D = (d : Int)) (h : Hid (0 < d ∧ d ≤ 4096 ∧ (-2147483647) * (d : Int) ≤ n ∧ n ≤ 2147483647 * (d : Int))) : Calls Try.prog 55 #[.int .i64 n, .int .i64 D] w fun e w' => e = .returned (.int .i64 (nearQ n d)) ∧ w = w' := by
  subst hd
  have h1 := h.out
  exact refnear_c n d w h1.1 h1.2.1 (by omega) (by omega)

/-- How many points, while they are reckoned. -/
def StepRel (d m : Int) : Prop := m = 1 ∨ (m = 2 ∧ 4 < d) ∨ (m = 4 ∧ 16 < d) ∨ (m = 8 ∧ 64 < d) ∨ (m = 16 ∧ 256 < d)
theorem StepRel.up {d m : Int} (h : StepRel d m) (h1 : m < 16) (h2 : 4 * m * m < d) : StepRel d (m + m) := by
  unfold StepRel at *
  rcases h with rfl | ⟨rfl, _⟩ | ⟨rfl, _⟩ | ⟨rfl, _⟩ | ⟨rfl, _⟩ <;> omega
theorem StepRel.done {d m : Int} (h : StepRel d m) (h1 : ¬ (m < 16 ∧ 4 * m * m < d)) : m = (stepsN d : Nat) := by
  unfold StepRel at h
  unfold stepsN
  rcases h with rfl | ⟨rfl, _⟩ | ⟨rfl, _⟩ | ⟨rfl, _⟩ | ⟨rfl, _⟩
  · rw [if_pos (by omega)]; rfl
  · rw [if_neg (by omega), if_pos (by omega)]; rfl
  · rw [if_neg (by omega), if_neg (by omega), if_pos (by omega)]; rfl
  · rw [if_neg (by omega), if_neg (by omega), if_neg (by omega), if_pos (by omega)]; rfl
  · rw [if_neg (by omega), if_neg (by omega), if_neg (by omega), if_neg (by omega)]; rfl
theorem StepRel.bd {d m : Int} (h : StepRel d m) : 1 ≤ m ∧ m ≤ 16 := by
  unfold StepRel at h; omega
theorem StepRel.sq {d m : Int} (h : StepRel d m) : wrap64 (4 * m) = 4 * m ∧ wrap64 (4 * m * m) = 4 * m * m ∧ wrap64 (m + m) = m + m := by
  unfold StepRel at h
  rcases h with rfl | ⟨rfl, _⟩ | ⟨rfl, _⟩ | ⟨rfl, _⟩ | ⟨rfl, _⟩ <;> exact ⟨IntWalk.wrap64_in _ (by omega), IntWalk.wrap64_in _ (by omega), IntWalk.wrap64_in _ (by omega)⟩

/-- What Points works with: the place, the arc, its first control. -/
structure BoxP (V : World) (g : Nat) (a : Sp) (sv : Value) (e c : Sp) : Prop where
  a0 : V.cell? ⟨g, 0, none⟩ = some (.int .i64 a.x)
  a1 : V.cell? ⟨g, 1, none⟩ = some (.int .i64 a.y)
  s0 : V.cell? ⟨g + 1, 0, none⟩ = some sv
  e0 : V.cell? ⟨g + 1, 1, none⟩ = some (.int .i64 e.x)
  e1 : V.cell? ⟨g + 1, 2, none⟩ = some (.int .i64 e.y)
  c0 : V.cell? ⟨g + 1 + 1, 0, none⟩ = some (.int .i64 c.x)
  c1 : V.cell? ⟨g + 1 + 1, 1, none⟩ = some (.int .i64 c.y)
theorem BoxP.below {V V' : World} {g : Nat} {a e c : Sp} {sv : Value} (h : BoxP V g a sv e c) (k : Below V.heap.size V V') : BoxP V' g a sv e c := ⟨keepC k h.a0, keepC k h.a1, keepC k h.s0, keepC k h.e0, keepC k h.e1, keepC k h.c0, keepC k h.c1⟩
theorem BoxP.grown {V V' : World} {g g1 : Nat} {a e c : Sp} {sv : Value} (h : BoxP V g a sv e c) (k : V.grownBy V' (some g1)) (hg : g + 3 ≤ g1) : BoxP V' g a sv e c :=
  ⟨grown_cell k h.a0 (by omega), grown_cell k h.a1 (by omega), grown_cell k h.s0 (by omega), grown_cell k h.e0 (by omega), grown_cell k h.e1 (by omega), grown_cell k h.c0 (by omega), grown_cell k h.c1 (by omega)⟩

set_option maxRecDepth 20000 in
set_option maxHeartbeats 4000000 in
theorem points_quad (a c e : Sp) (ac : Option Addr) (cc : Nat) (w : World) (hr : IsR clS w ac [c]) (ha : FixS a) (hc : FixS c) (he : FixS e) : Calls Try.prog 38 #[spV a, arcV ac cc ⟨[c], e⟩] w (NewPts w (arcPts a ⟨[c], e⟩)) := by
  obtain ⟨cb, co, rfl, k0, k1⟩ := hr.spot (i := 0) (p := c) rfl
  simp only [Nat.zero_mul, Nat.add_zero] at k0 k1
  have HA := Lib.hid ha
  have HC := Lib.hid hc
  have HEx := Lib.hid he
  have HB0 : Hid (Below w.heap.size w (((w.alloc (.cells #[.int .i64 a.x, .int .i64 a.y] 47)).alloc (.cells #[.slice (some ⟨cb, co, none⟩) 1 cc, .int .i64 e.x, .int .i64 e.y] 72)).alloc (.cells #[.int .i64 c.x, .int .i64 c.y] 47))) := bel_alloc (bel_alloc ((Below.refl _ _).alloc (Nat.le_refl _) _) _) _
  have HQ0 : Hid (BoxP (((w.alloc (.cells #[.int .i64 a.x, .int .i64 a.y] 47)).alloc (.cells #[.slice (some ⟨cb, co, none⟩) 1 cc, .int .i64 e.x, .int .i64 e.y] 72)).alloc (.cells #[.int .i64 c.x, .int .i64 c.y] 47)) w.heap.size a (.slice (some ⟨cb, co, none⟩) 1 cc) e c) := by constructor <;> simp [go_sem]
  have HS0 : Hid ((((w.alloc (.cells #[.int .i64 a.x, .int .i64 a.y] 47)).alloc (.cells #[.slice (some ⟨cb, co, none⟩) 1 cc, .int .i64 e.x, .int .i64 e.y] 72)).alloc (.cells #[.int .i64 c.x, .int .i64 c.y] 47)).heap.size = w.heap.size + 3) := by simp [Hid]
  have k0' : ((w.alloc (.cells #[.int .i64 a.x, .int .i64 a.y] 47)).alloc (.cells #[.slice (some ⟨cb, co, none⟩) 1 cc, .int .i64 e.x, .int .i64 e.y] 72)).cell? ⟨cb, co, none⟩ = some (.int .i64 c.x) := keepC (bel_alloc ((Below.refl _ _).alloc (Nat.le_refl _) _) _) k0
  have k1' : ((w.alloc (.cells #[.int .i64 a.x, .int .i64 a.y] 47)).alloc (.cells #[.slice (some ⟨cb, co, none⟩) 1 cc, .int .i64 e.x, .int .i64 e.y] 72)).cell? ⟨cb, co + 1, none⟩ = some (.int .i64 c.y) := keepC (bel_alloc ((Below.refl _ _).alloc (Nat.le_refl _) _) _) k1
  have HE : Hid (arcPts a ⟨[c], e⟩ = quadL (stepsN (bendD a c e)) a c e (stepsN (bendD a c e))) := rfl
  have HNB := Lib.hid (stepsN_bd (bendD a c e))
  obtain ⟨dd, HD⟩ : ∃ dd, Hid (bendD a c e = dd) := ⟨_, rfl⟩
  rw [HD.out] at HE HNB
  obtain ⟨n, HNN⟩ : ∃ n, Hid (stepsN dd = n) := ⟨_, rfl⟩
  rw [HNN.out] at HE HNB
  clear hr ha hc he k0 k1
  unfold spV arcV
  simp only [List.length_cons, List.length_nil, Nat.zero_add]
  go_enter Try.func38, Try.ntmps38
  go_wp2_with fail
  clear k0' k1'
  generalize (((w.alloc (.cells #[.int .i64 a.x, .int .i64 a.y] 47)).alloc (.cells #[.slice (some ⟨cb, co, none⟩) 1 cc, .int .i64 e.x, .int .i64 e.y] 72)).alloc (.cells #[.int .i64 c.x, .int .i64 c.y] 47)) = W at *
  refine (refbend_c a c e W HA.out HC.out HEx.out).mono ?_
  rw [HD.out]
  rintro x w1 ⟨rfl, hb1⟩
  have HB1 := Lib.hid (bel_next HB0.out hb1)
  have HQ1 := Lib.hid (HQ0.out.below hb1)
  have HS1 : Hid (w.heap.size + 3 ≤ w1.heap.size) := by have := hb1.size; have := HS0.out; unfold Hid; omega
  have s0 := HQ1.out.s0
  clear hb1 HQ0 HB0 HS0
  go_wp2_with fail
  generalize hGW : w.heap.size = gw at *
  have HGW := Lib.hid hGW
  clear hGW s0
  go_loop [7] (fun x => ∃ m : Int, x = .int .i64 m ∧ Hid (StepRel dd m)) (fun x => (16 - intOf x).toNat)
  case atStart => exact ⟨1, rfl, .inl rfl⟩
  case round =>
    obtain ⟨N, rfl, HN⟩ := hrel
    obtain ⟨sq1, sq2, sq3⟩ := HN.out.sq
    obtain ⟨F, HF⟩ : ∃ F, Hid (4 * N * N = F) := ⟨_, rfl⟩
    replace sq2 := sq2.trans HF.out
    by_cases hgo : N < 16 ∧ F < dd
    · obtain ⟨hg1, hg2⟩ := hgo
      have HN2 := Lib.hid (HN.out.up hg1 (by rw [HF.out]; exact hg2))
      have HNb := Lib.hid HN.out.bd
      go_wp2_with fail
      go_round
      case rel => exact ⟨wrap64 (N + N), rfl, (by unfold Hid; rw [sq3]; exact HN2.out)⟩
      case measure => rw [sq3]; have := HNb.out; simp only [intOf]; omega
    · have HNI : Hid ((n : Int) = N) := by have := HN.out.done (by rw [HF.out]; exact hgo); rw [HNN.out] at this; exact this.symm
      have HW0 : Hid ((w1.alloc (.cells #[] 47)).ownsRow (gw + 3) 47 2 (.slice (some ⟨w1.heap.size, 0, none⟩) 0 0) 0 []) := World.ownsRow_made w1 #[] 0 HS1.out (by decide) rfl
      have HQ2 := Lib.hid (HQ1.out.below ((Below.refl w1.heap.size w1).alloc (Nat.le_refl _) (.cells #[] 47)))
      have HB2 : Hid (Below gw w (w1.alloc (.cells #[] 47))) := HB1.out.alloc (by have := HS1.out; omega) _
      have HS2 : Hid (gw + 3 ≤ (w1.alloc (.cells #[] 47)).heap.size) := by have := HS1.out; unfold Hid; simp; omega
      have hnot : N < 16 → ¬ F < dd := fun h1 h2 => hgo ⟨h1, h2⟩
      have HNOT := Lib.hid hnot
      clear hgo hnot
      by_cases h16 : N < 16
      · have hF : ¬ F < dd := HNOT.out h16
        clear HNOT
        go_wp2_with fail
        clear sq1 sq2 sq3 hF h16
        generalize (w1.alloc (.cells #[] 47)) = w2 at *
        generalize w1.heap.size = g0 at *
        clear HQ1 HB1 HS1
        go_loopw [8, 9] (fun v x wr => ∃ m g1 c1 : Nat, ∃ I : Int, v = .slice (some ⟨g1, 0, none⟩) m c1 ∧ x = .int .i64 I ∧ Hid (m ≤ n ∧ I = (m : Int) + 1) ∧
          Hid (BoxP wr gw a (.slice (some ⟨cb, co, none⟩) 1 cc) e c) ∧ Hid (wr.ownsRow (gw + 3) 47 2 (.slice (some ⟨g1, 0, none⟩) m c1) m ((quadL n a c e m).flatMap clS)) ∧ Hid (Below gw w wr) ∧ Hid (gw + 3 ≤ wr.heap.size)) (fun _ x _ => (17 - intOf x).toNat)
        case atStart => exact ⟨0, g0, 0, 1, rfl, rfl, ⟨Nat.zero_le _, rfl⟩, HQ2, HW0, HB2, HS2⟩
        case round =>
          clear HQ2 HW0 HB2 HS2
          obtain ⟨m, g1, c1, I, rfl, rfl, HM, HQ, HP1, HB, HSZ⟩ := hrel
          by_cases hle : I ≤ N
          · have HMN : Hid (m + 1 ≤ n) := by have := HM.out; have := HNI.out; unfold Hid; omega
            have HNB1 : Hid (n ≤ 16) := HNB.out.2
            obtain ⟨J, HJ⟩ : ∃ J : Int, Hid (((n - (m + 1) : Nat) : Int) = J) := ⟨_, rfl⟩
            have hJ : wrap64 (N - I) = J := by
              have := HM.out; have := HNI.out; have := HMN.out; have := HNB1.out; have := HJ.out
              unfold wrap64; omega
            obtain ⟨P1, P2, Q1, Q2, Q3, S1, R1, R2, qx⟩ := quad_chain (i := m + 1) (j := n - (m + 1)) (by have := HMN.out; have := HNB1.out; omega) (by have := HNB1.out; omega) HA.out.1 HC.out.1 HEx.out.1
            obtain ⟨P1', P2', Q1', Q2', Q3', S1', R1', R2', qy⟩ := quad_chain (i := m + 1) (j := n - (m + 1)) (by have := HMN.out; have := HNB1.out; omega) (by have := HNB1.out; omega) HA.out.2 HC.out.2 HEx.out.2
            have hbx := quadN_bd (i := m + 1) (j := n - (m + 1)) (n := n) (by have := HMN.out; omega) HA.out.1 HC.out.1 HEx.out.1
            have hby := quadN_bd (i := m + 1) (j := n - (m + 1)) (n := n) (by have := HMN.out; omega) HA.out.2 HC.out.2 HEx.out.2
            have HPT : Hid (quadPt n (m + 1) a c e = ⟨nearQ (quadN a.x c.x e.x (m + 1 : Nat) (n - (m + 1) : Nat)) (n * n), nearQ (quadN a.y c.y e.y (m + 1 : Nat) (n - (m + 1) : Nat)) (n * n)⟩) := rfl
            have hII : (((m + 1 : Nat) : Int)) = I := by have := HM.out; omega
            rw [hII, HJ.out] at qx qy hbx hby HPT
            obtain ⟨X, HX⟩ : ∃ X, Hid (quadN a.x c.x e.x I J = X) := ⟨_, rfl⟩
            obtain ⟨Y, HY⟩ : ∃ Y, Hid (quadN a.y c.y e.y I J = Y) := ⟨_, rfl⟩
            rw [HX.out] at qx hbx HPT
            rw [HY.out] at qy hby HPT
            obtain ⟨hnn, _, hn256⟩ := nn_wrap HNB1.out
            rw [HNI.out, IntWalk.i64_left] at hnn
            obtain ⟨D, HDD⟩ : ∃ D : Int, Hid (((n * n : Nat) : Int) = D) := ⟨_, rfl⟩
            rw [HDD.out] at hnn
            have hnpos : 0 < n * n := Nat.mul_pos (by have := HMN.out; omega) (by have := HMN.out; omega)
            have H1 : Hid (0 < n * n ∧ n * n ≤ 4096 ∧ (-2147483647) * ((n * n : Nat) : Int) ≤ X ∧ X ≤ 2147483647 * ((n * n : Nat) : Int)) := ⟨hnpos, by omega, hbx.1, hbx.2⟩
            have H2 : Hid (0 < n * n ∧ n * n ≤ 4096 ∧ (-2147483647) * ((n * n : Nat) : Int) ≤ Y ∧ Y ≤ 2147483647 * ((n * n : Nat) : Int)) := ⟨hnpos, by omega, hby.1, hby.2⟩
            obtain ⟨p1, p2, q1, q2, q3, s1, r1, r2, x1⟩ := qx.w
            obtain ⟨p1', p2', q1', q2', q3', s1', r1', r2', x1'⟩ := qy.w
            clear hII hbx hby hn256 hnpos qx qy
            have a0 := HQ.out.a0
            have a1 := HQ.out.a1
            have s0 := HQ.out.s0
            have e0 := HQ.out.e0
            have e1 := HQ.out.e1
            have c0 := HQ.out.c0
            have cx1 := HQ.out.c1
            go_wp2_with fail
            refine (refnear_h X D (n * n) _ HDD.out.symm H1).mono ?_
            rintro x w6 ⟨rfl, rfl⟩
            go_wp2_with fail
            refine (refnear_h Y D (n * n) _ HDD.out.symm H2).mono ?_
            rintro x w6 ⟨rfl, rfl⟩
            have HQ7 := Lib.hid (HQ.out.below ((Below.refl wr.heap.size wr).alloc (Nat.le_refl _) (.cells #[.int .i64 (nearQ X (n * n)), .int .i64 (nearQ Y (n * n))] 47)))
            clear a0 a1 s0 e0 e1 c0 cx1 p1 p2 q1 q2 q3 s1 r1 r2 x1 p1' p2' q1' q2' q3' s1' r1' r2' x1' hnn hJ
            go_wp2_with (at_builtin; refine wpList_app elS rfl _ _ rfl _ (gw + 3) g1 c1 m ((quadL n a c e m).flatMap clS) _ 1 1 [.int .i64 (nearQ X (n * n)), .int .i64 (nearQ Y (n * n))] rfl rfl (HP1.out.alloc _) rfl (.inr ⟨_, 0, rfl, lies_new⟩) (by simp [Value.oneCell']) (by have := HMN.out; have := HNB1.out; omega) (by have := HMN.out; have := HNB1.out; omega) (by have := HSZ.out; simp; omega) ?_; intro g8 c8 w8 ho8 hg8 hat8; have HQ8 := Lib.hid (HQ7.out.grown hg8 (ownsRow_cap HP1.out).2.1); have HO8 := Lib.hid ho8; have HGS := Lib.hid hg8.size; have HB8 : Hid (Below gw w w8) := (HB.out.alloc (by have := HSZ.out; omega) _).grown hg8 (by have := HSZ.out; simp; omega) (fun k hk => by cases hk; have := (ownsRow_cap HP1.out).2.1; omega); clear ho8 hg8 hat8)
            have HO9 : Hid (w8.ownsRow (gw + 3) 47 2 (.slice (some ⟨g8, 0, none⟩) (m + 1) c8) (m + 1) ((quadL n a c e (m + 1)).flatMap clS)) := by
              unfold Hid; have h := snocS [] (quadL n a c e m) (quadPt n (m + 1) a c e); rw [List.nil_append, List.nil_append] at h; rw [quadL_succ, h, HPT.out]; exact HO8.out
            have HSZ8 : Hid (gw + 3 ≤ w8.heap.size) := by
              have h3 := HSZ.out; have h4 := HGS.out
              unfold Hid; simp at h4; omega
            have hw : wrap64 (I + 1) = (m : Int) + 1 + 1 := by
              have := HM.out; have := HMN.out; have := HNB1.out
              unfold wrap64; omega
            go_roundw
            case rel => exact ⟨m + 1, g8, c8, wrap64 (I + 1), rfl, rfl, ⟨HMN.out, by rw [hw]; rfl⟩, HQ8, HO9, HB8, HSZ8⟩
            case measure => rw [hw]; have := HM.out; have := HMN.out; have := HNB1.out; simp only [intOf]; omega
          · have HMN : Hid (m = n) := by have := HM.out; have := HNI.out; unfold Hid; omega
            have HLEN : Hid (m = (arcPts a ⟨[c], e⟩).length) := by
              unfold Hid; rw [HE.out, quadL_length]; exact HMN.out
            have HOE : Hid (wr.ownsRow w.heap.size 47 2 (.slice (some ⟨g1, 0, none⟩) m c1) m ((arcPts a ⟨[c], e⟩).flatMap clS)) := by
              unfold Hid; rw [HE.out]; have h := HP1.out; rw [show quadL n a c e m = quadL n a c e n by rw [HMN.out]] at h; exact h.mono (by have := HGW.out; omega)
            go_wp2_with fail
            go_ret
            refine ⟨g1, c1, by rw [← HLEN.out]; rfl, by rw [← HLEN.out]; exact HOE.out, ?_⟩
            rw [HGW.out]; exact HB.out
      · clear HNOT
        go_wp2_with fail
        clear sq1 sq2 sq3 h16
        generalize (w1.alloc (.cells #[] 47)) = w2 at *
        generalize w1.heap.size = g0 at *
        clear HQ1 HB1 HS1
        go_loopw [8, 9] (fun v x wr => ∃ m g1 c1 : Nat, ∃ I : Int, v = .slice (some ⟨g1, 0, none⟩) m c1 ∧ x = .int .i64 I ∧ Hid (m ≤ n ∧ I = (m : Int) + 1) ∧
          Hid (BoxP wr gw a (.slice (some ⟨cb, co, none⟩) 1 cc) e c) ∧ Hid (wr.ownsRow (gw + 3) 47 2 (.slice (some ⟨g1, 0, none⟩) m c1) m ((quadL n a c e m).flatMap clS)) ∧ Hid (Below gw w wr) ∧ Hid (gw + 3 ≤ wr.heap.size)) (fun _ x _ => (17 - intOf x).toNat)
        case atStart => exact ⟨0, g0, 0, 1, rfl, rfl, ⟨Nat.zero_le _, rfl⟩, HQ2, HW0, HB2, HS2⟩
        case round =>
          clear HQ2 HW0 HB2 HS2
          obtain ⟨m, g1, c1, I, rfl, rfl, HM, HQ, HP1, HB, HSZ⟩ := hrel
          by_cases hle : I ≤ N
          · have HMN : Hid (m + 1 ≤ n) := by have := HM.out; have := HNI.out; unfold Hid; omega
            have HNB1 : Hid (n ≤ 16) := HNB.out.2
            obtain ⟨J, HJ⟩ : ∃ J : Int, Hid (((n - (m + 1) : Nat) : Int) = J) := ⟨_, rfl⟩
            have hJ : wrap64 (N - I) = J := by
              have := HM.out; have := HNI.out; have := HMN.out; have := HNB1.out; have := HJ.out
              unfold wrap64; omega
            obtain ⟨P1, P2, Q1, Q2, Q3, S1, R1, R2, qx⟩ := quad_chain (i := m + 1) (j := n - (m + 1)) (by have := HMN.out; have := HNB1.out; omega) (by have := HNB1.out; omega) HA.out.1 HC.out.1 HEx.out.1
            obtain ⟨P1', P2', Q1', Q2', Q3', S1', R1', R2', qy⟩ := quad_chain (i := m + 1) (j := n - (m + 1)) (by have := HMN.out; have := HNB1.out; omega) (by have := HNB1.out; omega) HA.out.2 HC.out.2 HEx.out.2
            have hbx := quadN_bd (i := m + 1) (j := n - (m + 1)) (n := n) (by have := HMN.out; omega) HA.out.1 HC.out.1 HEx.out.1
            have hby := quadN_bd (i := m + 1) (j := n - (m + 1)) (n := n) (by have := HMN.out; omega) HA.out.2 HC.out.2 HEx.out.2
            have HPT : Hid (quadPt n (m + 1) a c e = ⟨nearQ (quadN a.x c.x e.x (m + 1 : Nat) (n - (m + 1) : Nat)) (n * n), nearQ (quadN a.y c.y e.y (m + 1 : Nat) (n - (m + 1) : Nat)) (n * n)⟩) := rfl
            have hII : (((m + 1 : Nat) : Int)) = I := by have := HM.out; omega
            rw [hII, HJ.out] at qx qy hbx hby HPT
            obtain ⟨X, HX⟩ : ∃ X, Hid (quadN a.x c.x e.x I J = X) := ⟨_, rfl⟩
            obtain ⟨Y, HY⟩ : ∃ Y, Hid (quadN a.y c.y e.y I J = Y) := ⟨_, rfl⟩
            rw [HX.out] at qx hbx HPT
            rw [HY.out] at qy hby HPT
            obtain ⟨hnn, _, hn256⟩ := nn_wrap HNB1.out
            rw [HNI.out, IntWalk.i64_left] at hnn
            obtain ⟨D, HDD⟩ : ∃ D : Int, Hid (((n * n : Nat) : Int) = D) := ⟨_, rfl⟩
            rw [HDD.out] at hnn
            have hnpos : 0 < n * n := Nat.mul_pos (by have := HMN.out; omega) (by have := HMN.out; omega)
            have H1 : Hid (0 < n * n ∧ n * n ≤ 4096 ∧ (-2147483647) * ((n * n : Nat) : Int) ≤ X ∧ X ≤ 2147483647 * ((n * n : Nat) : Int)) := ⟨hnpos, by omega, hbx.1, hbx.2⟩
            have H2 : Hid (0 < n * n ∧ n * n ≤ 4096 ∧ (-2147483647) * ((n * n : Nat) : Int) ≤ Y ∧ Y ≤ 2147483647 * ((n * n : Nat) : Int)) := ⟨hnpos, by omega, hby.1, hby.2⟩
            obtain ⟨p1, p2, q1, q2, q3, s1, r1, r2, x1⟩ := qx.w
            obtain ⟨p1', p2', q1', q2', q3', s1', r1', r2', x1'⟩ := qy.w
            clear hII hbx hby hn256 hnpos qx qy
            have a0 := HQ.out.a0
            have a1 := HQ.out.a1
            have s0 := HQ.out.s0
            have e0 := HQ.out.e0
            have e1 := HQ.out.e1
            have c0 := HQ.out.c0
            have cx1 := HQ.out.c1
            go_wp2_with fail
            refine (refnear_h X D (n * n) _ HDD.out.symm H1).mono ?_
            rintro x w6 ⟨rfl, rfl⟩
            go_wp2_with fail
            refine (refnear_h Y D (n * n) _ HDD.out.symm H2).mono ?_
            rintro x w6 ⟨rfl, rfl⟩
            have HQ7 := Lib.hid (HQ.out.below ((Below.refl wr.heap.size wr).alloc (Nat.le_refl _) (.cells #[.int .i64 (nearQ X (n * n)), .int .i64 (nearQ Y (n * n))] 47)))
            clear a0 a1 s0 e0 e1 c0 cx1 p1 p2 q1 q2 q3 s1 r1 r2 x1 p1' p2' q1' q2' q3' s1' r1' r2' x1' hnn hJ
            go_wp2_with (at_builtin; refine wpList_app elS rfl _ _ rfl _ (gw + 3) g1 c1 m ((quadL n a c e m).flatMap clS) _ 1 1 [.int .i64 (nearQ X (n * n)), .int .i64 (nearQ Y (n * n))] rfl rfl (HP1.out.alloc _) rfl (.inr ⟨_, 0, rfl, lies_new⟩) (by simp [Value.oneCell']) (by have := HMN.out; have := HNB1.out; omega) (by have := HMN.out; have := HNB1.out; omega) (by have := HSZ.out; simp; omega) ?_; intro g8 c8 w8 ho8 hg8 hat8; have HQ8 := Lib.hid (HQ7.out.grown hg8 (ownsRow_cap HP1.out).2.1); have HO8 := Lib.hid ho8; have HGS := Lib.hid hg8.size; have HB8 : Hid (Below gw w w8) := (HB.out.alloc (by have := HSZ.out; omega) _).grown hg8 (by have := HSZ.out; simp; omega) (fun k hk => by cases hk; have := (ownsRow_cap HP1.out).2.1; omega); clear ho8 hg8 hat8)
            have HO9 : Hid (w8.ownsRow (gw + 3) 47 2 (.slice (some ⟨g8, 0, none⟩) (m + 1) c8) (m + 1) ((quadL n a c e (m + 1)).flatMap clS)) := by
              unfold Hid; have h := snocS [] (quadL n a c e m) (quadPt n (m + 1) a c e); rw [List.nil_append, List.nil_append] at h; rw [quadL_succ, h, HPT.out]; exact HO8.out
            have HSZ8 : Hid (gw + 3 ≤ w8.heap.size) := by
              have h3 := HSZ.out; have h4 := HGS.out
              unfold Hid; simp at h4; omega
            have hw : wrap64 (I + 1) = (m : Int) + 1 + 1 := by
              have := HM.out; have := HMN.out; have := HNB1.out
              unfold wrap64; omega
            go_roundw
            case rel => exact ⟨m + 1, g8, c8, wrap64 (I + 1), rfl, rfl, ⟨HMN.out, by rw [hw]; rfl⟩, HQ8, HO9, HB8, HSZ8⟩
            case measure => rw [hw]; have := HM.out; have := HMN.out; have := HNB1.out; simp only [intOf]; omega
          · have HMN : Hid (m = n) := by have := HM.out; have := HNI.out; unfold Hid; omega
            have HLEN : Hid (m = (arcPts a ⟨[c], e⟩).length) := by
              unfold Hid; rw [HE.out, quadL_length]; exact HMN.out
            have HOE : Hid (wr.ownsRow w.heap.size 47 2 (.slice (some ⟨g1, 0, none⟩) m c1) m ((arcPts a ⟨[c], e⟩).flatMap clS)) := by
              unfold Hid; rw [HE.out]; have h := HP1.out; rw [show quadL n a c e m = quadL n a c e n by rw [HMN.out]] at h; exact h.mono (by have := HGW.out; omega)
            go_wp2_with fail
            go_ret
            refine ⟨g1, c1, by rw [← HLEN.out]; rfl, by rw [← HLEN.out]; exact HOE.out, ?_⟩
            rw [HGW.out]; exact HB.out

end Go.Proofs.Ythjhekmlhmljlaa
