/-
  What appendQuad of package path gives: the points so far and those of the curve, in an owned row. For coordinates that are FIX.
-/
import Derived.Test.YthjhekmlhmljlaaPtD
namespace Go.Proofs.Ythjhekmlhmljlaa
open Go.RowKit Go.PlainAid
set_option linter.unusedSimpArgs false
set_option linter.unusedVariables false

theorem grown_next {w a b : World} {r : Option Nat} (h : w.grownBy a r) (k : Below a.heap.size a b) : w.grownBy b r :=
  ⟨k.os.trans h.os, k.tape.trans h.tape, k.output.trans h.output, Nat.le_trans h.size k.size, fun i hi hr => (k.block i (Nat.lt_of_lt_of_le hi h.size)).trans (h.block i hi hr)⟩
theorem grown_app {w a b : World} {g g1 : Nat} (h : w.grownBy a (some g)) (k : a.grownBy b (some g1)) (hg : g1 = g ∨ w.heap.size ≤ g1) : w.grownBy b (some g) :=
  ⟨k.os.trans h.os, k.tape.trans h.tape, k.output.trans h.output, Nat.le_trans h.size k.size, fun i hi hr => (k.block i (Nat.lt_of_lt_of_le hi h.size) (fun e => by
    cases e
    rcases hg with rfl | hg
    · exact hr rfl
    · omega)).trans (h.block i hi hr)⟩
theorem grown_below {w a : World} {r : Option Nat} (h : Below w.heap.size w a) : w.grownBy a r := ⟨h.os, h.tape, h.output, h.size, fun i hi _ => h.block i hi⟩
theorem grown_cell {w a : World} {g b o : Nat} {v : Value} (h : w.grownBy a (some g)) (hc : w.cell? ⟨b, o, none⟩ = some v) (hb : b ≠ g) : a.cell? ⟨b, o, none⟩ = some v := by
  have := World.cell?_of_block (a := ⟨b, o, none⟩) (h.block b (World.block_lt_of_cell? w _ hc) (fun e => hb (by cases e; rfl)))
  rw [this]; exact hc

/-- Three points in three blocks. -/
structure BoxQ (V : World) (g : Nat) (a c b : Sp) : Prop where
  a0 : V.cell? ⟨g, 0, none⟩ = some (.int .i64 a.x)
  a1 : V.cell? ⟨g, 1, none⟩ = some (.int .i64 a.y)
  c0 : V.cell? ⟨g + 1, 0, none⟩ = some (.int .i64 c.x)
  c1 : V.cell? ⟨g + 1, 1, none⟩ = some (.int .i64 c.y)
  b0 : V.cell? ⟨g + 1 + 1, 0, none⟩ = some (.int .i64 b.x)
  b1 : V.cell? ⟨g + 1 + 1, 1, none⟩ = some (.int .i64 b.y)
theorem BoxQ.below {V V' : World} {g : Nat} {a c b : Sp} (h : BoxQ V g a c b) (k : Below V.heap.size V V') : BoxQ V' g a c b := ⟨keepC k h.a0, keepC k h.a1, keepC k h.c0, keepC k h.c1, keepC k h.b0, keepC k h.b1⟩
theorem BoxQ.grown {V V' : World} {g g1 : Nat} {a c b : Sp} (h : BoxQ V g a c b) (k : V.grownBy V' (some g1)) (hg : g1 < g ∨ g + 3 ≤ g1) : BoxQ V' g a c b :=
  ⟨grown_cell k h.a0 (by omega), grown_cell k h.a1 (by omega), grown_cell k h.c0 (by omega), grown_cell k h.c1 (by omega), grown_cell k h.b0 (by omega), grown_cell k h.b1 (by omega)⟩
theorem BoxQ.drew {V : World} {g : Nat} {a c b : Sp} (h : BoxQ V g a c b) : BoxQ V.drew g a c b := ⟨h.a0, h.a1, h.c0, h.c1, h.b0, h.b1⟩

theorem mul16 {a : Int} {j : Nat} {B : Int} (hB : 0 ≤ B) (h1 : -B ≤ a) (h2 : a ≤ B) (hj : j ≤ 16) : -(16 * B) ≤ a * (j : Int) ∧ a * (j : Int) ≤ 16 * B := by
  have hj0 : (0 : Int) ≤ (j : Int) := by omega
  have e1 := mulR h1 hj0
  have e2 := mulR h2 hj0
  have e3 : B * (j : Int) ≤ B * 16 := Int.mul_le_mul_of_nonneg_left (by omega) hB
  rw [Int.neg_mul] at e1
  omega
/-- The steps of a quad curve's sum. -/
structure QuadC (a c b I J P1 P2 Q1 Q2 Q3 S1 R1 R2 X : Int) : Prop where
  p1 : IntKind.i64.wrap (a * J) = P1
  p2 : IntKind.i64.wrap (P1 * J) = P2
  q1 : IntKind.i64.wrap (2 * c) = Q1
  q2 : IntKind.i64.wrap (Q1 * I) = Q2
  q3 : IntKind.i64.wrap (Q2 * J) = Q3
  s1 : IntKind.i64.wrap (P2 + Q3) = S1
  r1 : IntKind.i64.wrap (b * I) = R1
  r2 : IntKind.i64.wrap (R1 * I) = R2
  x : IntKind.i64.wrap (S1 + R2) = X
theorem quad_chain {a c b : Int} {i j : Nat} (hi : i ≤ 16) (hj : j ≤ 16) (ha : In (-2147483647) 2147483647 a) (hc : In (-2147483647) 2147483647 c) (hb : In (-2147483647) 2147483647 b) :
    ∃ P1 P2 Q1 Q2 Q3 S1 R1 R2, QuadC a c b i j P1 P2 Q1 Q2 Q3 S1 R1 R2 (quadN a c b i j) := by
  have p1 := mul16 (B := 2147483647) (by decide) ha.1 ha.2 hj
  have p2 := mul16 (B := 34359738352) (by decide) (by omega) (by omega) hj (a := a * (j : Int))
  have q1 : -(2 * 2147483647) ≤ 2 * c ∧ 2 * c ≤ 2 * 2147483647 := by have := hc.1; have := hc.2; omega
  have q2 := mul16 (B := 4294967294) (by decide) (by omega) (by omega) hi (a := 2 * c)
  have q3 := mul16 (B := 68719476704) (by decide) (by omega) (by omega) hj (a := 2 * c * (i : Int))
  have r1 := mul16 (B := 2147483647) (by decide) hb.1 hb.2 hi
  have r2 := mul16 (B := 34359738352) (by decide) (by omega) (by omega) hi (a := b * (i : Int))
  refine ⟨a * j, a * j * j, 2 * c, 2 * c * i, 2 * c * i * j, a * j * j + 2 * c * i * j, b * i, b * i * i, ?_⟩
  exact ⟨IntWalk.i64_in _ (by omega), IntWalk.i64_in _ (by omega), IntWalk.i64_in _ (by omega), IntWalk.i64_in _ (by omega), IntWalk.i64_in _ (by omega), IntWalk.i64_in _ (by omega), IntWalk.i64_in _ (by omega), IntWalk.i64_in _ (by omega), IntWalk.i64_in _ (by omega)⟩

theorem nn_wrap {n : Nat} (h : n ≤ 16) : IntKind.i64.wrap ((n : Int) * (n : Int)) = ((n * n : Nat) : Int) ∧ 0 < n * n + 1 ∧ n * n ≤ 256 := by
  have h1 : n * n ≤ 16 * 16 := Nat.mul_le_mul h h
  refine ⟨?_, by omega, by omega⟩
  rw [← Int.natCast_mul]
  exact IntWalk.i64_in _ (by omega)
theorem nearest_h (n D : Int) (d : Nat) (w : World) (hd : D = (d : Int)) (h : Hid (0 < d ∧ d ≤ 4096 ∧ (-2147483647) * (d : Int) ≤ n ∧ n ≤ 2147483647 * (d : Int))) : Calls Try.prog 80 #[.int .i64 n, .int .i64 D] w fun e w' => e = .returned (.int .i64 (nearQ n d)) ∧ Below w.heap.size w w' := by
  subst hd
  exact nearest_c n d w h.out.1 h.out.2.1 h.out.2.2.1 h.out.2.2.2

/-- The points so far in an owned row; what was there, but for their row, is as it was. -/
def PtsPost (w : World) (B g : Nat) (L : List Sp) (e : Ending) (w' : World) : Prop :=
  ∃ g' c', e = .returned (.slice (some ⟨g', 0, none⟩) L.length c') ∧ w'.ownsRow B 47 2 (.slice (some ⟨g', 0, none⟩) L.length c') L.length (L.flatMap clS) ∧ w.grownBy w' (some g) ∧ (g' = g ∨ w.heap.size ≤ g')

theorem lies_new {w : World} {cs : Array Value} {T : TypeId} : Lies (w.alloc (.cells cs T)) w.heap.size 0 cs.toList := by
  intro j u hj
  rw [Nat.zero_add]
  have : (w.alloc (.cells cs T)).heap[w.heap.size]? = some (.cells cs T (0, 0)) := heap_alloc_new w _
  unfold World.cell?
  simp only [this]
  simpa using hj

theorem snocS (P : List Sp) (l : List Sp) (p : Sp) : (P ++ (l ++ [p])).flatMap clS = (P ++ l).flatMap clS ++ [.int .i64 p.x, .int .i64 p.y] := by
  rw [← List.append_assoc, List.flatMap_append]; rfl

set_option maxRecDepth 20000 in
set_option maxHeartbeats 4000000 in
theorem appendQuad_c (P : List Sp) (g pc B : Nat) (a c b : Sp) (w : World) (hP : w.ownsRow B 47 2 (.slice (some ⟨g, 0, none⟩) P.length pc) P.length (P.flatMap clS)) (hB : B ≤ w.heap.size) (hl : P.length ≤ 1000000) (ha : FixS a) (hc : FixS c) (hb : FixS b) :
    Calls Try.prog 81 #[.slice (some ⟨g, 0, none⟩) P.length pc, spV a, spV c, spV b] w (PtsPost w B g (P ++ quadPts a c b)) := by
  have HP := Lib.hid hP
  have HG := Lib.hid (ownsRow_cap hP).2.2
  have HBB := Lib.hid hB
  have HL := Lib.hid hl
  have HA := Lib.hid ha
  have HC := Lib.hid hc
  have HBx := Lib.hid hb
  have hb0 : Below w.heap.size w (((w.alloc (.cells #[.int .i64 a.x, .int .i64 a.y] 47)).alloc (.cells #[.int .i64 c.x, .int .i64 c.y] 47)).alloc (.cells #[.int .i64 b.x, .int .i64 b.y] 47)) := bel_alloc (bel_alloc ((Below.refl _ _).alloc (Nat.le_refl _) _) _) _
  have HB0 := Lib.hid hb0
  have HQ0 : Hid (BoxQ (((w.alloc (.cells #[.int .i64 a.x, .int .i64 a.y] 47)).alloc (.cells #[.int .i64 c.x, .int .i64 c.y] 47)).alloc (.cells #[.int .i64 b.x, .int .i64 b.y] 47)) w.heap.size a c b) := by constructor <;> simp [go_sem]
  have HS0 : Hid ((((w.alloc (.cells #[.int .i64 a.x, .int .i64 a.y] 47)).alloc (.cells #[.int .i64 c.x, .int .i64 c.y] 47)).alloc (.cells #[.int .i64 b.x, .int .i64 b.y] 47)).heap.size = w.heap.size + 3) := by simp [Hid]
  clear hP hB hl ha hc hb hb0
  have HE : Hid (quadPts a c b = quadL (stepsN (bendD a c b)) a c b (stepsN (bendD a c b))) := rfl
  have HNB := Lib.hid (stepsN_bd (bendD a c b))
  obtain ⟨dd, HD⟩ : ∃ dd, Hid (bendD a c b = dd) := ⟨_, rfl⟩
  rw [HD.out] at HE HNB
  obtain ⟨n, HNN⟩ : ∃ n, Hid (stepsN dd = n) := ⟨_, rfl⟩
  rw [HNN.out] at HE HNB
  obtain ⟨N, HNI⟩ : ∃ N : Int, Hid ((n : Int) = N) := ⟨_, rfl⟩
  unfold spV
  go_enter Try.func81, Try.ntmps81
  go_wp2_with fail
  generalize (((w.alloc (.cells #[.int .i64 a.x, .int .i64 a.y] 47)).alloc (.cells #[.int .i64 c.x, .int .i64 c.y] 47)).alloc (.cells #[.int .i64 b.x, .int .i64 b.y] 47)) = W at *
  refine (bend_c a c b W HA.out HC.out HBx.out).mono ?_
  rw [HD.out]
  rintro e w1 ⟨rfl, hb1⟩
  have HG1 : Hid (w.grownBy w1 (some g)) := grown_below (bel_next HB0.out hb1)
  have HQ1 := Lib.hid (HQ0.out.below hb1)
  have HP1 := Lib.hid (own_below HP.out (bel_next HB0.out hb1))
  have HS1 : Hid (w.heap.size + 3 ≤ w1.heap.size) := by have := hb1.size; have := HS0.out; unfold Hid; omega
  clear hb1 HQ0 HB0 HS0
  go_wp2_with fail
  refine (steps_c dd w1).mono ?_
  rw [HNN.out, HNI.out]
  rintro e w2 ⟨rfl, rfl⟩
  go_wp2_with fail
  generalize hGW : w.heap.size = gw at *
  have HGW := Lib.hid hGW
  clear hGW
  go_loopw [0, 10] (fun v x wr => ∃ m g1 c1 len : Nat, ∃ I : Int, v = .slice (some ⟨g1, 0, none⟩) len c1 ∧ x = .int .i64 I ∧ Hid (m ≤ n ∧ I = (m : Int) + 1 ∧ len = P.length + m) ∧
    Hid (BoxQ wr gw a c b) ∧ Hid (wr.ownsRow B 47 2 (.slice (some ⟨g1, 0, none⟩) len c1) len ((P ++ quadL n a c b m).flatMap clS)) ∧ Hid (w.grownBy wr (some g)) ∧ Hid (g1 = g ∨ gw + 3 ≤ g1) ∧ Hid (gw + 3 ≤ wr.heap.size)) (fun _ x _ => (17 - intOf x).toNat)
  case atStart => exact ⟨0, g, pc, P.length, 1, rfl, rfl, ⟨Nat.zero_le _, rfl, rfl⟩, HQ1, (by unfold Hid; simpa [quadL] using HP1.out), HG1, .inl rfl, HS1⟩
  case round =>
    clear HQ1 HP1 HG1 HS1
    obtain ⟨m, g1, c1, len, I, rfl, rfl, HM, HQ, HP1, HG1, HGG, HSZ⟩ := hrel
    by_cases hle : I ≤ N
    · have HMN : Hid (m + 1 ≤ n) := by have := HM.out; have := HNI.out; unfold Hid; omega
      have HNB1 : Hid (n ≤ 16) := HNB.out.2
      obtain ⟨J, HJ⟩ : ∃ J : Int, Hid (((n - (m + 1) : Nat) : Int) = J) := ⟨_, rfl⟩
      have hJ : wrap64 (N - I) = J := by
        have := HM.out; have := HNI.out; have := HMN.out; have := HNB1.out; have := HJ.out
        unfold wrap64; omega
      obtain ⟨P1, P2, Q1, Q2, Q3, S1, R1, R2, qx⟩ := quad_chain (i := m + 1) (j := n - (m + 1)) (by have := HMN.out; have := HNB1.out; omega) (by have := HNB1.out; omega) HA.out.1 HC.out.1 HBx.out.1
      obtain ⟨P1', P2', Q1', Q2', Q3', S1', R1', R2', qy⟩ := quad_chain (i := m + 1) (j := n - (m + 1)) (by have := HMN.out; have := HNB1.out; omega) (by have := HNB1.out; omega) HA.out.2 HC.out.2 HBx.out.2
      have hbx := quadN_bd (i := m + 1) (j := n - (m + 1)) (n := n) (by have := HMN.out; omega) HA.out.1 HC.out.1 HBx.out.1
      have hby := quadN_bd (i := m + 1) (j := n - (m + 1)) (n := n) (by have := HMN.out; omega) HA.out.2 HC.out.2 HBx.out.2
      have HPT : Hid (quadPt n (m + 1) a c b = ⟨nearQ (quadN a.x c.x b.x (m + 1 : Nat) (n - (m + 1) : Nat)) (n * n), nearQ (quadN a.y c.y b.y (m + 1 : Nat) (n - (m + 1) : Nat)) (n * n)⟩) := rfl
      have hII : (((m + 1 : Nat) : Int)) = I := by have := HM.out; omega
      rw [hII, HJ.out] at qx qy hbx hby HPT
      obtain ⟨X, HX⟩ : ∃ X, Hid (quadN a.x c.x b.x I J = X) := ⟨_, rfl⟩
      obtain ⟨Y, HY⟩ : ∃ Y, Hid (quadN a.y c.y b.y I J = Y) := ⟨_, rfl⟩
      rw [HX.out] at qx hbx HPT
      rw [HY.out] at qy hby HPT
      obtain ⟨hnn, _, hn256⟩ := nn_wrap HNB1.out
      rw [HNI.out] at hnn
      obtain ⟨D, HDD⟩ : ∃ D : Int, Hid (((n * n : Nat) : Int) = D) := ⟨_, rfl⟩
      rw [HDD.out] at hnn
      have hnpos : 0 < n * n := Nat.mul_pos (by have := HMN.out; omega) (by have := HMN.out; omega)
      have H1 : Hid (0 < n * n ∧ n * n ≤ 4096 ∧ (-2147483647) * ((n * n : Nat) : Int) ≤ X ∧ X ≤ 2147483647 * ((n * n : Nat) : Int)) := ⟨hnpos, by omega, hbx.1, hbx.2⟩
      have H2 : Hid (0 < n * n ∧ n * n ≤ 4096 ∧ (-2147483647) * ((n * n : Nat) : Int) ≤ Y ∧ Y ≤ 2147483647 * ((n * n : Nat) : Int)) := ⟨hnpos, by omega, hby.1, hby.2⟩
      obtain ⟨p1, p2, q1, q2, q3, s1, r1, r2, x1⟩ := qx
      obtain ⟨p1', p2', q1', q2', q3', s1', r1', r2', x1'⟩ := qy
      clear hII hbx hby hn256 hnpos
      replace HQ := Lib.hid HQ.out.drew
      go_wp2_with fail
      rw [hJ]
      clear hJ
      go_region_held3 (fun V => V.cell? ⟨gw, 0, none⟩ = some (.int .i64 a.x) ∧ V.cell? ⟨gw, 1, none⟩ = some (.int .i64 a.y) ∧ V.cell? ⟨gw + 1, 0, none⟩ = some (.int .i64 c.x) ∧ V.cell? ⟨gw + 1, 1, none⟩ = some (.int .i64 c.y) ∧ V.cell? ⟨gw + 1 + 1, 0, none⟩ = some (.int .i64 b.x) ∧ V.cell? ⟨gw + 1 + 1, 1, none⟩ = some (.int .i64 b.y))
        (first | exact ⟨HQ.out.a0, HQ.out.a1, HQ.out.c0, HQ.out.c1, HQ.out.b0, HQ.out.b1⟩ | exact ⟨HQ6.out.a0, HQ6.out.a1, HQ6.out.c0, HQ6.out.c1, HQ6.out.b0, HQ6.out.b1⟩ | exact ⟨HQ7.out.a0, HQ7.out.a1, HQ7.out.c0, HQ7.out.c1, HQ7.out.b0, HQ7.out.b1⟩ | exact ⟨HQ8.out.a0, HQ8.out.a1, HQ8.out.c0, HQ8.out.c1, HQ8.out.b0, HQ8.out.b1⟩)
        (first | (go_at_call 80; refine (nearest_h _ _ (n * n) _ HDD.out.symm (by assumption)).mono ?_; rintro e w6 ⟨rfl, hb6⟩; (first | (have HB6 : Hid (Below wr.heap.size wr w6) := (Below.refl _ _).drew.trans hb6; have HQ6 := Lib.hid (HQ.out.below hb6)) | (replace HB6 := Lib.hid (bel_next HB6.out hb6); replace HQ6 := Lib.hid (HQ6.out.below hb6))); have HQ7 := Lib.hid (HQ6.out.below ((Below.refl w6.heap.size w6).alloc (Nat.le_refl _) (.cells #[.int .i64 (nearQ X (n * n)), .int .i64 (nearQ Y (n * n))] 47))); clear hb6) | (refine step_app elS rfl _ _ rfl _ B g1 c1 len ((P ++ quadL n a c b m).flatMap clS) _ 1 1 [.int .i64 (nearQ X (n * n)), .int .i64 (nearQ Y (n * n))] rfl rfl ((own_below HP1.out HB6.out).alloc _) rfl (.inr ⟨_, 0, rfl, lies_new⟩) (by simp [Value.oneCell']) (by have := HM.out; have := HL.out; have := HMN.out; have := HNB1.out; omega) (by have := HM.out; have := HL.out; have := HMN.out; have := HNB1.out; omega) (by have := HBB.out; have := HGW.out; have := HSZ.out; have := HB6.out.size; simp; omega) ?_; intro g8 c8 w8 ho8 hg8 hat8; have HQ8 := Lib.hid (HQ7.out.grown hg8 (by have := HGG.out; have := HG.out; omega))))
      have HG8 : Hid (w.grownBy w8 (some g)) := grown_app (grown_next HG1.out (bel_alloc HB6.out _)) hg8 (by have := HGG.out; have := HGW.out; omega)
      have HO8 : Hid (w8.ownsRow B 47 2 (.slice (some ⟨g8, 0, none⟩) (len + 1) c8) (len + 1) ((P ++ quadL n a c b (m + 1)).flatMap clS)) := by
        unfold Hid; rw [quadL_succ, HPT.out, snocS]; exact ho8
      have HGG8 : Hid (g8 = g ∨ gw + 3 ≤ g8) := by
        have h1 := HGG.out; have h2 := HB6.out.size; have h3 := HSZ.out
        unfold Hid
        rcases hat8 with h | h
        · omega
        · simp at h; omega
      have HSZ8 : Hid (gw + 3 ≤ w8.heap.size) := by
        have h2 := HB6.out.size; have h3 := HSZ.out; have h4 := hg8.size
        unfold Hid; simp at h4; omega
      clear ho8 hg8 hat8 HQ HQ6 HQ7 HB6 HG1 HP1 HGG HSZ p1 p2 q1 q2 q3 s1 r1 r2 x1 p1' p2' q1' q2' q3' s1' r1' r2' x1'
      go_wp2_with fail
      have hw : wrap64 (I + 1) = (m : Int) + 1 + 1 := by
        have := HM.out; have := HMN.out; have := HNB1.out
        unfold wrap64; omega
      go_roundw
      case rel => exact ⟨m + 1, g8, c8, len + 1, wrap64 (I + 1), rfl, rfl, ⟨HMN.out, by rw [hw]; rfl, by have := HM.out; omega⟩, HQ8, HO8, HG8, HGG8, HSZ8⟩
      case measure => rw [hw]; have := HM.out; have := HMN.out; have := HNB1.out; simp only [intOf]; omega
    · have HMN : Hid (m = n) := by have := HM.out; have := HNI.out; unfold Hid; omega
      have HLEN : Hid (len = (P ++ quadPts a c b).length) := by
        unfold Hid; rw [HE.out, List.length_append, quadL_length]; have := HM.out; have := HMN.out; omega
      have HOE : Hid (wr.ownsRow B 47 2 (.slice (some ⟨g1, 0, none⟩) len c1) len ((P ++ quadPts a c b).flatMap clS)) := by
        unfold Hid; rw [HE.out]; have h := HP1.out; rw [HMN.out] at h; exact h
      go_wp2_with fail
      go_ret
      refine ⟨g1, c1, by rw [← HLEN.out]; rfl, by rw [← HLEN.out]; exact HOE.out, HG1.out, ?_⟩
      have := HGG.out; have := HGW.out; omega

end Go.Proofs.Ythjhekmlhmljlaa
