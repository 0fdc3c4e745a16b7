/-
  What appendCubic of package path gives: the points so far and those of the curve, in an owned row. For coordinates that are FIX.
-/
import Derived.Test.YthjhekmlhmljlaaPtK
namespace Go.Proofs.Ythjhekmlhmljlaa
open Go.RowKit Go.PlainAid
set_option linter.unusedSimpArgs false
set_option linter.unusedVariables false

set_option maxRecDepth 20000 in
set_option maxHeartbeats 4000000 in
theorem appendCubic_c (P : List Sp) (g pc B : Nat) (a c d b : Sp) (w : World) (hP : w.ownsRow B 47 2 (.slice (some ⟨g, 0, none⟩) P.length pc) P.length (P.flatMap clS)) (hB : B ≤ w.heap.size) (hl : P.length ≤ 1000000) (ha : FixS a) (hc : FixS c) (hd : FixS d) (hb : FixS b) :
    Calls Try.prog 83 #[.slice (some ⟨g, 0, none⟩) P.length pc, spV a, spV c, spV d, spV b] w (PtsPost w B g (P ++ cubPts a c d b)) := by
  have HP := Lib.hid hP
  have HG := Lib.hid (ownsRow_cap hP).2.2
  have HBB := Lib.hid hB
  have HL := Lib.hid hl
  have HA := Lib.hid ha
  have HC := Lib.hid hc
  have HDx := Lib.hid hd
  have HBx := Lib.hid hb
  have HBL1 := Lib.hid (bend_le ha hc hd)
  have HBL2 := Lib.hid (bend_le hc hd hb)
  have HB0 : Hid (Below w.heap.size w ((((w.alloc (.cells #[.int .i64 a.x, .int .i64 a.y] 47)).alloc (.cells #[.int .i64 c.x, .int .i64 c.y] 47)).alloc (.cells #[.int .i64 d.x, .int .i64 d.y] 47)).alloc (.cells #[.int .i64 b.x, .int .i64 b.y] 47))) := bel_alloc (bel_alloc (bel_alloc ((Below.refl _ _).alloc (Nat.le_refl _) _) _) _) _
  have HQ0 : Hid (BoxC ((((w.alloc (.cells #[.int .i64 a.x, .int .i64 a.y] 47)).alloc (.cells #[.int .i64 c.x, .int .i64 c.y] 47)).alloc (.cells #[.int .i64 d.x, .int .i64 d.y] 47)).alloc (.cells #[.int .i64 b.x, .int .i64 b.y] 47)) w.heap.size a c d b) := by constructor <;> simp [go_sem]
  have HS0 : Hid (((((w.alloc (.cells #[.int .i64 a.x, .int .i64 a.y] 47)).alloc (.cells #[.int .i64 c.x, .int .i64 c.y] 47)).alloc (.cells #[.int .i64 d.x, .int .i64 d.y] 47)).alloc (.cells #[.int .i64 b.x, .int .i64 b.y] 47)).heap.size = w.heap.size + 4) := by simp [Hid]
  clear hP hB hl ha hc hd hb
  have HE : Hid (cubPts a c d b = cubL (stepsN (bendD a c d + bendD c d b)) a c d b (stepsN (bendD a c d + bendD c d b))) := rfl
  have HNB := Lib.hid (stepsN_bd (bendD a c d + bendD c d b))
  obtain ⟨d1, HD1⟩ : ∃ dd, Hid (bendD a c d = dd) := ⟨_, rfl⟩
  obtain ⟨d2, HD2⟩ : ∃ dd, Hid (bendD c d b = dd) := ⟨_, rfl⟩
  rw [HD1.out, HD2.out] at HE HNB
  rw [HD1.out] at HBL1
  rw [HD2.out] at HBL2
  obtain ⟨dd, HDD⟩ : ∃ dd, Hid (d1 + d2 = dd) := ⟨_, rfl⟩
  have hsum : IntKind.i64.wrap (d1 + d2) = dd := by rw [← HDD.out]; exact IntWalk.i64_in _ (by have := HBL1.out; have := HBL2.out; omega)
  rw [HDD.out] at HE HNB
  obtain ⟨n, HNN⟩ : ∃ n, Hid (stepsN dd = n) := ⟨_, rfl⟩
  rw [HNN.out] at HE HNB
  obtain ⟨N, HNI⟩ : ∃ N : Int, Hid ((n : Int) = N) := ⟨_, rfl⟩
  unfold spV
  go_enter Try.func83, Try.ntmps83
  go_wp2_with fail
  generalize ((((w.alloc (.cells #[.int .i64 a.x, .int .i64 a.y] 47)).alloc (.cells #[.int .i64 c.x, .int .i64 c.y] 47)).alloc (.cells #[.int .i64 d.x, .int .i64 d.y] 47)).alloc (.cells #[.int .i64 b.x, .int .i64 b.y] 47)) = W at *
  replace HQ0 := Lib.hid HQ0.out.drew
  replace HB0 := Lib.hid HB0.out.drew
  go_region_held3 (fun V => V.cell? ⟨w.heap.size, 0, none⟩ = some (.int .i64 a.x) ∧ V.cell? ⟨w.heap.size, 1, none⟩ = some (.int .i64 a.y) ∧ V.cell? ⟨w.heap.size + 1, 0, none⟩ = some (.int .i64 c.x) ∧ V.cell? ⟨w.heap.size + 1, 1, none⟩ = some (.int .i64 c.y) ∧ V.cell? ⟨w.heap.size + 1 + 1, 0, none⟩ = some (.int .i64 d.x) ∧ V.cell? ⟨w.heap.size + 1 + 1, 1, none⟩ = some (.int .i64 d.y) ∧ V.cell? ⟨w.heap.size + 1 + 1 + 1, 0, none⟩ = some (.int .i64 b.x) ∧ V.cell? ⟨w.heap.size + 1 + 1 + 1, 1, none⟩ = some (.int .i64 b.y))
    (first | exact ⟨HQ0.out.a0, HQ0.out.a1, HQ0.out.c0, HQ0.out.c1, HQ0.out.d0, HQ0.out.d1, HQ0.out.b0, HQ0.out.b1⟩ | exact ⟨HQ1.out.a0, HQ1.out.a1, HQ1.out.c0, HQ1.out.c1, HQ1.out.d0, HQ1.out.d1, HQ1.out.b0, HQ1.out.b1⟩)
    (first | (go_at_call 85; refine (bend_h _ _ _ _ (by assumption) (by assumption) (by assumption) _ (by assumption)).mono ?_; rintro e w1 ⟨rfl, hb1⟩; (first | (have HB1 := Lib.hid (bel_next HB0.out hb1); have HQ1 := Lib.hid (HQ0.out.below hb1); have HS1 : Hid (w.heap.size + 4 ≤ w1.heap.size) := by (have := hb1.size; have := HS0.out; simp at *; unfold Hid; omega)) | (have HS2 : Hid (w1.heap.size ≤ w1.heap.size) := Nat.le_refl _; replace HB1 := Lib.hid (bel_next HB1.out hb1); replace HQ1 := Lib.hid (HQ1.out.below hb1); replace HS1 := Lib.hid (Nat.le_trans HS1.out hb1.size))); clear hb1) | (go_at_call 84; refine (steps_c dd _).mono ?_; rw [HNN.out, HNI.out]; rintro e w2 ⟨rfl, rfl⟩))
  have HG1 : Hid (w.grownBy w1 (some g)) := grown_below HB1.out
  have HP1 := Lib.hid (own_below HP.out HB1.out)
  clear HQ0 HB0 HS0 HB1 hsum
  go_wp2_with fail
  generalize hGW : w.heap.size = gw at *
  have HGW := Lib.hid hGW
  clear hGW
  go_loopw [0, 12] (fun v x wr => ∃ m g1 c1 len : Nat, ∃ I : Int, v = .slice (some ⟨g1, 0, none⟩) len c1 ∧ x = .int .i64 I ∧ Hid (m ≤ n ∧ I = (m : Int) + 1 ∧ len = P.length + m) ∧
    Hid (BoxC wr gw a c d b) ∧ Hid (wr.ownsRow B 47 2 (.slice (some ⟨g1, 0, none⟩) len c1) len ((P ++ cubL n a c d b m).flatMap clS)) ∧ Hid (w.grownBy wr (some g)) ∧ Hid (g1 = g ∨ gw + 4 ≤ g1) ∧ Hid (gw + 4 ≤ wr.heap.size)) (fun _ x _ => (17 - intOf x).toNat)
  case atStart => exact ⟨0, g, pc, P.length, 1, rfl, rfl, ⟨Nat.zero_le _, rfl, rfl⟩, HQ1, (by unfold Hid; simpa [cubL] using HP1.out), HG1, .inl rfl, HS1⟩
  case round =>
    clear HQ1 HP1 HG1 HS1
    obtain ⟨m, g1, c1, len, I, rfl, rfl, HM, HQ, HP1, HG1, HGG, HSZ⟩ := hrel
    by_cases hle : I ≤ N
    · have HMN : Hid (m + 1 ≤ n) := by have := HM.out; have := HNI.out; unfold Hid; omega
      have HNB1 : Hid (n ≤ 16) := HNB.out.2
      obtain ⟨J, HJ⟩ : ∃ J : Int, Hid (((n - (m + 1) : Nat) : Int) = J) := ⟨_, rfl⟩
      have hJ : wrap64 (N - I) = J := by
        have := HM.out; have := HNI.out; have := HMN.out; have := HNB1.out; have := HJ.out
        unfold wrap64; omega
      obtain ⟨P1, P2, P3, Q0, Q1, Q2, Q3, S1, D0, D1, D2, D3, S2, R1, R2, R3, qx⟩ := cub_chain (i := m + 1) (j := n - (m + 1)) (by have := HMN.out; have := HNB1.out; omega) (by have := HNB1.out; omega) HA.out.1 HC.out.1 HDx.out.1 HBx.out.1
      obtain ⟨P1', P2', P3', Q0', Q1', Q2', Q3', S1', D0', D1', D2', D3', S2', R1', R2', R3', qy⟩ := cub_chain (i := m + 1) (j := n - (m + 1)) (by have := HMN.out; have := HNB1.out; omega) (by have := HNB1.out; omega) HA.out.2 HC.out.2 HDx.out.2 HBx.out.2
      have hbx := cubN_bd (i := m + 1) (j := n - (m + 1)) (n := n) (by have := HMN.out; omega) HA.out.1 HC.out.1 HDx.out.1 HBx.out.1
      have hby := cubN_bd (i := m + 1) (j := n - (m + 1)) (n := n) (by have := HMN.out; omega) HA.out.2 HC.out.2 HDx.out.2 HBx.out.2
      have HPT : Hid (cubPt n (m + 1) a c d b = ⟨nearQ (cubN a.x c.x d.x b.x (m + 1 : Nat) (n - (m + 1) : Nat)) (n * n * n), nearQ (cubN a.y c.y d.y b.y (m + 1 : Nat) (n - (m + 1) : Nat)) (n * n * n)⟩) := rfl
      have hII : (((m + 1 : Nat) : Int)) = I := by have := HM.out; omega
      rw [hII, HJ.out] at qx qy hbx hby HPT
      obtain ⟨X, HX⟩ : ∃ X, Hid (cubN a.x c.x d.x b.x I J = X) := ⟨_, rfl⟩
      obtain ⟨Y, HY⟩ : ∃ Y, Hid (cubN a.y c.y d.y b.y I J = Y) := ⟨_, rfl⟩
      rw [HX.out] at qx hbx HPT
      rw [HY.out] at qy hby HPT
      obtain ⟨N2, hn2, hn3, hn4⟩ := nnn_wrap HNB1.out
      rw [HNI.out] at hn2 hn3
      obtain ⟨D, HDD2⟩ : ∃ D : Int, Hid (((n * n * n : Nat) : Int) = D) := ⟨_, rfl⟩
      rw [HDD2.out] at hn3
      have hnpos : 0 < n * n * n := Nat.mul_pos (Nat.mul_pos (by have := HMN.out; omega) (by have := HMN.out; omega)) (by have := HMN.out; omega)
      have H1 : Hid (0 < n * n * n ∧ n * n * n ≤ 4096 ∧ (-2147483647) * ((n * n * n : Nat) : Int) ≤ X ∧ X ≤ 2147483647 * ((n * n * n : Nat) : Int)) := ⟨hnpos, by omega, hbx.1, hbx.2⟩
      have H2 : Hid (0 < n * n * n ∧ n * n * n ≤ 4096 ∧ (-2147483647) * ((n * n * n : Nat) : Int) ≤ Y ∧ Y ≤ 2147483647 * ((n * n * n : Nat) : Int)) := ⟨hnpos, by omega, hby.1, hby.2⟩
      obtain ⟨p1, p2, p3, q0, q1, q2, q3, s1, d0, d1', d2', d3, s2, r1, r2, r3, x1⟩ := qx
      obtain ⟨e1, e2, e3, e4, e5, e6, e7, e8, e9, e10, e11, e12, e13, e14, e15, e16, e17⟩ := qy
      clear hII hbx hby hn4 hnpos
      replace HQ := Lib.hid HQ.out.drew
      go_wp2_with fail
      rw [hJ]
      clear hJ
      dsimp only [List.append]
      go_region_held3 (fun V => V.cell? ⟨gw, 0, none⟩ = some (.int .i64 a.x) ∧ V.cell? ⟨gw, 1, none⟩ = some (.int .i64 a.y) ∧ V.cell? ⟨gw + 1, 0, none⟩ = some (.int .i64 c.x) ∧ V.cell? ⟨gw + 1, 1, none⟩ = some (.int .i64 c.y) ∧ V.cell? ⟨gw + 1 + 1, 0, none⟩ = some (.int .i64 d.x) ∧ V.cell? ⟨gw + 1 + 1, 1, none⟩ = some (.int .i64 d.y) ∧ V.cell? ⟨gw + 1 + 1 + 1, 0, none⟩ = some (.int .i64 b.x) ∧ V.cell? ⟨gw + 1 + 1 + 1, 1, none⟩ = some (.int .i64 b.y))
        (first | exact ⟨HQ.out.a0, HQ.out.a1, HQ.out.c0, HQ.out.c1, HQ.out.d0, HQ.out.d1, HQ.out.b0, HQ.out.b1⟩ | exact ⟨HQ6.out.a0, HQ6.out.a1, HQ6.out.c0, HQ6.out.c1, HQ6.out.d0, HQ6.out.d1, HQ6.out.b0, HQ6.out.b1⟩ | exact ⟨HQ7.out.a0, HQ7.out.a1, HQ7.out.c0, HQ7.out.c1, HQ7.out.d0, HQ7.out.d1, HQ7.out.b0, HQ7.out.b1⟩ | exact ⟨HQ8.out.a0, HQ8.out.a1, HQ8.out.c0, HQ8.out.c1, HQ8.out.d0, HQ8.out.d1, HQ8.out.b0, HQ8.out.b1⟩)
        (first | (go_at_call 80; refine (nearest_h _ _ (n * n * n) _ HDD2.out.symm (by assumption)).mono ?_; rintro e w6 ⟨rfl, hb6⟩; (first | (have HB6 : Hid (Below wr.heap.size wr w6) := (Below.refl _ _).drew.trans hb6; have HQ6 := Lib.hid (HQ.out.below hb6)) | (replace HB6 := Lib.hid (bel_next HB6.out hb6); replace HQ6 := Lib.hid (HQ6.out.below hb6))); have HQ7 := Lib.hid (HQ6.out.below ((Below.refl w6.heap.size w6).alloc (Nat.le_refl _) (.cells #[.int .i64 (nearQ X (n * n * n)), .int .i64 (nearQ Y (n * n * n))] 47))); clear hb6) | (refine step_app elS rfl _ _ rfl _ B g1 c1 len ((P ++ cubL n a c d b m).flatMap clS) _ 1 1 [.int .i64 (nearQ X (n * n * n)), .int .i64 (nearQ Y (n * n * n))] rfl rfl ((own_below HP1.out HB6.out).alloc _) rfl (.inr ⟨_, 0, rfl, lies_new⟩) (by simp [Value.oneCell']) (by have := HM.out; have := HL.out; have := HMN.out; have := HNB1.out; omega) (by have := HM.out; have := HL.out; have := HMN.out; have := HNB1.out; omega) (by have := HBB.out; have := HGW.out; have := HSZ.out; have := HB6.out.size; simp; omega) ?_; intro g8 c8 w8 ho8 hg8 hat8; have HQ8 := Lib.hid (HQ7.out.grown hg8 (by have := HGG.out; have := HG.out; omega))))
      have HG8 : Hid (w.grownBy w8 (some g)) := grown_app (grown_next HG1.out (bel_alloc HB6.out _)) hg8 (by have := HGG.out; have := HGW.out; omega)
      have HO8 := Lib.hid ho8
      have HGS := Lib.hid hg8.size
      have HAT := Lib.hid hat8
      clear ho8 hg8 hat8 p1 p2 p3 q0 q1 q2 q3 s1 d0 d1' d2' d3 s2 r1 r2 r3 x1 e1 e2 e3 e4 e5 e6 e7 e8 e9 e10 e11 e12 e13 e14 e15 e16 e17 hn2 hn3
      have HO8' : Hid (w8.ownsRow B 47 2 (.slice (some ⟨g8, 0, none⟩) (len + 1) c8) (len + 1) ((P ++ cubL n a c d b (m + 1)).flatMap clS)) := by
        unfold Hid; rw [cubL_succ, HPT.out, snocS]; exact HO8.out
      have HGG8 : Hid (g8 = g ∨ gw + 4 ≤ g8) := by
        have h1 := HGG.out; have h2 := HB6.out.size; have h3 := HSZ.out
        unfold Hid
        rcases HAT.out with h | h
        · omega
        · simp at h; omega
      have HSZ8 : Hid (gw + 4 ≤ w8.heap.size) := by
        have h2 := HB6.out.size; have h3 := HSZ.out; have h4 := HGS.out
        unfold Hid; simp at h4; omega
      clear HQ HQ6 HQ7 HB6 HG1 HP1 HGG HSZ
      go_wp2_with fail
      have hw : wrap64 (I + 1) = (m : Int) + 1 + 1 := by
        have := HM.out; have := HMN.out; have := HNB1.out
        unfold wrap64; omega
      go_roundw
      case rel => exact ⟨m + 1, g8, c8, len + 1, wrap64 (I + 1), rfl, rfl, ⟨HMN.out, by rw [hw]; rfl, by have := HM.out; omega⟩, HQ8, HO8', HG8, HGG8, HSZ8⟩
      case measure => rw [hw]; have := HM.out; have := HMN.out; have := HNB1.out; simp only [intOf]; omega
    · have HMN : Hid (m = n) := by have := HM.out; have := HNI.out; unfold Hid; omega
      have HLEN : Hid (len = (P ++ cubPts a c d b).length) := by
        unfold Hid; rw [HE.out, List.length_append, cubL_length]; have := HM.out; have := HMN.out; omega
      have HOE : Hid (wr.ownsRow B 47 2 (.slice (some ⟨g1, 0, none⟩) len c1) len ((P ++ cubPts a c d b).flatMap clS)) := by
        unfold Hid; rw [HE.out]; have h := HP1.out; rw [HMN.out] at h; exact h
      go_wp2_with fail
      go_ret
      refine ⟨g1, c1, by rw [← HLEN.out]; rfl, by rw [← HLEN.out]; exact HOE.out, HG1.out, ?_⟩
      have := HGG.out; have := HGW.out; omega

end Go.Proofs.Ythjhekmlhmljlaa
