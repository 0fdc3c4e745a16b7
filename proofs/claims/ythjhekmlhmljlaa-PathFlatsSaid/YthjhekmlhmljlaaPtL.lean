/-
  What Points of the document's answer gives for a curve with two controls: its points from a place, in a new row. For coordinates that are FIX.
-/
import Derived.Test.YthjhekmlhmljlaaPtJ
namespace Go.Proofs.Ythjhekmlhmljlaa
open Go.RowKit Go.PlainAid
set_option linter.unusedSimpArgs false
set_option linter.unusedVariables false

theorem refbend_h (a c b : Sp) (w : World) (ha : Hid (FixS a)) (hc : Hid (FixS c)) (hb : Hid (FixS b)) (d : Int) (hd : Hid (bendD a c b = d)) : Calls Try.prog 54 #[spV a, spV c, spV b] w fun e w' => e = .returned (.int .i64 d) ∧ Below w.heap.size w w' := by
  rw [← hd.out]; exact refbend_c a c b w ha.out hc.out hb.out

set_option maxRecDepth 20000 in
set_option maxHeartbeats 4000000 in
theorem points_cubic (a c d e : Sp) (ac : Option Addr) (cc : Nat) (w : World) (hr : IsR clS w ac [c, d]) (ha : FixS a) (hc : FixS c) (hd : FixS d) (he : FixS e) : Calls Try.prog 38 #[spV a, arcV ac cc ⟨[c, d], e⟩] w (NewPts w (arcPts a ⟨[c, d], e⟩)) := by
  obtain ⟨cb, co, rfl, k0, k1⟩ := hr.spot (i := 0) (p := c) rfl
  simp only [Nat.zero_mul, Nat.add_zero] at k0 k1
  obtain ⟨cb', co', hcc, k2, k3⟩ := hr.spot (i := 1) (p := d) rfl
  simp only [Option.some.injEq, Addr.mk.injEq] at hcc
  obtain ⟨rfl, rfl, _⟩ := hcc
  simp only [Nat.one_mul] at k2 k3
  have HK2 := Lib.hid k2
  have HK3 := Lib.hid k3
  have HDx := Lib.hid hd
  have HBL1 := Lib.hid (bend_le ha hc hd)
  have HBL2 := Lib.hid (bend_le hc hd he)
  have HA := Lib.hid ha
  have HC := Lib.hid hc
  have HEx := Lib.hid he
  have HB0 : Hid (Below w.heap.size w (((w.alloc (.cells #[.int .i64 a.x, .int .i64 a.y] 47)).alloc (.cells #[.slice (some ⟨cb, co, none⟩) 2 cc, .int .i64 e.x, .int .i64 e.y] 72)).alloc (.cells #[.int .i64 c.x, .int .i64 c.y] 47))) := bel_alloc (bel_alloc ((Below.refl _ _).alloc (Nat.le_refl _) _) _) _
  have HQ0 : Hid (BoxP (((w.alloc (.cells #[.int .i64 a.x, .int .i64 a.y] 47)).alloc (.cells #[.slice (some ⟨cb, co, none⟩) 2 cc, .int .i64 e.x, .int .i64 e.y] 72)).alloc (.cells #[.int .i64 c.x, .int .i64 c.y] 47)) w.heap.size a (.slice (some ⟨cb, co, none⟩) 2 cc) e c) := by constructor <;> simp [go_sem]
  have HS0 : Hid ((((w.alloc (.cells #[.int .i64 a.x, .int .i64 a.y] 47)).alloc (.cells #[.slice (some ⟨cb, co, none⟩) 2 cc, .int .i64 e.x, .int .i64 e.y] 72)).alloc (.cells #[.int .i64 c.x, .int .i64 c.y] 47)).heap.size = w.heap.size + 3) := by simp [Hid]
  have k0' : ((w.alloc (.cells #[.int .i64 a.x, .int .i64 a.y] 47)).alloc (.cells #[.slice (some ⟨cb, co, none⟩) 2 cc, .int .i64 e.x, .int .i64 e.y] 72)).cell? ⟨cb, co, none⟩ = some (.int .i64 c.x) := keepC (bel_alloc ((Below.refl _ _).alloc (Nat.le_refl _) _) _) k0
  have k1' : ((w.alloc (.cells #[.int .i64 a.x, .int .i64 a.y] 47)).alloc (.cells #[.slice (some ⟨cb, co, none⟩) 2 cc, .int .i64 e.x, .int .i64 e.y] 72)).cell? ⟨cb, co + 1, none⟩ = some (.int .i64 c.y) := keepC (bel_alloc ((Below.refl _ _).alloc (Nat.le_refl _) _) _) k1
  have HE : Hid (arcPts a ⟨[c, d], e⟩ = cubL (stepsN (bendD a c d + bendD c d e)) a c d e (stepsN (bendD a c d + bendD c d e))) := rfl
  have HNB := Lib.hid (stepsN_bd (bendD a c d + bendD c d e))
  obtain ⟨d0, HD0⟩ : ∃ dd, Hid (bendD a c e = dd) := ⟨_, rfl⟩
  obtain ⟨d1, HD1⟩ : ∃ dd, Hid (bendD a c d = dd) := ⟨_, rfl⟩
  obtain ⟨d2, HD2⟩ : ∃ dd, Hid (bendD c d e = dd) := ⟨_, rfl⟩
  rw [HD1.out, HD2.out] at HE HNB
  rw [HD1.out] at HBL1
  rw [HD2.out] at HBL2
  obtain ⟨dd, HDD⟩ : ∃ dd, Hid (d1 + d2 = dd) := ⟨_, rfl⟩
  have hsum : IntKind.i64.wrap (d1 + d2) = dd := by rw [← HDD.out]; exact IntWalk.i64_in _ (by have := HBL1.out; have := HBL2.out; omega)
  rw [HDD.out] at HE HNB
  obtain ⟨n, HNN⟩ : ∃ n, Hid (stepsN dd = n) := ⟨_, rfl⟩
  rw [HNN.out] at HE HNB
  clear hr ha hc hd he k0 k1 k2 k3
  unfold spV arcV
  simp only [List.length_cons, List.length_nil, Nat.zero_add, Nat.reduceAdd]
  go_enter Try.func38, Try.ntmps38
  go_wp2_with fail
  clear k0' k1'
  generalize (((w.alloc (.cells #[.int .i64 a.x, .int .i64 a.y] 47)).alloc (.cells #[.slice (some ⟨cb, co, none⟩) 2 cc, .int .i64 e.x, .int .i64 e.y] 72)).alloc (.cells #[.int .i64 c.x, .int .i64 c.y] 47)) = W at *
  refine (refbend_h a c e W HA HC HEx d0 HD0).mono ?_
  rintro x w0 ⟨rfl, hb1⟩
  have HB1 := Lib.hid (bel_next HB0.out hb1)
  have HQ1 := Lib.hid (HQ0.out.below hb1)
  have HS1 : Hid (w.heap.size + 3 ≤ w0.heap.size) := by have := hb1.size; have := HS0.out; unfold Hid; omega
  have s0 := HQ1.out.s0
  clear hb1 HQ0 HB0 HS0
  go_wp2_with fail
  have HB1d := Lib.hid HB1.out.drew
  have HQ1d : Hid (BoxP w0.drew w.heap.size a (.slice (some ⟨cb, co, none⟩) 2 cc) e c) := ⟨HQ1.out.a0, HQ1.out.a1, HQ1.out.s0, HQ1.out.e0, HQ1.out.e1, HQ1.out.c0, HQ1.out.c1⟩
  go_region_held3 (fun V => V.cell? ⟨w.heap.size, 0, none⟩ = some (.int .i64 a.x) ∧ V.cell? ⟨w.heap.size, 1, none⟩ = some (.int .i64 a.y) ∧ V.cell? ⟨w.heap.size + 1, 0, none⟩ = some (.slice (some ⟨cb, co, none⟩) 2 cc) ∧ V.cell? ⟨w.heap.size + 1, 1, none⟩ = some (.int .i64 e.x) ∧ V.cell? ⟨w.heap.size + 1, 2, none⟩ = some (.int .i64 e.y) ∧ V.cell? ⟨w.heap.size + 1 + 1, 0, none⟩ = some (.int .i64 c.x) ∧ V.cell? ⟨w.heap.size + 1 + 1, 1, none⟩ = some (.int .i64 c.y) ∧ V.cell? ⟨cb, co + 2, none⟩ = some (.int .i64 d.x) ∧ V.cell? ⟨cb, co + 2 + 1, none⟩ = some (.int .i64 d.y))
    (first | exact ⟨HQ1d.out.a0, HQ1d.out.a1, HQ1d.out.s0, HQ1d.out.e0, HQ1d.out.e1, HQ1d.out.c0, HQ1d.out.c1, keepC HB1d.out HK2.out, keepC HB1d.out HK3.out⟩ | exact ⟨HQ2.out.a0, HQ2.out.a1, HQ2.out.s0, HQ2.out.e0, HQ2.out.e1, HQ2.out.c0, HQ2.out.c1, keepC HB2.out HK2.out, keepC HB2.out HK3.out⟩)
    (first | (go_at_call 54; refine (refbend_h _ _ _ _ (by assumption) (by assumption) (by assumption) _ (by assumption)).mono ?_; rintro x w1 ⟨rfl, hb1⟩; (first | (have HB2 := Lib.hid (bel_next HB1d.out hb1); have HQ2 := Lib.hid (HQ1d.out.below hb1); have HS2 : Hid (w.heap.size + 3 ≤ w1.heap.size) := Nat.le_trans HS1.out hb1.size) | (replace HB2 := Lib.hid (bel_next HB2.out hb1); replace HQ2 := Lib.hid (HQ2.out.below hb1); replace HS2 := Lib.hid (Nat.le_trans HS2.out hb1.size))); clear hb1))
  clear HB1 HQ1 HS1 HB1d HQ1d s0 hsum
  have HB1 := HB2
  have HQ1 := HQ2
  have HS1 := HS2
  clear HB2 HQ2 HS2
  go_wp2_with fail
  generalize hGW : w.heap.size = gw at *
  have HGW := Lib.hid hGW
  clear hGW
  go_loop [7] (fun x => ∃ m : Int, x = .int .i64 m ∧ Hid (StepRel dd m)) (fun x => (16 - intOf x).toNat)
  case atStart => exact ⟨1, rfl, .inl rfl⟩
  case round =>
    obtain ⟨N, rfl, HN⟩ := hrel
    obtain ⟨sq1, sq2, sq3⟩ := HN.out.sq
    obtain ⟨F, HF⟩ : ∃ F, Hid (4 * N * N = F) := ⟨_, rfl⟩
    replace sq2 := sq2.trans HF.out
    by_cases hgo : N < 16 ∧ F < dd
    · obtain ⟨hg1, hg2⟩ := hgo
      have HN2 := Lib.hid (HN.out.up hg1 (by rw [HF.out]; exact hg2))
      have HNb := Lib.hid HN.out.bd
      go_wp2_with fail
      go_round
      case rel => exact ⟨wrap64 (N + N), rfl, (by unfold Hid; rw [sq3]; exact HN2.out)⟩
      case measure => rw [sq3]; have := HNb.out; simp only [intOf]; omega
    · have HNI : Hid ((n : Int) = N) := by have := HN.out.done (by rw [HF.out]; exact hgo); rw [HNN.out] at this; exact this.symm
      have HW0 : Hid ((w1.alloc (.cells #[] 47)).ownsRow (gw + 3) 47 2 (.slice (some ⟨w1.heap.size, 0, none⟩) 0 0) 0 []) := World.ownsRow_made w1 #[] 0 HS1.out (by decide) rfl
      have HQ2 := Lib.hid (HQ1.out.below ((Below.refl w1.heap.size w1).alloc (Nat.le_refl _) (.cells #[] 47)))
      have HB2 : Hid (Below gw w (w1.alloc (.cells #[] 47))) := HB1.out.alloc (by have := HS1.out; omega) _
      have HS2 : Hid (gw + 3 ≤ (w1.alloc (.cells #[] 47)).heap.size) := by have := HS1.out; unfold Hid; simp; omega
      have hnot : N < 16 → ¬ F < dd := fun h1 h2 => hgo ⟨h1, h2⟩
      have HNOT := Lib.hid hnot
      clear hgo hnot
      by_cases h16 : N < 16
      · have hF : ¬ F < dd := HNOT.out h16
        clear HNOT
        go_wp2_with fail
        clear sq1 sq2 sq3 hF h16
        generalize (w1.alloc (.cells #[] 47)) = w2 at *
        generalize w1.heap.size = g0 at *
        clear HQ1 HB1 HS1
        go_loopw [8, 9] (fun v x wr => ∃ m g1 c1 : Nat, ∃ I : Int, v = .slice (some ⟨g1, 0, none⟩) m c1 ∧ x = .int .i64 I ∧ Hid (m ≤ n ∧ I = (m : Int) + 1) ∧
          Hid (BoxP wr gw a (.slice (some ⟨cb, co, none⟩) 2 cc) e c) ∧ Hid (wr.ownsRow (gw + 3) 47 2 (.slice (some ⟨g1, 0, none⟩) m c1) m ((cubL n a c d e m).flatMap clS)) ∧ Hid (Below gw w wr) ∧ Hid (gw + 3 ≤ wr.heap.size)) (fun _ x _ => (17 - intOf x).toNat)
        case atStart => exact ⟨0, g0, 0, 1, rfl, rfl, ⟨Nat.zero_le _, rfl⟩, HQ2, HW0, HB2, HS2⟩
        case round =>
          clear HQ2 HW0 HB2 HS2
          obtain ⟨m, g1, c1, I, rfl, rfl, HM, HQ, HP1, HB, HSZ⟩ := hrel
          by_cases hle : I ≤ N
          · have HMN : Hid (m + 1 ≤ n) := by have := HM.out; have := HNI.out; unfold Hid; omega
            have HNB1 : Hid (n ≤ 16) := HNB.out.2
            obtain ⟨J, HJ⟩ : ∃ J : Int, Hid (((n - (m + 1) : Nat) : Int) = J) := ⟨_, rfl⟩
            have hJ : wrap64 (N - I) = J := by
              have := HM.out; have := HNI.out; have := HMN.out; have := HNB1.out; have := HJ.out
              unfold wrap64; omega
            obtain ⟨P1, P2, P3, Q0, Q1, Q2, Q3, S1, D0, D1, D2, D3, S2, R1, R2, R3, qx⟩ := cub_chain (i := m + 1) (j := n - (m + 1)) (by have := HMN.out; have := HNB1.out; omega) (by have := HNB1.out; omega) HA.out.1 HC.out.1 HDx.out.1 HEx.out.1
            obtain ⟨P1', P2', P3', Q0', Q1', Q2', Q3', S1', D0', D1', D2', D3', S2', R1', R2', R3', qy⟩ := cub_chain (i := m + 1) (j := n - (m + 1)) (by have := HMN.out; have := HNB1.out; omega) (by have := HNB1.out; omega) HA.out.2 HC.out.2 HDx.out.2 HEx.out.2
            have hbx := cubN_bd (i := m + 1) (j := n - (m + 1)) (n := n) (by have := HMN.out; omega) HA.out.1 HC.out.1 HDx.out.1 HEx.out.1
            have hby := cubN_bd (i := m + 1) (j := n - (m + 1)) (n := n) (by have := HMN.out; omega) HA.out.2 HC.out.2 HDx.out.2 HEx.out.2
            have HPT : Hid (cubPt n (m + 1) a c d e = ⟨nearQ (cubN a.x c.x d.x e.x (m + 1 : Nat) (n - (m + 1) : Nat)) (n * n * n), nearQ (cubN a.y c.y d.y e.y (m + 1 : Nat) (n - (m + 1) : Nat)) (n * n * n)⟩) := rfl
            have hII : (((m + 1 : Nat) : Int)) = I := by have := HM.out; omega
            rw [hII, HJ.out] at qx qy hbx hby HPT
            obtain ⟨X, HX⟩ : ∃ X, Hid (cubN a.x c.x d.x e.x I J = X) := ⟨_, rfl⟩
            obtain ⟨Y, HY⟩ : ∃ Y, Hid (cubN a.y c.y d.y e.y I J = Y) := ⟨_, rfl⟩
            rw [HX.out] at qx hbx HPT
            rw [HY.out] at qy hby HPT
            obtain ⟨N2, hn2, hn3, hn4⟩ := nnn_wrap HNB1.out
            rw [HNI.out, IntWalk.i64_left] at hn2 hn3
            obtain ⟨D, HDD⟩ : ∃ D : Int, Hid (((n * n * n : Nat) : Int) = D) := ⟨_, rfl⟩
            rw [HDD.out] at hn3
            have hnpos : 0 < n * n * n := Nat.mul_pos (Nat.mul_pos (by have := HMN.out; omega) (by have := HMN.out; omega)) (by have := HMN.out; omega)
            have H1 : Hid (0 < n * n * n ∧ n * n * n ≤ 4096 ∧ (-2147483647) * ((n * n * n : Nat) : Int) ≤ X ∧ X ≤ 2147483647 * ((n * n * n : Nat) : Int)) := ⟨hnpos, by omega, hbx.1, hbx.2⟩
            have H2 : Hid (0 < n * n * n ∧ n * n * n ≤ 4096 ∧ (-2147483647) * ((n * n * n : Nat) : Int) ≤ Y ∧ Y ≤ 2147483647 * ((n * n * n : Nat) : Int)) := ⟨hnpos, by omega, hby.1, hby.2⟩
            obtain ⟨x0, x1, x2, x3, x4, x5, x6, x7, x8, x9, x10, x11, x12, x13, x14, x15, x16⟩ := qx.w
            obtain ⟨y0, y1, y2, y3, y4, y5, y6, y7, y8, y9, y10, y11, y12, y13, y14, y15, y16⟩ := qy.w
            clear hII hbx hby hn4 hnpos qx qy
            have HB' : Hid (Below w.heap.size w wr) := by have := HB.out; rwa [← HGW.out] at this
            have s0 := HQ.out.s0
            have k2 : wr.cell? ⟨cb, co + 2, none⟩ = some (.int .i64 d.x) := keepC HB'.out HK2.out
            have k3 : wr.cell? ⟨cb, co + 2 + 1, none⟩ = some (.int .i64 d.y) := keepC HB'.out HK3.out
            have HB3 := (Below.refl wr.heap.size wr).alloc (Nat.le_refl _) (.cells #[.int .i64 d.x, .int .i64 d.y] 47)
            have HBB3 := Lib.hid HB3
            clear HB3
            have HQ3 := Lib.hid (HQ.out.below HBB3.out)
            have a0 := HQ3.out.a0
            have a1 := HQ3.out.a1
            have e0 := HQ3.out.e0
            have e1 := HQ3.out.e1
            have c0 := HQ3.out.c0
            have cx1 := HQ3.out.c1
            have k2 : wr.cell? ⟨cb, co + 2, none⟩ = some (.int .i64 d.x) := keepC HB'.out HK2.out
            have k3 : wr.cell? ⟨cb, co + 2 + 1, none⟩ = some (.int .i64 d.y) := keepC HB'.out HK3.out
            have HB3 := (Below.refl wr.heap.size wr).alloc (Nat.le_refl _) (.cells #[.int .i64 d.x, .int .i64 d.y] 47)
            have HBB3 := Lib.hid HB3
            clear HB3
            have HQ3 := Lib.hid (HQ.out.below HBB3.out)
            have a0 := HQ3.out.a0
            have a1 := HQ3.out.a1
            have e0 := HQ3.out.e0
            have e1 := HQ3.out.e1
            have c0 := HQ3.out.c0
            have cx1 := HQ3.out.c1
            go_wp2_with fail
            refine (refnear_h X D (n * n * n) _ HDD.out.symm H1).mono ?_
            rintro x w6 ⟨rfl, rfl⟩
            go_wp2_with fail
            refine (refnear_h Y D (n * n * n) _ HDD.out.symm H2).mono ?_
            rintro x w6 ⟨rfl, rfl⟩
            have HQ7 := Lib.hid ((HQ.out.below HBB3.out).below ((Below.refl (wr.alloc (.cells #[.int .i64 d.x, .int .i64 d.y] 47)).heap.size (wr.alloc (.cells #[.int .i64 d.x, .int .i64 d.y] 47))).alloc (Nat.le_refl _) (.cells #[.int .i64 (nearQ X (n * n * n)), .int .i64 (nearQ Y (n * n * n))] 47)))
            have HLN : Hid (Lies ((wr.alloc (.cells #[.int .i64 d.x, .int .i64 d.y] 47)).alloc (.cells #[.int .i64 (nearQ X (n * n * n)), .int .i64 (nearQ Y (n * n * n))] 47)) (wr.heap.size + 1) 0 [.int .i64 (nearQ X (n * n * n)), .int .i64 (nearQ Y (n * n * n))]) := by
              have h := lies_new (w := wr.alloc (.cells #[.int .i64 d.x, .int .i64 d.y] 47)) (cs := #[.int .i64 (nearQ X (n * n * n)), .int .i64 (nearQ Y (n * n * n))]) (T := 47)
              simpa [Hid] using h
            clear a0 a1 s0 e0 e1 c0 cx1 k2 k3 x0 x1 x2 x3 x4 x5 x6 x7 x8 x9 x10 x11 x12 x13 x14 x15 x16 y0 y1 y2 y3 y4 y5 y6 y7 y8 y9 y10 y11 y12 y13 y14 y15 y16 hn2 hn3 hJ
            go_wp2_with (at_builtin; refine wpList_app elS rfl _ _ rfl _ (gw + 3) g1 c1 m ((cubL n a c d e m).flatMap clS) _ 1 1 [.int .i64 (nearQ X (n * n * n)), .int .i64 (nearQ Y (n * n * n))] rfl rfl ((HP1.out.alloc _).alloc _) rfl (.inr ⟨_, 0, rfl, HLN.out⟩) (by simp [Value.oneCell']) (by have := HMN.out; have := HNB1.out; omega) (by have := HMN.out; have := HNB1.out; omega) (by have := HSZ.out; simp; omega) ?_; intro g8 c8 w8 ho8 hg8 hat8; have HQ8 := Lib.hid (HQ7.out.grown hg8 (ownsRow_cap HP1.out).2.1); have HO8 := Lib.hid ho8; have HGS := Lib.hid hg8.size; have HB8 : Hid (Below gw w w8) := ((HB.out.alloc (by have := HSZ.out; omega) _).alloc (by have := HSZ.out; simp; omega) _).grown hg8 (by have := HSZ.out; simp; omega) (fun k hk => by cases hk; have := (ownsRow_cap HP1.out).2.1; omega); clear ho8 hg8 hat8)
            have HO9 : Hid (w8.ownsRow (gw + 3) 47 2 (.slice (some ⟨g8, 0, none⟩) (m + 1) c8) (m + 1) ((cubL n a c d e (m + 1)).flatMap clS)) := by
              unfold Hid; have h := snocS [] (cubL n a c d e m) (cubPt n (m + 1) a c d e); rw [List.nil_append, List.nil_append] at h; rw [cubL_succ, h, HPT.out]; exact HO8.out
            have HSZ8 : Hid (gw + 3 ≤ w8.heap.size) := by
              have h3 := HSZ.out; have h4 := HGS.out
              unfold Hid; simp at h4; omega
            have hw : wrap64 (I + 1) = (m : Int) + 1 + 1 := by
              have := HM.out; have := HMN.out; have := HNB1.out
              unfold wrap64; omega
            go_roundw
            case rel => exact ⟨m + 1, g8, c8, wrap64 (I + 1), rfl, rfl, ⟨HMN.out, by rw [hw]; rfl⟩, HQ8, HO9, HB8, HSZ8⟩
            case measure => rw [hw]; have := HM.out; have := HMN.out; have := HNB1.out; simp only [intOf]; omega
          · have HMN : Hid (m = n) := by have := HM.out; have := HNI.out; unfold Hid; omega
            have HLEN : Hid (m = (arcPts a ⟨[c, d], e⟩).length) := by
              unfold Hid; rw [HE.out, cubL_length]; exact HMN.out
            have HOE : Hid (wr.ownsRow w.heap.size 47 2 (.slice (some ⟨g1, 0, none⟩) m c1) m ((arcPts a ⟨[c, d], e⟩).flatMap clS)) := by
              unfold Hid; rw [HE.out]; have h := HP1.out; rw [show cubL n a c d e m = cubL n a c d e n by rw [HMN.out]] at h; exact h.mono (by have := HGW.out; omega)
            go_wp2_with fail
            go_ret
            refine ⟨g1, c1, by rw [← HLEN.out]; rfl, by rw [← HLEN.out]; exact HOE.out, ?_⟩
            rw [HGW.out]; exact HB.out
      · clear HNOT
        go_wp2_with fail
        clear sq1 sq2 sq3 h16
        generalize (w1.alloc (.cells #[] 47)) = w2 at *
        generalize w1.heap.size = g0 at *
        clear HQ1 HB1 HS1
        go_loopw [8, 9] (fun v x wr => ∃ m g1 c1 : Nat, ∃ I : Int, v = .slice (some ⟨g1, 0, none⟩) m c1 ∧ x = .int .i64 I ∧ Hid (m ≤ n ∧ I = (m : Int) + 1) ∧
          Hid (BoxP wr gw a (.slice (some ⟨cb, co, none⟩) 2 cc) e c) ∧ Hid (wr.ownsRow (gw + 3) 47 2 (.slice (some ⟨g1, 0, none⟩) m c1) m ((cubL n a c d e m).flatMap clS)) ∧ Hid (Below gw w wr) ∧ Hid (gw + 3 ≤ wr.heap.size)) (fun _ x _ => (17 - intOf x).toNat)
        case atStart => exact ⟨0, g0, 0, 1, rfl, rfl, ⟨Nat.zero_le _, rfl⟩, HQ2, HW0, HB2, HS2⟩
        case round =>
          clear HQ2 HW0 HB2 HS2
          obtain ⟨m, g1, c1, I, rfl, rfl, HM, HQ, HP1, HB, HSZ⟩ := hrel
          by_cases hle : I ≤ N
          · have HMN : Hid (m + 1 ≤ n) := by have := HM.out; have := HNI.out; unfold Hid; omega
            have HNB1 : Hid (n ≤ 16) := HNB.out.2
            obtain ⟨J, HJ⟩ : ∃ J : Int, Hid (((n - (m + 1) : Nat) : Int) = J) := ⟨_, rfl⟩
            have hJ : wrap64 (N - I) = J := by
              have := HM.out; have := HNI.out; have := HMN.out; have := HNB1.out; have := HJ.out
              unfold wrap64; omega
            obtain ⟨P1, P2, P3, Q0, Q1, Q2, Q3, S1, D0, D1, D2, D3, S2, R1, R2, R3, qx⟩ := cub_chain (i := m + 1) (j := n - (m + 1)) (by have := HMN.out; have := HNB1.out; omega) (by have := HNB1.out; omega) HA.out.1 HC.out.1 HDx.out.1 HEx.out.1
            obtain ⟨P1', P2', P3', Q0', Q1', Q2', Q3', S1', D0', D1', D2', D3', S2', R1', R2', R3', qy⟩ := cub_chain (i := m + 1) (j := n - (m + 1)) (by have := HMN.out; have := HNB1.out; omega) (by have := HNB1.out; omega) HA.out.2 HC.out.2 HDx.out.2 HEx.out.2
            have hbx := cubN_bd (i := m + 1) (j := n - (m + 1)) (n := n) (by have := HMN.out; omega) HA.out.1 HC.out.1 HDx.out.1 HEx.out.1
            have hby := cubN_bd (i := m + 1) (j := n - (m + 1)) (n := n) (by have := HMN.out; omega) HA.out.2 HC.out.2 HDx.out.2 HEx.out.2
            have HPT : Hid (cubPt n (m + 1) a c d e = ⟨nearQ (cubN a.x c.x d.x e.x (m + 1 : Nat) (n - (m + 1) : Nat)) (n * n * n), nearQ (cubN a.y c.y d.y e.y (m + 1 : Nat) (n - (m + 1) : Nat)) (n * n * n)⟩) := rfl
            have hII : (((m + 1 : Nat) : Int)) = I := by have := HM.out; omega
            rw [hII, HJ.out] at qx qy hbx hby HPT
            obtain ⟨X, HX⟩ : ∃ X, Hid (cubN a.x c.x d.x e.x I J = X) := ⟨_, rfl⟩
            obtain ⟨Y, HY⟩ : ∃ Y, Hid (cubN a.y c.y d.y e.y I J = Y) := ⟨_, rfl⟩
            rw [HX.out] at qx hbx HPT
            rw [HY.out] at qy hby HPT
            obtain ⟨N2, hn2, hn3, hn4⟩ := nnn_wrap HNB1.out
            rw [HNI.out, IntWalk.i64_left] at hn2 hn3
            obtain ⟨D, HDD⟩ : ∃ D : Int, Hid (((n * n * n : Nat) : Int) = D) := ⟨_, rfl⟩
            rw [HDD.out] at hn3
            have hnpos : 0 < n * n * n := Nat.mul_pos (Nat.mul_pos (by have := HMN.out; omega) (by have := HMN.out; omega)) (by have := HMN.out; omega)
            have H1 : Hid (0 < n * n * n ∧ n * n * n ≤ 4096 ∧ (-2147483647) * ((n * n * n : Nat) : Int) ≤ X ∧ X ≤ 2147483647 * ((n * n * n : Nat) : Int)) := ⟨hnpos, by omega, hbx.1, hbx.2⟩
            have H2 : Hid (0 < n * n * n ∧ n * n * n ≤ 4096 ∧ (-2147483647) * ((n * n * n : Nat) : Int) ≤ Y ∧ Y ≤ 2147483647 * ((n * n * n : Nat) : Int)) := ⟨hnpos, by omega, hby.1, hby.2⟩
            obtain ⟨x0, x1, x2, x3, x4, x5, x6, x7, x8, x9, x10, x11, x12, x13, x14, x15, x16⟩ := qx.w
            obtain ⟨y0, y1, y2, y3, y4, y5, y6, y7, y8, y9, y10, y11, y12, y13, y14, y15, y16⟩ := qy.w
            clear hII hbx hby hn4 hnpos qx qy
            have HB' : Hid (Below w.heap.size w wr) := by have := HB.out; rwa [← HGW.out] at this
            have s0 := HQ.out.s0
            have k2 : wr.cell? ⟨cb, co + 2, none⟩ = some (.int .i64 d.x) := keepC HB'.out HK2.out
            have k3 : wr.cell? ⟨cb, co + 2 + 1, none⟩ = some (.int .i64 d.y) := keepC HB'.out HK3.out
            have HB3 := (Below.refl wr.heap.size wr).alloc (Nat.le_refl _) (.cells #[.int .i64 d.x, .int .i64 d.y] 47)
            have HBB3 := Lib.hid HB3
            clear HB3
            have HQ3 := Lib.hid (HQ.out.below HBB3.out)
            have a0 := HQ3.out.a0
            have a1 := HQ3.out.a1
            have e0 := HQ3.out.e0
            have e1 := HQ3.out.e1
            have c0 := HQ3.out.c0
            have cx1 := HQ3.out.c1
            have k2 : wr.cell? ⟨cb, co + 2, none⟩ = some (.int .i64 d.x) := keepC HB'.out HK2.out
            have k3 : wr.cell? ⟨cb, co + 2 + 1, none⟩ = some (.int .i64 d.y) := keepC HB'.out HK3.out
            have HB3 := (Below.refl wr.heap.size wr).alloc (Nat.le_refl _) (.cells #[.int .i64 d.x, .int .i64 d.y] 47)
            have HBB3 := Lib.hid HB3
            clear HB3
            have HQ3 := Lib.hid (HQ.out.below HBB3.out)
            have a0 := HQ3.out.a0
            have a1 := HQ3.out.a1
            have e0 := HQ3.out.e0
            have e1 := HQ3.out.e1
            have c0 := HQ3.out.c0
            have cx1 := HQ3.out.c1
            go_wp2_with fail
            refine (refnear_h X D (n * n * n) _ HDD.out.symm H1).mono ?_
            rintro x w6 ⟨rfl, rfl⟩
            go_wp2_with fail
            refine (refnear_h Y D (n * n * n) _ HDD.out.symm H2).mono ?_
            rintro x w6 ⟨rfl, rfl⟩
            have HQ7 := Lib.hid ((HQ.out.below HBB3.out).below ((Below.refl (wr.alloc (.cells #[.int .i64 d.x, .int .i64 d.y] 47)).heap.size (wr.alloc (.cells #[.int .i64 d.x, .int .i64 d.y] 47))).alloc (Nat.le_refl _) (.cells #[.int .i64 (nearQ X (n * n * n)), .int .i64 (nearQ Y (n * n * n))] 47)))
            have HLN : Hid (Lies ((wr.alloc (.cells #[.int .i64 d.x, .int .i64 d.y] 47)).alloc (.cells #[.int .i64 (nearQ X (n * n * n)), .int .i64 (nearQ Y (n * n * n))] 47)) (wr.heap.size + 1) 0 [.int .i64 (nearQ X (n * n * n)), .int .i64 (nearQ Y (n * n * n))]) := by
              have h := lies_new (w := wr.alloc (.cells #[.int .i64 d.x, .int .i64 d.y] 47)) (cs := #[.int .i64 (nearQ X (n * n * n)), .int .i64 (nearQ Y (n * n * n))]) (T := 47)
              simpa [Hid] using h
            clear a0 a1 s0 e0 e1 c0 cx1 k2 k3 x0 x1 x2 x3 x4 x5 x6 x7 x8 x9 x10 x11 x12 x13 x14 x15 x16 y0 y1 y2 y3 y4 y5 y6 y7 y8 y9 y10 y11 y12 y13 y14 y15 y16 hn2 hn3 hJ
            go_wp2_with (at_builtin; refine wpList_app elS rfl _ _ rfl _ (gw + 3) g1 c1 m ((cubL n a c d e m).flatMap clS) _ 1 1 [.int .i64 (nearQ X (n * n * n)), .int .i64 (nearQ Y (n * n * n))] rfl rfl ((HP1.out.alloc _).alloc _) rfl (.inr ⟨_, 0, rfl, HLN.out⟩) (by simp [Value.oneCell']) (by have := HMN.out; have := HNB1.out; omega) (by have := HMN.out; have := HNB1.out; omega) (by have := HSZ.out; simp; omega) ?_; intro g8 c8 w8 ho8 hg8 hat8; have HQ8 := Lib.hid (HQ7.out.grown hg8 (ownsRow_cap HP1.out).2.1); have HO8 := Lib.hid ho8; have HGS := Lib.hid hg8.size; have HB8 : Hid (Below gw w w8) := ((HB.out.alloc (by have := HSZ.out; omega) _).alloc (by have := HSZ.out; simp; omega) _).grown hg8 (by have := HSZ.out; simp; omega) (fun k hk => by cases hk; have := (ownsRow_cap HP1.out).2.1; omega); clear ho8 hg8 hat8)
            have HO9 : Hid (w8.ownsRow (gw + 3) 47 2 (.slice (some ⟨g8, 0, none⟩) (m + 1) c8) (m + 1) ((cubL n a c d e (m + 1)).flatMap clS)) := by
              unfold Hid; have h := snocS [] (cubL n a c d e m) (cubPt n (m + 1) a c d e); rw [List.nil_append, List.nil_append] at h; rw [cubL_succ, h, HPT.out]; exact HO8.out
            have HSZ8 : Hid (gw + 3 ≤ w8.heap.size) := by
              have h3 := HSZ.out; have h4 := HGS.out
              unfold Hid; simp at h4; omega
            have hw : wrap64 (I + 1) = (m : Int) + 1 + 1 := by
              have := HM.out; have := HMN.out; have := HNB1.out
              unfold wrap64; omega
            go_roundw
            case rel => exact ⟨m + 1, g8, c8, wrap64 (I + 1), rfl, rfl, ⟨HMN.out, by rw [hw]; rfl⟩, HQ8, HO9, HB8, HSZ8⟩
            case measure => rw [hw]; have := HM.out; have := HMN.out; have := HNB1.out; simp only [intOf]; omega
          · have HMN : Hid (m = n) := by have := HM.out; have := HNI.out; unfold Hid; omega
            have HLEN : Hid (m = (arcPts a ⟨[c, d], e⟩).length) := by
              unfold Hid; rw [HE.out, cubL_length]; exact HMN.out
            have HOE : Hid (wr.ownsRow w.heap.size 47 2 (.slice (some ⟨g1, 0, none⟩) m c1) m ((arcPts a ⟨[c, d], e⟩).flatMap clS)) := by
              unfold Hid; rw [HE.out]; have h := HP1.out; rw [show cubL n a c d e m = cubL n a c d e n by rw [HMN.out]] at h; exact h.mono (by have := HGW.out; omega)
            go_wp2_with fail
            go_ret
            refine ⟨g1, c1, by rw [← HLEN.out]; rfl, by rw [← HLEN.out]; exact HOE.out, ?_⟩
            rw [HGW.out]; exact HB.out

end Go.Proofs.Ythjhekmlhmljlaa
