/-
  What Advance and Place of package metric answer of any metrics; the walk of MetricAsks over them.
-/
import Derived.Test.YtbcjicmledckbaaMAlive
import Derived.Test.YtbcjicmledckbaaMetO
import Derived.Deep.QuietTactic
namespace Go.Proofs.Ytbcjicmledckbaa.metricAsks
open Go.RowKit Go.PlainAid
set_option linter.unusedSimpArgs false
set_option linter.unusedVariables false

theorem box_bel (kd u G a d gp : Int) (A B P : Option Addr) (nA cA nB cB nP cP : Nat) (w : World) : Below w.heap.size w (w.alloc (.cells #[.int .i64 kd, .int .i64 u, .int .i64 G, .int .i64 a, .int .i64 d, .int .i64 gp, .slice A nA cA, .slice B nB cB, .slice P nP cP] 35)) := (Below.refl _ _).alloc (Nat.le_refl _) _

set_option maxHeartbeats 1000000 in
theorem has_no (kd u G a d gp g : Int) (A B P : Option Addr) (nA cA nB cB nP cP : Nat) (w : World) (h : g < 0 ∨ G ≤ g ∨ (nA : Int) < G) : Calls Try.prog 42 #[.agg #[.int .i64 kd, .int .i64 u, .int .i64 G, .int .i64 a, .int .i64 d, .int .i64 gp, .slice A nA cA, .slice B nB cB, .slice P nP cP], .int .i64 g] w fun e w' => e = .returned (.bool false) ∧ Below w.heap.size w w' := by
  have HB := Lib.hid (box_bel kd u G a d gp A B P nA cA nB cB nP cP w)
  by_cases h1 : g < 0
  · clear h
    have h1' : ¬ 0 ≤ g := by omega
    go_enter Try.func42, Try.ntmps42
    go_wp2
    go_ret
    exact ⟨rfl, HB.out⟩
  by_cases h2 : G ≤ g
  · clear h
    have h1' : 0 ≤ g := by omega
    have h2' : ¬ g < G := by omega
    go_enter Try.func42, Try.ntmps42
    go_wp2
    go_ret
    exact ⟨rfl, HB.out⟩
  · have h1' : 0 ≤ g := by omega
    have h2' : g < G := by omega
    have h3' : ¬ G ≤ (nA : Int) := by omega
    clear h
    go_enter Try.func42, Try.ntmps42
    go_wp2
    go_ret
    exact ⟨by simp [show decide (G ≤ (nA : Int)) = false by simp; omega], HB.out⟩

set_option maxHeartbeats 1000000 in
theorem has_yes (kd u G a d gp g : Int) (A B P : Option Addr) (nA cA nB cB nP cP : Nat) (w : World) (h1 : 0 ≤ g) (h2 : g < G) (h3 : G ≤ (nA : Int)) : Calls Try.prog 42 #[.agg #[.int .i64 kd, .int .i64 u, .int .i64 G, .int .i64 a, .int .i64 d, .int .i64 gp, .slice A nA cA, .slice B nB cB, .slice P nP cP], .int .i64 g] w fun e w' => e = .returned (.bool true) ∧ Below w.heap.size w w' := by
  have HB := Lib.hid (box_bel kd u G a d gp A B P nA cA nB cB nP cP w)
  go_enter Try.func42, Try.ntmps42
  go_wp2
  go_ret
  exact ⟨by simp [h3], HB.out⟩

set_option maxHeartbeats 1000000 in
theorem adv_no (kd u G a d gp g : Int) (A B P : Option Addr) (nA cA nB cB nP cP : Nat) (w : World) (h : g < 0 ∨ G ≤ g ∨ (nA : Int) < G) : Calls Try.prog 17 #[.agg #[.int .i64 kd, .int .i64 u, .int .i64 G, .int .i64 a, .int .i64 d, .int .i64 gp, .slice A nA cA, .slice B nB cB, .slice P nP cP], .int .i64 g] w fun e w' => e = .returned (.tuple #[.int .i64 0, .int .i64 45]) ∧ Below w.heap.size w w' := by
  have HB := Lib.hid (box_bel kd u G a d gp A B P nA cA nB cB nP cP w)
  have HH := Lib.hid h
  clear h
  go_enter Try.func17, Try.ntmps17
  go_wp2_with fail
  refine (has_no kd u G a d gp g A B P nA cA nB cB nP cP _ HH.out).mono ?_
  rintro e w1 ⟨rfl, hb1⟩
  have HB1 := Lib.hid (HB.out.trans (hb1.mono HB.out.size))
  clear hb1
  go_wp2_with fail
  go_ret2
  exact ⟨rfl, HB1.out⟩

set_option maxHeartbeats 1000000 in
theorem adv_yes (kd u G a d gp : Int) (k b0 o0 : Nat) (x : Int) (B P : Option Addr) (nA cA nB cB nP cP : Nat) (w : World) (h2 : (k : Int) < G) (h3 : G ≤ (nA : Int)) (hx : w.cell? ⟨b0, o0 + k, none⟩ = some (.int .i64 x)) :
    Calls Try.prog 17 #[.agg #[.int .i64 kd, .int .i64 u, .int .i64 G, .int .i64 a, .int .i64 d, .int .i64 gp, .slice (some ⟨b0, o0, none⟩) nA cA, .slice B nB cB, .slice P nP cP], .int .i64 k] w fun e w' => e = .returned (.tuple #[.int .i64 x, .int .i64 0]) ∧ Below w.heap.size w w' := by
  have HB := Lib.hid (box_bel kd u G a d gp (some ⟨b0, o0, none⟩) B P nA cA nB cB nP cP w)
  have HX := Lib.hid (And.intro h2 h3)
  have hk : (k : Int) < (nA : Int) := by omega
  have hc6 : (w.alloc (.cells #[.int .i64 kd, .int .i64 u, .int .i64 G, .int .i64 a, .int .i64 d, .int .i64 gp, .slice (some ⟨b0, o0, none⟩) nA cA, .slice B nB cB, .slice P nP cP] 35)).cell? ⟨w.heap.size, 6, none⟩ = some (.slice (some ⟨b0, o0, none⟩) nA cA) := by simp [go_sem]
  have hx1 := keepC HB.out hx
  clear h2 h3 hx
  go_enter Try.func17, Try.ntmps17
  go_wp2_with fail
  refine (has_yes kd u G a d gp k (some ⟨b0, o0, none⟩) B P nA cA nB cB nP cP _ (by omega) HX.out.1 HX.out.2).mono ?_
  rintro e w1 ⟨rfl, hb1⟩
  have HB1 := Lib.hid (HB.out.trans (hb1.mono HB.out.size))
  have hx2 := keepC hb1 hx1
  have hc7 := keepC hb1 hc6
  clear hb1 hx1 hc6
  go_wp2_with fail
  go_ret2
  exact ⟨rfl, HB1.out⟩

set_option maxHeartbeats 1000000 in
theorem place_no (kd u G a d gp g : Int) (A B P : Option Addr) (nA cA nB cB nP cP : Nat) (w : World) (h : g < 0 ∨ G ≤ g ∨ (nA : Int) < G) : Calls Try.prog 18 #[.agg #[.int .i64 kd, .int .i64 u, .int .i64 G, .int .i64 a, .int .i64 d, .int .i64 gp, .slice A nA cA, .slice B nB cB, .slice P nP cP], .int .i64 g] w fun e w' => e = .returned (.tuple #[.int .i64 0, .int .i64 0, .int .i64 45]) ∧ Below w.heap.size w w' := by
  have HB := Lib.hid (box_bel kd u G a d gp A B P nA cA nB cB nP cP w)
  have HH := Lib.hid h
  clear h
  go_enter Try.func18, Try.ntmps18
  go_wp2_with fail
  refine (has_no kd u G a d gp g A B P nA cA nB cB nP cP _ HH.out).mono ?_
  rintro e w1 ⟨rfl, hb1⟩
  have HB1 := Lib.hid (HB.out.trans (hb1.mono HB.out.size))
  clear hb1
  go_wp2_with fail
  go_ret3
  exact ⟨rfl, HB1.out⟩

set_option maxHeartbeats 1000000 in
theorem place_none (kd u G a d gp g : Int) (A B P : Option Addr) (nA cA nB cB cP : Nat) (w : World) (h1 : 0 ≤ g) (h2 : g < G) (h3 : G ≤ (nA : Int)) : Calls Try.prog 18 #[.agg #[.int .i64 kd, .int .i64 u, .int .i64 G, .int .i64 a, .int .i64 d, .int .i64 gp, .slice A nA cA, .slice B nB cB, .slice P 0 cP], .int .i64 g] w fun e w' => e = .returned (.tuple #[.int .i64 0, .int .i64 0, .int .i64 0]) ∧ Below w.heap.size w w' := by
  have HB := Lib.hid (box_bel kd u G a d gp A B P nA cA nB cB 0 cP w)
  have HX := Lib.hid (And.intro h1 (And.intro h2 h3))
  have hc8 : (w.alloc (.cells #[.int .i64 kd, .int .i64 u, .int .i64 G, .int .i64 a, .int .i64 d, .int .i64 gp, .slice A nA cA, .slice B nB cB, .slice P 0 cP] 35)).cell? ⟨w.heap.size, 8, none⟩ = some (.slice P 0 cP) := by simp [go_sem]
  clear h1 h2 h3
  go_enter Try.func18, Try.ntmps18
  go_wp2_with fail
  refine (has_yes kd u G a d gp g A B P nA cA nB cB 0 cP _ HX.out.1 HX.out.2.1 HX.out.2.2).mono ?_
  rintro e w1 ⟨rfl, hb1⟩
  have HB1 := Lib.hid (HB.out.trans (hb1.mono HB.out.size))
  have hc9 := keepC hb1 hc8
  clear hb1 hc8
  go_wp2_with fail
  go_ret3
  exact ⟨rfl, HB1.out⟩

set_option maxHeartbeats 1000000 in
theorem place_len (kd u G a d gp g : Int) (A B P : Option Addr) (nA cA nB cB nP cP : Nat) (w : World) (h1 : 0 ≤ g) (h2 : g < G) (h3 : G ≤ (nA : Int)) (h4 : ¬ (nP : Int) = 0) (h5 : ¬ (nP : Int) = wrap64 (G + 1)) : Calls Try.prog 18 #[.agg #[.int .i64 kd, .int .i64 u, .int .i64 G, .int .i64 a, .int .i64 d, .int .i64 gp, .slice A nA cA, .slice B nB cB, .slice P nP cP], .int .i64 g] w fun e w' => e = .returned (.tuple #[.int .i64 0, .int .i64 0, .int .i64 45]) ∧ Below w.heap.size w w' := by
  have HB := Lib.hid (box_bel kd u G a d gp A B P nA cA nB cB nP cP w)
  have HX := Lib.hid (And.intro h1 (And.intro h2 h3))
  have hc8 : (w.alloc (.cells #[.int .i64 kd, .int .i64 u, .int .i64 G, .int .i64 a, .int .i64 d, .int .i64 gp, .slice A nA cA, .slice B nB cB, .slice P nP cP] 35)).cell? ⟨w.heap.size, 8, none⟩ = some (.slice P nP cP) := by simp [go_sem]
  have hc2 : (w.alloc (.cells #[.int .i64 kd, .int .i64 u, .int .i64 G, .int .i64 a, .int .i64 d, .int .i64 gp, .slice A nA cA, .slice B nB cB, .slice P nP cP] 35)).cell? ⟨w.heap.size, 2, none⟩ = some (.int .i64 G) := by simp [go_sem]
  clear h1 h2 h3
  go_enter Try.func18, Try.ntmps18
  go_wp2_with fail
  refine (has_yes kd u G a d gp g A B P nA cA nB cB nP cP _ HX.out.1 HX.out.2.1 HX.out.2.2).mono ?_
  rintro e w1 ⟨rfl, hb1⟩
  have HB1 := Lib.hid (HB.out.trans (hb1.mono HB.out.size))
  have hc9 := keepC hb1 hc8
  have hc3 := keepC hb1 hc2
  clear hb1 hc8 hc2
  go_wp2_with fail
  go_ret3
  exact ⟨rfl, HB1.out⟩

set_option maxHeartbeats 2000000 in
theorem place_yes (kd u a d gp : Int) (k n N b0 o0 : Nat) (hN : N = n + 1) (x y : Int) (A B : Option Addr) (nA cA nB cB cP : Nat) (w : World) (h2 : k < n) (h3 : n ≤ nA) (hn : (n : Int) + 1 ≤ 9223372036854775807) (hx : w.cell? ⟨b0, o0 + k, none⟩ = some (.int .i64 x)) (hy : w.cell? ⟨b0, o0 + (k + 1), none⟩ = some (.int .i64 y)) :
    Calls Try.prog 18 #[.agg #[.int .i64 kd, .int .i64 u, .int .i64 n, .int .i64 a, .int .i64 d, .int .i64 gp, .slice A nA cA, .slice B nB cB, .slice (some ⟨b0, o0, none⟩) N cP], .int .i64 k] w fun e w' => e = .returned (.tuple #[.int .i64 x, .int .i64 (wrap64 (y - x)), .int .i64 0]) ∧ Below w.heap.size w w' := by
  have HB := Lib.hid (box_bel kd u n a d gp A B (some ⟨b0, o0, none⟩) nA cA nB cB N cP w)
  have HX := Lib.hid (And.intro h2 (And.intro h3 hN))
  have hw : wrap64 ((n : Int) + 1) = (N : Int) := by unfold wrap64; omega
  have hc8 : (w.alloc (.cells #[.int .i64 kd, .int .i64 u, .int .i64 n, .int .i64 a, .int .i64 d, .int .i64 gp, .slice A nA cA, .slice B nB cB, .slice (some ⟨b0, o0, none⟩) N cP] 35)).cell? ⟨w.heap.size, 8, none⟩ = some (.slice (some ⟨b0, o0, none⟩) N cP) := by simp [go_sem]
  have hc2 : (w.alloc (.cells #[.int .i64 kd, .int .i64 u, .int .i64 n, .int .i64 a, .int .i64 d, .int .i64 gp, .slice A nA cA, .slice B nB cB, .slice (some ⟨b0, o0, none⟩) N cP] 35)).cell? ⟨w.heap.size, 2, none⟩ = some (.int .i64 n) := by simp [go_sem]
  have hx1 := keepC HB.out hx
  have hy1 := keepC HB.out hy
  have HKN := Lib.hid hn
  have hne : ¬ (N : Int) = 0 := by omega
  clear h2 h3 hx hy hn hN
  go_enter Try.func18, Try.ntmps18
  go_wp2_with fail
  refine (has_yes kd u n a d gp k A B (some ⟨b0, o0, none⟩) nA cA nB cB N cP _ (by omega) (by have := HX.out; omega) (by have := HX.out; omega)).mono ?_
  rintro e w1 ⟨rfl, hb1⟩
  have HB1 := Lib.hid (HB.out.trans (hb1.mono HB.out.size))
  have HX2 := Lib.hid (keepC hb1 hx1)
  have HY2 := Lib.hid (keepC hb1 hy1)
  have hne2 : ((N : Int) == 0) = false := by simp; omega
  have hne3 : ((N : Int) != (N : Int)) = false := by simp
  clear hne
  have hc9 := keepC hb1 hc8
  have hc3 := keepC hb1 hc2
  clear hb1 hx1 hy1 hc8 hc2
  go_wp2_with fail
  have i1 : (k : Int) < (N : Int) := by have := HX.out; omega
  have i2 : (k : Int) + 1 < (N : Int) := by have := HX.out; omega
  have i3 : (0 : Int) ≤ (k : Int) + 1 := by omega
  have i4 : IntKind.i64.wrap ((k : Int) + 1) = (k : Int) + 1 := by have := HX.out; have := HKN.out; rw [IntWalk.i64_left]; unfold wrap64; omega
  have hx2 := HX2.out
  have hy2 := HY2.out
  go_quiet (fail)
  go_wp2_with fail
  go_ret3
  exact ⟨rfl, bel_drewN HB1.out _⟩

end Go.Proofs.Ytbcjicmledckbaa.metricAsks
