/-
  What begun of package path gives where no knot is on the curve and the first is cubic; what curveEnd gives.
-/
import Derived.Test.YthjhekmlhmljlaaPtO
namespace Go.Proofs.Ythjhekmlhmljlaa
open Go.RowKit Go.PlainAid
set_option linter.unusedSimpArgs false
set_option linter.unusedVariables false

set_option maxRecDepth 20000 in
set_option maxHeartbeats 2000000 in
theorem begun_err (a : Option Addr) (cap : Nat) (c : List Kn) (k l : Kn) (w : World) (hr : IsR clK w a c) (hn : c.length ≤ 4096) (hcap : c.length ≤ cap) (hi : firstOn c = none) (hk : c[0]? = some k) (hl : c[c.length - 1]? = some l) (h3 : k.k = 3) :
    Calls Try.prog 60 #[.slice a c.length cap] w fun e w' => e = .returned (.tuple #[.agg #[.int .i64 0, .int .i64 0], .slice none 0 0, .int .i64 61]) ∧ Below w.heap.size w w' := by
  have hlt : 0 < c.length := (List.getElem?_eq_some_iff.1 hk).1
  have HR := Lib.hid hr
  have HB0 : Hid (Below w.heap.size w (w.alloc (.cells #[.int .i64 0, .int .i64 0] 47))) := (Below.refl _ _).alloc (Nat.le_refl _) _
  have HIC := Lib.hid (indexFunc_c a cap c (w.alloc (.cells #[.int .i64 0, .int .i64 0] 47)) (hr.below HB0.out) hn)
  have HIX : Hid (idxI c = -1) := by unfold Hid idxI; rw [hi]
  rw [HIX.out] at HIC
  obtain ⟨b, off, rfl, k0, k1, k2⟩ := hr.knot hk
  obtain ⟨b', off', hbb, l0, l1, l2⟩ := hr.knot hl
  simp only [Option.some.injEq, Addr.mk.injEq] at hbb
  obtain ⟨rfl, rfl, _⟩ := hbb
  have HK := Lib.hid (And.intro k0 (And.intro k1 k2))
  have HLL := Lib.hid (And.intro l0 (And.intro l1 l2))
  have o0 : (w.alloc (.cells #[.int .i64 0, .int .i64 0] 47)).cell? ⟨w.heap.size, 0, none⟩ = some (.int .i64 0) := by simp [go_sem]
  have o1 : (w.alloc (.cells #[.int .i64 0, .int .i64 0] 47)).cell? ⟨w.heap.size, 1, none⟩ = some (.int .i64 0) := by simp [go_sem]
  have f0 : (w.alloc (.cells #[.int .i64 0, .int .i64 0] 47)).frozen? ⟨w.heap.size, 0, none⟩ = false := by simp [go_sem]
  have f1 : (w.alloc (.cells #[.int .i64 0, .int .i64 0] 47)).frozen? ⟨w.heap.size, 1, none⟩ = false := by simp [go_sem]
  have HO := Lib.hid (And.intro o0 (And.intro o1 (And.intro f0 f1)))
  have HCC := Lib.hid hcap
  obtain ⟨n, HNN⟩ : ∃ n, Hid (c.length = n) := ⟨_, rfl⟩
  rw [HNN.out] at hlt hn hcap HIC HLL
  rw [HNN.out]
  have q1 : (0 : Int) < (n : Int) := by omega
  have q5 : (n : Int) ≤ 4096 := by omega
  have q6 : (n : Int) - 1 < (n : Int) := by omega
  have q7 : (0 : Int) ≤ (n : Int) - 1 := by omega
  have e3 : (k.k == 3) = true := by simpa using h3
  clear hr hk hl hi k0 k1 k2 l0 l1 l2 o0 o1 f0 f1 hcap h3
  go_enter Try.func60, Try.ntmps60
  go_wp2_with fail
  refine HIC.out.mono ?_
  rintro e w1 ⟨rfl, hb1⟩
  have HB1 := Lib.hid (bel_next HB0.out hb1)
  have HO1 := Lib.hid (And.intro (keepC hb1 HO.out.1) (And.intro (keepC hb1 HO.out.2.1) (And.intro (keepF hb1 HO.out.1 HO.out.2.2.1) (keepF hb1 HO.out.2.1 HO.out.2.2.2))))
  have k0 : w1.cell? ⟨b, off, none⟩ = some (.int .i64 k.x) := by have := keepC HB1.out HK.out.1; simpa using this
  have k1 : w1.cell? ⟨b, off + 1, none⟩ = some (.int .i64 k.y) := by have := keepC HB1.out HK.out.2.1; simpa using this
  have k2 : w1.cell? ⟨b, off + 2, none⟩ = some (.int .i64 k.k) := by have := keepC HB1.out HK.out.2.2; simpa using this
  have l0 := keepC HB1.out HLL.out.1
  have l1 := keepC HB1.out HLL.out.2.1
  have l2 := keepC HB1.out HLL.out.2.2
  clear hb1 HIC HO HB0
  have hbl : b < w1.heap.size := World.block_lt_of_cell? w1 _ k0
  have hbn : ¬ b = w1.heap.size := by omega
  have hbn2 : ¬ b = w1.heap.size + 1 := by omega
  have hbn3 : ¬ w1.heap.size = b := by omega
  have hbn4 : ¬ w1.heap.size + 1 = b := by omega
  have q8 : (1 : Int) ≤ (n : Int) := by omega
  have t1 : ((n : Int) - 1).toNat = n - 1 := by omega
  have t2 : IntKind.i64.wrap ((n : Int) - 1) = (n : Int) - 1 := IntWalk.i64_in _ (by omega)
  go_wp2_with fail
  go_region
  all_goals
    have o0 := HO1.out.1
    have o1 := HO1.out.2.1
    have f0 := HO1.out.2.2.1
    have f1 := HO1.out.2.2.2
    have hg1 : w.heap.size < w1.heap.size := World.block_lt_of_cell? w1 _ o0
    have hg2 : ¬ w.heap.size = w1.heap.size := by omega
    have hg3 : ¬ w.heap.size = w1.heap.size + 1 := by omega
    have hg4 : ¬ w1.heap.size = w.heap.size := by omega
    have hg5 : ¬ w1.heap.size + 1 = w.heap.size := by omega
    go_wp2_with fail
    refine bodyPost_ret (v := .tuple #[.agg #[.int .i64 0, .int .i64 0], .slice none 0 0, .int .i64 61]) (by simp [results, Try.results60, go_sem, o0, o1, hg1, hg2, hg3, hg4, hg5]) rfl ⟨rfl, ?_⟩
    refine (bel_alloc (bel_alloc (bel_set (bel_set HB1.out ?_ _) ?_ _) _) _).drew <;> omega

end Go.Proofs.Ythjhekmlhmljlaa
