/-
  What Hull of the document's answer gives: the least box of points. For rows of any size that memory holds.
-/
import Derived.Test.YthjhekmlhmljlaaHlG
namespace Go.Proofs.Ythjhekmlhmljlaa
open Go.RowKit Go.PlainAid
set_option linter.unusedSimpArgs false
set_option linter.unusedVariables false

theorem hull_first (p : Sp) : hullB [p] = ⟨p.x, p.y, p.x, p.y⟩ := rfl

set_option maxRecDepth 20000 in
set_option maxHeartbeats 4000000 in
theorem refhull_c (a : Option Addr) (cap : Nat) (l : List Sp) (w : World) (hr : IsR clS w a l) (hl : l.length ≤ 140737488355328) :
    Calls Try.prog 20 #[.slice a l.length cap] w fun e w' => e = .returned (.tuple #[bxV (hullB l), .bool (anyS l)]) ∧ Below w.heap.size w w' := by
  have HR := Lib.hid hr
  have HL := Lib.hid hl
  have HB0 : Hid (Below w.heap.size w ((w.alloc (.cells #[.int .i64 0, .int .i64 0, .int .i64 0, .int .i64 0] 50)).alloc (.cells #[.int .i64 0, .int .i64 0, .int .i64 0, .int .i64 0] 50))) := bel_alloc ((Below.refl _ _).alloc (Nat.le_refl _) _) _
  have HX0 : Hid (BoxAt ((w.alloc (.cells #[.int .i64 0, .int .i64 0, .int .i64 0, .int .i64 0] 50)).alloc (.cells #[.int .i64 0, .int .i64 0, .int .i64 0, .int .i64 0] 50)) (w.heap.size + 1) ⟨0, 0, 0, 0⟩) := by have h := boxAt_new (w.alloc (.cells #[.int .i64 0, .int .i64 0, .int .i64 0, .int .i64 0] 50)); rwa [show (w.alloc (.cells #[.int .i64 0, .int .i64 0, .int .i64 0, .int .i64 0] 50)).heap.size = w.heap.size + 1 by simp] at h
  have HR0 : Hid (BoxAt ((w.alloc (.cells #[.int .i64 0, .int .i64 0, .int .i64 0, .int .i64 0] 50)).alloc (.cells #[.int .i64 0, .int .i64 0, .int .i64 0, .int .i64 0] 50)) w.heap.size ⟨0, 0, 0, 0⟩) := (boxAt_new w).below ((Below.refl _ _).alloc (Nat.le_refl _) _)
  clear hr hl
  go_enter Try.func20, Try.ntmps20
  go_wp2_with fail
  go_loopw [10] (fun x wr => ∃ i : Nat, i ≤ l.length ∧ x = .int .i64 i ∧ Hid (BoxAt wr (w.heap.size + 1) (hullB (l.take i))) ∧ Hid (BoxAt wr w.heap.size ⟨0, 0, 0, 0⟩) ∧ Hid (Below w.heap.size w wr)) (fun x _ => l.length - (intOf x).toNat)
  case atStart => exact ⟨0, Nat.zero_le _, rfl, HX0, HR0, HB0⟩
  case round =>
    clear HB0 HX0 HR0
    obtain ⟨i, hi, rfl, HX, HRB, HB⟩ := hrel
    by_cases hlt : i < l.length
    · have hlt' : (i : Int) < (l.length : Int) := by omega
      obtain ⟨p, hp⟩ := get_of hlt
      obtain ⟨kb, ko, rfl, k0, k1⟩ := (HR.out.below HB.out).spot hp
      have HLT := Lib.hid hlt
      have HXI := Lib.hid (next64 (j := i) (by have := HL.out; omega))
      have HTS : Hid (l.take (i + 1) = l.take i ++ [p]) := by unfold Hid; rw [List.take_add_one, hp]; rfl
      have HN3 : Hid (Below wr.heap.size wr (wr.alloc (.cells #[.int .i64 p.x, .int .i64 p.y] 47))) := (Below.refl _ _).alloc (Nat.le_refl _) _
      have HB3 := Lib.hid (bel_next HB.out HN3.out)
      have HX3 := Lib.hid (HX.out.below HN3.out)
      have HR3 := Lib.hid (HRB.out.below HN3.out)
      have HS3 : Hid (SpotAt (wr.alloc (.cells #[.int .i64 p.x, .int .i64 p.y] 47)) wr.heap.size p) := heap_alloc_new wr _
      have HG : Hid (w.heap.size + 1 < wr.heap.size) := HX.out.lt
      have hne : ¬ wr.heap.size = w.heap.size + 1 := by have := HG.out; omega
      have hnf : ¬ w.heap.size + 1 = wr.heap.size := fun h => hne h.symm
      clear hp hi hlt
      by_cases hi0 : i = 0
      · subst hi0
        simp only [Nat.zero_mul, Nat.add_zero] at k0 k1
        have HU : Hid (hullB (l.take (0 + 1)) = ⟨p.x, p.y, p.x, p.y⟩) := by unfold Hid; rw [HTS.out]; simp [hullB]
        obtain ⟨q0, q1, q2, q3⟩ := HX3.out.cells
        have f0 := HX3.out.fr 0
        have f1 := HX3.out.fr 1
        have f2 := HX3.out.fr 2
        have f3 := HX3.out.fr 3
        go_wp2_with fail
        go_roundw
        case rel => exact ⟨0 + 1, HLT.out, by first | rw [HXI.out] | go_num, (by unfold Hid; rw [HU.out]; exact ((((HX3.out.set0 _).set1 _).set2 _).set3 _)), HR3.out.up.up.up.up, (bel_up (bel_up (bel_up (bel_up HB3.out))))⟩
        case measure => (try rw [HXI.out]); have := HLT.out; simp only [intOf]; omega
      · have hne : ((i : Int) == 0) = false := by simpa using hi0
        have hz0 : ¬ i = 0 := hi0
        have HU : Hid (hullB (l.take (i + 1)) = growB (hullB (l.take i)) p) := by
          unfold Hid
          rw [HTS.out]
          refine hullB_snoc (fun e => ?_) p
          have h1 := congrArg List.length e
          rw [List.length_take, List.length_nil] at h1
          have h2 := HLT.out
          omega
        obtain ⟨⟨x0, y0, x1, y1⟩, HBQ⟩ : ∃ Bq, Hid (hullB (l.take i) = Bq) := ⟨_, rfl⟩
        rw [HBQ.out] at HU HX3
        have HGB : Hid (growB ⟨x0, y0, x1, y1⟩ p = ⟨if p.x < x0 then p.x else x0, if p.y < y0 then p.y else y0, if x1 < p.x then p.x else x1, if y1 < p.y then p.y else y1⟩) := rfl
        obtain ⟨q0, q1, q2, q3⟩ := HX3.out.cells
        try simp only at q0 q1 q2 q3
        have f0 := HX3.out.fr 0
        have f1 := HX3.out.fr 1
        have f2 := HX3.out.fr 2
        have f3 := HX3.out.fr 3
        by_cases h0 : p.x < x0
        · by_cases h1 : p.y < y0
          · by_cases h2 : x1 < p.x
            · by_cases h3 : y1 < p.y
              · have HNX : Hid (hullB (l.take (i + 1)) = ⟨p.x, p.y, p.x, p.y⟩) := by unfold Hid; rw [HU.out, HGB.out]; simp only [h0, h1, h2, h3, if_true, if_false]
                go_wp2_with fail
                go_roundw
                case rel => exact ⟨i + 1, HLT.out, by first | rw [HXI.out] | go_num, (by unfold Hid; rw [HNX.out]; exact ((((HX3.out.set0 _).set1 _).set2 _).set3 _)), HR3.out.up.up.up.up, (bel_up (bel_up (bel_up (bel_up HB3.out))))⟩
                case measure => (try rw [HXI.out]); have := HLT.out; simp only [intOf]; omega
              · have HNX : Hid (hullB (l.take (i + 1)) = ⟨p.x, p.y, p.x, y1⟩) := by unfold Hid; rw [HU.out, HGB.out]; simp only [h0, h1, h2, h3, if_true, if_false]
                go_wp2_with fail
                go_roundw
                case rel => exact ⟨i + 1, HLT.out, by first | rw [HXI.out] | go_num, (by unfold Hid; rw [HNX.out]; exact (((HX3.out.set0 _).set1 _).set2 _)), HR3.out.up.up.up, (bel_up (bel_up (bel_up HB3.out)))⟩
                case measure => (try rw [HXI.out]); have := HLT.out; simp only [intOf]; omega
            · by_cases h3 : y1 < p.y
              · have HNX : Hid (hullB (l.take (i + 1)) = ⟨p.x, p.y, x1, p.y⟩) := by unfold Hid; rw [HU.out, HGB.out]; simp only [h0, h1, h2, h3, if_true, if_false]
                go_wp2_with fail
                go_roundw
                case rel => exact ⟨i + 1, HLT.out, by first | rw [HXI.out] | go_num, (by unfold Hid; rw [HNX.out]; exact (((HX3.out.set0 _).set1 _).set3 _)), HR3.out.up.up.up, (bel_up (bel_up (bel_up HB3.out)))⟩
                case measure => (try rw [HXI.out]); have := HLT.out; simp only [intOf]; omega
              · have HNX : Hid (hullB (l.take (i + 1)) = ⟨p.x, p.y, x1, y1⟩) := by unfold Hid; rw [HU.out, HGB.out]; simp only [h0, h1, h2, h3, if_true, if_false]
                go_wp2_with fail
                go_roundw
                case rel => exact ⟨i + 1, HLT.out, by first | rw [HXI.out] | go_num, (by unfold Hid; rw [HNX.out]; exact ((HX3.out.set0 _).set1 _)), HR3.out.up.up, (bel_up (bel_up HB3.out))⟩
                case measure => (try rw [HXI.out]); have := HLT.out; simp only [intOf]; omega
          · by_cases h2 : x1 < p.x
            · by_cases h3 : y1 < p.y
              · have HNX : Hid (hullB (l.take (i + 1)) = ⟨p.x, y0, p.x, p.y⟩) := by unfold Hid; rw [HU.out, HGB.out]; simp only [h0, h1, h2, h3, if_true, if_false]
                go_wp2_with fail
                go_roundw
                case rel => exact ⟨i + 1, HLT.out, by first | rw [HXI.out] | go_num, (by unfold Hid; rw [HNX.out]; exact (((HX3.out.set0 _).set2 _).set3 _)), HR3.out.up.up.up, (bel_up (bel_up (bel_up HB3.out)))⟩
                case measure => (try rw [HXI.out]); have := HLT.out; simp only [intOf]; omega
              · have HNX : Hid (hullB (l.take (i + 1)) = ⟨p.x, y0, p.x, y1⟩) := by unfold Hid; rw [HU.out, HGB.out]; simp only [h0, h1, h2, h3, if_true, if_false]
                go_wp2_with fail
                go_roundw
                case rel => exact ⟨i + 1, HLT.out, by first | rw [HXI.out] | go_num, (by unfold Hid; rw [HNX.out]; exact ((HX3.out.set0 _).set2 _)), HR3.out.up.up, (bel_up (bel_up HB3.out))⟩
                case measure => (try rw [HXI.out]); have := HLT.out; simp only [intOf]; omega
            · by_cases h3 : y1 < p.y
              · have HNX : Hid (hullB (l.take (i + 1)) = ⟨p.x, y0, x1, p.y⟩) := by unfold Hid; rw [HU.out, HGB.out]; simp only [h0, h1, h2, h3, if_true, if_false]
                go_wp2_with fail
                go_roundw
                case rel => exact ⟨i + 1, HLT.out, by first | rw [HXI.out] | go_num, (by unfold Hid; rw [HNX.out]; exact ((HX3.out.set0 _).set3 _)), HR3.out.up.up, (bel_up (bel_up HB3.out))⟩
                case measure => (try rw [HXI.out]); have := HLT.out; simp only [intOf]; omega
              · have HNX : Hid (hullB (l.take (i + 1)) = ⟨p.x, y0, x1, y1⟩) := by unfold Hid; rw [HU.out, HGB.out]; simp only [h0, h1, h2, h3, if_true, if_false]
                go_wp2_with fail
                go_roundw
                case rel => exact ⟨i + 1, HLT.out, by first | rw [HXI.out] | go_num, (by unfold Hid; rw [HNX.out]; exact (HX3.out.set0 _)), HR3.out.up, (bel_up HB3.out)⟩
                case measure => (try rw [HXI.out]); have := HLT.out; simp only [intOf]; omega
        · by_cases h1 : p.y < y0
          · by_cases h2 : x1 < p.x
            · by_cases h3 : y1 < p.y
              · have HNX : Hid (hullB (l.take (i + 1)) = ⟨x0, p.y, p.x, p.y⟩) := by unfold Hid; rw [HU.out, HGB.out]; simp only [h0, h1, h2, h3, if_true, if_false]
                go_wp2_with fail
                go_roundw
                case rel => exact ⟨i + 1, HLT.out, by first | rw [HXI.out] | go_num, (by unfold Hid; rw [HNX.out]; exact (((HX3.out.set1 _).set2 _).set3 _)), HR3.out.up.up.up, (bel_up (bel_up (bel_up HB3.out)))⟩
                case measure => (try rw [HXI.out]); have := HLT.out; simp only [intOf]; omega
              · have HNX : Hid (hullB (l.take (i + 1)) = ⟨x0, p.y, p.x, y1⟩) := by unfold Hid; rw [HU.out, HGB.out]; simp only [h0, h1, h2, h3, if_true, if_false]
                go_wp2_with fail
                go_roundw
                case rel => exact ⟨i + 1, HLT.out, by first | rw [HXI.out] | go_num, (by unfold Hid; rw [HNX.out]; exact ((HX3.out.set1 _).set2 _)), HR3.out.up.up, (bel_up (bel_up HB3.out))⟩
                case measure => (try rw [HXI.out]); have := HLT.out; simp only [intOf]; omega
            · by_cases h3 : y1 < p.y
              · have HNX : Hid (hullB (l.take (i + 1)) = ⟨x0, p.y, x1, p.y⟩) := by unfold Hid; rw [HU.out, HGB.out]; simp only [h0, h1, h2, h3, if_true, if_false]
                go_wp2_with fail
                go_roundw
                case rel => exact ⟨i + 1, HLT.out, by first | rw [HXI.out] | go_num, (by unfold Hid; rw [HNX.out]; exact ((HX3.out.set1 _).set3 _)), HR3.out.up.up, (bel_up (bel_up HB3.out))⟩
                case measure => (try rw [HXI.out]); have := HLT.out; simp only [intOf]; omega
              · have HNX : Hid (hullB (l.take (i + 1)) = ⟨x0, p.y, x1, y1⟩) := by unfold Hid; rw [HU.out, HGB.out]; simp only [h0, h1, h2, h3, if_true, if_false]
                go_wp2_with fail
                go_roundw
                case rel => exact ⟨i + 1, HLT.out, by first | rw [HXI.out] | go_num, (by unfold Hid; rw [HNX.out]; exact (HX3.out.set1 _)), HR3.out.up, (bel_up HB3.out)⟩
                case measure => (try rw [HXI.out]); have := HLT.out; simp only [intOf]; omega
          · by_cases h2 : x1 < p.x
            · by_cases h3 : y1 < p.y
              · have HNX : Hid (hullB (l.take (i + 1)) = ⟨x0, y0, p.x, p.y⟩) := by unfold Hid; rw [HU.out, HGB.out]; simp only [h0, h1, h2, h3, if_true, if_false]
                go_wp2_with fail
                go_roundw
                case rel => exact ⟨i + 1, HLT.out, by first | rw [HXI.out] | go_num, (by unfold Hid; rw [HNX.out]; exact ((HX3.out.set2 _).set3 _)), HR3.out.up.up, (bel_up (bel_up HB3.out))⟩
                case measure => (try rw [HXI.out]); have := HLT.out; simp only [intOf]; omega
              · have HNX : Hid (hullB (l.take (i + 1)) = ⟨x0, y0, p.x, y1⟩) := by unfold Hid; rw [HU.out, HGB.out]; simp only [h0, h1, h2, h3, if_true, if_false]
                go_wp2_with fail
                go_roundw
                case rel => exact ⟨i + 1, HLT.out, by first | rw [HXI.out] | go_num, (by unfold Hid; rw [HNX.out]; exact (HX3.out.set2 _)), HR3.out.up, (bel_up HB3.out)⟩
                case measure => (try rw [HXI.out]); have := HLT.out; simp only [intOf]; omega
            · by_cases h3 : y1 < p.y
              · have HNX : Hid (hullB (l.take (i + 1)) = ⟨x0, y0, x1, p.y⟩) := by unfold Hid; rw [HU.out, HGB.out]; simp only [h0, h1, h2, h3, if_true, if_false]
                go_wp2_with fail
                go_roundw
                case rel => exact ⟨i + 1, HLT.out, by first | rw [HXI.out] | go_num, (by unfold Hid; rw [HNX.out]; exact (HX3.out.set3 _)), HR3.out.up, (bel_up HB3.out)⟩
                case measure => (try rw [HXI.out]); have := HLT.out; simp only [intOf]; omega
              · have HNX : Hid (hullB (l.take (i + 1)) = ⟨x0, y0, x1, y1⟩) := by unfold Hid; rw [HU.out, HGB.out]; simp only [h0, h1, h2, h3, if_true, if_false]
                go_wp2_with fail
                go_roundw
                case rel => exact ⟨i + 1, HLT.out, by first | rw [HXI.out] | go_num, (by unfold Hid; rw [HNX.out]; exact HX3.out), HR3.out, HB3.out⟩
                case measure => (try rw [HXI.out]); have := HLT.out; simp only [intOf]; omega
    · have hlt' : ¬ (i : Int) < (l.length : Int) := by omega
      obtain rfl : i = l.length := by omega
      rw [List.take_length] at HX
      obtain ⟨Bq, HBQ⟩ : ∃ Bq, Hid (hullB l = Bq) := ⟨_, rfl⟩
      rw [HBQ.out] at HX
      obtain ⟨q0, q1, q2, q3⟩ := HX.out.cells
      obtain ⟨r0, r1, r2, r3⟩ := HRB.out.cells
      have f0 := HRB.out.fr 0
      have f1 := HRB.out.fr 1
      have f2 := HRB.out.fr 2
      have f3 := HRB.out.fr 3
      by_cases hn : 0 < l.length
      · have hn' : (0 : Int) < (l.length : Int) := by omega
        have HA : Hid (anyS l = true) := by simpa [anyS, Hid] using hn
        go_wp2_with fail
        refine bodyPost_ret (v := .tuple #[.agg #[.int .i64 Bq.x0, .int .i64 Bq.y0, .int .i64 Bq.x1, .int .i64 Bq.y1], .bool true]) (by simp [results, Try.results20, go_sem, r0, r1, r2, r3]) rfl ⟨by rw [HBQ.out, HA.out]; rfl, ?_⟩
        exact (bel_at (bel_at (bel_at (bel_at HB.out))))
      · have hn' : ¬ (0 : Int) < (l.length : Int) := by omega
        have HA : Hid (anyS l = false) := by simpa [anyS, Hid] using hn
        go_wp2_with fail
        refine bodyPost_ret (v := .tuple #[.agg #[.int .i64 Bq.x0, .int .i64 Bq.y0, .int .i64 Bq.x1, .int .i64 Bq.y1], .bool false]) (by simp [results, Try.results20, go_sem, r0, r1, r2, r3]) rfl ⟨by rw [HBQ.out, HA.out]; rfl, ?_⟩
        exact (bel_at (bel_at (bel_at (bel_at HB.out))))

end Go.Proofs.Ythjhekmlhmljlaa
