/-
  The document's SameOutline of two outlines that are the same.
-/
import Derived.Test.YtklenppldblbdaaGk
namespace Go.Proofs.Ytklenppldblbdaa
open Go.RowKit Go.PlainAid
set_option linter.unusedSimpArgs false
set_option linter.unusedVariables false

set_option maxRecDepth 20000 in
set_option maxHeartbeats 2000000 in
theorem sameOutline_c (a b : Option Addr) (ca cb : Nat) (O : List (List Kn)) (w : World) (h1 : IsO clK w a O) (h2 : IsO clK w b O) (hl : LongA O) :
    Calls Try.prog 12 #[.slice a O.length ca, .slice b O.length cb] w fun e w' => e = .returned (.bool true) ∧ Below w.heap.size w w' := by
  have H1 := Lib.hid h1
  have H2 := Lib.hid h2
  have HL := Lib.hid hl
  obtain ⟨n, HN⟩ : ∃ n, Hid (O.length = n) := ⟨_, rfl⟩
  rw [HN.out]
  clear h1 h2 hl
  go_enter Try.func12, Try.ntmps12
  go_wp2_with fail
  go_loopw [14] (fun x wr => ∃ i : Nat, i ≤ n ∧ x = .int .i64 i ∧ Hid (Below w.heap.size w wr)) (fun x _ => n - (intOf x).toNat)
  case atStart => exact ⟨0, Nat.zero_le _, rfl, Below.refl _ _⟩
  case round =>
    obtain ⟨i, hi, rfl, HB⟩ := hrel
    by_cases hlt : i < n
    · have hlt' : (i : Int) < (n : Int) := by omega
      have hi0 : (0 : Int) ≤ (i : Int) := by omega
      obtain ⟨c, hcc⟩ := get_of (show i < O.length by rw [HN.out]; exact hlt)
      obtain ⟨b1, o1, a1, c1, rfl, x1, _, r1⟩ := (H1.out.below HB.out).at hcc
      obtain ⟨b2, o2, a2, c2, rfl, x2, _, r2⟩ := (H2.out.below HB.out).at hcc
      have HR1 := Lib.hid r1
      have HR2 := Lib.hid r2
      have HX1 := Lib.hid x1
      have HX2 := Lib.hid x2
      obtain ⟨m, HM⟩ : ∃ m, Hid (c.length = m) := ⟨_, rfl⟩
      have HCL : Hid (m ≤ 140737488355328) := by have := HL.out.2 c (List.mem_of_getElem? hcc); rw [HM.out] at this; exact this
      have HLT := Lib.hid hlt
      have HX := Lib.hid (next64 (j := i) (by have := HL.out.1; have := HN.out; omega))
      rw [HM.out] at x1 x2 HX1 HX2
      clear r1 r2 hcc hi hlt
      go_wp2_with fail
      go_quiet (fail)
      have hbq : Below wr.heap.size wr (wr.drewN nq) := bel_drewN (Below.refl _ _) _
      have HBq := Lib.hid hbq
      have y1 := keepC hbq x1
      clear hbq x1 x2
      go_wp2_with fail
      generalize hwo : wr = wo at *
      clear hwo y1
      go_loopw [33] (fun x wr => ∃ j : Nat, j ≤ m ∧ x = .int .i64 j ∧ Hid (Below wo.heap.size wo wr)) (fun x _ => m - (intOf x).toNat)
      case atStart => exact ⟨0, Nat.zero_le _, rfl, HBq⟩
      case round =>
        clear HBq
        obtain ⟨j, hj, rfl, HB2⟩ := hrel
        by_cases hl2 : j < m
        · have hl2' : (j : Int) < (m : Int) := by omega
          have hj0 : (0 : Int) ≤ (j : Int) := by omega
          obtain ⟨k, hk⟩ := get_of (show j < c.length by rw [HM.out]; exact hl2)
          obtain ⟨p1, q1, rfl, e0, e1, e2⟩ := (HR1.out.below HB2.out).knot hk
          obtain ⟨p2, q2, rfl, f0, f1, f2⟩ := (HR2.out.below HB2.out).knot hk
          have x1 := keepC HB2.out HX1.out
          have x2 := keepC HB2.out HX2.out
          have HX3 := Lib.hid (next64 (j := j) (by have := HCL.out; omega))
          have HL2 := Lib.hid hl2
          clear hk hj hl2
          go_wp2_with fail
          go_quiet (fail)
          have HB3 : Hid (Below wo.heap.size wo (wr.drewN nq)) := bel_drewN HB2.out _
          clear x1 x2
          go_wp2_with fail
          go_roundw
          case rel => exact ⟨j + 1, HL2.out, by rw [HX3.out], HB3⟩
          case measure => rw [HX3.out]; have := HL2.out; simp only [intOf]; omega
        · have hl2' : ¬ (j : Int) < (m : Int) := by omega
          have HBE := Lib.hid (bel_next HB.out HB2.out)
          clear hl2 hj
          go_wp2_with fail
          go_roundw
          case rel => exact ⟨i + 1, HLT.out, by rw [HX.out], HBE⟩
          case measure => rw [HX.out]; have := HLT.out; simp only [intOf]; omega
    · have hlt' : ¬ (i : Int) < (n : Int) := by omega
      clear hlt hi
      go_wp2_with fail
      go_ret
      exact ⟨rfl, HB.out⟩

end Go.Proofs.Ytklenppldblbdaa
