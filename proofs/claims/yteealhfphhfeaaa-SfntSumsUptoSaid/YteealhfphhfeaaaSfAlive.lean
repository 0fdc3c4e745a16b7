/-
  The chapter's examples that every statement of layer 3 asks first: sfntAlive answers true, in every world; nothing that was there is changed.
-/
import Derived.Test.YteealhfphhfeaaaSfBuild
namespace Go.Proofs.Yteealhfphhfeaaa
open Go.RowKit Go.PlainAid
set_option linter.unusedSimpArgs false
set_option linter.unusedVariables false

theorem file_open : openOf fileB 0 = (0, some (1, [⟨⟨#[97, 98, 99, 100]⟩, 28, 1⟩])) := by kernel_rfl

def fiveB : ByteArray := ⟨#[1, 2, 3, 4, 5]⟩
theorem five_sum : sumB fiveB = 100795140 := by decide +kernel
theorem five_isB (w : World) : IsB (w.alloc (.cells #[.int .u8 1, .int .u8 2, .int .u8 3, .int .u8 4, .int .u8 5] 5)) (some ⟨w.heap.size, 0, none⟩) 5 5 fiveB := by
  refine ⟨rfl, Nat.le_refl _, .inr ⟨_, _, rfl, fun i hi => ?_⟩⟩
  have : i = 0 ∨ i = 1 ∨ i = 2 ∨ i = 3 ∨ i = 4 := by omega
  rcases this with rfl | rfl | rfl | rfl | rfl <;> simp [go_sem] <;> decide +kernel

set_option maxHeartbeats 1000000 in
theorem alive_c (w : World) : Calls Try.prog 5 #[] w fun e w' => e = .returned (.bool true) ∧ Below w.heap.size w w' := by
  have HP : Hid (Pc ((w.alloc (.cells #[.int .u8 9] 5)).alloc (.cells #[.string ⟨#[97, 98, 99, 100]⟩, .slice (some ⟨w.heap.size, 0, none⟩) 1 1] 30)) (w.heap.size + 1) w.heap.size) := by
    refine ⟨?_, ?_, ?_⟩ <;> simp [go_sem]
  have HW0 : Hid (Below w.heap.size w ((w.alloc (.cells #[.int .u8 9] 5)).alloc (.cells #[.string ⟨#[97, 98, 99, 100]⟩, .slice (some ⟨w.heap.size, 0, none⟩) 1 1] 30))) :=
    ((Below.refl _ _).alloc (Nat.le_refl _) _).alloc (by simp) _
  go_enter Try.func5, Try.ntmps5
  go_wp2_with fail
  refine (build1_c _ _ _ HP.out).mono ?_
  rintro e w1 ⟨g, rfl, hf1⟩
  have HW1 := Lib.hid (HW0.out.trans (hf1.bel.mono HW0.out.size))
  have HI1 := Lib.hid hf1.isB
  clear hf1 HP HW0
  go_wp2_with fail
  refine (sum_c _ 5 5 fiveB _ (five_isB w1) (by decide)).mono ?_
  rintro e w2 ⟨rfl, hw2⟩
  have HW2 : Hid (Below w.heap.size w w2) := by rw [← hw2]; exact HW1.out.alloc HW1.out.size _
  have HI2 : Hid (IsB w2 (some ⟨g, 0, none⟩) 32 32 fileB) := by rw [← hw2]; exact HI1.out.below ((Below.refl _ _).alloc (Nat.le_refl _) _)
  clear hw2 HW1 HI1
  rw [five_sum]
  go_wp2_with fail
  refine (open_c (some ⟨g, 0, none⟩) 32 0 fileB w2 HI2.out).mono ?_
  intro e w3 hpost
  unfold OpenPost at hpost
  rw [file_open] at hpost
  obtain ⟨⟨gf, rfl, hfont⟩, hb3⟩ := hpost
  have HF := Lib.hid hfont
  have HW3 := Lib.hid (HW2.out.trans (hb3.mono HW2.out.size))
  clear hfont hb3
  go_wp2_with fail
  refine (kind_c _ gf _ _ _ w3 HF.out).mono ?_
  rintro e w4 ⟨rfl, rfl⟩
  go_wp2_with fail
  refine (tablesOf_c _ gf _ _ _ w3 HF.out).mono ?_
  rintro e w4 ⟨rfl, hb4⟩
  have HW4 := Lib.hid (HW3.out.trans (hb4.mono HW3.out.size))
  clear hb4
  go_wp2_with fail
  go_ret
  exact ⟨rfl, HW4.out⟩

end Go.Proofs.Yteealhfphhfeaaa
