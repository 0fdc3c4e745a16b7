/-
  The document's Copy and SameOutline, slices.Grow of knots.
-/
import Derived.Test.YtnoadceeenioeaaZk
namespace Go.Proofs.Ytnoadceeenioeaa
open Go.RowKit Go.PlainAid
set_option linter.unusedSimpArgs false
set_option linter.unusedVariables false

/-- What Copy answers. -/
def CopyPost (w : World) (O : List (List Kn)) (e : Ending) (w' : World) : Prop := ∃ g c vs, e = .returned (.slice (some ⟨g, 0, none⟩) O.length c) ∧ w'.ownsRow w.heap.size 57 1 (.slice (some ⟨g, 0, none⟩) O.length c) O.length vs ∧ RowsOwn w' w.heap.size g vs O ∧ Below w.heap.size w w'

set_option maxRecDepth 20000 in
set_option maxHeartbeats 2000000 in
theorem copy_c (a : Option Addr) (cap : Nat) (O : List (List Kn)) (w : World) (ho : IsO clK w a O) (hl : Long O) : Calls Try.prog 14 #[.slice a O.length cap] w (CopyPost w O) := by
  have HO := Lib.hid ho
  have HL := Lib.hid hl
  have HO1 := Lib.hid (World.ownsRow_lit (base := w.heap.size) (e := 57) (size := 1) w #[] 0 (Nat.le_refl _) (by decide) rfl)
  clear ho hl
  go_enter Try.func14, Try.ntmps14
  go_wp2_with fail
  go_loopw [3, 10] (fun v x wr => ∃ i g c : Nat, ∃ vs, i ≤ O.length ∧ v = .slice (some ⟨g, 0, none⟩) i c ∧ x = .int .i64 i ∧ Hid (wr.ownsRow w.heap.size 57 1 (.slice (some ⟨g, 0, none⟩) i c) i vs) ∧
    Hid (RowsOwn wr w.heap.size g vs (O.take i)) ∧ Hid (Below w.heap.size w wr)) (fun _ x _ => O.length - (intOf x).toNat)
  case atStart => exact ⟨0, _, _, [], Nat.zero_le _, rfl, rfl, HO1, ⟨rfl, fun i c h => by simp at h⟩, (Below.refl _ _).alloc (Nat.le_refl _) _⟩
  case round =>
    obtain ⟨i, g, c, vs, hi, rfl, rfl, HW, HV, HB⟩ := hrel
    by_cases hlt : i < O.length
    · have hlt' : (i : Int) < (O.length : Int) := by omega
      obtain ⟨d, hd⟩ := get_of hlt
      obtain ⟨b, off, ai, ci, rfl, c0, hci, hr⟩ := (HO.out.below HB.out).at hd
      have HD := Lib.hid hd
      have HR := Lib.hid hr
      have HLT := Lib.hid hlt
      have HE := Lib.hid (World.ownsRow_lit (base := w.heap.size) (e := 59) (size := 3) wr #[] 0 HB.out.size (by decide) rfl)
      have HB2 := Lib.hid (bel_alloc HB.out (.cells #[] 59))
      have HDL : Hid (d.length ≤ 5864062014805) := HL.out.2 d (List.mem_of_getElem? hd)
      clear hd hr hi hlt hci
      have HI : Hid (i + 1 ≤ 5864062014805) := by have := HL.out.1; have := HLT.out; unfold Hid; omega
      go_wp2_with (at_builtin; first
        | (refine wpList_app elK rfl _ _ rfl (wr.alloc (.cells #[] 59)) w.heap.size wr.heap.size 0 0 [] ai d.length ci (d.flatMap clK) rfl rfl HE.out (flat_length clK_length d) (isR_src (HR.out.below ((Below.refl _ _).alloc (Nat.le_refl _) _))) clK_one (by have := HDL.out; omega) (by have := HDL.out; omega) HB2.out.size ?_; intro g2 c2 w2 ho2 hg2 hat2; rw [Nat.zero_add, List.nil_append] at ho2; rw [Nat.zero_add])
        | (refine wpList_app elKK rfl _ _ rfl (w2.alloc (.cells #[.slice (some ⟨g2, 0, none⟩) d.length c2] 57)) w.heap.size g c i vs (some ⟨w2.heap.size, 0, none⟩) 1 1 [.slice (some ⟨g2, 0, none⟩) d.length c2] rfl rfl ((own_below HW.out (belGrown ((Below.refl wr.heap.size wr).alloc (Nat.le_refl _) (.cells #[] 59)) hg2 (Nat.le_refl _) (by simp))).alloc _) rfl (.inr ⟨_, 0, rfl, lies_new (w := w2) (cs := #[.slice (some ⟨g2, 0, none⟩) d.length c2]) (T := 57)⟩) (by simp [Value.oneCell']) (by have := HI.out; omega) (by have := HI.out; omega) (by have := (bel_to HB.out (belGrown ((Below.refl wr.heap.size wr).alloc (Nat.le_refl _) (.cells #[] 59)) hg2 (Nat.le_refl _) (by simp)) HB.out.size).size; simp; omega) ?_; intro g8 c8 w8 ho8 hg8 hat8))
      have HN2 : Hid (Below wr.heap.size wr w2) := (belGrown ((Below.refl wr.heap.size wr).alloc (Nat.le_refl _) (.cells #[] 59)) hg2 (Nat.le_refl _) (by simp))
      have HB3 := Lib.hid (bel_to HB.out HN2.out HB.out.size)
      have HG2 : Hid (g2 ≠ g ∧ g2 < w2.heap.size) := ⟨by have := (ownsRow_cap HW.out).2.2; rcases hat2 with h | h <;> (try simp at h) <;> omega, (ownsRow_cap ho2).2.2⟩
      have HO2 := Lib.hid ho2
      clear ho2 hg2 hat2 HE HR c0
      have HB8 : Hid (Below w.heap.size w w8) := belGrown (bel_alloc HB3.out _) hg8 (ownsRow_cap HW.out).2.1 (by have := HB3.out.size; simp; omega)
      have HV8 : Hid (RowsOwn w8 w.heap.size g8 (vs ++ [.slice (some ⟨g2, 0, none⟩) d.length c2]) (O.take (i + 1))) := by
        unfold Hid
        rw [List.take_add_one, HD.out, Option.toList_some]
        refine RowsOwn.snoc (((HV.out.below HN2.out).below ((Below.refl _ _).alloc (Nat.le_refl _) _)).grown hg8 hat8) ?_ ?_
        · have h1 := (ownsRow_cap HW.out).2.2
          have h2 := HG2.out
          rcases hat8 with h | h
          · rw [h]; exact h2.1
          · rw [h]; simp; omega
        · refine own_keep (HO2.out.alloc (.cells #[.slice (some ⟨g2, 0, none⟩) d.length c2] 57)) fun x hx => ?_
          have : x = g2 := by simpa [Value.ownBlock] using hx.symm
          subst this
          exact hg8.block x (by have := HG2.out.2; simp; omega) (fun e => HG2.out.1 (by cases e; rfl))
      have HW8 := Lib.hid ho8
      have HX := Lib.hid (next64 (j := i) (by have := HI.out; omega))
      clear ho8 hg8 hat8
      go_wp2_with fail
      go_roundw
      case rel => exact ⟨i + 1, g8, c8, _, HLT.out, rfl, by first | rw [HX.out] | go_num, HW8, HV8, HB8⟩
      case measure => (try rw [HX.out]); have := HLT.out; simp only [intOf]; omega
    · have hlt' : ¬ (i : Int) < (O.length : Int) := by omega
      obtain rfl : i = O.length := by omega
      have HV2 : Hid (RowsOwn wr w.heap.size g vs O) := by have := HV.out; rwa [List.take_length] at this
      go_wp2_with fail
      go_ret
      exact ⟨g, c, vs, rfl, HW.out, HV2.out, HB.out⟩

theorem RowsOwn.isO {w : World} {B g c n : Nat} {vs : List Value} {O : List (List Kn)} (h : RowsOwn w B g vs O) (ho : w.ownsRow B 57 1 (.slice (some ⟨g, 0, none⟩) n c) n vs) : IsO clK w (some ⟨g, 0, none⟩) O := by
  refine .inr ⟨g, 0, rfl, fun i d hd => ?_⟩
  obtain ⟨gi, ci, h1, h2, h3⟩ := h.2 i d hd
  exact ⟨_, ci, own_lies ho i _ h1, (ownsRow_cap h3).1, own_isR rfl h3⟩

end Go.Proofs.Ytnoadceeenioeaa
