/-
  What slices.Clone answers: a row of its own.
-/
import Derived.Test.YtnoadceeenioeaaZa
namespace Go.Proofs.Ytnoadceeenioeaa
open Go.RowKit Go.PlainAid
set_option linter.unusedSimpArgs false
set_option linter.unusedVariables false

theorem own_fresh (w : World) (cs : Array Value) (T : TypeId) (s n : Nat) (hn : cs.size = n * s) (hm : n ≤ 140737488355328) : (w.alloc (.cells cs T)).ownsRow w.heap.size T s (.slice (some ⟨w.heap.size, 0, none⟩) n n) n cs.toList := by
  refine ⟨by simp [hn], .inr ⟨w.heap.size, n, cs, rfl, Nat.le_refl _, heap_alloc_new w _, Nat.le_refl _, by unfold maxLen; omega, by simp [hn], ?_⟩⟩
  rw [List.take_of_length_le]
  simp [hn]

/-- What Clone answers. -/
def ClonePost (w : World) (T : TypeId) (s n : Nat) (xs : List Value) (e : Ending) (w' : World) : Prop := ∃ a c, e = .returned (.slice a n c) ∧ w'.ownsRow w.heap.size T s (.slice a n c) n xs ∧ Below w.heap.size w w'

set_option maxRecDepth 20000 in
set_option maxHeartbeats 1000000 in
theorem cloneS_c (a : Option Addr) (cap : Nat) (L : List Sp) (w : World) (ho : IsR clS w a L) (hn : L.length * 16 ≤ 140737488355328) :
    Calls Try.prog 30 #[.slice a L.length cap] w (ClonePost w 38 2 L.length (L.flatMap clS)) := by
  cases a with
  | none =>
    have e : L = [] := by
      rcases ho with h | ⟨b, off, h, _⟩
      · exact h
      · cases h
    subst e
    clear ho
    have he : ∀ w : World, (binOp .eql 27 (.slice none 0 cap) (.slice none 0 0)).run Try.prog w = .ok (.bool true) w := fun _ => rfl
    go_enter Try.func30, Try.ntmps30
    go_wp2
    go_ret
    exact ⟨none, 0, rfl, own_nil, Below.refl _ _⟩
  | some p =>
    have HO := Lib.hid ho
    have HN := Lib.hid hn
    have HB : Hid (Below w.heap.size w (w.alloc (.cells #[] 38))) := bel_alloc (Below.refl _ _) _
    have HW : Hid ((w.alloc (.cells #[] 38)).ownsRow w.heap.size 38 2 (.slice (some ⟨w.heap.size, 0, none⟩) 0 0) 0 []) := own_fresh w #[] _ 2 0 rfl (by omega)
    clear ho hn
    have he : ∀ w : World, (binOp .eql 27 (.slice (some p) L.length cap) (.slice none 0 0)).run Try.prog w = .ok (.bool false) w := fun _ => rfl
    go_enter Try.func30, Try.ntmps30
    go_wp2_with (at_builtin; refine wpList_appR elS rfl _ _ rfl _ w.heap.size (some ⟨w.heap.size, 0, none⟩) 0 0 [] (some p) L.length cap (L.flatMap clS) rfl rfl HW.out (flat_length clS_length L) (isR_src (HO.out.below HB.out)) oneS (by have := HN.out; omega) (by have := HN.out; omega) HB.out.size ?_; intro a8 c8 w8 ho8 hg8 hat8)
    rw [Nat.zero_add] at *
    have HW8 := Lib.hid ho8
    have HB8 := Lib.hid (bel_grownA HB.out HW.out hg8 HB.out.size)
    clear ho8 hg8 hat8
    go_wp2_with fail
    go_ret
    exact ⟨a8, c8, rfl, HW8.out, HB8.out⟩

set_option maxRecDepth 20000 in
set_option maxHeartbeats 1000000 in
theorem cloneB_c (a : Option Addr) (cap : Nat) (L : List Bool) (w : World) (ho : IsR clB w a L) (hn : L.length * 1 ≤ 140737488355328) :
    Calls Try.prog 48 #[.slice a L.length cap] w (ClonePost w 4 1 L.length (L.flatMap clB)) := by
  cases a with
  | none =>
    have e : L = [] := by
      rcases ho with h | ⟨b, off, h, _⟩
      · exact h
      · cases h
    subst e
    clear ho
    have he : ∀ w : World, (binOp .eql 28 (.slice none 0 cap) (.slice none 0 0)).run Try.prog w = .ok (.bool true) w := fun _ => rfl
    go_enter Try.func48, Try.ntmps48
    go_wp2
    go_ret
    exact ⟨none, 0, rfl, own_nil, Below.refl _ _⟩
  | some p =>
    have HO := Lib.hid ho
    have HN := Lib.hid hn
    have HB : Hid (Below w.heap.size w (w.alloc (.cells #[] 4))) := bel_alloc (Below.refl _ _) _
    have HW : Hid ((w.alloc (.cells #[] 4)).ownsRow w.heap.size 4 1 (.slice (some ⟨w.heap.size, 0, none⟩) 0 0) 0 []) := own_fresh w #[] _ 1 0 rfl (by omega)
    clear ho hn
    have he : ∀ w : World, (binOp .eql 28 (.slice (some p) L.length cap) (.slice none 0 0)).run Try.prog w = .ok (.bool false) w := fun _ => rfl
    go_enter Try.func48, Try.ntmps48
    go_wp2_with (at_builtin; refine wpList_appR elB rfl _ _ rfl _ w.heap.size (some ⟨w.heap.size, 0, none⟩) 0 0 [] (some p) L.length cap (L.flatMap clB) rfl rfl HW.out (flat_length clB_length L) (isR_src (HO.out.below HB.out)) oneB (by have := HN.out; omega) (by have := HN.out; omega) HB.out.size ?_; intro a8 c8 w8 ho8 hg8 hat8)
    rw [Nat.zero_add] at *
    have HW8 := Lib.hid ho8
    have HB8 := Lib.hid (bel_grownA HB.out HW.out hg8 HB.out.size)
    clear ho8 hg8 hat8
    go_wp2_with fail
    go_ret
    exact ⟨a8, c8, rfl, HW8.out, HB8.out⟩

set_option maxRecDepth 20000 in
set_option maxHeartbeats 1000000 in
theorem cloneI_c (a : Option Addr) (cap : Nat) (L : List Int) (w : World) (ho : IsR clI w a L) (hn : L.length * 8 ≤ 140737488355328) :
    Calls Try.prog 49 #[.slice a L.length cap] w (ClonePost w 3 1 L.length (L.flatMap clI)) := by
  cases a with
  | none =>
    have e : L = [] := by
      rcases ho with h | ⟨b, off, h, _⟩
      · exact h
      · cases h
    subst e
    clear ho
    have he : ∀ w : World, (binOp .eql 29 (.slice none 0 cap) (.slice none 0 0)).run Try.prog w = .ok (.bool true) w := fun _ => rfl
    go_enter Try.func49, Try.ntmps49
    go_wp2
    go_ret
    exact ⟨none, 0, rfl, own_nil, Below.refl _ _⟩
  | some p =>
    have HO := Lib.hid ho
    have HN := Lib.hid hn
    have HB : Hid (Below w.heap.size w (w.alloc (.cells #[] 3))) := bel_alloc (Below.refl _ _) _
    have HW : Hid ((w.alloc (.cells #[] 3)).ownsRow w.heap.size 3 1 (.slice (some ⟨w.heap.size, 0, none⟩) 0 0) 0 []) := own_fresh w #[] _ 1 0 rfl (by omega)
    clear ho hn
    have he : ∀ w : World, (binOp .eql 29 (.slice (some p) L.length cap) (.slice none 0 0)).run Try.prog w = .ok (.bool false) w := fun _ => rfl
    go_enter Try.func49, Try.ntmps49
    go_wp2_with (at_builtin; refine wpList_appR elI rfl _ _ rfl _ w.heap.size (some ⟨w.heap.size, 0, none⟩) 0 0 [] (some p) L.length cap (L.flatMap clI) rfl rfl HW.out (flat_length clI_length L) (isR_src (HO.out.below HB.out)) oneI (by have := HN.out; omega) (by have := HN.out; omega) HB.out.size ?_; intro a8 c8 w8 ho8 hg8 hat8)
    rw [Nat.zero_add] at *
    have HW8 := Lib.hid ho8
    have HB8 := Lib.hid (bel_grownA HB.out HW.out hg8 HB.out.size)
    clear ho8 hg8 hat8
    go_wp2_with fail
    go_ret
    exact ⟨a8, c8, rfl, HW8.out, HB8.out⟩

end Go.Proofs.Ytnoadceeenioeaa
