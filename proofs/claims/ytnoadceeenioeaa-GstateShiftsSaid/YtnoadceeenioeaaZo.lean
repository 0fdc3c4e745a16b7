/-
  What touchedOf of package gstate answers: the numbers of the touched points.
-/
import Derived.Test.YtnoadceeenioeaaZm
namespace Go.Proofs.Ytnoadceeenioeaa
open Go.RowKit Go.PlainAid
set_option linter.unusedSimpArgs false
set_option linter.unusedVariables false

/-- Was the point touched? -/
def tcB (M : List Mk) (p : Nat) : Bool := (M.getD p mk0).t
/-- The touched ones below i. -/
def tcL (M : List Mk) (i : Nat) : List Nat := (List.range i).filter (tcB M)
def intsN (L : List Nat) : List Int := L.map fun p : Nat => (p : Int)
theorem intsN_len (L : List Nat) : (intsN L).length = L.length := by simp [intsN]
theorem tcL_no {M : List Mk} {i : Nat} (h : tcB M i = false) : tcL M (i + 1) = tcL M i := by simp [tcL, List.range_succ, List.filter_append, h]
theorem tcL_yes {M : List Mk} {i : Nat} (h : tcB M i = true) : tcL M (i + 1) = tcL M i ++ [i] := by simp [tcL, List.range_succ, List.filter_append, h]
theorem tcL_le (M : List Mk) (i : Nat) : (tcL M i).length ≤ i := by have := List.length_filter_le (tcB M) (List.range i); simpa [tcL] using this
theorem tcB_at {M : List Mk} {p : Nat} {m : Mk} (h : M[p]? = some m) : tcB M p = m.t := by
  simp [tcB, List.getD, h]

/-- What touchedOf answers. -/
def TcPost (w : World) (L : List Nat) (e : Ending) (w' : World) : Prop := ∃ a c, e = .returned (.slice a L.length c) ∧ w'.ownsRow w.heap.size 3 1 (.slice a L.length c) L.length ((intsN L).flatMap clI) ∧ Below w.heap.size w w'

set_option maxRecDepth 20000 in
set_option maxHeartbeats 4000000 in
theorem touched_c (M : List Mk) (a : Option Addr) (cap : Nat) (w : World) (ho : IsR clM w a M) (hn : M.length ≤ 4096) :
    Calls Try.prog 51 #[.slice a M.length cap] w (TcPost w (tcL M M.length)) := by
  obtain ⟨n, HN⟩ : ∃ n, Hid (M.length = n) := ⟨_, rfl⟩
  have HO := Lib.hid ho
  rw [HN.out] at hn ⊢
  have HL := Lib.hid hn
  clear ho hn
  go_enter Try.func51, Try.ntmps51
  go_wp2_with fail
  go_loopw [3, 8] (fun u x wr => ∃ (i : Nat) (b : Option Addr) (c : Nat), i ≤ n ∧ x = .int .i64 i ∧ u = .slice b (tcL M i).length c ∧ Hid (wr.ownsRow w.heap.size 3 1 (.slice b (tcL M i).length c) (tcL M i).length ((intsN (tcL M i)).flatMap clI)) ∧ Hid (Below w.heap.size w wr)) (fun _ x _ => n - (intOf x).toNat)
  case atStart => exact ⟨0, none, 0, Nat.zero_le _, rfl, rfl, own_nil, Below.refl _ _⟩
  case round =>
    obtain ⟨i, b, c, hi, rfl, rfl, HW, HB⟩ := hrel
    by_cases hlt : i < n
    · have hlt' : (i : Int) < (n : Int) := by omega
      obtain ⟨m, hm⟩ := get_of (show i < M.length by rw [HN.out]; exact hlt)
      obtain ⟨bo, oo, rfl, x0, x1, x2⟩ := (HO.out.below HB.out).mark hm
      have HLT := Lib.hid hlt
      have HX := Lib.hid (next64 (j := i) (by have := HL.out; omega))
      have HTT := Lib.hid (tcB_at hm)
      clear hm hlt hi
      obtain ⟨mo, mc, mt⟩ := m
      dsimp only at x0 x1 x2 HTT
      cases mt
      · have HT := Lib.hid (tcL_no HTT.out)
        have HW2 : Hid ((wr.alloc (.cells #[.int .i64 mo, .int .i64 mc, .bool false] 82)).ownsRow w.heap.size 3 1 (.slice b (tcL M (i + 1)).length c) (tcL M (i + 1)).length ((intsN (tcL M (i + 1))).flatMap clI)) := by
          rw [HT.out]; exact own_below HW.out (bel_alloc (Below.refl _ _) _)
        have HB2 : Hid (Below w.heap.size w (wr.alloc (.cells #[.int .i64 mo, .int .i64 mc, .bool false] 82))) := bel_alloc HB.out _
        go_wp2_with fail
        go_roundw
        case rel => exact ⟨i + 1, b, c, HLT.out, by rw [HX.out], by rw [HT.out], HW2, HB2⟩
        case measure => rw [HX.out]; have := HLT.out; simp only [intOf]; omega
      · have HT := Lib.hid (tcL_yes HTT.out)
        have HB2 : Hid (Below w.heap.size w ((wr.alloc (.cells #[.int .i64 mo, .int .i64 mc, .bool true] 82)).alloc (.cells #[.int .i64 (i : Int)] 3))) := bel_alloc (bel_alloc HB.out _) _
        have HW2 : Hid (((wr.alloc (.cells #[.int .i64 mo, .int .i64 mc, .bool true] 82)).alloc (.cells #[.int .i64 (i : Int)] 3)).ownsRow w.heap.size 3 1 (.slice b (tcL M i).length c) (tcL M i).length ((intsN (tcL M i)).flatMap clI)) :=
          own_below HW.out (bel_alloc (bel_alloc (Below.refl _ _) _) _)
        have HLI : Hid (Lies ((wr.alloc (.cells #[.int .i64 mo, .int .i64 mc, .bool true] 82)).alloc (.cells #[.int .i64 (i : Int)] 3)) (wr.heap.size + 1) 0 [.int .i64 (i : Int)]) := by
          have := lies_new (w := wr.alloc (.cells #[.int .i64 mo, .int .i64 mc, .bool true] 82)) (cs := #[.int .i64 (i : Int)]) (T := 3)
          rwa [show (wr.alloc (.cells #[.int .i64 mo, .int .i64 mc, .bool true] 82)).heap.size = wr.heap.size + 1 by simp [go_sem]] at this
        have HLE := Lib.hid (tcL_le M i)
        go_wp2_with (at_builtin; refine wpList_appR elI rfl _ _ rfl _ w.heap.size b (tcL M i).length c ((intsN (tcL M i)).flatMap clI) (some ⟨wr.heap.size + 1, 0, none⟩) 1 1 [.int .i64 (i : Int)] rfl rfl HW2.out rfl (.inr ⟨_, _, rfl, HLI.out⟩) (by intro u hu; simp at hu; subst hu; rfl) (by have := HLE.out; have := HL.out; have := HLT.out; omega) (by have := HLE.out; have := HL.out; have := HLT.out; omega) HB2.out.size ?_; intro a8 c8 w8 ho8 hg8 hat8)
        have HB8 := Lib.hid (bel_grownA HB2.out HW2.out hg8 HB2.out.size)
        have HW8 : Hid (w8.ownsRow w.heap.size 3 1 (.slice a8 (tcL M (i + 1)).length c8) (tcL M (i + 1)).length ((intsN (tcL M (i + 1))).flatMap clI)) := by
          have e1 : (tcL M (i + 1)).length = (tcL M i).length + 1 := by rw [HT.out]; simp
          have e2 : (intsN (tcL M (i + 1))).flatMap clI = (intsN (tcL M i)).flatMap clI ++ [.int .i64 (i : Int)] := by rw [HT.out]; simp [intsN, clI]
          rw [Hid, e1, e2]; exact ho8
        have e1 : (tcL M i).length + 1 = (tcL M (i + 1)).length := by rw [HT.out]; simp
        rw [e1]
        clear ho8 hg8 hat8 e1
        go_wp2_with fail
        go_roundw
        case rel => exact ⟨i + 1, a8, c8, HLT.out, by rw [HX.out], rfl, HW8, HB8⟩
        case measure => rw [HX.out]; have := HLT.out; simp only [intOf]; omega
    · have hlt' : ¬ (i : Int) < (n : Int) := by omega
      obtain rfl : i = n := by omega
      clear hlt
      go_wp2_with fail
      go_ret
      exact ⟨b, c, rfl, HW.out, HB.out⟩

end Go.Proofs.Ytnoadceeenioeaa
