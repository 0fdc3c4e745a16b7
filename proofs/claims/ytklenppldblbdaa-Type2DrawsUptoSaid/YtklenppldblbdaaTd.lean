/-
  What the functions of a row of package type2 answer: left, next, byte, number, signed, signedLong, operand, programOperand, operator.
-/
import Derived.Test.YtklenppldblbdaaTb
import Derived.BigQuiet
import Derived.Deep.QuietTactic
namespace Go.Proofs.Ytklenppldblbdaa
open Go.RowKit Go.PlainAid
set_option linter.unusedSimpArgs false
set_option linter.unusedVariables false

theorem len_s (g : Nat) (s : ByteArray) (w : World) (hc : w.cell? ⟨g, 0, none⟩ = some (.string s)) :
    Calls Try.prog 49 #[.pointer (some ⟨g, 0, none⟩)] w fun e w' => e = .returned (.int .i64 s.size) ∧ w' = w := (len_c g s w hc).mono fun e w' h => ⟨h.1, h.2.symm⟩

theorem cell_drewN {w : World} {p : Addr} {v : Value} (h : w.cell? p = some v) (n : Nat) : (w.drewN n).cell? p = some v := h

theorem bel_drewN0 (w : World) (n : Nat) : Below w.heap.size w (w.drewN n) := bel_drewN (Below.refl _ _) n

set_option maxHeartbeats 400000 in
theorem left_c (R V : Nat) (r : Rw) (w : World) (h : RowAt w R V r) :
    Calls Try.prog 36 #[.pointer (some ⟨R, 0, none⟩)] w fun e w' => e = .returned (.bool (decide (r.p < r.s.size))) ∧ Below w.heap.size w w' := by
  have h0 := h.c0
  have h1 := h.c1
  have HV := Lib.hid h.view
  clear h
  go_enter Try.func36, Try.ntmps36
  go_wp2_with fail
  go_quiet ((go_at_call 49; exact Calls.quiet_of_same (len_s V r.s _ (cell_drewN HV.out _))))
  go_wp2_with fail
  go_ret
  exact ⟨rfl, bel_drewN0 _ _⟩

theorem numOr_f {s : ByteArray} {p k x f : Int} (h : numOr s p k = (x, f)) : f = 0 ∨ f = 21 := by
  unfold numOr at h
  split at h <;> simp at h <;> omega

/-- A row's place is no further than its bytes need. -/
def RwFit (r : Rw) : Prop := r.s.size ≤ 1000000 ∧ r.p ≤ 1000100

set_option maxHeartbeats 400000 in
theorem rnext_c (F R V : Nat) (hE : ∀ (args : Array Value) (w : World), (callFunc F args).run Try.prog w = .ok (.enter F args) w) (r : Rw) (x f : Int) (k : Nat) (w : World) (hr : RowAt w R V r) (hf : RwFit r) (hk : k ≤ 4)
    (HN : Hid (Calls Try.prog F #[.pointer (some ⟨V, 0, none⟩), .int .i64 (r.p : Int)] w fun e w' => e = .returned (.tuple #[.int .i64 x, .int .i64 f]) ∧ w = w')) (HF : Hid (f = 0 ∨ f = 21)) :
    Calls Try.prog 50 #[.pointer (some ⟨R, 0, none⟩), .func (.func F) #[.pointer (some ⟨V, 0, none⟩)] #[], .int .i64 (k : Int)] w fun e w' => e = .returned (.int .i64 x) ∧ RowAt w' R V { r with p := r.p + k, c := r.c || decide (f ≠ 0) } ∧ w.grownBy w' (some R) := by
  have HR := Lib.hid hr
  have h0 := hr.c0
  have h1 := hr.c1
  have h2 := hr.c2
  have f1 := blk_free hr.row 1
  have f2 := blk_free hr.row 2
  have HW : Hid (wrap64 ((r.p : Int) + (k : Int)) = ((r.p + k : Nat) : Int)) := by have := hf.1; have := hf.2; unfold Hid wrap64; omega
  clear hr hf
  rcases HF.out with hz | hz
  · subst hz
    go_enter Try.func50, Try.ntmps50
    go_wp2_with fail
    refine HN.out.mono ?_
    rintro e w1 ⟨rfl, rfl⟩
    go_wp2_with fail
    go_ret
    rw [HW.out]
    refine ⟨rfl, ?_, grown_set _ _ _ _⟩
    have := HR.out.setP (r.p + k)
    simpa using this
  · subst hz
    go_enter Try.func50, Try.ntmps50
    go_wp2_with fail
    refine HN.out.mono ?_
    rintro e w1 ⟨rfl, rfl⟩
    go_wp2_with fail
    go_ret
    rw [HW.out]
    refine ⟨rfl, ?_, grown_trans (grown_set _ _ _ _) (grown_set _ _ _ _)⟩
    have := (HR.out.setC true).setP (r.p + k)
    simpa using this

theorem RwFit.small {r : Rw} (h : RwFit r) : (r.s.size : Int) ≤ 140737488355328 ∧ (r.p : Int) ≤ 9223372036854775807 := by have := h.1; have := h.2; omega

set_option maxHeartbeats 400000 in
theorem rbyte_c (R V : Nat) (r : Rw) (w : World) (hr : RowAt w R V r) (hf : RwFit r) :
    Calls Try.prog 38 #[.pointer (some ⟨R, 0, none⟩)] w fun e w' => e = .returned (.int .i64 (r.next 1).1) ∧ RowAt w' R V (r.next 1).2 ∧ w.grownBy w' (some R) := by
  have HX : Hid (numOr r.s r.p 1 = ((numOr r.s r.p 1).1, (numOr r.s r.p 1).2)) := rfl
  have HN := Lib.hid (u8_c V r.p _ _ r.s w hr.view hf.small.1 hf.small.2 HX)
  have HC := Lib.hid (rnext_c 29 R V (fun args w => by kernel_rfl) r _ _ 1 w hr hf (by decide) HN (numOr_f rfl))
  have h0 := hr.c0
  clear hr hf HX HN
  go_enter Try.func38, Try.ntmps38
  go_wp2_with fail
  refine HC.out.mono ?_
  rintro e w1 ⟨rfl, h1, h2⟩
  have H1 := Lib.hid h1
  have H2 := Lib.hid h2
  clear h1 h2
  go_wp2_with fail
  go_ret
  exact ⟨rfl, H1.out, H2.out⟩

set_option maxHeartbeats 400000 in
theorem rnumber_c (R V : Nat) (r : Rw) (w : World) (hr : RowAt w R V r) (hf : RwFit r) :
    Calls Try.prog 45 #[.pointer (some ⟨R, 0, none⟩)] w fun e w' => e = .returned (.int .i64 (r.next 2).1) ∧ RowAt w' R V (r.next 2).2 ∧ w.grownBy w' (some R) := by
  have HX : Hid (numOr r.s r.p 2 = ((numOr r.s r.p 2).1, (numOr r.s r.p 2).2)) := rfl
  have HN := Lib.hid (u16_c V r.p _ _ r.s w hr.view hf.small.1 hf.small.2 HX)
  have HC := Lib.hid (rnext_c 57 R V (fun args w => by kernel_rfl) r _ _ 2 w hr hf (by decide) HN (numOr_f rfl))
  have h0 := hr.c0
  clear hr hf HX HN
  go_enter Try.func45, Try.ntmps45
  go_wp2_with fail
  refine HC.out.mono ?_
  rintro e w1 ⟨rfl, h1, h2⟩
  have H1 := Lib.hid h1
  have H2 := Lib.hid h2
  clear h1 h2
  go_wp2_with fail
  go_ret
  exact ⟨rfl, H1.out, H2.out⟩

set_option maxHeartbeats 400000 in
theorem rsigned_c (R V : Nat) (r : Rw) (w : World) (hr : RowAt w R V r) (hf : RwFit r) :
    Calls Try.prog 61 #[.pointer (some ⟨R, 0, none⟩)] w fun e w' => e = .returned (.int .i64 (sign16 (r.next 2).1)) ∧ RowAt w' R V (r.next 2).2 ∧ w.grownBy w' (some R) := by
  have HX : Hid (numOr r.s r.p 2 = ((numOr r.s r.p 2).1, (numOr r.s r.p 2).2)) := rfl
  have HN := Lib.hid (i16_c V r.p _ _ r.s w hr.view hf.small.1 hf.small.2 HX)
  have HC := Lib.hid (rnext_c 68 R V (fun args w => by kernel_rfl) r _ _ 2 w hr hf (by decide) HN (numOr_f rfl))
  have h0 := hr.c0
  clear hr hf HX HN
  go_enter Try.func61, Try.ntmps61
  go_wp2_with fail
  refine HC.out.mono ?_
  rintro e w1 ⟨rfl, h1, h2⟩
  have H1 := Lib.hid h1
  have H2 := Lib.hid h2
  clear h1 h2
  go_wp2_with fail
  go_ret
  exact ⟨rfl, H1.out, H2.out⟩

theorem wrap_i32 (n : Int) : IntKind.i32.wrap n = (n + 2147483648) % 4294967296 - 2147483648 := by
  have h : IntKind.i32.wrap n = if n % 4294967296 ≥ 2147483648 then n % 4294967296 - 4294967296 else n % 4294967296 := by simp [IntKind.wrap, IntKind.bits, IntKind.signed]
  rw [h]
  split <;> omega

theorem sign32_wrap (x : Int) (h0 : 0 ≤ x) (h1 : x ≤ 4294967295) : wrap64 (wrap32 x) = sign32 x := by
  unfold wrap64 wrap32 sign32
  split <;> omega

theorem next_bound (r : Rw) : (0 ≤ (r.next 1).1 ∧ (r.next 1).1 ≤ 255) ∧ (0 ≤ (r.next 2).1 ∧ (r.next 2).1 ≤ 65535) ∧ (0 ≤ (r.next 4).1 ∧ (r.next 4).1 ≤ 4294967295) :=
  ⟨num8_bound rfl, num16_bound rfl, num32_bound rfl⟩

set_option maxHeartbeats 400000 in
theorem rlong_c (R V : Nat) (r : Rw) (w : World) (hr : RowAt w R V r) (hf : RwFit r) :
    Calls Try.prog 51 #[.pointer (some ⟨R, 0, none⟩)] w fun e w' => e = .returned (.int .i64 (sign32 (r.next 4).1)) ∧ RowAt w' R V (r.next 4).2 ∧ w.grownBy w' (some R) := by
  have HX : Hid (numOr r.s r.p 4 = ((numOr r.s r.p 4).1, (numOr r.s r.p 4).2)) := rfl
  have HN := Lib.hid (u32_c V r.p _ _ r.s w hr.view hf.small.1 hf.small.2 HX)
  have HC := Lib.hid (rnext_c 59 R V (fun args w => by kernel_rfl) r _ _ 4 w hr hf (by decide) HN (numOr_f rfl))
  have HW : Hid (wrap64 (wrap32 (numOr r.s (r.p : Int) 4).1) = sign32 (numOr r.s (r.p : Int) 4).1) := by
    have h : 0 ≤ (numOr r.s (r.p : Int) 4).1 ∧ (numOr r.s (r.p : Int) 4).1 ≤ 4294967295 := num32_bound rfl
    exact sign32_wrap _ h.1 h.2
  have h0 := hr.c0
  clear hr hf HX HN
  go_enter Try.func51, Try.ntmps51
  go_wp2_with fail
  refine HC.out.mono ?_
  rintro e w1 ⟨rfl, h1, h2⟩
  have H1 := Lib.hid h1
  have H2 := Lib.hid h2
  clear h1 h2
  go_wp2_with fail
  go_ret
  refine ⟨?_, H1.out, H2.out⟩
  rw [HW.out]
  rfl

end Go.Proofs.Ytklenppldblbdaa
