import Derived.Test.YtklenppldblbdaaGreatK04
import Derived.BigQuiet
import Derived.Deep.QuietTactic
import Derived.Deep.RegionWith
set_option linter.unusedSimpArgs false
set_option linter.unusedVariables false
namespace Go.Proofs.YtklenppldblbdaaGreat
open Go.RowKit Go.PlainAid
theorem len_s (g : Nat) (s : ByteArray) (w : World) (hc : w.cell? ⟨g, 0, none⟩ = some (.string s)) :
 Calls Tryz.prog 64 #[.pointer (some ⟨g, 0, none⟩)] w fun e w' => e = .returned (.int .i64 s.size) ∧ w' = w := (len_c g s w hc).mono fun e w' h => ⟨h.1, h.2.symm⟩
theorem cell_drewN {w : World} {p : Addr} {v : Value} (h : w.cell? p = some v) (n : Nat) : (w.drewN n).cell? p = some v := h
theorem bel_drewN0 (w : World) (n : Nat) : Below w.heap.size w (w.drewN n) := bel_drewN (Below.refl _ _) n
set_option maxHeartbeats 400000 in
theorem left_c (R V : Nat) (r : Rw) (w : World) (h : RowAt w R V r) :
 Calls Tryz.prog 45 #[.pointer (some ⟨R, 0, none⟩)] w fun e w' => e = .returned (.bool (decide (r.p < r.s.size))) ∧ Below w.heap.size w w' := by
 have h0 := h.c0
 have h1 := h.c1
 have HV := Lib.hid h.view
 clear h
 go_enter Tryz.func45, Tryz.ntmps45
 go_wp2_with fail
 go_quiet ((go_at_call 64; exact Calls.quiet_of_same (len_s V r.s _ (cell_drewN HV.out _))))
 go_wp2_with fail
 go_ret
 exact ⟨rfl, bel_drewN0 _ _⟩
theorem numOr_f {s : ByteArray} {p k x f : Int} (h : numOr s p k = (x, f)) : f = 0 ∨ f = 21 := by
 unfold numOr at h
 split at h <;> simp at h <;> omega
def RwFit (r : Rw) : Prop := r.s.size ≤ 1000000 ∧ r.p ≤ 1000100
set_option maxHeartbeats 400000 in
theorem rnext_c (F R V : Nat) (hE : ∀ (args : Array Value) (w : World), (callFunc F args).run Tryz.prog w = .ok (.enter F args) w) (r : Rw) (x f : Int) (k : Nat) (w : World) (hr : RowAt w R V r) (hf : RwFit r) (hk : k ≤ 4)
 (HN : Hid (Calls Tryz.prog F #[.pointer (some ⟨V, 0, none⟩), .int .i64 (r.p : Int)] w fun e w' => e = .returned (.tuple #[.int .i64 x, .int .i64 f]) ∧ w = w')) (HF : Hid (f = 0 ∨ f = 21)) :
 Calls Tryz.prog 65 #[.pointer (some ⟨R, 0, none⟩), .func (.func F) #[.pointer (some ⟨V, 0, none⟩)] #[], .int .i64 (k : Int)] w fun e w' => e = .returned (.int .i64 x) ∧ RowAt w' R V { r with p := r.p + k, c := r.c || decide (f ≠ 0) } ∧ w.grownBy w' (some R) := by
 have HR := Lib.hid hr
 have h0 := hr.c0
 have h1 := hr.c1
 have h2 := hr.c2
 have f1 := blk_free hr.row 1
 have f2 := blk_free hr.row 2
 have HW : Hid (wrap64 ((r.p : Int) + (k : Int)) = ((r.p + k : Nat) : Int)) := by have := hf.1; have := hf.2; unfold Hid wrap64; omega
 clear hr hf
 rcases HF.out with hz | hz
 ·subst hz
  go_enter Tryz.func65, Tryz.ntmps65
  go_wp2_with fail
  refine HN.out.mono ?_
  rintro e w1 ⟨rfl, rfl⟩
  go_wp2_with fail
  go_ret
  rw [HW.out]
  refine ⟨rfl, ?_, grown_set _ _ _ _⟩
  have := HR.out.setP (r.p + k)
  simpa using this
 ·subst hz
  go_enter Tryz.func65, Tryz.ntmps65
  go_wp2_with fail
  refine HN.out.mono ?_
  rintro e w1 ⟨rfl, rfl⟩
  go_wp2_with fail
  go_ret
  rw [HW.out]
  refine ⟨rfl, ?_, grown_trans (grown_set _ _ _ _) (grown_set _ _ _ _)⟩
  have := (HR.out.setC true).setP (r.p + k)
  simpa using this
theorem RwFit.small {r : Rw} (h : RwFit r) : (r.s.size : Int) ≤ 140737488355328 ∧ (r.p : Int) ≤ 9223372036854775807 := by have := h.1; have := h.2; omega
set_option maxHeartbeats 400000 in
theorem rbyte_c (R V : Nat) (r : Rw) (w : World) (hr : RowAt w R V r) (hf : RwFit r) :
 Calls Tryz.prog 47 #[.pointer (some ⟨R, 0, none⟩)] w fun e w' => e = .returned (.int .i64 (r.next 1).1) ∧ RowAt w' R V (r.next 1).2 ∧ w.grownBy w' (some R) := by
 have HX : Hid (numOr r.s r.p 1 = ((numOr r.s r.p 1).1, (numOr r.s r.p 1).2)) := rfl
 have HN := Lib.hid (u8_c V r.p _ _ r.s w hr.view hf.small.1 hf.small.2 HX)
 have HC := Lib.hid (rnext_c 32 R V (fun args w => by kernel_rfl) r _ _ 1 w hr hf (by decide) HN (numOr_f rfl))
 have h0 := hr.c0
 clear hr hf HX HN
 go_enter Tryz.func47, Tryz.ntmps47
 go_wp2_with fail
 refine HC.out.mono ?_
 rintro e w1 ⟨rfl, h1, h2⟩
 have H1 := Lib.hid h1
 have H2 := Lib.hid h2
 clear h1 h2
 go_wp2_with fail
 go_ret
 exact ⟨rfl, H1.out, H2.out⟩
set_option maxHeartbeats 400000 in
theorem rnumber_c (R V : Nat) (r : Rw) (w : World) (hr : RowAt w R V r) (hf : RwFit r) :
 Calls Tryz.prog 54 #[.pointer (some ⟨R, 0, none⟩)] w fun e w' => e = .returned (.int .i64 (r.next 2).1) ∧ RowAt w' R V (r.next 2).2 ∧ w.grownBy w' (some R) := by
 have HX : Hid (numOr r.s r.p 2 = ((numOr r.s r.p 2).1, (numOr r.s r.p 2).2)) := rfl
 have HN := Lib.hid (u16_c V r.p _ _ r.s w hr.view hf.small.1 hf.small.2 HX)
 have HC := Lib.hid (rnext_c 72 R V (fun args w => by kernel_rfl) r _ _ 2 w hr hf (by decide) HN (numOr_f rfl))
 have h0 := hr.c0
 clear hr hf HX HN
 go_enter Tryz.func54, Tryz.ntmps54
 go_wp2_with fail
 refine HC.out.mono ?_
 rintro e w1 ⟨rfl, h1, h2⟩
 have H1 := Lib.hid h1
 have H2 := Lib.hid h2
 clear h1 h2
 go_wp2_with fail
 go_ret
 exact ⟨rfl, H1.out, H2.out⟩
set_option maxHeartbeats 400000 in
theorem rsigned_c (R V : Nat) (r : Rw) (w : World) (hr : RowAt w R V r) (hf : RwFit r) :
 Calls Tryz.prog 82 #[.pointer (some ⟨R, 0, none⟩)] w fun e w' => e = .returned (.int .i64 (sign16 (r.next 2).1)) ∧ RowAt w' R V (r.next 2).2 ∧ w.grownBy w' (some R) := by
 have HX : Hid (numOr r.s r.p 2 = ((numOr r.s r.p 2).1, (numOr r.s r.p 2).2)) := rfl
 have HN := Lib.hid (i16_c V r.p _ _ r.s w hr.view hf.small.1 hf.small.2 HX)
 have HC := Lib.hid (rnext_c 90 R V (fun args w => by kernel_rfl) r _ _ 2 w hr hf (by decide) HN (numOr_f rfl))
 have h0 := hr.c0
 clear hr hf HX HN
 go_enter Tryz.func82, Tryz.ntmps82
 go_wp2_with fail
 refine HC.out.mono ?_
 rintro e w1 ⟨rfl, h1, h2⟩
 have H1 := Lib.hid h1
 have H2 := Lib.hid h2
 clear h1 h2
 go_wp2_with fail
 go_ret
 exact ⟨rfl, H1.out, H2.out⟩
theorem sign32_wrap (x : Int) (h0 : 0 ≤ x) (h1 : x ≤ 4294967295) : wrap64 (wrap32 x) = sign32 x := by
 unfold wrap64 wrap32 sign32
 split <;> omega
theorem next_bound (r : Rw) : (0 ≤ (r.next 1).1 ∧ (r.next 1).1 ≤ 255) ∧ (0 ≤ (r.next 2).1 ∧ (r.next 2).1 ≤ 65535) ∧ (0 ≤ (r.next 4).1 ∧ (r.next 4).1 ≤ 4294967295) :=
 ⟨num8_bound rfl, num16_bound rfl, num32_bound rfl⟩
set_option maxHeartbeats 400000 in
theorem rlong_c (R V : Nat) (r : Rw) (w : World) (hr : RowAt w R V r) (hf : RwFit r) :
 Calls Tryz.prog 66 #[.pointer (some ⟨R, 0, none⟩)] w fun e w' => e = .returned (.int .i64 (sign32 (r.next 4).1)) ∧ RowAt w' R V (r.next 4).2 ∧ w.grownBy w' (some R) := by
 have HX : Hid (numOr r.s r.p 4 = ((numOr r.s r.p 4).1, (numOr r.s r.p 4).2)) := rfl
 have HN := Lib.hid (u32_c V r.p _ _ r.s w hr.view hf.small.1 hf.small.2 HX)
 have HC := Lib.hid (rnext_c 74 R V (fun args w => by kernel_rfl) r _ _ 4 w hr hf (by decide) HN (numOr_f rfl))
 have HW : Hid (wrap64 (wrap32 (numOr r.s (r.p : Int) 4).1) = sign32 (numOr r.s (r.p : Int) 4).1) := by
  have h : 0 ≤ (numOr r.s (r.p : Int) 4).1 ∧ (numOr r.s (r.p : Int) 4).1 ≤ 4294967295 := num32_bound rfl
  exact sign32_wrap _ h.1 h.2
 have h0 := hr.c0
 clear hr hf HX HN
 go_enter Tryz.func66, Tryz.ntmps66
 go_wp2_with fail
 refine HC.out.mono ?_
 rintro e w1 ⟨rfl, h1, h2⟩
 have H1 := Lib.hid h1
 have H2 := Lib.hid h2
 clear h1 h2
 go_wp2_with fail
 go_ret
 refine ⟨?_, H1.out, H2.out⟩
 rw [HW.out]
 rfl
end Go.Proofs.YtklenppldblbdaaGreat
namespace Go.Proofs.YtklenppldblbdaaGreat
open Go.RowKit Go.PlainAid
def RowPost (R V : Nat) (r' : Rw) (v : Value) (w : World) (e : Ending) (w' : World) : Prop := e = .returned v ∧ RowAt w' R V r' ∧ w.grownBy w' (some R)
theorem operand_28 (r : Rw) (b : Int) (h : b = 28) : r.operand b = ((sign16 (r.next 2).1, true), (r.next 2).2) := by unfold Rw.operand; rw [if_pos h]
theorem operand_no (r : Rw) (b : Int) (h : b ≠ 28) (h2 : b < 32 ∨ b = 255) : r.operand b = ((0, false), r) := by unfold Rw.operand; rw [if_neg h, if_pos h2]
theorem operand_one (r : Rw) (b : Int) (h : ¬ b < 32) (h2 : b < 247) : r.operand b = ((b - 139, true), r) := by
 unfold Rw.operand; rw [if_neg (by omega), if_neg (by omega), if_pos h2]
theorem operand_up (r : Rw) (b : Int) (h : ¬ b < 247) (h2 : b < 251) : r.operand b = (((b - 247) * 256 + (r.next 1).1 + 108, true), (r.next 1).2) := by
 unfold Rw.operand; rw [if_neg (by omega), if_neg (by omega), if_neg (by omega), if_pos h2]
theorem operand_down (r : Rw) (b : Int) (h : ¬ b < 251) (h2 : b ≠ 255) : r.operand b = ((-(b - 251) * 256 - (r.next 1).1 - 108, true), (r.next 1).2) := by
 unfold Rw.operand; rw [if_neg (by omega), if_neg (by omega), if_neg (by omega), if_neg (by omega)]
set_option maxHeartbeats 1000000 in
theorem roperand_c (R V : Nat) (r : Rw) (b : Int) (w : World) (hr : RowAt w R V r) (hf : RwFit r) (b0 : 0 ≤ b) (b1 : b ≤ 255) :
 Calls Tryz.prog 67 #[.pointer (some ⟨R, 0, none⟩), .int .i64 b] w (RowPost R V (r.operand b).2 (.tuple #[.int .i64 (r.operand b).1.1, .bool (r.operand b).1.2]) w) := by
 have HR := Lib.hid hr
 have HS := Lib.hid (rsigned_c R V r w hr hf)
 have HB := Lib.hid (rbyte_c R V r w hr hf)
 have HN := Lib.hid (next_bound r).1
 clear hr hf
 by_cases h28 : b = 28
 ·have HE := Lib.hid (operand_28 r b h28)
  subst h28
  rw [HE.out]
  go_enter Tryz.func67, Tryz.ntmps67
  go_wp2_with fail
  refine HS.out.mono ?_
  rintro e w1 ⟨rfl, h1, h2⟩
  have H1 := Lib.hid h1
  have H2 := Lib.hid h2
  clear h1 h2
  go_wp2_with fail
  go_ret2
  exact ⟨rfl, H1.out, H2.out⟩
 ·by_cases h32 : b < 32
  ·have HE := Lib.hid (operand_no r b h28 (.inl h32))
   rw [HE.out]
   go_enter Tryz.func67, Tryz.ntmps67
   go_wp2_with fail
   go_ret2
   exact ⟨rfl, HR.out, grown_refl _ _⟩
  ·by_cases h255 : b = 255
   ·have HE := Lib.hid (operand_no r b h28 (.inr h255))
    subst h255
    rw [HE.out]
    go_enter Tryz.func67, Tryz.ntmps67
    go_wp2_with fail
    go_ret2
    exact ⟨rfl, HR.out, grown_refl _ _⟩
   ·by_cases h247 : b < 247
    ·have HE := Lib.hid (operand_one r b h32 h247)
     rw [HE.out]
     go_enter Tryz.func67, Tryz.ntmps67
     go_wp2_with fail
     go_ret2
     exact ⟨rfl, HR.out, grown_refl _ _⟩
    ·by_cases h251 : b < 251
     ·have HE := Lib.hid (operand_up r b h247 h251)
      rw [HE.out]
      go_enter Tryz.func67, Tryz.ntmps67
      go_wp2_with fail
      refine HB.out.mono ?_
      rintro e w1 ⟨rfl, h1, h2⟩
      have H1 := Lib.hid h1
      have H2 := Lib.hid h2
      have n0 := HN.out.1
      have n1 := HN.out.2
      clear h1 h2
      generalize (r.next 1).1 = x at *
      go_wp2_with fail
      go_ret2
      exact ⟨rfl, H1.out, H2.out⟩
     ·have HE := Lib.hid (operand_down r b h251 h255)
      rw [HE.out]
      go_enter Tryz.func67, Tryz.ntmps67
      go_wp2_with fail
      refine HB.out.mono ?_
      rintro e w1 ⟨rfl, h1, h2⟩
      have H1 := Lib.hid h1
      have H2 := Lib.hid h2
      have n0 := HN.out.1
      have n1 := HN.out.2
      clear h1 h2
      generalize (r.next 1).1 = x at *
      go_wp2_with fail
      go_ret2
      exact ⟨rfl, H1.out, H2.out⟩
theorem sign16_bound {x : Int} (h0 : 0 ≤ x) (h1 : x ≤ 65535) : -32768 ≤ sign16 x ∧ sign16 x ≤ 32767 := by unfold sign16; split <;> omega
theorem sign32_bound {x : Int} (h0 : 0 ≤ x) (h1 : x ≤ 4294967295) : -2147483648 ≤ sign32 x ∧ sign32 x ≤ 2147483647 := by unfold sign32; split <;> omega
theorem operand_bound (r : Rw) (b : Int) (b0 : 0 ≤ b) (b1 : b ≤ 255) : -32768 ≤ (r.operand b).1.1 ∧ (r.operand b).1.1 ≤ 32767 := by
 have h1 := (next_bound r).1
 have h2 := (next_bound r).2.1
 have h3 := sign16_bound h2.1 h2.2
 unfold Rw.operand
 split
 ·exact h3
 ·split
  ·exact ⟨by simp, by simp⟩
  ·split
   ·simp only; omega
   ·split
    ·simp only; omega
    ·simp only; omega
set_option maxHeartbeats 1000000 in
theorem rprog_c (R V : Nat) (r : Rw) (b : Int) (w : World) (hr : RowAt w R V r) (hf : RwFit r) (b0 : 0 ≤ b) (b1 : b ≤ 255) :
 Calls Tryz.prog 48 #[.pointer (some ⟨R, 0, none⟩), .int .i64 b] w (RowPost R V (r.prog b).2 (.tuple #[.int .i64 (r.prog b).1.1, .bool (r.prog b).1.2]) w) := by
 have HL := Lib.hid (rlong_c R V r w hr hf)
 have HO := Lib.hid (roperand_c R V r b w hr hf b0 b1)
 have HB := Lib.hid (operand_bound r b b0 b1)
 clear hr hf
 by_cases h : b = 255
 ·have HE : Hid (r.prog b = ((sign32 (r.next 4).1, true), (r.next 4).2)) := by unfold Hid Rw.prog; rw [if_pos h]
  clear HO HB
  subst h
  rw [HE.out]
  go_enter Tryz.func48, Tryz.ntmps48
  go_wp2_with fail
  refine HL.out.mono ?_
  rintro e w1 ⟨rfl, h1, h2⟩
  have H1 := Lib.hid h1
  have H2 := Lib.hid h2
  clear h1 h2
  go_wp2_with fail
  go_ret2
  exact ⟨rfl, H1.out, H2.out⟩
 ·have HE : Hid (r.prog b = (((r.operand b).1.1 * 65536, (r.operand b).1.2), (r.operand b).2)) := by unfold Hid Rw.prog; rw [if_neg h]
  rw [HE.out]
  have n0 := HB.out.1
  have n1 := HB.out.2
  clear HB HE
  obtain ⟨r2, HR2⟩ : ∃ r2, Hid ((r.operand b).2 = r2) := ⟨_, rfl⟩
  rw [HR2.out] at HO ⊢
  generalize (r.operand b).1.1 = x at *
  generalize (r.operand b).1.2 = y at *
  go_enter Tryz.func48, Tryz.ntmps48
  go_wp2_with fail
  refine HO.out.mono ?_
  rintro e w1 ⟨rfl, h1, h2⟩
  have H1 := Lib.hid h1
  have H2 := Lib.hid h2
  clear h1 h2
  go_wp2_with fail
  go_ret2
  exact ⟨rfl, H1.out, H2.out⟩
set_option maxHeartbeats 1000000 in
theorem roper_c (R V : Nat) (r : Rw) (b : Int) (w : World) (hr : RowAt w R V r) (hf : RwFit r) :
 Calls Tryz.prog 49 #[.pointer (some ⟨R, 0, none⟩), .int .i64 b] w (RowPost R V (r.oper b).2 (.int .i64 (r.oper b).1) w) := by
 have HR := Lib.hid hr
 have HB := Lib.hid (rbyte_c R V r w hr hf)
 have HN := Lib.hid (next_bound r).1
 clear hr hf
 by_cases h : b = 12
 ·have HE : Hid (r.oper b = (1200 + (r.next 1).1, (r.next 1).2)) := by unfold Hid Rw.oper; rw [if_pos h]
  subst h
  rw [HE.out]
  have n0 := HN.out.1
  have n1 := HN.out.2
  clear HN HE
  obtain ⟨r2, HR2⟩ : ∃ r2, Hid ((r.next 1).2 = r2) := ⟨_, rfl⟩
  rw [HR2.out] at HB ⊢
  generalize (r.next 1).1 = x at *
  go_enter Tryz.func49, Tryz.ntmps49
  go_wp2_with fail
  refine HB.out.mono ?_
  rintro e w1 ⟨rfl, h1, h2⟩
  have H1 := Lib.hid h1
  have H2 := Lib.hid h2
  clear h1 h2
  go_wp2_with fail
  go_ret
  exact ⟨rfl, H1.out, H2.out⟩
 ·have HE : Hid (r.oper b = (b, r)) := by unfold Hid Rw.oper; rw [if_neg h]
  rw [HE.out]
  go_enter Tryz.func49, Tryz.ntmps49
  go_wp2_with fail
  go_ret
  exact ⟨rfl, HR.out, grown_refl _ _⟩
theorem cut_any (g p k : Nat) (s : ByteArray) (w : World) (hc : w.cell? ⟨g, 0, none⟩ = some (.string s)) (hs : (s.size : Int) ≤ 140737488355328) (hp : (p : Int) ≤ 9223372036854775807) :
 Calls Tryz.prog 31 #[.pointer (some ⟨g, 0, none⟩), .int .i64 (p : Int), .int .i64 (k : Int)] w fun e w' => (∃ v, e = .returned (.tuple #[.pointer v, .int .i64 (if hasB s p k = true then 0 else 21)])) ∧ Below w.heap.size w w' := by
 cases h : hasB s p k
 ·refine (cut_no g p k s w hc hs hp h).mono ?_
  rintro e w' ⟨rfl, rfl⟩
  exact ⟨⟨_, rfl⟩, Below.refl _ _⟩
 ·have h' := h
  simp [hasB] at h'
  refine (cut_yes g p k s w hc hs (by omega)).mono ?_
  rintro e w' ⟨rfl, rfl⟩
  exact ⟨⟨_, rfl⟩, (Below.refl _ _).alloc (Nat.le_refl _) _⟩
set_option maxHeartbeats 1000000 in
theorem rpass_c (R V : Nat) (r : Rw) (n : Nat) (w : World) (hr : RowAt w R V r) (hf : RwFit r) (hn : n ≤ 1000) :
 Calls Tryz.prog 92 #[.pointer (some ⟨R, 0, none⟩), .int .i64 (n : Int)] w (RowPost R V (r.pass n) (.tuple #[]) w) := by
 have HR := Lib.hid hr
 have HC := Lib.hid (cut_any V r.p n r.s w.drew hr.view hf.small.1 hf.small.2)
 have HW : Hid (wrap64 ((r.p : Int) + (n : Int)) = ((r.p + n : Nat) : Int)) := by have := hf.2; unfold Hid wrap64; omega
 have h0 := hr.c0
 have h1 := hr.c1
 clear hr hf hn
 cases hh : hasB r.s r.p n
 ·have HE := Lib.hid hh
  rw [hh] at HC
  clear hh
  go_enter Tryz.func92, Tryz.ntmps92
  go_wp2_with fail
  go_region_with (go_at_call 31; refine HC.out.mono ?_; rintro e w2 ⟨⟨v, rfl⟩, hb2⟩)
  all_goals (
   have HB2 := Lib.hid (Below.trans (Below.refl w.heap.size w).drew hb2)
   have HR2 := Lib.hid (HR.out.below HB2.out)
   have c1 := HR2.out.c1
   have c2 := HR2.out.c2
   have f1 := blk_free HR2.out.row 1
   have f2 := blk_free HR2.out.row 2
   clear h0 h1 hb2 HC
   go_wp2_with fail
   go_end0
   rw [HW.out]
   refine ⟨rfl, ?_, grown_trans (grown_bel _ HB2.out) (grown_trans (grown_set _ _ _ _) (grown_set _ _ _ _))⟩
   have := (HR2.out.setC true).setP (r.p + n)
   simpa [Rw.pass, HE.out] using this)
 ·have HE := Lib.hid hh
  rw [hh] at HC
  clear hh
  go_enter Tryz.func92, Tryz.ntmps92
  go_wp2_with fail
  go_region_with (go_at_call 31; refine HC.out.mono ?_; rintro e w2 ⟨⟨v, rfl⟩, hb2⟩)
  all_goals (
   have HB2 := Lib.hid (Below.trans (Below.refl w.heap.size w).drew hb2)
   have HR2 := Lib.hid (HR.out.below HB2.out)
   have c1 := HR2.out.c1
   have f1 := blk_free HR2.out.row 1
   clear h0 h1 hb2 HC
   go_wp2_with fail
   go_end0
   rw [HW.out]
   refine ⟨rfl, ?_, grown_trans (grown_bel _ HB2.out) (grown_set _ _ _ _)⟩
   have := HR2.out.setP (r.p + n)
   simpa [Rw.pass, HE.out] using this)
end Go.Proofs.YtklenppldblbdaaGreat
namespace Go.Proofs.YtklenppldblbdaaGreat
open Go.RowKit Go.PlainAid
theorem own_put {w : World} {B : Nat} {e : TypeId} {s n g c : Nat} {xs : List Value} (h : w.ownsRow B e s (.slice (some ⟨g, 0, none⟩) n c) n xs) (i : Nat) (u : Value) : (w.setCell ⟨g, i, none⟩ u).ownsRow B e s (.slice (some ⟨g, 0, none⟩) n c) n (xs.set i u) := by
 refine ⟨by rw [List.length_set]; exact h.1, ?_⟩
 rcases h.2 with ⟨hv, _⟩ | ⟨g', cap, cur, hv, hb, hg, hnc, hcm, hcs, ht⟩
 ·cases hv
 ·cases hv
  refine .inr ⟨g, c, cur.setIfInBounds i u, rfl, hb, blk_set hg _ _, hnc, hcm, by rw [Array.size_setIfInBounds]; exact hcs, ?_⟩
  rw [← ht, Array.toList_setIfInBounds, List.take_set]
theorem app_any {t e : TypeId} {s by' : Nat} (H : ElT t e s by') (w : World) (base : Nat) (ty : TypeId) (a0 : Option Addr) (n c : Nat) (xs : List Value) (b m cap : Nat) (news : List Value)
 (hown : w.ownsRow base e s (.slice a0 n c) n xs) (hl : news.length = m * s) (hsrc : Lies w b 0 news) (h1 : ∀ u ∈ news, u.oneCell' = true) (hm0 : 0 < m)
 (hb : (n + m) * by' ≤ 140737488355328) (hm : n + m ≤ 140737488355328) (hbase : base ≤ w.heap.size) :
 ∃ g' c' w', (Builtin.append_ #[t, t] ty #[.slice a0 n c, .slice (some ⟨b, 0, none⟩) m cap]).run Tryz.prog w = .ok (.slice (some ⟨g', 0, none⟩) (n + m) c') w' ∧
  w'.ownsRow base e s (.slice (some ⟨g', 0, none⟩) (n + m) c') (n + m) (xs ++ news) ∧ w.grownBy w' (Value.slice a0 n c).ownBlock ∧ ((Value.slice a0 n c).ownBlock = some g' ∨ g' = w.heap.size) := by
 obtain ⟨ht, hs0, z, hz, hzs⟩ := H
 obtain ⟨i0, hi, hz0, hz1, hz2⟩ := info_parts hz
 obtain ⟨g', c', w', hr, ho, hg, hat, hlt⟩ := run_append_lies (P := Tryz.prog) w t ty base e i0 z s by' ht hi hz0 hz1 hz2 hzs hs0 _ n xs hown ⟨b, 0, none⟩ m cap news hl
  (fun j u hj => by rw [Addr.add_lit]; exact hsrc j u hj) h1 (by omega) (by unfold maxLen; omega) hb hbase w.heap.size rfl
 exact ⟨g', c', w', hr, ho, hg, hat⟩
theorem wpList_appA {t e : TypeId} {s by' : Nat} (H : ElT t e s by') {ops : Array Oper} {rest : List Oper} {o : Oper} {f : Act} {Q : Exit → Act → World → Prop} (hgd : o.guard = none) (sl x : Operand)
 (ho : o.op = .call { callee := .builtin .append, args := #[sl, x], argTypes := #[t, t] })
 (w : World) (base : Nat) (a0 : Option Addr) (n c : Nat) (xs : List Value) (b m cap : Nat) (news : List Value) (hs : f.eval sl = .slice a0 n c) (hx : f.eval x = .slice (some ⟨b, 0, none⟩) m cap)
 (hown : w.ownsRow base e s (.slice a0 n c) n xs) (hl : news.length = m * s) (hsrc : Lies w b 0 news) (h1 : ∀ u ∈ news, u.oneCell' = true) (hm0 : 0 < m)
 (hb : (n + m) * by' ≤ 140737488355328) (hm : n + m ≤ 140737488355328) (hbase : base ≤ w.heap.size)
 (h : ∀ g' c' w', w'.ownsRow base e s (.slice (some ⟨g', 0, none⟩) (n + m) c') (n + m) (xs ++ news) → w.grownBy w' (Value.slice a0 n c).ownBlock → ((Value.slice a0 n c).ownBlock = some g' ∨ g' = w.heap.size) → wpList Tryz.prog ops Q rest (f.put o.dst (.slice (some ⟨g', 0, none⟩) (n + m) c')) w') :
 wpList Tryz.prog ops Q (o :: rest) f w :=
 wpList_plain hgd fun _ hK => by
  obtain ⟨g', c', w', hr, h2, h3, h4⟩ := app_any H w base o.type a0 n c xs b m cap news hown hl hsrc h1 hm0 hb hm hbase
  unfold Oper.wp execOp
  simp only [ho, resolve, invoke, builtin, Sem.run_bind, Sem.run_pure, Result.andThen_ok, List.map_toArray, List.map_cons, List.map_nil, hs, hx, hr]
  exact hK _ _ (h g' c' w' h2 h3 h4)
theorem step_appA {t e : TypeId} {s by' : Nat} (H : ElT t e s by') {ops : Array Oper} {o : Oper} {f : Act} {K : Act → World → Prop} {Q : Exit → Act → World → Prop} {E : Prop} (hgd : o.guard = none) (sl x : Operand)
 (ho : o.op = .call { callee := .builtin .append, args := #[sl, x], argTypes := #[t, t] })
 (w : World) (base : Nat) (a0 : Option Addr) (n c : Nat) (xs : List Value) (b m cap : Nat) (news : List Value) (hs : f.eval sl = .slice a0 n c) (hx : f.eval x = .slice (some ⟨b, 0, none⟩) m cap)
 (hown : w.ownsRow base e s (.slice a0 n c) n xs) (hl : news.length = m * s) (hsrc : Lies w b 0 news) (h1 : ∀ u ∈ news, u.oneCell' = true) (hm0 : 0 < m)
 (hb : (n + m) * by' ≤ 140737488355328) (hm : n + m ≤ 140737488355328) (hbase : base ≤ w.heap.size)
 (h : ∀ g' c' w', w'.ownsRow base e s (.slice (some ⟨g', 0, none⟩) (n + m) c') (n + m) (xs ++ news) → w.grownBy w' (Value.slice a0 n c).ownBlock → ((Value.slice a0 n c).ownBlock = some g' ∨ g' = w.heap.size) → K (f.put o.dst (.slice (some ⟨g', 0, none⟩) (n + m) c')) w') :
 if Region.wanted o (yielded ops f.tmps) = true then Oper.wp Tryz.prog o f w K Q else E := by
 have hw : Region.wanted o (yielded ops f.tmps) = true := by simp [Region.wanted, hgd]
 rw [if_pos hw]
 obtain ⟨g', c', w', hr, h2, h3, h4⟩ := app_any H w base o.type a0 n c xs b m cap news hown hl hsrc h1 hm0 hb hm hbase
 unfold Oper.wp execOp
 simp only [ho, resolve, invoke, builtin, Sem.run_bind, Sem.run_pure, Result.andThen_ok, List.map_toArray, List.map_cons, List.map_nil, hs, hx, hr]
 exact h g' c' w' h2 h3 h4
theorem elP : ElT 62 85 1 8 := ⟨Tryz.underlying62, by decide, .pointer none, by kernel_rfl, rfl⟩
theorem elI : ElT 50 3 1 8 := ⟨Tryz.underlying50, by decide, .int .i64 0, by kernel_rfl, rfl⟩
theorem own_some {w : World} {B : Nat} {e : TypeId} {s n c : Nat} {a : Option Addr} {xs : List Value} (h : w.ownsRow B e s (.slice a n c) n xs) (hn : 0 < n) : ∃ g, a = some ⟨g, 0, none⟩ ∧ B ≤ g ∧ g < w.heap.size ∧ n ≤ c := by
 rcases h.2 with ⟨_, h0⟩ | ⟨g, cap, cur, hv, hb, hg, hnc, _⟩
 ·omega
 ·cases hv; exact ⟨g, rfl, hb, blk_lt hg, hnc⟩
theorem Mach.begun {w w' : World} {B M F g c : Nat} {L : Lay} {s : MS} (h : Mach w B M F L s) (ho : w'.ownsRow B 41 1 (.slice (some ⟨g, 0, none⟩) (s.out.length + 1) c) (s.out.length + 1) (L.vs ++ [.slice none 0 0]))
 (hg : w.grownBy w' (Value.slice L.oa s.out.length L.oc).ownBlock) : Mach (w'.setCell ⟨M, 0, none⟩ (.slice (some ⟨g, 0, none⟩) (s.out.length + 1) c)) B M F { L with oa := some ⟨g, 0, none⟩, oc := c, vs := L.vs ++ [.slice none 0 0] } { s with out := s.out ++ [[]] } := by
 have ht := typ_own h.out.own
 have hm := blk_chg h.mem hg ht (by decide)
 have hg2 := grown_set w' M 0 (.slice (some ⟨g, 0, none⟩) (s.out.length + 1) c)
 have ht2 := typ_blk hm
 have hl : L.vs.length = s.out.length := by have := h.out.own.1; omega
 refine ⟨?_, h.mB, ⟨?_, ?_, ?_⟩, (h.rows.chg hg ht (by decide) (by decide) (by decide)).chg hg2 ht2 (by decide) (by decide) (by decide), own_chg (own_chg h.stack hg ht (by decide)) hg2 ht2 (by decide)⟩
 ·rw [blk_set hm]
  simp [mcells]
 ·have := own_chg ho hg2 ht2 (by decide)
  show (w'.setCell ⟨M, 0, none⟩ (.slice (some ⟨g, 0, none⟩) (s.out.length + 1) c)).ownsRow B 41 1 (.slice (some ⟨g, 0, none⟩) (s.out ++ [[]]).length c) (s.out ++ [[]]).length (L.vs ++ [.slice none 0 0])
  rw [List.length_append]
  exact this
 ·intro i d hd
  by_cases hi : i < s.out.length
  ·rw [List.getElem?_append_left hi] at hd
   obtain ⟨ai, ci, h1, h2⟩ := h.out.conts i d hd
   exact ⟨ai, ci, by show (L.vs ++ [.slice none 0 0])[i]? = _; rw [List.getElem?_append_left (by omega)]; exact h1, own_chg (own_chg h2 hg ht (by decide)) hg2 ht2 (by decide)⟩
  ·rw [List.getElem?_append_right (by omega)] at hd
   have hi2 : i - s.out.length = 0 := by have := (List.getElem?_eq_some_iff.1 hd).1; simp at this; omega
   rw [hi2] at hd
   have e : [] = d := by simpa using hd
   subst e
   exact ⟨none, 0, by show (L.vs ++ [.slice none 0 0])[i]? = _; rw [List.getElem?_append_right (by omega), hl, hi2]; rfl, by simp, .inl ⟨rfl, rfl⟩⟩
 ·intro i j v u x hij hv hu hx
  have hv' : (L.vs ++ [.slice none 0 0])[i]? = some v := hv
  have hu' : (L.vs ++ [.slice none 0 0])[j]? = some u := hu
  by_cases hi : i < L.vs.length
  ·rw [List.getElem?_append_left hi] at hv'
   by_cases hj : j < L.vs.length
   ·rw [List.getElem?_append_left hj] at hu'
    exact h.out.apart i j v u x hij hv' hu' hx
   ·rw [List.getElem?_append_right (by omega)] at hu'
    have hj2 : j - L.vs.length = 0 := by have := (List.getElem?_eq_some_iff.1 hu').1; simp at this; omega
    rw [hj2] at hu'
    have e : Value.slice none 0 0 = u := by simpa using hu'
    subst e
    simp [Value.ownBlock]
  ·rw [List.getElem?_append_right (by omega)] at hv'
   have hi2 : i - L.vs.length = 0 := by have := (List.getElem?_eq_some_iff.1 hv').1; simp at this; omega
   rw [hi2] at hv'
   have e : Value.slice none 0 0 = v := by simpa using hv'
   subst e
   simp [Value.ownBlock] at hx
theorem snocLast_length (o : List (List Kn)) (k : Kn) (h : 0 < o.length) : (snocLast o k).length = o.length := by simp [snocLast]; omega
theorem snocLast_at (o : List (List Kn)) (k : Kn) (i : Nat) (h : i + 1 < o.length) : (snocLast o k)[i]? = o[i]? := by
 rw [snocLast, List.getElem?_append_left (by simp; omega), List.getElem?_dropLast, if_pos (by omega)]
theorem snocLast_last (o : List (List Kn)) (k : Kn) (c : List Kn) (h : o[o.length - 1]? = some c) : (snocLast o k)[o.length - 1]? = some (c ++ [k]) := by
 have hl := (List.getElem?_eq_some_iff.1 h).1
 rw [snocLast, List.getElem?_append_right (by simp), List.length_dropLast, Nat.sub_self, List.getLast?_eq_getElem?, h]
 rfl
theorem Mach.knotted {w w' : World} {B M F g g' c' : Nat} {L : Lay} {s : MS} {k : Kn} {c : List Kn} {ai : Option Addr} {ci : Nat} (h : Mach w B M F L s) (hc : s.out[s.out.length - 1]? = some c) (hv : L.vs[s.out.length - 1]? = some (.slice ai c.length ci))
 (hG : L.oa = some ⟨g, 0, none⟩) (ho : w'.ownsRow B 43 3 (.slice (some ⟨g', 0, none⟩) (c.length + 1) c') (c.length + 1) (c.flatMap clK ++ clK k))
 (hg : w.grownBy w' (Value.slice ai c.length ci).ownBlock) (hat : (Value.slice ai c.length ci).ownBlock = some g' ∨ g' = w.heap.size) :
 Mach (w'.setCell ⟨g, s.out.length - 1, none⟩ (.slice (some ⟨g', 0, none⟩) (c.length + 1) c')) B M F { L with vs := L.vs.set (s.out.length - 1) (.slice (some ⟨g', 0, none⟩) (c.length + 1) c') } { s with out := snocLast s.out k } := by
 have hn : 0 < s.out.length := by have := (List.getElem?_eq_some_iff.1 hc).1; omega
 obtain ⟨a2, c2, hv2, hown⟩ := h.out.conts _ c hc
 rw [hv] at hv2
 have hv2' : ai = a2 ∧ ci = c2 := by simpa using hv2
 obtain ⟨rfl, rfl⟩ := hv2'
 have ht := typ_own hown
 have hm := blk_chg h.mem hg ht (by decide)
 have hor := own_chg h.out.own hg ht (by decide)
 rw [hG] at hor
 have hg2 := grown_set w' g (s.out.length - 1) (.slice (some ⟨g', 0, none⟩) (c.length + 1) c')
 have ht2 : TypAt w' (some g) 41 := typ_own hor
 have hl : L.vs.length = s.out.length := by have := h.out.own.1; omega
 have hsl := snocLast_length s.out k hn
 refine ⟨?_, h.mB, ⟨?_, ?_, ?_⟩, (h.rows.chg hg ht (by decide) (by decide) (by decide)).chg hg2 ht2 (by decide) (by decide) (by decide), own_chg (own_chg h.stack hg ht (by decide)) hg2 ht2 (by decide)⟩
 ·rw [blk_chg hm hg2 ht2 (by decide)]
  simp [mcells, hsl]
 ·show World.ownsRow _ B 41 1 (.slice L.oa (snocLast s.out k).length L.oc) (snocLast s.out k).length (L.vs.set (s.out.length - 1) (.slice (some ⟨g', 0, none⟩) (c.length + 1) c'))
  rw [hsl, hG]
  exact own_put hor _ _
 ·intro i d hd
  have hd' : (snocLast s.out k)[i]? = some d := hd
  have hil := (List.getElem?_eq_some_iff.1 hd').1
  by_cases hi : i + 1 < s.out.length
  ·rw [snocLast_at _ _ _ hi] at hd'
   obtain ⟨a3, c3, h1, h2⟩ := h.out.conts i d hd'
   refine ⟨a3, c3, by show (L.vs.set _ _)[i]? = _; rw [List.getElem?_set_ne (by omega)]; exact h1, own_chg (own_apart h2 hg fun x hx => ?_) hg2 ht2 (by decide)⟩
   intro e
   exact h.out.apart i (s.out.length - 1) _ _ x (by omega) h1 hv hx e
  ·have hi2 : i = s.out.length - 1 := by omega
   subst hi2
   rw [snocLast_last _ _ _ hc] at hd'
   have e : c ++ [k] = d := by simpa using hd'
   subst e
   refine ⟨some ⟨g', 0, none⟩, c', by show (L.vs.set _ _)[s.out.length - 1]? = _; rw [List.getElem?_set_self (by omega), List.length_append]; rfl, ?_⟩
   rw [List.length_append, List.flatMap_append]
   have := own_chg ho hg2 ht2 (by decide)
   simpa using this
 ·intro i j v u x hij hvi hvj hx
  have hvi' : (L.vs.set (s.out.length - 1) (.slice (some ⟨g', 0, none⟩) (c.length + 1) c'))[i]? = some v := hvi
  have hvj' : (L.vs.set (s.out.length - 1) (.slice (some ⟨g', 0, none⟩) (c.length + 1) c'))[j]? = some u := hvj
  have hlt : ∀ (i : Nat) (v : Value) (x : Nat), L.vs[i]? = some v → v.ownBlock = some x → x < w.heap.size := by
   intro i v x h1 h2
   have hi := (List.getElem?_eq_some_iff.1 h1).1
   obtain ⟨d, hd⟩ := get_of (show i < s.out.length by omega)
   obtain ⟨a3, c3, h3, h4⟩ := h.out.conts i d hd
   rw [h1] at h3
   have e : v = .slice a3 d.length c3 := by simpa using h3
   subst e
   exact (h4.lt x h2).2
  by_cases hi : i = s.out.length - 1
  ·subst hi
   rw [List.getElem?_set_self (by omega)] at hvi'
   have e : Value.slice (some ⟨g', 0, none⟩) (c.length + 1) c' = v := by simpa using hvi'
   subst e
   rw [List.getElem?_set_ne hij] at hvj'
   have e2 : g' = x := by simpa [Value.ownBlock] using hx
   subst e2
   intro hu
   rcases hat with e3 | e3
   ·exact h.out.apart _ j _ _ _ hij hv hvj' e3 hu
   ·have := hlt j u _ hvj' hu
    omega
  ·rw [List.getElem?_set_ne (by omega)] at hvi'
   by_cases hj : j = s.out.length - 1
   ·subst hj
    rw [List.getElem?_set_self (by omega)] at hvj'
    have e : Value.slice (some ⟨g', 0, none⟩) (c.length + 1) c' = u := by simpa using hvj'
    subst e
    intro hu
    have e2 : g' = x := by simpa [Value.ownBlock] using hu
    subst e2
    rcases hat with e3 | e3
    ·exact h.out.apart i _ _ _ _ hij hvi' hv hx e3
    ·have := hlt i v _ hvi' hx
     omega
   ·rw [List.getElem?_set_ne (by omega)] at hvj'
    exact h.out.apart i j v u x hij hvi' hvj' hx
theorem Mach.opened {w w' : World} {B M F R V g c : Nat} {L : Lay} {s : MS} {r : Rw} (h : Mach w B M F L s) (hr : RowAt w R V r) (hR : B ≤ R) (hne : ∀ q ∈ L.rb, q.1 ≠ R)
 (ho : w'.ownsRow B 85 1 (.slice (some ⟨g, 0, none⟩) (s.rows.length + 1) c) (s.rows.length + 1) ((L.rb.reverse.map fun q => .pointer (some ⟨q.1, 0, none⟩)) ++ [.pointer (some ⟨R, 0, none⟩)])) (hg : w.grownBy w' (some L.pg)) :
 Mach (w'.setCell ⟨M, 6, none⟩ (.slice (some ⟨g, 0, none⟩) (s.rows.length + 1) c)) B M F { L with pg := g, pc := c, rb := (R, V) :: L.rb } { s with rows := r :: s.rows } := by
 have ht : TypAt w (some L.pg) 85 := typ_own h.rows.own
 have hm := blk_chg h.mem hg ht (by decide)
 have hg2 := grown_set w' M 6 (.slice (some ⟨g, 0, none⟩) (s.rows.length + 1) c)
 have ht2 := typ_blk hm
 refine ⟨?_, h.mB, (h.out.chg hg ht (by decide) (by decide)).chg hg2 ht2 (by decide) (by decide), ⟨?_, ?_, ?_, ?_⟩, own_chg (own_chg h.stack hg ht (by decide)) hg2 ht2 (by decide)⟩
 ·rw [blk_set hm]
  simp [mcells]
 ·have := own_chg ho hg2 ht2 (by decide)
  simpa using this
 ·show L.rb.length + 1 = s.rows.length + 1
  rw [h.rows.len]
 ·intro i q p h1 h2
  cases i with
  | zero =>
    have e1 : r = q := by simpa using h1
    have e2 : (R, V) = p := by simpa using h2
    subst e1; subst e2
    exact ⟨hR, (hr.chg hg ht (by decide) (by decide)).chg hg2 ht2 (by decide) (by decide)⟩
  | succ i =>
    have h3 := h.rows.rows i q p h1 h2
    exact ⟨h3.1, (h3.2.chg hg ht (by decide) (by decide)).chg hg2 ht2 (by decide) (by decide)⟩
 ·show (((R, V) :: L.rb).map Prod.fst).Nodup
  rw [List.map_cons, List.nodup_cons]
  refine ⟨?_, h.rows.apart⟩
  intro hm
  obtain ⟨q, hq, e⟩ := List.mem_map.1 hm
  exact hne q hq e
theorem Mach.left {w : World} {B M F n : Nat} {L : Lay} {s : MS} {q : Nat × Nat} {rb : List (Nat × Nat)} {r : Rw} {rest : List Rw} (h : Mach w B M F L s) (hb : L.rb = q :: rb) (hr : s.rows = r :: rest) (hn : rest.length = n) :
 Mach (w.setCell ⟨M, 6, none⟩ (.slice (some ⟨L.pg, 0, none⟩) n L.pc)) B M F { L with rb := rb } { s with rows := rest } := by
 have hg := grown_set w M 6 (.slice (some ⟨L.pg, 0, none⟩) n L.pc)
 have hlen := h.rows.len
 rw [hb, hr] at hlen
 simp at hlen
 refine ⟨?_, h.mB, h.out.chg hg h.typ (by decide) (by decide), ⟨?_, hlen, ?_, ?_⟩, own_chg h.stack hg h.typ (by decide)⟩
 ·rw [blk_set h.mem]
  simp [mcells, hn]
 ·have h1 := own_chg h.rows.own hg h.typ (by decide)
  rw [hr, hb] at h1
  have h2 := own_cut h1 n (by simp; omega)
  have e : ((((q :: rb).reverse.map fun q => Value.pointer (some ⟨q.1, 0, none⟩)).take (n * 1))) = rb.reverse.map fun q => Value.pointer (some ⟨q.1, 0, none⟩) := by
   rw [List.reverse_cons, List.map_append, List.take_left' (by simp; omega)]
  rw [e] at h2
  show World.ownsRow _ B 85 1 (.slice (some ⟨L.pg, 0, none⟩) rest.length L.pc) rest.length _
  rw [hn]
  exact h2
 ·intro i x p h1 h2
  have h3 := h.rows.rows (i + 1) x p (by rw [hr]; exact h1) (by rw [hb]; exact h2)
  exact ⟨h3.1, h3.2.chg hg h.typ (by decide) (by decide)⟩
 ·have := h.rows.apart
  rw [hb, List.map_cons, List.nodup_cons] at this
  exact this.2
end Go.Proofs.YtklenppldblbdaaGreat
