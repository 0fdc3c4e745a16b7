/-
  What operand, programOperand, operator and pass of a row of package type2 answer.
-/
import Derived.Test.YtklenppldblbdaaTd
import Derived.Deep.RegionWith
namespace Go.Proofs.Ytklenppldblbdaa
open Go.RowKit Go.PlainAid
set_option linter.unusedSimpArgs false
set_option linter.unusedVariables false

/-- What a function of a row leaves: the row, nothing else changed. -/
def RowPost (R V : Nat) (r' : Rw) (v : Value) (w : World) (e : Ending) (w' : World) : Prop := e = .returned v ∧ RowAt w' R V r' ∧ w.grownBy w' (some R)

theorem operand_28 (r : Rw) (b : Int) (h : b = 28) : r.operand b = ((sign16 (r.next 2).1, true), (r.next 2).2) := by unfold Rw.operand; rw [if_pos h]
theorem operand_no (r : Rw) (b : Int) (h : b ≠ 28) (h2 : b < 32 ∨ b = 255) : r.operand b = ((0, false), r) := by unfold Rw.operand; rw [if_neg h, if_pos h2]
theorem operand_one (r : Rw) (b : Int) (h : ¬ b < 32) (h2 : b < 247) : r.operand b = ((b - 139, true), r) := by
  unfold Rw.operand; rw [if_neg (by omega), if_neg (by omega), if_pos h2]
theorem operand_up (r : Rw) (b : Int) (h : ¬ b < 247) (h2 : b < 251) : r.operand b = (((b - 247) * 256 + (r.next 1).1 + 108, true), (r.next 1).2) := by
  unfold Rw.operand; rw [if_neg (by omega), if_neg (by omega), if_neg (by omega), if_pos h2]
theorem operand_down (r : Rw) (b : Int) (h : ¬ b < 251) (h2 : b ≠ 255) : r.operand b = ((-(b - 251) * 256 - (r.next 1).1 - 108, true), (r.next 1).2) := by
  unfold Rw.operand; rw [if_neg (by omega), if_neg (by omega), if_neg (by omega), if_neg (by omega)]

set_option maxHeartbeats 1000000 in
theorem roperand_c (R V : Nat) (r : Rw) (b : Int) (w : World) (hr : RowAt w R V r) (hf : RwFit r) (b0 : 0 ≤ b) (b1 : b ≤ 255) :
    Calls Try.prog 52 #[.pointer (some ⟨R, 0, none⟩), .int .i64 b] w (RowPost R V (r.operand b).2 (.tuple #[.int .i64 (r.operand b).1.1, .bool (r.operand b).1.2]) w) := by
  have HR := Lib.hid hr
  have HS := Lib.hid (rsigned_c R V r w hr hf)
  have HB := Lib.hid (rbyte_c R V r w hr hf)
  have HN := Lib.hid (next_bound r).1
  clear hr hf
  by_cases h28 : b = 28
  · have HE := Lib.hid (operand_28 r b h28)
    subst h28
    rw [HE.out]
    go_enter Try.func52, Try.ntmps52
    go_wp2_with fail
    refine HS.out.mono ?_
    rintro e w1 ⟨rfl, h1, h2⟩
    have H1 := Lib.hid h1
    have H2 := Lib.hid h2
    clear h1 h2
    go_wp2_with fail
    go_ret2
    exact ⟨rfl, H1.out, H2.out⟩
  · by_cases h32 : b < 32
    · have HE := Lib.hid (operand_no r b h28 (.inl h32))
      rw [HE.out]
      go_enter Try.func52, Try.ntmps52
      go_wp2_with fail
      go_ret2
      exact ⟨rfl, HR.out, grown_refl _ _⟩
    · by_cases h255 : b = 255
      · have HE := Lib.hid (operand_no r b h28 (.inr h255))
        subst h255
        rw [HE.out]
        go_enter Try.func52, Try.ntmps52
        go_wp2_with fail
        go_ret2
        exact ⟨rfl, HR.out, grown_refl _ _⟩
      · by_cases h247 : b < 247
        · have HE := Lib.hid (operand_one r b h32 h247)
          rw [HE.out]
          go_enter Try.func52, Try.ntmps52
          go_wp2_with fail
          go_ret2
          exact ⟨rfl, HR.out, grown_refl _ _⟩
        · by_cases h251 : b < 251
          · have HE := Lib.hid (operand_up r b h247 h251)
            rw [HE.out]
            go_enter Try.func52, Try.ntmps52
            go_wp2_with fail
            refine HB.out.mono ?_
            rintro e w1 ⟨rfl, h1, h2⟩
            have H1 := Lib.hid h1
            have H2 := Lib.hid h2
            have n0 := HN.out.1
            have n1 := HN.out.2
            clear h1 h2
            generalize (r.next 1).1 = x at *
            go_wp2_with fail
            go_ret2
            exact ⟨rfl, H1.out, H2.out⟩
          · have HE := Lib.hid (operand_down r b h251 h255)
            rw [HE.out]
            go_enter Try.func52, Try.ntmps52
            go_wp2_with fail
            refine HB.out.mono ?_
            rintro e w1 ⟨rfl, h1, h2⟩
            have H1 := Lib.hid h1
            have H2 := Lib.hid h2
            have n0 := HN.out.1
            have n1 := HN.out.2
            clear h1 h2
            generalize (r.next 1).1 = x at *
            go_wp2_with fail
            go_ret2
            exact ⟨rfl, H1.out, H2.out⟩

theorem sign16_bound {x : Int} (h0 : 0 ≤ x) (h1 : x ≤ 65535) : -32768 ≤ sign16 x ∧ sign16 x ≤ 32767 := by unfold sign16; split <;> omega
theorem sign32_bound {x : Int} (h0 : 0 ≤ x) (h1 : x ≤ 4294967295) : -2147483648 ≤ sign32 x ∧ sign32 x ≤ 2147483647 := by unfold sign32; split <;> omega
theorem operand_bound (r : Rw) (b : Int) (b0 : 0 ≤ b) (b1 : b ≤ 255) : -32768 ≤ (r.operand b).1.1 ∧ (r.operand b).1.1 ≤ 32767 := by
  have h1 := (next_bound r).1
  have h2 := (next_bound r).2.1
  have h3 := sign16_bound h2.1 h2.2
  unfold Rw.operand
  split
  · exact h3
  · split
    · exact ⟨by simp, by simp⟩
    · split
      · simp only; omega
      · split
        · simp only; omega
        · simp only; omega

set_option maxHeartbeats 1000000 in
theorem rprog_c (R V : Nat) (r : Rw) (b : Int) (w : World) (hr : RowAt w R V r) (hf : RwFit r) (b0 : 0 ≤ b) (b1 : b ≤ 255) :
    Calls Try.prog 39 #[.pointer (some ⟨R, 0, none⟩), .int .i64 b] w (RowPost R V (r.prog b).2 (.tuple #[.int .i64 (r.prog b).1.1, .bool (r.prog b).1.2]) w) := by
  have HL := Lib.hid (rlong_c R V r w hr hf)
  have HO := Lib.hid (roperand_c R V r b w hr hf b0 b1)
  have HB := Lib.hid (operand_bound r b b0 b1)
  clear hr hf
  by_cases h : b = 255
  · have HE : Hid (r.prog b = ((sign32 (r.next 4).1, true), (r.next 4).2)) := by unfold Hid Rw.prog; rw [if_pos h]
    clear HO HB
    subst h
    rw [HE.out]
    go_enter Try.func39, Try.ntmps39
    go_wp2_with fail
    refine HL.out.mono ?_
    rintro e w1 ⟨rfl, h1, h2⟩
    have H1 := Lib.hid h1
    have H2 := Lib.hid h2
    clear h1 h2
    go_wp2_with fail
    go_ret2
    exact ⟨rfl, H1.out, H2.out⟩
  · have HE : Hid (r.prog b = (((r.operand b).1.1 * 65536, (r.operand b).1.2), (r.operand b).2)) := by unfold Hid Rw.prog; rw [if_neg h]
    rw [HE.out]
    have n0 := HB.out.1
    have n1 := HB.out.2
    clear HB HE
    obtain ⟨r2, HR2⟩ : ∃ r2, Hid ((r.operand b).2 = r2) := ⟨_, rfl⟩
    rw [HR2.out] at HO ⊢
    generalize (r.operand b).1.1 = x at *
    generalize (r.operand b).1.2 = y at *
    go_enter Try.func39, Try.ntmps39
    go_wp2_with fail
    refine HO.out.mono ?_
    rintro e w1 ⟨rfl, h1, h2⟩
    have H1 := Lib.hid h1
    have H2 := Lib.hid h2
    clear h1 h2
    go_wp2_with fail
    go_ret2
    exact ⟨rfl, H1.out, H2.out⟩

set_option maxHeartbeats 1000000 in
theorem roper_c (R V : Nat) (r : Rw) (b : Int) (w : World) (hr : RowAt w R V r) (hf : RwFit r) :
    Calls Try.prog 40 #[.pointer (some ⟨R, 0, none⟩), .int .i64 b] w (RowPost R V (r.oper b).2 (.int .i64 (r.oper b).1) w) := by
  have HR := Lib.hid hr
  have HB := Lib.hid (rbyte_c R V r w hr hf)
  have HN := Lib.hid (next_bound r).1
  clear hr hf
  by_cases h : b = 12
  · have HE : Hid (r.oper b = (1200 + (r.next 1).1, (r.next 1).2)) := by unfold Hid Rw.oper; rw [if_pos h]
    subst h
    rw [HE.out]
    have n0 := HN.out.1
    have n1 := HN.out.2
    clear HN HE
    obtain ⟨r2, HR2⟩ : ∃ r2, Hid ((r.next 1).2 = r2) := ⟨_, rfl⟩
    rw [HR2.out] at HB ⊢
    generalize (r.next 1).1 = x at *
    go_enter Try.func40, Try.ntmps40
    go_wp2_with fail
    refine HB.out.mono ?_
    rintro e w1 ⟨rfl, h1, h2⟩
    have H1 := Lib.hid h1
    have H2 := Lib.hid h2
    clear h1 h2
    go_wp2_with fail
    go_ret
    exact ⟨rfl, H1.out, H2.out⟩
  · have HE : Hid (r.oper b = (b, r)) := by unfold Hid Rw.oper; rw [if_neg h]
    rw [HE.out]
    go_enter Try.func40, Try.ntmps40
    go_wp2_with fail
    go_ret
    exact ⟨rfl, HR.out, grown_refl _ _⟩

theorem cut_any (g p k : Nat) (s : ByteArray) (w : World) (hc : w.cell? ⟨g, 0, none⟩ = some (.string s)) (hs : (s.size : Int) ≤ 140737488355328) (hp : (p : Int) ≤ 9223372036854775807) :
    Calls Try.prog 28 #[.pointer (some ⟨g, 0, none⟩), .int .i64 (p : Int), .int .i64 (k : Int)] w fun e w' => (∃ v, e = .returned (.tuple #[.pointer v, .int .i64 (if hasB s p k = true then 0 else 21)])) ∧ Below w.heap.size w w' := by
  cases h : hasB s p k
  · refine (cut_no g p k s w hc hs hp h).mono ?_
    rintro e w' ⟨rfl, rfl⟩
    exact ⟨⟨_, rfl⟩, Below.refl _ _⟩
  · have h' := h
    simp [hasB] at h'
    refine (cut_yes g p k s w hc hs (by omega)).mono ?_
    rintro e w' ⟨rfl, rfl⟩
    exact ⟨⟨_, rfl⟩, (Below.refl _ _).alloc (Nat.le_refl _) _⟩

set_option maxHeartbeats 1000000 in
theorem rpass_c (R V : Nat) (r : Rw) (n : Nat) (w : World) (hr : RowAt w R V r) (hf : RwFit r) (hn : n ≤ 1000) :
    Calls Try.prog 70 #[.pointer (some ⟨R, 0, none⟩), .int .i64 (n : Int)] w (RowPost R V (r.pass n) (.tuple #[]) w) := by
  have HR := Lib.hid hr
  have HC := Lib.hid (cut_any V r.p n r.s w.drew hr.view hf.small.1 hf.small.2)
  have HW : Hid (wrap64 ((r.p : Int) + (n : Int)) = ((r.p + n : Nat) : Int)) := by have := hf.2; unfold Hid wrap64; omega
  have h0 := hr.c0
  have h1 := hr.c1
  clear hr hf hn
  cases hh : hasB r.s r.p n
  · have HE := Lib.hid hh
    rw [hh] at HC
    clear hh
    go_enter Try.func70, Try.ntmps70
    go_wp2_with fail
    go_region_with (go_at_call 28; refine HC.out.mono ?_; rintro e w2 ⟨⟨v, rfl⟩, hb2⟩)
    all_goals (
      have HB2 := Lib.hid (Below.trans (Below.refl w.heap.size w).drew hb2)
      have HR2 := Lib.hid (HR.out.below HB2.out)
      have c1 := HR2.out.c1
      have c2 := HR2.out.c2
      have f1 := blk_free HR2.out.row 1
      have f2 := blk_free HR2.out.row 2
      clear h0 h1 hb2 HC
      go_wp2_with fail
      go_end0
      rw [HW.out]
      refine ⟨rfl, ?_, grown_trans (grown_bel _ HB2.out) (grown_trans (grown_set _ _ _ _) (grown_set _ _ _ _))⟩
      have := (HR2.out.setC true).setP (r.p + n)
      simpa [Rw.pass, HE.out] using this)
  · have HE := Lib.hid hh
    rw [hh] at HC
    clear hh
    go_enter Try.func70, Try.ntmps70
    go_wp2_with fail
    go_region_with (go_at_call 28; refine HC.out.mono ?_; rintro e w2 ⟨⟨v, rfl⟩, hb2⟩)
    all_goals (
      have HB2 := Lib.hid (Below.trans (Below.refl w.heap.size w).drew hb2)
      have HR2 := Lib.hid (HR.out.below HB2.out)
      have c1 := HR2.out.c1
      have f1 := blk_free HR2.out.row 1
      clear h0 h1 hb2 HC
      go_wp2_with fail
      go_end0
      rw [HW.out]
      refine ⟨rfl, ?_, grown_trans (grown_bel _ HB2.out) (grown_set _ _ _ _)⟩
      have := HR2.out.setP (r.p + n)
      simpa [Rw.pass, HE.out] using this)

end Go.Proofs.Ytklenppldblbdaa
