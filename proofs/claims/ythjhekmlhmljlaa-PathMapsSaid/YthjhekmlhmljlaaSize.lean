/-
  What Size of the document's answer gives, as a contract over the translated program: the digits of a number without its sign, for every integer of 64 bits.
-/
import Derived.Test.YthjhekmlhmljlaaUnder
import Derived.Handy
namespace Go.Proofs.Ythjhekmlhmljlaa
open Go.RowKit Go.Lib
set_option linter.unusedSimpArgs false
set_option linter.unusedVariables false

theorem longV_small (m : Nat) (hm : m ≤ 9223372036854775808) : longV m = .agg #[.int .i64 ((m : Int) % 65536), .int .i64 ((m : Int) / 65536 % 65536), .int .i64 ((m : Int) / 65536 / 65536 % 65536), .int .i64 ((m : Int) / 65536 / 65536 / 65536 % 65536), .int .i64 0, .int .i64 0, .int .i64 0, .int .i64 0, .int .i64 0, .int .i64 0] := by
  unfold longV
  have h4 : ∀ i, 4 ≤ i → dig m i = 0 := fun i hi => dig_high (Nat.lt_of_lt_of_le (by omega : m < 65536 ^ 4) (Nat.pow_le_pow_right (by decide) hi))
  rw [h4 4 (by decide), h4 5 (by decide), h4 6 (by decide), h4 7 (by decide), h4 8 (by decide), h4 9 (by decide)]
  have e0 : (dig m 0 : Int) = (m : Int) % 65536 := by rw [dig_first]; omega
  have e1 : (dig m 1 : Int) = (m : Int) / 65536 % 65536 := by rw [dig_succ, dig_first]; omega
  have e2 : (dig m 2 : Int) = (m : Int) / 65536 / 65536 % 65536 := by rw [dig_succ, dig_succ, dig_first]; omega
  have e3 : (dig m 3 : Int) = (m : Int) / 65536 / 65536 / 65536 % 65536 := by rw [dig_succ, dig_succ, dig_succ, dig_first]; omega
  rw [e0, e1, e2, e3]
  rfl

set_option maxRecDepth 100000 in
set_option maxHeartbeats 1000000 in
theorem size_any (n : Int) (m : Nat) (w : World) (H0 : Hid (-9223372036854775808 ≤ n)) (H1 : Hid (n ≤ 9223372036854775807)) (HM : Hid (n.natAbs = m)) :
    Calls Try.prog 63 #[.int .i64 n] w fun e w' => e = .returned (longV m) ∧ Below w.heap.size w w' := by
  have hm : m ≤ 9223372036854775808 := by have := HM.out; have := H0.out; have := H1.out; omega
  have HV := Lib.hid (longV_small m hm)
  by_cases hn : n < 0
  · have HW := Lib.hid (u64_of_neg n H0.out hn)
    go_enter Try.func63, Try.ntmps63
    go_upto_region 5 with (fail)
    rw [HW.out, HM.out]
    go_wp2
    go_rounds 5
    refine bodyPost_ret (v := longV m) ?_ rfl ⟨rfl, ((Below.refl _ _).alloc (Nat.le_refl _) _).alloc (by simp) _⟩
    rw [HV.out]
    simp [results, Try.results63, go_sem]
  · have HW := Lib.hid (u64_of_pos n hn H1.out)
    go_enter Try.func63, Try.ntmps63
    go_upto_region 3 with (fail)
    rw [HW.out, HM.out]
    go_wp2
    go_rounds 5
    refine bodyPost_ret (v := longV m) ?_ rfl ⟨rfl, ((Below.refl _ _).alloc (Nat.le_refl _) _).alloc (by simp) _⟩
    rw [HV.out]
    simp [results, Try.results63, go_sem]
end Go.Proofs.Ythjhekmlhmljlaa
