import Derived.Test.YtklenppldblbdaaGreatK02
import Derived.Deep.DeepCutAuto
import Derived.Deep.AppendLies
import Derived.Deep.QuietTactic
set_option linter.unusedSimpArgs false
set_option linter.unusedVariables false
namespace Go.Proofs.YtklenppldblbdaaGreat
open Go.RowKit Go.Lib
def DivAt (hi lo y q r : Nat) : Prop := ∀ w : World, Calls Tryz.prog 111 #[.int .u64 hi, .int .u64 lo, .int .u64 y] w fun e w' => e = .returned (.tuple #[.int .u64 (q : Int), .int .u64 (r : Int)]) ∧ ∃ n, w' = w.drewN n
def near (m c : Nat) : Nat := (2 * m + c) / (2 * c)
def mulDiv (a b c : Int) : Int × Int :=
 if c = 0 ∨ 2147483647 < near (a.natAbs * b.natAbs) c.natAbs then (0, 14)
 else (if (prodNeg a b != decide (c < 0)) = true then -(near (a.natAbs * b.natAbs) c.natAbs : Int) else (near (a.natAbs * b.natAbs) c.natAbs : Int), 0)
def roundQ (q r y : Nat) (minus : Bool) : Int × Int :=
 if 2147483647 < q then (0, 14)
 else if 2147483647 < q + (if y ≤ 2 * r then 1 else 0) then (0, 14)
 else (if minus = true then -((q + (if y ≤ 2 * r then 1 else 0) : Nat) : Int) else ((q + (if y ≤ 2 * r then 1 else 0) : Nat) : Int), 0)
theorem roundQ_up (q r y : Nat) (h : y ≤ 2 * r) (hq : q + 1 ≤ 2147483647) (m : Bool) : roundQ q r y m = (if m = true then -((q + 1 : Nat) : Int) else ((q + 1 : Nat) : Int), 0) := by
 unfold roundQ; rw [if_neg (by omega), if_pos h, if_neg (by omega)]
theorem roundQ_down (q r y : Nat) (h : ¬ y ≤ 2 * r) (hq : q ≤ 2147483647) (m : Bool) : roundQ q r y m = (if m = true then -(q : Int) else (q : Int), 0) := by
 unfold roundQ; rw [if_neg (by omega), if_neg h, if_neg (by omega)]; rfl
theorem near_eq (m c : Nat) (hc : 0 < c) : near m c = m / c + if c ≤ 2 * (m % c) then 1 else 0 := by
 unfold near
 have hm := Nat.div_add_mod m c
 have hr := Nat.mod_lt m hc
 generalize m / c = q at *
 generalize m % c = r at *
 subst hm
 split
 ·rw [Nat.div_eq_iff (by omega)]
  have : 2 * c * (q + 1) = 2 * (c * q) + 2 * c := by rw [Nat.mul_add, Nat.mul_assoc]; omega
  constructor <;> (try rw [Nat.mul_comm (q + 1)]) <;> omega
 ·rw [Nat.div_eq_iff (by omega)]
  have : 2 * c * (q + 0) = 2 * (c * q) := by rw [Nat.add_zero, Nat.mul_assoc]
  constructor <;> (try rw [Nat.mul_comm (q + 0)]) <;> omega
set_option maxHeartbeats 400000 in
theorem muldiv_great (a b c : Int) (hi lo y : Nat) (w : World) (H1 : Hid (-9223372036854775808 ≤ a)) (H2 : Hid (a ≤ 9223372036854775807)) (H3 : Hid (-9223372036854775808 ≤ b)) (H4 : Hid (b ≤ 9223372036854775807))
 (H5 : Hid (-9223372036854775808 ≤ c)) (H6 : Hid (c ≤ 9223372036854775807))
 (HH : Hid (a.natAbs * b.natAbs / 18446744073709551616 = hi)) (HL : Hid (a.natAbs * b.natAbs % 18446744073709551616 = lo)) (HY : Hid (c.natAbs = y))
 (hg : y ≤ hi) :
 Calls Tryz.prog 106 #[.int .i64 a, .int .i64 b, .int .i64 c] w fun e w' => e = .returned (.tuple #[.int .i64 0, .int .i64 14]) ∧ Below w.heap.size w w' := by
 go_enter Tryz.func106, Tryz.ntmps106
 go_wp2_with fail
 refine (product_core a b hi lo _ H1 H2 H3 H4 HH HL).mono ?_
 rintro e w' ⟨rfl, hb⟩
 go_wp2_with fail
 refine (magnitude_any c _ H5.out H6.out).mono ?_
 rintro e w' ⟨rfl, rfl⟩
 rw [HY.out]
 go_wp2_with fail
 go_ret2
 exact ⟨rfl, hb.trans ((Below.refl _ _).alloc hb.size _)⟩
set_option maxRecDepth 100000 in
set_option maxHeartbeats 1000000 in
theorem muldiv_small (a b c : Int) (hi lo y q r : Nat) (w : World) (H1 : Hid (-9223372036854775808 ≤ a)) (H2 : Hid (a ≤ 9223372036854775807)) (H3 : Hid (-9223372036854775808 ≤ b)) (H4 : Hid (b ≤ 9223372036854775807))
 (H5 : Hid (-9223372036854775808 ≤ c)) (H6 : Hid (c ≤ 9223372036854775807))
 (HH : Hid (a.natAbs * b.natAbs / 18446744073709551616 = hi)) (HL : Hid (a.natAbs * b.natAbs % 18446744073709551616 = lo)) (HY : Hid (c.natAbs = y))
 (hg : hi < y) (D : Hid (DivAt hi lo y q r)) (hr : r < y) (hy : y ≤ 9223372036854775808) :
 Calls Tryz.prog 106 #[.int .i64 a, .int .i64 b, .int .i64 c] w fun e w' => e = .returned (.tuple #[.int .i64 (roundQ q r y (prodNeg a b != decide (c < 0))).1, .int .i64 (roundQ q r y (prodNeg a b != decide (c < 0))).2]) ∧ Below w.heap.size w w' := by
 generalize hn : prodNeg a b = ng
 have HN := Lib.hid hn
 clear hn
 go_enter Tryz.func106, Tryz.ntmps106
 go_wp2_with fail
 refine (product_core a b hi lo _ H1 H2 H3 H4 HH HL).mono ?_
 rintro e w1 ⟨rfl, hb⟩
 rw [HN.out]
 go_wp2_with fail
 refine (magnitude_any c _ H5.out H6.out).mono ?_
 rintro e w' ⟨rfl, rfl⟩
 rw [HY.out]
 have HB : Below w.heap.size w (w1.alloc (.cells #[.bool ng, .int .u64 hi, .int .u64 lo] 152)) := hb.alloc hb.size _
 clear hb
 go_wp2_with fail
 refine (D.out _).mono ?_
 rintro e w' ⟨rfl, n, rfl⟩
 by_cases hq : (2147483647 : Int) < (q : Int)
 ·have HF : Hid (roundQ q r y (ng != decide (c < 0)) = (0, 14)) := by unfold roundQ; rw [if_pos (by omega)]; rfl
  go_wp2_with fail
  go_ret2
  rw [HF.out]
  exact ⟨rfl, below_drewN HB _⟩
 ·have HW : IntKind.u64.wrap ((y : Int) - (r : Int)) = ((y - r : Nat) : Int) := by rw [IntKind.wrap_u64]; omega
  have HR := Lib.hid hr
  have HYY := Lib.hid hy
  clear hr hy
  by_cases hh : y ≤ 2 * r
  ·have hh1 : y - r ≤ r := by omega
   have HHH := Lib.hid hh
   clear hh
   go_upto_region 9 with (fail)
   generalize hq1 : (q : Int) + 1 = q1
   have hp : 0 ≤ q1 := by omega
   have HQ1 := Lib.hid hq1
   clear hq1
   by_cases hq2 : 2147483647 < q1
   ·have HF : Hid (roundQ q r y (ng != decide (c < 0)) = (0, 14)) := by
     unfold roundQ; rw [if_neg (by omega), if_pos HHH.out, if_pos (by have := HQ1.out; omega)]; rfl
    go_wp2_with fail
    go_ret2
    rw [HF.out]
    exact ⟨rfl, below_drewN HB _⟩
   ·have HF := Lib.hid (roundQ_up q r y HHH.out (by have := HQ1.out; omega))
    by_cases hc : c < 0
    all_goals
     cases ng
     all_goals
      go_wp2_with fail
      all_goals
       go_ret2
       rw [HF.out]
       refine ⟨ret_ints ?_ rfl, below_drewN HB _⟩
       have := HQ1.out
       simp
       first | omega | (split <;> omega)
  ·have hh1 : ¬ y - r ≤ r := by have := HR.out; omega
   have HHH := Lib.hid hh
   clear hh
   have HF := Lib.hid (roundQ_down q r y HHH.out (by omega))
   by_cases hc : c < 0
   all_goals
    cases ng
    all_goals
     go_wp2_with fail
     all_goals
      go_ret2
      rw [HF.out]
      refine ⟨ret_ints ?_ rfl, below_drewN HB _⟩
      simp
      try (first | (intro _; omega) | (rename_i hx; simp at hx; omega))
theorem muldiv_of (a b c : Int) (w : World) (a0 : -9223372036854775808 ≤ a) (a1 : a ≤ 9223372036854775807) (b0 : -9223372036854775808 ≤ b) (b1 : b ≤ 9223372036854775807)
 (c0 : -9223372036854775808 ≤ c) (c1 : c ≤ 9223372036854775807)
 (D : a.natAbs * b.natAbs / 18446744073709551616 < c.natAbs → DivAt (a.natAbs * b.natAbs / 18446744073709551616) (a.natAbs * b.natAbs % 18446744073709551616) c.natAbs (a.natAbs * b.natAbs / c.natAbs) (a.natAbs * b.natAbs % c.natAbs)) :
 Calls Tryz.prog 106 #[.int .i64 a, .int .i64 b, .int .i64 c] w fun e w' => e = .returned (.tuple #[.int .i64 (mulDiv a b c).1, .int .i64 (mulDiv a b c).2]) ∧ Below w.heap.size w w' := by
 by_cases hg : c.natAbs ≤ a.natAbs * b.natAbs / 18446744073709551616
 ·have e : mulDiv a b c = (0, 14) := by
   unfold mulDiv
   rw [if_pos]
   by_cases h0 : c = 0
   ·exact .inl h0
   ·right
    rw [near_eq _ _ (by omega)]
    have h1 : c.natAbs * 18446744073709551616 ≤ a.natAbs * b.natAbs := by omega
    have h2 : 18446744073709551616 ≤ a.natAbs * b.natAbs / c.natAbs := (Nat.le_div_iff_mul_le (by omega)).2 (by rw [Nat.mul_comm]; exact h1)
    omega
  rw [e]
  exact muldiv_great a b c _ _ _ w a0 a1 b0 b1 c0 c1 rfl rfl rfl hg
 ·have hy : 0 < c.natAbs := by omega
  refine (muldiv_small a b c _ _ _ _ _ w a0 a1 b0 b1 c0 c1 rfl rfl rfl (by omega) (D (by omega)) (Nat.mod_lt _ hy) (by omega)).mono ?_
  rintro e w' ⟨rfl, hb⟩
  refine ⟨?_, hb⟩
  have e : roundQ (a.natAbs * b.natAbs / c.natAbs) (a.natAbs * b.natAbs % c.natAbs) c.natAbs (prodNeg a b != decide (c < 0)) = mulDiv a b c := by
   unfold mulDiv roundQ
   rw [near_eq _ _ hy]
   generalize a.natAbs * b.natAbs / c.natAbs = q
   generalize (if c.natAbs ≤ 2 * (a.natAbs * b.natAbs % c.natAbs) then 1 else 0) = u
   have hc : ¬ c = 0 := by omega
   by_cases h1 : 2147483647 < q
   ·rw [if_pos h1, if_pos (.inr (by omega))]
   ·rw [if_neg h1]
    by_cases h2 : 2147483647 < q + u
    ·rw [if_pos h2, if_pos (.inr h2)]
    ·rw [if_neg h2, if_neg (c := c = 0 ∨ 2147483647 < q + u) (by omega)]
  rw [e]
end Go.Proofs.YtklenppldblbdaaGreat
namespace Go.Proofs.YtklenppldblbdaaGreat
open Go.RowKit Go.Lib
theorem muldiv_low (a b c : Int) (w : World) (a0 : -9223372036854775808 ≤ a) (a1 : a ≤ 9223372036854775807) (b0 : -9223372036854775808 ≤ b) (b1 : b ≤ 9223372036854775807)
 (c0 : -9223372036854775808 ≤ c) (c1 : c ≤ 9223372036854775807) (hm : a.natAbs * b.natAbs < 18446744073709551616) :
 Calls Tryz.prog 106 #[.int .i64 a, .int .i64 b, .int .i64 c] w fun e w' => e = .returned (.tuple #[.int .i64 (mulDiv a b c).1, .int .i64 (mulDiv a b c).2]) ∧ Below w.heap.size w w' := by
 refine muldiv_of a b c w a0 a1 b0 b1 c0 c1 ?_
 intro h wd
 rw [Nat.div_eq_of_lt hm] at h ⊢
 rw [Nat.mod_eq_of_lt hm]
 exact div64_low _ _ wd h (by omega) hm
end Go.Proofs.YtklenppldblbdaaGreat
namespace Go.Proofs.YtklenppldblbdaaGreat
open Go.RowKit
set_option maxHeartbeats 400000 in
theorem allFix_any (b len cap : Nat) (zs : List Int) (w : World) (hz : zs.length = len) (hbig : len ≤ 100)
 (hc : ∀ j, j < zs.length → w.cell? ⟨b, j, none⟩ = some (.int .i64 (zs.getD j 0))) :
 Calls Tryz.prog 115 #[.slice (some ⟨b, 0, none⟩) len cap] w fun e w' => e = .returned (.bool (fixAll zs)) ∧ w = w' := by
 have HC := Lib.hid hc
 have HZ := Lib.hid hz
 have hz1 : zs.length ≤ len := by omega
 clear hc hz
 go_enter Tryz.func115, Tryz.ntmps115
 go_wp2
 go_loop [7] (fun i => ∃ k : Nat, k ≤ len ∧ i = .int .i64 k ∧ Hid (fixAll (zs.take k) = true)) (fun i => len - (intOf i).toNat)
 case atStart => exact ⟨0, Nat.zero_le _, rfl, rfl⟩
 case round =>
  obtain ⟨k, hk, rfl, HF⟩ := hrel
  by_cases hlt : k < len
  ·have hcell := HC.out k (by have := HZ.out; omega)
   have HS : Hid (zs.take (k + 1) = zs.take k ++ [zs.getD k 0]) := by
    have hl : k < zs.length := by have := HZ.out; omega
    rw [List.take_add_one]; simp [hl, Hid]
   have HG : Hid (fixAll zs = true → fixB (zs.getD k 0) = true) := by
    have hl : k < zs.length := by have := HZ.out; omega
    intro h
    have e : zs = zs.take k ++ zs.getD k 0 :: zs.drop (k + 1) := by
     simp [List.getD, hl]
    rw [e] at h
    exact fixAll_mid _ _ _ h
   generalize zs.getD k 0 = n at *
   by_cases h1 : n < -2147483647
   ·go_wp2
    go_ret
    exact ⟨by rw [fixAll_no HG.out (by simp [fixB]; omega)]; rfl, rfl⟩
   ·by_cases h2 : 2147483647 < n
    ·go_wp2
     go_ret
     exact ⟨by rw [fixAll_no HG.out (by simp [fixB]; omega)]; rfl, rfl⟩
    ·go_wp2
     go_round
     case rel => exact ⟨k + 1, by omega, by go_num, by unfold Hid; rw [HS.out, fixAll_snoc, HF.out]; simp [fixB]; omega⟩
     case measure => simp [intOf]; omega
  ·go_wp2
   go_ret
   have e : zs.take k = zs := List.take_of_length_le (by omega)
   have := HF.out
   rw [e] at this
   exact ⟨by rw [this]; rfl, rfl⟩
end Go.Proofs.YtklenppldblbdaaGreat
namespace Go.Proofs.YtklenppldblbdaaGreat
open Go.RowKit Go.Lib
theorem fixB_true {n : Int} (h : fixB n = true) : -2147483647 ≤ n ∧ n ≤ 2147483647 := by simpa [fixB] using h
def sumOr (a b : Int) : Int × Int := if (fixB a && fixB b && fixB (a + b)) = true then (a + b, 0) else (0, 14)
theorem allFix_one (n : Int) (w : World) (b : Nat) (hc : w.cell? ⟨b, 0, none⟩ = some (.int .i64 n)) :
 Calls Tryz.prog 115 #[.slice (some ⟨b, 0, none⟩) 1 1] w fun e w' => e = .returned (.bool (fixB n)) ∧ w = w' := by
 have h := allFix_any b 1 1 [n] w rfl (by omega) (by intro j hj; have : j = 0 := by simpa using hj
                                                     subst this; simpa using hc)
 simpa [fixAll] using h
theorem allFix_two (n m : Int) (w : World) (b : Nat) (hc : w.cell? ⟨b, 0, none⟩ = some (.int .i64 n)) (hc1 : w.cell? ⟨b, 1, none⟩ = some (.int .i64 m)) :
 Calls Tryz.prog 115 #[.slice (some ⟨b, 0, none⟩) 2 2] w fun e w' => e = .returned (.bool (fixB n && fixB m)) ∧ w = w' := by
 have h := allFix_any b 2 2 [n, m] w rfl (by omega) (by
  intro j hj
  have : j = 0 ∨ j = 1 := by simp at hj; omega
  rcases this with rfl | rfl
  ·simpa using hc
  ·simpa using hc1)
 simpa [fixAll] using h
set_option maxHeartbeats 400000 in
theorem fix_any (n : Int) (w : World) :
 Calls Tryz.prog 81 #[.int .i64 n] w fun e w' => e = .returned (.bool (fixB n)) ∧ w = w' := by
 by_cases h1 : -2147483647 ≤ n
 ·by_cases h2 : n ≤ 2147483647
  ·have HF : Hid (fixB n = true) := by simp [Hid, fixB]; omega
   go_enter Tryz.func81, Tryz.ntmps81
   go_wp2
   go_ret
   exact ⟨by rw [HF.out]; rfl, rfl⟩
  ·have HF : Hid (fixB n = false) := by simp [Hid, fixB]; omega
   go_enter Tryz.func81, Tryz.ntmps81
   go_wp2
   go_ret
   exact ⟨by rw [HF.out]; rfl, rfl⟩
 ·have HF : Hid (fixB n = false) := by simp [Hid, fixB]; omega
  go_enter Tryz.func81, Tryz.ntmps81
  go_wp2
  go_ret
  exact ⟨by rw [HF.out]; rfl, rfl⟩
set_option maxHeartbeats 400000 in
theorem add_any (a b s f : Int) (w : World) (HS : Hid (sumOr a b = (s, f))) :
 Calls Tryz.prog 112 #[.int .i64 a, .int .i64 b] w fun e w' => e = .returned (.tuple #[.int .i64 s, .int .i64 f]) ∧ Below w.heap.size w w' := by
 by_cases h : (fixB a && fixB b) = true
 ·have ha := fixB_true (Bool.and_eq_true_iff.1 h).1
  have hb := fixB_true (Bool.and_eq_true_iff.1 h).2
  have H := Lib.hid h
  clear h
  obtain ⟨a1, a2⟩ := ha
  obtain ⟨b1, b2⟩ := hb
  go_enter Tryz.func112, Tryz.ntmps112
  go_wp2_with fail
  refine (allFix_two a b _ w.heap.size (by go_simp) (by go_simp)).mono ?_
  rintro e w1 ⟨rfl, rfl⟩
  rw [H.out]
  go_wp2_with fail
  refine (allFix_one (a + b) _ (w.heap.size + 1) (by go_simp)).mono ?_
  rintro e w1 ⟨rfl, rfl⟩
  cases h2 : fixB (a + b)
  ·have HF : Hid (s = 0 ∧ f = 14) := by
    have := HS.out
    rw [sumOr, H.out, h2] at this
    simp at this
    exact ⟨this.1.symm, this.2.symm⟩
   clear h2
   go_wp2_with fail
   go_ret2
   rw [HF.out.1, HF.out.2]
   exact ⟨rfl, ((Below.refl _ _).alloc (Nat.le_refl _) _).alloc (by simp) _⟩
  ·have HF : Hid (s = a + b ∧ f = 0) := by
    have := HS.out
    rw [sumOr, H.out, h2] at this
    simp at this
    exact ⟨this.1.symm, this.2.symm⟩
   clear h2
   go_wp2_with fail
   go_ret2
   rw [HF.out.1, HF.out.2]
   exact ⟨rfl, ((Below.refl _ _).alloc (Nat.le_refl _) _).alloc (by simp) _⟩
 ·have H : Hid ((fixB a && fixB b) = false) := by simpa [Hid] using h
  have HF : Hid (s = 0 ∧ f = 14) := by
   have := HS.out
   rw [sumOr, H.out] at this
   simp at this
   exact ⟨this.1.symm, this.2.symm⟩
  clear h
  go_enter Tryz.func112, Tryz.ntmps112
  go_wp2_with fail
  refine (allFix_two a b _ w.heap.size (by go_simp) (by go_simp)).mono ?_
  rintro e w1 ⟨rfl, rfl⟩
  rw [H.out]
  go_wp2_with fail
  go_ret2
  rw [HF.out.1, HF.out.2]
  exact ⟨rfl, (Below.refl _ _).alloc (Nat.le_refl _) _⟩
end Go.Proofs.YtklenppldblbdaaGreat
namespace Go.Proofs.YtklenppldblbdaaGreat
open Go.RowKit Go.PlainAid
def IsI (w : World) (a : Option Addr) (len cap : Nat) (L : List Int) : Prop :=
 L.length = len ∧ (len = 0 ∨ ∃ b off, a = some ⟨b, off, none⟩ ∧ ∀ i, i < len → w.cell? ⟨b, off + i, none⟩ = some (.int .i64 (L.getD i 0)))
theorem IsI.below {w w' : World} {a : Option Addr} {len cap : Nat} {L : List Int} (h : IsI w a len cap L) (hb : Below w.heap.size w w') : IsI w' a len cap L := by
 obtain ⟨h1, h2 | ⟨b, off, h3, h4⟩⟩ := h
 ·exact ⟨h1, .inl h2⟩
 ·exact ⟨h1, .inr ⟨b, off, h3, fun i hi => keepC hb (h4 i hi)⟩⟩
def BytL (w : World) (g : Nat) (L : List Int) : Prop := w.heap[g]? = some (.cells (L.map (Value.int .u8)).toArray 5 (0, 0))
def bytesL (s : ByteArray) : List Int := (List.range s.size).map (bt s)
theorem bytesL_cells (s : ByteArray) : (bytesL s).map (Value.int .u8) = cellsOfStr s := by simp [bytesL, cellsOfStr, List.map_map, Function.comp_def]
theorem bytesL_join (s t : ByteArray) : bytesL (s ++ t) = bytesL s ++ bytesL t := by
 apply List.ext_getElem
 ·simp [bytesL]
 ·intro i h1 h2
  simp [bytesL] at h1
  rw [List.getElem_append]
  simp only [bytesL, List.length_map, List.length_range, List.getElem_map, List.getElem_range]
  split
  ·rename_i h; exact bt_join_left s t h
  ·rename_i h
   have := bt_join_right s t (i := i - s.size) (by omega)
   rwa [show s.size + (i - s.size) = i by omega] at this
theorem BytL.lt {w : World} {g : Nat} {L : List Int} (h : BytL w g L) : g < w.heap.size := (Array.getElem?_eq_some_iff.1 h).1
theorem BytL.cell {w : World} {g : Nat} {L : List Int} (h : BytL w g L) {i : Nat} (hi : i < L.length) : w.cell? ⟨g, i, none⟩ = some (.int .u8 (L.getD i 0)) := by
 have h' : w.heap[g]? = _ := h
 simp [World.cell?, World.cells?, h', hi, List.getD]
theorem BytL.frozen {w : World} {g : Nat} {L : List Int} (h : BytL w g L) (i : Nat) : w.frozen? ⟨g, i, none⟩ = false := by
 have h' : w.heap[g]? = _ := h
 simp [World.frozen?, h']
theorem BytL.kept {w w' : World} {g B : Nat} {L : List Int} (h : BytL w g L) (hb : Below B w w') (hB : g < B) : BytL w' g L := by
 unfold BytL; rw [hb.block g hB]; exact h
theorem BytL.below {w w' : World} {g : Nat} {L : List Int} (h : BytL w g L) (hb : Below w.heap.size w w') : BytL w' g L := h.kept hb h.lt
theorem BytL.set {w : World} {g : Nat} {L : List Int} (h : BytL w g L) (j : Nat) (v : Int) : BytL (w.setCell ⟨g, j, none⟩ (.int .u8 v)) g (L.set j v) := by
 have h' : w.heap[g]? = _ := h
 unfold BytL
 simp [World.setCell, Array.getElem?_modify, h', List.map_set]
theorem BytL.other {w : World} {g : Nat} {L : List Int} (h : BytL w g L) (p : Addr) (v : Value) (hne : p.block ≠ g) : BytL (w.setCell p v) g L := by
 unfold BytL; rw [Below.heap_setCell _ _ _ _ (Ne.symm hne)]; exact h
theorem BytL.owns {w : World} {g base : Nat} {s : ByteArray} (h : BytL w g (bytesL s)) (hb : base ≤ g) (hl : s.size ≤ 140737488355328) : w.ownsRow base 5 1 (.slice (some ⟨g, 0, none⟩) s.size s.size) s.size (cellsOfStr s) := by
 have h' : w.heap[g]? = _ := h
 rw [bytesL_cells] at h'
 exact ⟨by rw [cellsOfStr_length]; omega, .inr ⟨g, s.size, (cellsOfStr s).toArray, rfl, hb, h', Nat.le_refl _, by unfold maxLen; omega, by simp [cellsOfStr_length], by simp [List.take_of_length_le, cellsOfStr_length]⟩⟩
theorem BytL.isB {w : World} {g : Nat} {s : ByteArray} (h : BytL w g (bytesL s)) (hl : s.size ≤ 140737488355328) : IsB w (some ⟨g, 0, none⟩) s.size s.size s := isB_of_owns (h.owns (Nat.le_refl _) hl)
theorem made_zero8 : ∀ k, madeCells #[.int .u8 0] k = ((List.replicate k (0 : Int)).map (Value.int .u8)).toArray := by
 intro k
 apply Array.ext
 ·simp [size_madeCells]
 ·intro i h1 h2
  simp [madeCells, Nat.mod_one]
theorem make_bytes (k : Nat) (hk : k ≤ 1048577) (u : World) : ∃ w', (Instr.makeSlice 22 (.int .i64 (k : Int)) (.int .i64 (k : Int))).run Tryz.prog u = .ok (.slice (some ⟨u.heap.size, 0, none⟩) k k) w' ∧
 BytL w' u.heap.size (List.replicate k 0) ∧ Below u.heap.size u w' ∧ w'.heap.size = u.heap.size + 1 := by
 obtain ⟨i0, hi, hz0, hz1, hz2⟩ := info_parts infoU8
 have h := run_make (P := Tryz.prog) u 22 5 i0 (.int .u8 0) Tryz.underlying22 hi hz0 .i64 .i64 (k : Int) (k : Int) (by omega) (Int.le_refl _) (by rw [hz2]; omega) (by omega)
 rw [Int.toNat_natCast] at h
 refine ⟨u.alloc (.cells ((List.replicate k (0 : Int)).map (Value.int .u8)).toArray 5), ?_, heap_alloc_new u _, (Below.refl _ _).alloc (Nat.le_refl _) _, by simp [go_sem]⟩
 rw [← made_zero8]
 simpa [hz1, Value.cells] using h
def lowL (x : Int) : Nat → List Int
 | 0 => []
 | k + 1 => (x / 256 ^ k) % 256 :: lowL x k
theorem lowL_snoc (x : Int) : ∀ k, lowL x (k + 1) = lowL (x / 256) k ++ [x % 256]
 | 0 => by simp [lowL]
 | k + 1 => by
   rw [lowL, lowL_snoc x k, lowL, List.cons_append]
   congr 1
   rw [Int.pow_succ, Int.mul_comm, Int.ediv_ediv_of_nonneg (by omega)]
theorem bytesL_big : ∀ (k : Nat) (x : Int), bytesL (bigB x k) = lowL x k
 | 0, x => rfl
 | k + 1, x => by
   rw [bigB, bytesL_join, bytesL_big k, lowL_snoc]
   congr 1
   have := bt_one (x % 256) (by omega) (by omega)
   simp only [bytesL]
   show List.map _ (List.range 1) = _
   simpa using this
theorem part_set (x : Int) (n k : Nat) (h : k < n) : (List.replicate (n - k) 0 ++ lowL x k).set (n - 1 - k) ((x / 256 ^ k) % 256) = List.replicate (n - (k + 1)) 0 ++ lowL x (k + 1) := by
 obtain ⟨m, rfl⟩ : ∃ m, n = m + 1 + k := ⟨n - 1 - k, by omega⟩
 rw [show m + 1 + k - k = m + 1 by omega, show m + 1 + k - 1 - k = m by omega, show m + 1 + k - (k + 1) = m by omega, lowL, List.set_append_left _ _ (by simp), List.replicate_succ']
 rw [List.set_append_right _ _ (by simp)]
 simp
set_option maxHeartbeats 1000000 in
theorem big_c (x : Int) (n : Nat) (w : World) (h0 : 0 ≤ x) (h1 : x ≤ 9223372036854775807) (hn : n ≤ 8) :
 Calls Tryz.prog 24 #[.int .i64 x, .int .i64 n] w fun e w' => e = .returned (.slice (some ⟨w.heap.size, 0, none⟩) n n) ∧ BytL w' w.heap.size (bytesL (bigB x n)) ∧ Below w.heap.size w w' := by
 obtain ⟨w0, hmk, hb0, hbel0, hz0⟩ := make_bytes n (by omega) w
 have HL0 : Hid (BytL w0 w.heap.size (List.replicate (n - 0) 0 ++ lowL x 0)) := by unfold Hid; simpa [lowL] using hb0
 have HB0 := Lib.hid hbel0
 have HX := Lib.hid (And.intro h0 h1)
 have HN := Lib.hid hn
 have hw : wrap64 ((n : Int) - 1) = (n : Int) - 1 := by unfold wrap64; omega
 clear h0 h1 hn hb0 hbel0 hz0
 go_enter Tryz.func24, Tryz.ntmps24
 go_wp2_with fail
 go_loopw [0, 6] (fun y i wr => ∃ j : Nat, ∃ yy : Int, j ≤ n ∧ y = .int .i64 yy ∧ i = .int .i64 ((j : Int) - 1) ∧ Hid (x / 256 ^ (n - j) = yy ∧ 0 ≤ yy ∧ yy ≤ 9223372036854775807) ∧ Hid (BytL wr w.heap.size (List.replicate j 0 ++ lowL x (n - j))) ∧ Hid (Below w.heap.size w wr)) (fun _ i _ => ((intOf i) + 1).toNat)
 case atStart => exact ⟨n, x, Nat.le_refl _, rfl, by rw [hw], ⟨by simp, HX.out⟩, (by unfold Hid; simpa [lowL] using HL0.out), HB0⟩
 case round =>
  clear HL0 HB0 hmk hw
  obtain ⟨j, y, hj, rfl, rfl, HY, HL, HB⟩ := hrel
  cases j with
  | succ m =>
    have hge : (0 : Int) ≤ (m : Int) := by omega
    have hlt : (m : Int) < (n : Int) := by omega
    rw [show ((m + 1 : Nat) : Int) - 1 = (m : Int) by omega]
    have hc := HL.out.cell (i := m) (by simp; omega)
    have hf := HL.out.frozen m
    have hr : y.tmod 256 % 256 = y % 256 := by
     have := HY.out
     rw [Int.tmod_eq_emod_of_nonneg (by omega)]
     omega
    have hq : wrap64 (y.tdiv 256) = y / 256 := by
     have := HY.out
     rw [Int.tdiv_eq_ediv_of_nonneg (by omega)]
     unfold wrap64; omega
    have HL1 : Hid (BytL (wr.setCell ⟨w.heap.size, m, none⟩ (.int .u8 (y % 256))) w.heap.size (List.replicate m 0 ++ lowL x (n - m))) := by
     have h3 := HL.out.set m (y % 256)
     have h4 := part_set x n (n - (m + 1)) (by omega)
     rw [show n - (n - (m + 1)) = m + 1 by omega, show n - 1 - (n - (m + 1)) = m by omega, show n - (n - (m + 1) + 1) = m by omega, show n - (m + 1) + 1 = n - m by omega, HY.out.1] at h4
     rwa [h4] at h3
    have HB1 := Lib.hid (HB.out.setCell (p := ⟨w.heap.size, m, none⟩) (Nat.le_refl _) (.int .u8 (y % 256)))
    have HY1 : Hid (x / 256 ^ (n - m) = y / 256 ∧ 0 ≤ y / 256 ∧ y / 256 ≤ 9223372036854775807) := by
     have := HY.out
     refine ⟨?_, by omega, by omega⟩
     rw [← this.1, show n - m = n - (m + 1) + 1 by omega, Int.pow_succ, Int.ediv_ediv_of_nonneg (by exact Int.le_of_lt (Int.pow_pos (by omega)))]
    clear HL HB
    go_wp2_with fail
    have hw1 : wrap64 ((m : Int) - 1) = (m : Int) - 1 := by have := HN.out; unfold wrap64; omega
    refine ⟨⟨m, y / 256, by omega, by rw [hq], by rw [hw1], HY1, HL1, HB1⟩, ?_⟩
    rw [hw1]
    simp only [intOf]
    omega
  | zero =>
    have hge : ¬ (0 : Int) ≤ ((0 : Nat) : Int) - 1 := by omega
    have HE : Hid (BytL wr w.heap.size (bytesL (bigB x n))) := by
     unfold Hid; rw [bytesL_big]; simpa using HL.out
    go_wp2_with fail
    go_ret
    exact ⟨rfl, HE.out, HB.out⟩
theorem grown_refl (w : World) (row : Option Nat) : w.grownBy w row := ⟨rfl, rfl, rfl, Nat.le_refl _, fun _ _ _ => rfl⟩
theorem append_add (w : World) (base : Nat) (ty : TypeId) (g c : Nat) (s u : ByteArray) (a : Option Addr) (cap : Nat) (hown : w.ownsRow base 5 1 (.slice (some ⟨g, 0, none⟩) s.size c) s.size (cellsOfStr s))
 (hB : IsB w a u.size cap u) (hs : s.size + u.size ≤ 140737488355328) (hbase : base ≤ w.heap.size) :
 ∃ g' c' w', (Builtin.append_ #[22, 22] ty #[.slice (some ⟨g, 0, none⟩) s.size c, .slice a u.size cap]).run Tryz.prog w = .ok (.slice (some ⟨g', 0, none⟩) (s.size + u.size) c') w' ∧
  w'.ownsRow base 5 1 (.slice (some ⟨g', 0, none⟩) (s.size + u.size) c') (s.size + u.size) (cellsOfStr (s ++ u)) ∧ w.grownBy w' (some g) ∧ (g' = g ∨ w.heap.size ≤ g') := by
 obtain ⟨i0, hi, hz0, hz1, hz2⟩ := info_parts infoU8
 have hnc : s.size ≤ c := by
  rcases hown.2 with ⟨hv, _⟩ | ⟨g', cap', cur, hv, _, _, hnc, _⟩
  ·cases hv
  ·cases hv; exact hnc
 by_cases h0 : u.size = 0
 ·refine ⟨g, c, w, ?_, ?_, grown_refl _ _, .inl rfl⟩
  ·cases a <;> simp [Builtin.append_, run_underlying Tryz.underlying22, sizeOf, typeInfo, hi, Builtin.lenOf, Builtin.firstCells, loadCells, loadCellsFrom, storeCells, h0, hnc]
  ·have e : cellsOfStr u = [] := by simp [cellsOfStr, h0]
   rw [cellsOfStr_join, e, List.append_nil, h0, Nat.add_zero]
   exact hown
 ·obtain ⟨_, _, h | ⟨b, off, rfl, hc⟩⟩ := hB
  ·omega
  obtain ⟨g', c', w', hr, ho, hg, hat, hlt⟩ := run_append_lies (P := Tryz.prog) w 22 ty base 5 i0 (.int .u8 0) 1 1 Tryz.underlying22 hi hz0 hz1 hz2 rfl (by decide) _ s.size (cellsOfStr s) hown
   ⟨b, off, none⟩ u.size cap (cellsOfStr u) (by rw [cellsOfStr_length]; omega)
   (fun j x hj => by
    have hjl : j < u.size := by
     rcases Nat.lt_or_ge j u.size with h | h
     ·exact h
     ·rw [List.getElem?_eq_none (by rw [cellsOfStr_length]; exact h)] at hj; cases hj
    rw [cellsOfStr_get u j hjl] at hj
    rw [Addr.add_lit, hc j hjl]
    exact hj)
   (fun x hx => by
    simp [cellsOfStr] at hx
    obtain ⟨_, _, rfl⟩ := hx
    rfl)
   (by omega) (by unfold maxLen; omega) (by omega) hbase w.heap.size rfl
  refine ⟨g', c', w', hr, by rw [cellsOfStr_join]; exact ho, hg, ?_⟩
  rcases hat with h | h
  ·left; simpa [Value.ownBlock] using h.symm
  ·right; omega
theorem wpList_add {ops : Array Oper} {rest : List Oper} {o : Oper} {t : Act} {Q : Exit → Act → World → Prop} (hgd : o.guard = none) (sl x : Operand)
 (ho : o.op = .call { callee := .builtin .append, args := #[sl, x], argTypes := #[22, 22] })
 (w : World) (base g c : Nat) (s u : ByteArray) (a : Option Addr) (cap n m : Nat) (hn : n = s.size) (hm : m = u.size) (hs : t.eval sl = .slice (some ⟨g, 0, none⟩) n c) (hx : t.eval x = .slice a m cap)
 (hown : w.ownsRow base 5 1 (.slice (some ⟨g, 0, none⟩) s.size c) s.size (cellsOfStr s)) (hB : IsB w a u.size cap u) (hl : s.size + u.size ≤ 140737488355328) (hbase : base ≤ w.heap.size)
 (h : ∀ g' c' w', w'.ownsRow base 5 1 (.slice (some ⟨g', 0, none⟩) (s ++ u).size c') (s ++ u).size (cellsOfStr (s ++ u)) → w.grownBy w' (some g) → (g' = g ∨ w.heap.size ≤ g') → wpList Tryz.prog ops Q rest (t.put o.dst (.slice (some ⟨g', 0, none⟩) (n + m) c')) w') :
 wpList Tryz.prog ops Q (o :: rest) t w :=
 wpList_plain hgd fun _ hK => by
  subst hn hm
  obtain ⟨g', c', w', hr, h2, h3, h4⟩ := append_add w base o.type g c s u a cap hown hB hl hbase
  have e : s.size + u.size = (s ++ u).size := by rw [ByteArray.size_append]
  have h2' := h2
  rw [e] at h2'
  unfold Oper.wp execOp
  simp only [ho, resolve, invoke, builtin, Sem.run_bind, Sem.run_pure, Result.andThen_ok, List.map_toArray, List.map_cons, List.map_nil, hs, hx, hr]
  exact hK _ _ (h g' c' w' h2' h3 h4)
theorem big2_c (x : Int) (w : World) (h0 : 0 ≤ x) (h1 : x ≤ 9223372036854775807) :
 Calls Tryz.prog 24 #[.int .i64 x, .int .i64 2] w fun e w' => e = .returned (.slice (some ⟨w.heap.size, 0, none⟩) 2 2) ∧ BytL w' w.heap.size (bytesL (bigB x 2)) ∧ Below w.heap.size w w' := big_c x 2 w h0 h1 (by omega)
theorem big4_c (x : Int) (w : World) (h0 : 0 ≤ x) (h1 : x ≤ 9223372036854775807) :
 Calls Tryz.prog 24 #[.int .i64 x, .int .i64 4] w fun e w' => e = .returned (.slice (some ⟨w.heap.size, 0, none⟩) 4 4) ∧ BytL w' w.heap.size (bytesL (bigB x 4)) ∧ Below w.heap.size w w' := big_c x 4 w h0 h1 (by omega)
theorem bigIs {w : World} {g k : Nat} {x : Int} (h : BytL w g (bytesL (bigB x k))) (hk : k ≤ 8) : IsB w (some ⟨g, 0, none⟩) (bigB x k).size k (bigB x k) := by
 have := h.isB (by rw [bigB_size]; omega)
 rwa [bigB_size] at this ⊢
theorem owns_keep {w w' : World} {B : Nat} {e : TypeId} {size n g c : Nat} {xs : List Value} (h : w.ownsRow B e size (.slice (some ⟨g, 0, none⟩) n c) n xs) (hk : g < w.heap.size → w'.heap[g]? = w.heap[g]?) : w'.ownsRow B e size (.slice (some ⟨g, 0, none⟩) n c) n xs := by
 refine ⟨h.1, ?_⟩
 rcases h.2 with hn | ⟨g', cap, cur, hv, hb, hg, rest⟩
 ·exact .inl hn
 ·simp only [Value.slice.injEq, Option.some.injEq, Addr.mk.injEq] at hv
  obtain ⟨⟨rfl, _⟩, _, rfl⟩ := hv
  exact .inr ⟨g, c, cur, rfl, hb, by rw [hk (Array.getElem?_eq_some_iff.1 hg).1]; exact hg, rest⟩
theorem owns_stay {w w' : World} {B : Nat} {e : TypeId} {size n g c : Nat} {xs : List Value} (h : w.ownsRow B e size (.slice (some ⟨g, 0, none⟩) n c) n xs) (hb : Below w.heap.size w w') : w'.ownsRow B e size (.slice (some ⟨g, 0, none⟩) n c) n xs := owns_keep h (fun hl => hb.block g hl)
theorem owns_lt {w : World} {B : Nat} {e : TypeId} {size n g c : Nat} {xs : List Value} (h : w.ownsRow B e size (.slice (some ⟨g, 0, none⟩) n c) n xs) : g < w.heap.size ∧ B ≤ g := by
 rcases h.2 with ⟨hn, _⟩ | ⟨g', cap, cur, hv, hb, hg, rest⟩
 ·cases hn
 ·simp only [Value.slice.injEq, Option.some.injEq, Addr.mk.injEq] at hv
  obtain ⟨⟨rfl, _⟩, _, rfl⟩ := hv
  exact ⟨(Array.getElem?_eq_some_iff.1 hg).1, hb⟩
theorem grown_below {B : Nat} {w0 w w' : World} {g : Nat} (h : Below B w0 w) (hg : w.grownBy w' (some g)) (hB : B ≤ w.heap.size) (hr : B ≤ g) : Below B w0 w' := h.grown hg hB (fun k hk => by cases hk; exact hr)
abbrev OwnB (B : Nat) (w : World) (g c : Nat) (s : ByteArray) : Prop := w.ownsRow B 5 1 (.slice (some ⟨g, 0, none⟩) s.size c) s.size (cellsOfStr s)
set_option maxHeartbeats 400000 in
theorem u32_c (g : Nat) (at' x f : Int) (s : ByteArray) (w : World) (hc : w.cell? ⟨g, 0, none⟩ = some (.string s)) (hs : (s.size : Int) ≤ 140737488355328) (ha : at' ≤ 9223372036854775807) (HX : Hid (numOr s at' 4 = (x, f))) :
 Calls Tryz.prog 74 #[.pointer (some ⟨g, 0, none⟩), .int .i64 at'] w fun e w' => e = .returned (.tuple #[.int .i64 x, .int .i64 f]) ∧ w = w' := by
 have HN := Lib.hid (number_c g at' 4 x f s w hc hs ha (by decide) HX)
 clear hs ha
 go_enter Tryz.func74, Tryz.ntmps74
 go_wp2_with fail
 refine HN.out.mono ?_
 rintro e w1 ⟨rfl, rfl⟩
 go_wp2_with fail
 go_ret2
 exact ⟨rfl, rfl⟩
theorem num32_bound {s : ByteArray} {at' x f : Int} (h : numOr s at' 4 = (x, f)) : 0 ≤ x ∧ x ≤ 4294967295 := by
 unfold numOr at h
 have hb := numN_bound s at'.toNat 4
 split at h <;> simp at h <;> omega
end Go.Proofs.YtklenppldblbdaaGreat
