/-
  What the small functions of package path and of the document's answer give: distance, bend, steps, nearest, placeOf, middle; abs, bend, near, Half, middle. For coordinates that are FIX.
-/
import Derived.Test.YthjhekmlhmljlaaPtB
import Derived.Test.YthjhekmlhmljlaaFxSum
import Derived.Deep.RegionHeld3
import Derived.Deep.DeepCutAuto
import Derived.StillTailTactics
namespace Go.Proofs.Ythjhekmlhmljlaa
open Go.RowKit Go.PlainAid
set_option linter.unusedSimpArgs false
set_option linter.unusedVariables false

/-- A point as a value, a knot as a value. -/
def spV (p : Sp) : Value := .agg #[.int .i64 p.x, .int .i64 p.y]
def knV (k : Kn) : Value := .agg #[.int .i64 k.x, .int .i64 k.y, .int .i64 k.k]
/-- Both coordinates are FIX. -/
def FixS (p : Sp) : Prop := InB (-2147483647) (-2147483647) 2147483647 2147483647 p

theorem wrapNeg {n : Int} (h1 : -9223372036854775807 ≤ n) (h2 : n ≤ 9223372036854775807) : wrap64 (-n) = -n := by unfold wrap64; omega

set_option maxHeartbeats 400000 in
theorem abs_c (n : Int) (w : World) (h1 : -9223372036854775807 ≤ n) (h2 : n ≤ 9223372036854775807) : Calls Try.prog 69 #[.int .i64 n] w fun e w' => e = .returned (.int .i64 (n.natAbs : Int)) ∧ w = w' := by
  have HW := Lib.hid (wrapNeg h1 h2)
  clear h1 h2
  by_cases h : n < 0
  · go_enter Try.func69, Try.ntmps69
    go_wp2_with fail
    go_ret
    exact ⟨ret_int (by rw [HW.out]; omega), rfl⟩
  · go_enter Try.func69, Try.ntmps69
    go_wp2_with fail
    go_ret
    exact ⟨ret_int (by omega), rfl⟩

set_option maxHeartbeats 400000 in
theorem distance_c (n : Int) (w : World) (h1 : -9223372036854775807 ≤ n) (h2 : n ≤ 9223372036854775807) : Calls Try.prog 86 #[.int .i64 n] w fun e w' => e = .returned (.int .i64 (n.natAbs : Int)) ∧ w = w' := by
  have HW := Lib.hid (wrapNeg h1 h2)
  clear h1 h2
  go_enter Try.func86, Try.ntmps86
  go_wp2_with fail
  all_goals
    go_ret
    exact ⟨ret_int (by have := HW.out; omega), rfl⟩

/-- A number whose size is one, too. -/
def Sym64 (n : Int) : Prop := -9223372036854775807 ≤ n ∧ n ≤ 9223372036854775807
theorem distance_h (n : Int) (w : World) (h : Hid (Sym64 n)) : Calls Try.prog 86 #[.int .i64 n] w fun e w' => e = .returned (.int .i64 (n.natAbs : Int)) ∧ w' = w := (distance_c n w h.out.1 h.out.2).mono fun e w' ⟨he, hw⟩ => ⟨he, hw.symm⟩
theorem abs_h (n : Int) (w : World) (h : Hid (Sym64 n)) : Calls Try.prog 69 #[.int .i64 n] w fun e w' => e = .returned (.int .i64 (n.natAbs : Int)) ∧ w' = w := (abs_c n w h.out.1 h.out.2).mono fun e w' ⟨he, hw⟩ => ⟨he, hw.symm⟩

set_option maxHeartbeats 400000 in
theorem placeOf_c (k : Kn) (w : World) : Calls Try.prog 42 #[knV k] w fun e w' => e = .returned (spV k.sp) ∧ Below w.heap.size w w' := by
  unfold knV spV Kn.sp
  go_enter Try.func42, Try.ntmps42
  go_wp2_with fail
  refine bodyPost_ret (v := .agg #[.int .i64 k.x, .int .i64 k.y]) (by simp [results, Try.results42, go_sem]) rfl ⟨rfl, ?_⟩
  exact bel_alloc ((Below.refl _ _).alloc (Nat.le_refl _) _) _

set_option maxHeartbeats 400000 in
theorem nearest_c (n : Int) (d : Nat) (w : World) (hd : 0 < d) (hd1 : d ≤ 4096) (h1 : (-2147483647) * (d : Int) ≤ n) (h2 : n ≤ 2147483647 * (d : Int)) : Calls Try.prog 80 #[.int .i64 n, .int .i64 d] w fun e w' => e = .returned (.int .i64 (nearQ n d)) ∧ Below w.heap.size w w' := by
  have HE := Lib.hid (nearQ_md hd h1 h2)
  have HC := Lib.hid (muldiv_low n 1 d w (by omega) (by omega) (by decide) (by decide) (by omega) (by omega) (by simp; omega))
  clear hd hd1 h1 h2
  go_enter Try.func80, Try.ntmps80
  go_wp2_with fail
  refine HC.out.mono ?_
  rw [HE.out]
  rintro e w1 ⟨rfl, hb⟩
  have HB := Lib.hid hb
  clear hb
  go_wp2_with fail
  go_ret
  exact ⟨rfl, HB.out⟩

theorem lin_bd {a c b : Int} (ha : In (-2147483647) 2147483647 a) (hc : In (-2147483647) 2147483647 c) (hb : In (-2147483647) 2147483647 b) : IntKind.i64.wrap (2 * c) = 2 * c ∧ IntKind.i64.wrap (a - 2 * c) = a - 2 * c ∧ IntKind.i64.wrap (a - 2 * c + b) = a - 2 * c + b ∧ -9223372036854775807 ≤ a - 2 * c + b ∧ a - 2 * c + b ≤ 9223372036854775807 ∧ ((a - 2 * c + b).natAbs : Int) ≤ 8589934588 := by
  obtain ⟨a1, a2⟩ := ha
  obtain ⟨b1, b2⟩ := hb
  obtain ⟨c1, c2⟩ := hc
  refine ⟨IntWalk.i64_in _ (by omega), IntWalk.i64_in _ (by omega), IntWalk.i64_in _ (by omega), by omega, by omega, by omega⟩

set_option maxHeartbeats 1000000 in
theorem bend_c (a c b : Sp) (w : World) (ha : FixS a) (hc : FixS c) (hb : FixS b) : Calls Try.prog 85 #[spV a, spV c, spV b] w fun e w' => e = .returned (.int .i64 (bendD a c b)) ∧ Below w.heap.size w w' := by
  obtain ⟨x1, x2, x3, x4, x5, x6⟩ := lin_bd ha.1 hc.1 hb.1
  obtain ⟨y1, y2, y3, y4, y5, y6⟩ := lin_bd ha.2 hc.2 hb.2
  obtain ⟨X, HX⟩ : ∃ X, Hid (a.x - 2 * c.x + b.x = X) := ⟨_, rfl⟩
  obtain ⟨Y, HY⟩ : ∃ Y, Hid (a.y - 2 * c.y + b.y = Y) := ⟨_, rfl⟩
  have HE : Hid (bendD a c b = (X.natAbs : Int) + (Y.natAbs : Int)) := by unfold Hid bendD; rw [HX.out, HY.out]
  replace x3 := x3.trans HX.out
  replace y3 := y3.trans HY.out
  rw [HX.out] at x4 x5 x6
  rw [HY.out] at y4 y5 y6
  have H1 : Hid (Sym64 X) := ⟨x4, x5⟩
  have H2 : Hid (Sym64 Y) := ⟨y4, y5⟩
  have H3 := Lib.hid (And.intro x6 y6)
  clear x4 x5 x6 y4 y5 y6 ha hc hb
  unfold spV
  go_enter Try.func85, Try.ntmps85
  go_wp2_with fail
  go_quiet ((go_at_call 86; refine Calls.quiet_of_same (distance_h _ _ (by assumption))))
  go_wp2_with fail
  go_ret
  refine ⟨ret_int ?_, bel_drewN (bel_alloc (bel_alloc ((Below.refl _ _).alloc (Nat.le_refl _) _) _) _) _⟩
  rw [HE.out]
  have := H3.out
  unfold wrap64; omega

set_option maxHeartbeats 1000000 in
theorem refbend_c (a c b : Sp) (w : World) (ha : FixS a) (hc : FixS c) (hb : FixS b) : Calls Try.prog 54 #[spV a, spV c, spV b] w fun e w' => e = .returned (.int .i64 (bendD a c b)) ∧ Below w.heap.size w w' := by
  obtain ⟨x1, x2, x3, x4, x5, x6⟩ := lin_bd ha.1 hc.1 hb.1
  obtain ⟨y1, y2, y3, y4, y5, y6⟩ := lin_bd ha.2 hc.2 hb.2
  obtain ⟨X, HX⟩ : ∃ X, Hid (a.x - 2 * c.x + b.x = X) := ⟨_, rfl⟩
  obtain ⟨Y, HY⟩ : ∃ Y, Hid (a.y - 2 * c.y + b.y = Y) := ⟨_, rfl⟩
  have HE : Hid (bendD a c b = (X.natAbs : Int) + (Y.natAbs : Int)) := by unfold Hid bendD; rw [HX.out, HY.out]
  replace x3 := x3.trans HX.out
  replace y3 := y3.trans HY.out
  rw [HX.out] at x4 x5 x6
  rw [HY.out] at y4 y5 y6
  have H1 : Hid (Sym64 X) := ⟨x4, x5⟩
  have H2 : Hid (Sym64 Y) := ⟨y4, y5⟩
  have H3 := Lib.hid (And.intro x6 y6)
  clear x4 x5 x6 y4 y5 y6 ha hc hb
  unfold spV
  go_enter Try.func54, Try.ntmps54
  go_wp2_with fail
  go_quiet ((go_at_call 69; refine Calls.quiet_of_same (abs_h _ _ (by assumption))))
  go_wp2_with fail
  go_ret
  refine ⟨ret_int ?_, bel_drewN (bel_alloc (bel_alloc ((Below.refl _ _).alloc (Nat.le_refl _) _) _) _) _⟩
  rw [HE.out]
  have := H3.out
  unfold wrap64; omega

set_option maxHeartbeats 1000000 in
theorem steps_c (d : Int) (w : World) : Calls Try.prog 84 #[.int .i64 d] w fun e w' => e = .returned (.int .i64 (stepsN d : Nat)) ∧ w = w' := by
  go_enter Try.func84, Try.ntmps84
  go_wp2_with fail
  go_loop [3] (fun t => ∃ m : Int, t = .int .i64 m ∧ Hid (m = 1 ∨ (m = 2 ∧ 4 < d) ∨ (m = 4 ∧ 16 < d) ∨ (m = 8 ∧ 64 < d) ∨ (m = 16 ∧ 256 < d))) (fun t => (16 - intOf t).toNat)
  case atStart => exact ⟨1, rfl, .inl rfl⟩
  case round =>
    obtain ⟨m, rfl, HM⟩ := hrel
    rcases HM.out with rfl | ⟨rfl, hd⟩ | ⟨rfl, hd⟩ | ⟨rfl, hd⟩ | ⟨rfl, hd⟩
    · by_cases h : 4 < d
      · have H := Lib.hid h
        go_wp2_with fail
        go_round
        case rel => exact ⟨2, rfl, .inr (.inl ⟨rfl, H.out⟩)⟩
        case measure => simp [intOf]
      · have HE : Hid (stepsN d = 1) := by unfold Hid stepsN; rw [if_pos (by omega)]
        go_wp2_with fail
        go_ret
        exact ⟨ret_int (by rw [HE.out]; rfl), rfl⟩
    · by_cases h : 16 < d
      · have H := Lib.hid h
        go_wp2_with fail
        go_round
        case rel => exact ⟨4, rfl, .inr (.inr (.inl ⟨rfl, H.out⟩))⟩
        case measure => simp [intOf]
      · have HE : Hid (stepsN d = 2) := by unfold Hid stepsN; rw [if_neg (by omega), if_pos (by omega)]
        go_wp2_with fail
        go_ret
        exact ⟨ret_int (by rw [HE.out]; rfl), rfl⟩
    · by_cases h : 64 < d
      · have H := Lib.hid h
        go_wp2_with fail
        go_round
        case rel => exact ⟨8, rfl, .inr (.inr (.inr (.inl ⟨rfl, H.out⟩)))⟩
        case measure => simp [intOf]
      · have HE : Hid (stepsN d = 4) := by unfold Hid stepsN; rw [if_neg (by omega), if_neg (by omega), if_pos (by omega)]
        go_wp2_with fail
        go_ret
        exact ⟨ret_int (by rw [HE.out]; rfl), rfl⟩
    · by_cases h : 256 < d
      · have H := Lib.hid h
        go_wp2_with fail
        go_round
        case rel => exact ⟨16, rfl, .inr (.inr (.inr (.inr ⟨rfl, H.out⟩)))⟩
        case measure => simp [intOf]
      · have HE : Hid (stepsN d = 8) := by unfold Hid stepsN; rw [if_neg (by omega), if_neg (by omega), if_neg (by omega), if_pos (by omega)]
        go_wp2_with fail
        go_ret
        exact ⟨ret_int (by rw [HE.out]; rfl), rfl⟩
    · have HE : Hid (stepsN d = 16) := by unfold Hid stepsN; rw [if_neg (by omega), if_neg (by omega), if_neg (by omega), if_neg (by omega)]
      go_wp2_with fail
      go_ret
      exact ⟨ret_int (by rw [HE.out]; rfl), rfl⟩

theorem near_quo {n : Int} {d : Nat} (hd : 0 < d) (hn : 0 ≤ n) : (2 * n + (d : Int)) / (2 * (d : Int)) = (near n.natAbs d : Int) := by
  obtain ⟨m, rfl⟩ : ∃ m : Nat, n = m := ⟨n.toNat, by omega⟩
  unfold near
  rw [Int.natAbs_natCast]
  simp

set_option maxHeartbeats 1000000 in
theorem refnear_pos (n : Int) (d : Nat) (w : World) (hd : 0 < d) (hd1 : d ≤ 4096) (h1 : 0 ≤ n) (h2 : n ≤ 8796093018112) : Calls Try.prog 55 #[.int .i64 n, .int .i64 d] w fun e w' => e = .returned (.int .i64 (near n.natAbs d : Int)) ∧ w = w' := by
  have HE := Lib.hid (near_quo hd h1)
  have HB : Hid ((near n.natAbs d : Int) ≤ 8796093018112 + 1) := by
    unfold Hid; rw [← HE.out]
    have : (2 * n + (d : Int)) / (2 * (d : Int)) < n + 2 := by
      rw [Int.ediv_lt_iff_lt_mul (by omega)]
      have : n * 1 ≤ n * (d : Int) := Int.mul_le_mul_of_nonneg_left (by omega) h1
      have e : (n + 2) * (2 * (d : Int)) = 2 * (n * (d : Int)) + 4 * (d : Int) := by grind
      omega
    omega
  have hn : ¬ n < 0 := by omega
  have e1 : wrap64 (2 * n) = 2 * n := by unfold wrap64; omega
  have e2 : wrap64 (2 * n + (d : Int)) = 2 * n + (d : Int) := by unfold wrap64; omega
  have e3 : wrap64 (2 * (d : Int)) = 2 * (d : Int) := by unfold wrap64; omega
  have e4 : ¬ (2 * (d : Int) = 0) := by omega
  have e5 : Hid (wrap64 ((2 * n + (d : Int)).tdiv (2 * (d : Int))) = (near n.natAbs d : Int)) := by
    unfold Hid; rw [Int.tdiv_eq_ediv_of_nonneg (by omega), HE.out]; have := HB.out; unfold wrap64; omega
  have HD := Lib.hid hd
  clear hd hd1 h1 h2
  go_enter Try.func55, Try.ntmps55
  go_wp2_with fail
  go_ret
  exact ⟨ret_int e5.out, rfl⟩

set_option maxHeartbeats 1000000 in
theorem refnear_c (n : Int) (d : Nat) (w : World) (hd : 0 < d) (hd1 : d ≤ 4096) (h1 : -8796093018112 ≤ n) (h2 : n ≤ 8796093018112) : Calls Try.prog 55 #[.int .i64 n, .int .i64 d] w fun e w' => e = .returned (.int .i64 (nearQ n d)) ∧ w = w' := by
  by_cases hn : n < 0
  · have HE : Hid (wrap64 (-(near (-n).natAbs d : Int)) = nearQ n d) := by
      have hb := nearQ_bd (n := n) (d := d) (lo := -8796093018112) (hi := 8796093018112) hd (by omega) (by omega)
      have e : (-n).natAbs = n.natAbs := by omega
      unfold nearQ at hb
      unfold Hid nearQ
      rw [if_pos hn] at hb ⊢
      rw [e]
      unfold wrap64; omega
    have HC := Lib.hid (refnear_pos (-n) d w hd hd1 (by omega) (by omega))
    have e1 : wrap64 (-n) = -n := by unfold wrap64; omega
    clear hd hd1 h1 h2
    go_enter Try.func55, Try.ntmps55
    go_wp2_with fail
    refine HC.out.mono ?_
    rintro e w1 ⟨rfl, rfl⟩
    generalize (near (-n).natAbs d : Int) = q at *
    go_wp2_with fail
    go_ret
    exact ⟨ret_int HE.out, rfl⟩
  · have := refnear_pos n d w hd hd1 (by omega) h2
    unfold nearQ
    rw [if_neg hn]
    exact this

theorem nearQ_half_pos {n : Int} (h : 0 ≤ n) : nearQ n 2 = (n + 1) / 2 := by unfold nearQ near; rw [if_neg (by omega)]; omega
theorem near_zero0 (d : Nat) : near 0 d = 0 := by
  unfold near
  rcases Nat.eq_zero_or_pos d with h | h
  · rw [h]
  · exact Nat.div_eq_of_lt (by omega)
theorem nearQ_neg (n : Int) (d : Nat) : nearQ (-n) d = -nearQ n d := by
  unfold nearQ
  have e : (-n).natAbs = n.natAbs := by omega
  rw [e]
  by_cases h : n < 0
  · rw [if_neg (by omega), if_pos h]; omega
  · by_cases h0 : n = 0
    · subst h0; simp [near_zero0]
    · rw [if_pos (by omega), if_neg h]

set_option maxHeartbeats 1000000 in
theorem refhalf_pos (n : Int) (w : World) (h1 : 0 ≤ n) (h2 : n ≤ 8796093018112) : Calls Try.prog 68 #[.int .i64 n] w fun e w' => e = .returned (.int .i64 (nearQ n 2)) ∧ w = w' := by
  have HE := Lib.hid (nearQ_half_pos h1)
  have hn : ¬ n < 0 := by omega
  have e1 : wrap64 (n + 1) = n + 1 := by unfold wrap64; omega
  have e5 : Hid (wrap64 ((n + 1).tdiv 2) = (n + 1) / 2) := by
    unfold Hid; rw [Int.tdiv_eq_ediv_of_nonneg (by omega)]; unfold wrap64; omega
  clear h1 h2
  go_enter Try.func68, Try.ntmps68
  go_wp2_with fail
  go_ret
  exact ⟨ret_int (by rw [HE.out]; exact e5.out), rfl⟩

set_option maxHeartbeats 1000000 in
theorem refhalf_c (n : Int) (w : World) (h1 : -8796093018112 ≤ n) (h2 : n ≤ 8796093018112) : Calls Try.prog 68 #[.int .i64 n] w fun e w' => e = .returned (.int .i64 (nearQ n 2)) ∧ w' = w := by
  by_cases hn : n < 0
  · have HE : Hid (wrap64 (-(nearQ (-n) 2)) = nearQ n 2) := by
      have e := nearQ_neg n 2
      have e2 := nearQ_half_pos (n := -n) (by omega)
      unfold Hid wrap64; omega
    have HC := Lib.hid (refhalf_pos (-n) w (by omega) (by omega))
    have e1 : wrap64 (-n) = -n := by unfold wrap64; omega
    clear h1 h2
    go_enter Try.func68, Try.ntmps68
    go_wp2_with fail
    refine HC.out.mono ?_
    rintro e w1 ⟨rfl, rfl⟩
    generalize nearQ (-n) 2 = q at *
    go_wp2_with fail
    go_ret
    exact ⟨ret_int HE.out, rfl⟩
  · exact (refhalf_pos n w (by omega) h2).mono fun e w' ⟨he, hw⟩ => ⟨he, hw.symm⟩

end Go.Proofs.Ythjhekmlhmljlaa
