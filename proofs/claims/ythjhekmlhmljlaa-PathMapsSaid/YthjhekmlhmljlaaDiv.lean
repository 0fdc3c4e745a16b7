/-
  What the library's Div64 answers, as a contract over the translated program: the quotient and the rest of a number of 128 bits by one of 64 bits that is above its high half.
-/
import Derived.Test.YthjhekmlhmljlaaMulDiv
import Derived.Test.YthjhekmlhmljlaaLen
import Derived.Test.YthjhekmlhmljlaaKnuth
import Derived.Deep.DeepCutAuto
namespace Go.Proofs.Ythjhekmlhmljlaa
open Go.RowKit
set_option linter.unusedSimpArgs false
set_option linter.unusedVariables false

def StepI (n1 n0 u d : Int) : Prop := 0 ≤ n1 ∧ 0 ≤ n0 ∧ 0 ≤ u ∧ 0 ≤ d ∧ Step n1.toNat n0.toNat u.toNat d.toNat
def GuessI (n1 n0 u d a b : Int) : Prop := 0 ≤ a ∧ 0 ≤ b ∧ Guess n1.toNat n0.toNat u.toNat d.toNat a.toNat b.toNat
theorem GuessI.le {n1 n0 u d a b : Int} (h : GuessI n1 n0 u d a b) : a ≤ 4294967297 := by have := h.1; have := h.2.2.small; omega
theorem GuessI.lt {n1 n0 u d a b : Int} (h : GuessI n1 n0 u d a b) : b < 4294967296 := by have := h.2.1; have := h.2.2.rest; omega
theorem cond_nat {n0 d a b : Int} (ha : 0 ≤ a) (hb : 0 ≤ b) (hn : 0 ≤ n0) (hd : 0 ≤ d) (c : 4294967296 ≤ a ∨ 4294967296 * b + d < a * n0) : 4294967296 ≤ a.toNat ∨ 4294967296 * b.toNat + d.toNat < a.toNat * n0.toNat := by
  rcases c with c | c
  · left; omega
  · right
    obtain ⟨a, rfl⟩ := Int.eq_ofNat_of_zero_le ha
    obtain ⟨n0, rfl⟩ := Int.eq_ofNat_of_zero_le hn
    rw [← Int.natCast_mul] at c
    simp only [Int.toNat_natCast]
    omega
theorem GuessI.next {n1 n0 u d a b : Int} (g : GuessI n1 n0 u d a b) (h : StepI n1 n0 u d) (c : 4294967296 ≤ a ∨ 4294967296 * b + d < a * n0) (hb : ¬ 4294967296 ≤ b + n1) : GuessI n1 n0 u d (a - 1) (b + n1) := by
  obtain ⟨ga, gb, g⟩ := g
  obtain ⟨h1, h2, h3, h4, h⟩ := h
  have c' := cond_nat ga gb h2 h4 c
  have hn := g.next h c' (by omega)
  have hm := g.more h c'
  refine ⟨by omega, by omega, ?_⟩
  rw [show (a - 1).toNat = a.toNat - 1 by omega, show (b + n1).toNat = b.toNat + n1.toNat by omega]
  exact hn
theorem GuessI.pos {n1 n0 u d a b : Int} (g : GuessI n1 n0 u d a b) (h : StepI n1 n0 u d) (c : 4294967296 ≤ a ∨ 4294967296 * b + d < a * n0) : 1 ≤ a := by
  obtain ⟨ga, gb, g⟩ := g
  obtain ⟨h1, h2, h3, h4, h⟩ := h
  have hm := g.more h (cond_nat ga gb h2 h4 c)
  omega
/-- The quotient of a step. -/
def quoI (n1 n0 u d : Int) : Int := ((u.toNat * 4294967296 + d.toNat) / (n1.toNat * 4294967296 + n0.toNat) : Nat)
theorem GuessI.leave {n1 n0 u d a b : Int} (g : GuessI n1 n0 u d a b) (h : StepI n1 n0 u d) (c : 4294967296 ≤ a ∨ 4294967296 * b + d < a * n0) (hb : 4294967296 ≤ b + n1) : a - 1 = quoI n1 n0 u d := by
  obtain ⟨ga, gb, g⟩ := g
  obtain ⟨h1, h2, h3, h4, h⟩ := h
  have c' := cond_nat ga gb h2 h4 c
  have hm := g.more h c'
  have hl := g.leave h c' (by omega)
  unfold quoI
  rw [← hl]
  omega
theorem GuessI.done {n1 n0 u d a b : Int} (g : GuessI n1 n0 u d a b) (h : StepI n1 n0 u d) (c : ¬ 4294967296 * b + d < a * n0) : a = quoI n1 n0 u d := by
  obtain ⟨ga, gb, g⟩ := g
  obtain ⟨h1, h2, h3, h4, h⟩ := h
  obtain ⟨a, rfl⟩ := Int.eq_ofNat_of_zero_le ga
  obtain ⟨n0, rfl⟩ := Int.eq_ofNat_of_zero_le h2
  rw [← Int.natCast_mul] at c
  simp only [Int.toNat_natCast] at g h
  have hd := g.done h (by omega)
  unfold quoI
  simp only [Int.toNat_natCast]
  omega

theorem prod_small {a b : Int} (a0 : 0 ≤ a) (a1 : a < 4294967296) (b0 : 0 ≤ b) (b1 : b < 4294967296) : IntKind.u64.wrap (a * b) = a * b := by
  obtain ⟨a, rfl⟩ := Int.eq_ofNat_of_zero_le a0
  obtain ⟨b, rfl⟩ := Int.eq_ofNat_of_zero_le b0
  have : a * b ≤ 4294967295 * 4294967295 := Nat.mul_le_mul (by omega) (by omega)
  rw [← Int.natCast_mul]
  exact u64_small (by omega)

set_option maxRecDepth 100000 in
set_option maxHeartbeats 2000000 in
theorem div64_core (hi lo y Y n1 n0 u L d1 d0 a0 b0 q1 r1 a1 b1 q0 Q R : Int) (s : Nat) (w : World) (hh0 : 0 < hi) (hl0 : 0 ≤ lo) (hl1 : lo ≤ 18446744073709551615) (hy : hi < y) (hy1 : y ≤ 18446744073709551615)
    (HS : Hid (Lib.bitLen y.toNat + s = 64)) (hs : (s : Int) < 64)
    (EY : Hid (IntKind.u64.wrap (y * 2 ^ s) = Y)) (En1 : Hid (Y / 4294967296 = n1)) (En0 : Hid (bits .and .u64 Y 4294967295 = n0))
    (EU : Hid (bits .or .u64 (IntKind.u64.wrap (hi * 2 ^ s)) (lo / 2 ^ (64 - s)) = u)) (EL : Hid (IntKind.u64.wrap (lo * 2 ^ s) = L)) (Ed1 : Hid (L / 4294967296 = d1)) (Ed0 : Hid (bits .and .u64 L 4294967295 = d0))
    (n1b : 2147483648 ≤ n1) (n1c : n1 < 4294967296) (n0b : 0 ≤ n0) (n0c : n0 < 4294967296) (ub : 0 ≤ u) (uc : u ≤ 18446744073709551615) (d1b : 0 ≤ d1) (d1c : d1 < 4294967296) (d0b : 0 ≤ d0) (d0c : d0 < 4294967296)
    (Ea0 : Hid (u / n1 = a0)) (Eb0 : Hid (IntKind.u64.wrap (u - IntKind.u64.wrap (a0 * n1)) = b0)) (G1 : Hid (GuessI n1 n0 u d1 a0 b0)) (S1 : Hid (StepI n1 n0 u d1))
    (Q1 : Hid (quoI n1 n0 u d1 = q1)) (R1 : Hid (IntKind.u64.wrap (IntKind.u64.wrap (IntKind.u64.wrap (u * 4294967296) + d1) - IntKind.u64.wrap (q1 * Y)) = r1)) (r1b : 0 ≤ r1) (r1c : r1 ≤ 18446744073709551615)
    (Ea1 : Hid (r1 / n1 = a1)) (Eb1 : Hid (IntKind.u64.wrap (r1 - IntKind.u64.wrap (a1 * n1)) = b1)) (G2 : Hid (GuessI n1 n0 r1 d0 a1 b1)) (S2 : Hid (StepI n1 n0 r1 d0)) (Q0 : Hid (quoI n1 n0 r1 d0 = q0))
    (FQ : Hid (IntKind.u64.wrap (IntKind.u64.wrap (q1 * 4294967296) + q0) = Q)) (FR : Hid (IntKind.u64.wrap (IntKind.u64.wrap (IntKind.u64.wrap (r1 * 4294967296) + d0) - IntKind.u64.wrap (q0 * Y)) / 2 ^ s = R)) :
    Calls Try.prog 52 #[.int .u64 hi, .int .u64 lo, .int .u64 y] w fun e w' => e = .returned (.tuple #[.int .u64 Q, .int .u64 R]) ∧ ∃ n, w' = w.drewN n := by
  have h1 : (y == 0) = false := by simp; omega
  have h2 : ¬ y ≤ hi := by omega
  have h3 : (hi == 0) = false := by simp; omega
  go_enter Try.func52, Try.ntmps52
  go_wp2_with fail
  refine (lz_any y s _ (by omega) hy1 HS).mono ?_
  rintro e w' ⟨rfl, rfl⟩
  go_upto_region 15 with (fail)
  rw [EY.out, En1.out, En0.out, EU.out, EL.out, Ed1.out, Ed0.out]
  clear EY En1 En0 EU EL Ed1 Ed0 HS h2 h1 h3 hl0 hl1 hy hy1 hh0
  go_upto_region 16 with (fail)
  rw [Ea0.out]
  go_upto_region 17 with (fail)
  rw [Eb0.out]
  clear Ea0 Eb0
  go_loop [15, 16] (fun x y => ∃ a b : Int, x = .int .u64 a ∧ y = .int .u64 b ∧ GuessI n1 n0 u d1 a b) (fun x _ => (intOf x).toNat)
  case atStart => exact ⟨a0, b0, rfl, rfl, G1.out⟩
  case round =>
    obtain ⟨a, b, rfl, rfl, hg⟩ := hrel
    have HG := Lib.hid hg
    have ab0 := hg.1
    have bb0 := hg.2.1
    have ab1 := hg.le
    have bb1 := hg.lt
    clear hg
    by_cases t1 : 4294967296 ≤ a
    · go_upto_region 20 with (fail)
      by_cases t3 : 4294967296 ≤ b + n1
      · have E := Lib.hid (show a - 1 = q1 from by rw [← Q1.out]; exact HG.out.leave S1.out (.inl t1) t3)
        rw [E.out]
        clear E
        go_upto_region 21 with (fail)
        clear t1 t3 ab0 ab1 bb0 bb1 HG
        go_upto_region 22 with (fail)
        rw [R1.out]
        go_upto_region 23 with (fail)
        rw [Ea1.out]
        go_upto_region 24 with (fail)
        rw [Eb1.out]
        go_loop [18, 16] (fun x y => ∃ a b : Int, x = .int .u64 a ∧ y = .int .u64 b ∧ GuessI n1 n0 r1 d0 a b) (fun x _ => (intOf x).toNat)
        case atStart => exact ⟨a1, b1, rfl, rfl, G2.out⟩
        case round =>
          obtain ⟨a, b, rfl, rfl, hg⟩ := hrel
          have HG := Lib.hid hg
          have ab0 := hg.1
          have bb0 := hg.2.1
          have ab1 := hg.le
          have bb1 := hg.lt
          clear hg
          by_cases t1 : 4294967296 ≤ a
          · go_upto_region 27 with (fail)
            by_cases t3 : 4294967296 ≤ b + n1
            · have E := Lib.hid (show a - 1 = q0 from by rw [← Q0.out]; exact HG.out.leave S2.out (.inl t1) t3)
              rw [E.out]
              clear E
              go_upto_region 28 with (fail)
              clear t1 t3 ab0 ab1 bb0 bb1 HG
              go_wp2
              go_ret2
              rw [FQ.out, FR.out]
              exact ⟨rfl, 0, rfl⟩
            · have HN := Lib.hid (HG.out.next S2.out (.inl t1) t3)
              go_wp2
              go_round
              case rel => exact ⟨a - 1, b + n1, rfl, rfl, HN.out⟩
              case measure => simp [intOf]; omega
          · obtain ⟨P, HP⟩ : ∃ P, IntKind.u64.wrap (a * n0) = P := ⟨_, rfl⟩
            have HPP : Hid (P = a * n0) := by rw [← HP]; exact prod_small ab0 (by omega) n0b n0c
            by_cases t2 : 4294967296 * b + d0 < P
            · have hp : 1 ≤ a := HG.out.pos S2.out (.inr (by rw [← HPP.out]; exact t2))
              go_upto_region 27 with (fail)
              by_cases t3 : 4294967296 ≤ b + n1
              · have E := Lib.hid (show a - 1 = q0 from by rw [← Q0.out]; exact HG.out.leave S2.out (.inr (by rw [← HPP.out]; exact t2)) t3)
                rw [E.out]
                clear E
                go_upto_region 28 with (fail)
                clear t1 t2 t3 hp HP HPP ab0 ab1 bb0 bb1 HG
                go_wp2
                go_ret2
                rw [FQ.out, FR.out]
                exact ⟨rfl, 0, rfl⟩
              · have HN := Lib.hid (HG.out.next S2.out (.inr (by rw [← HPP.out]; exact t2)) t3)
                go_wp2
                go_round
                case rel => exact ⟨a - 1, b + n1, rfl, rfl, HN.out⟩
                case measure => simp [intOf]; omega
            · have E := Lib.hid (show a = q0 from by rw [← Q0.out]; exact HG.out.done S2.out (by rw [← HPP.out]; exact t2))
              go_upto_region 28 with (fail)
              rw [E.out]
              clear E t1 t2 HP HPP ab0 ab1 bb0 bb1 HG
              go_wp2
              go_ret2
              rw [FQ.out, FR.out]
              exact ⟨rfl, 0, rfl⟩
      · have HN := Lib.hid (HG.out.next S1.out (.inl t1) t3)
        go_wp2
        go_round
        case rel => exact ⟨a - 1, b + n1, rfl, rfl, HN.out⟩
        case measure => simp [intOf]; omega
    · obtain ⟨P, HP⟩ : ∃ P, IntKind.u64.wrap (a * n0) = P := ⟨_, rfl⟩
      have HPP : Hid (P = a * n0) := by rw [← HP]; exact prod_small ab0 (by omega) n0b n0c
      by_cases t2 : 4294967296 * b + d1 < P
      · have hp : 1 ≤ a := HG.out.pos S1.out (.inr (by rw [← HPP.out]; exact t2))
        go_upto_region 20 with (fail)
        by_cases t3 : 4294967296 ≤ b + n1
        · have E := Lib.hid (show a - 1 = q1 from by rw [← Q1.out]; exact HG.out.leave S1.out (.inr (by rw [← HPP.out]; exact t2)) t3)
          rw [E.out]
          clear E
          go_upto_region 21 with (fail)
          clear t1 t2 t3 hp HP HPP ab0 ab1 bb0 bb1 HG
          go_upto_region 22 with (fail)
          rw [R1.out]
          go_upto_region 23 with (fail)
          rw [Ea1.out]
          go_upto_region 24 with (fail)
          rw [Eb1.out]
          go_loop [18, 16] (fun x y => ∃ a b : Int, x = .int .u64 a ∧ y = .int .u64 b ∧ GuessI n1 n0 r1 d0 a b) (fun x _ => (intOf x).toNat)
          case atStart => exact ⟨a1, b1, rfl, rfl, G2.out⟩
          case round =>
            obtain ⟨a, b, rfl, rfl, hg⟩ := hrel
            have HG := Lib.hid hg
            have ab0 := hg.1
            have bb0 := hg.2.1
            have ab1 := hg.le
            have bb1 := hg.lt
            clear hg
            by_cases t1 : 4294967296 ≤ a
            · go_upto_region 27 with (fail)
              by_cases t3 : 4294967296 ≤ b + n1
              · have E := Lib.hid (show a - 1 = q0 from by rw [← Q0.out]; exact HG.out.leave S2.out (.inl t1) t3)
                rw [E.out]
                clear E
                go_upto_region 28 with (fail)
                clear t1 t3 ab0 ab1 bb0 bb1 HG
                go_wp2
                go_ret2
                rw [FQ.out, FR.out]
                exact ⟨rfl, 0, rfl⟩
              · have HN := Lib.hid (HG.out.next S2.out (.inl t1) t3)
                go_wp2
                go_round
                case rel => exact ⟨a - 1, b + n1, rfl, rfl, HN.out⟩
                case measure => simp [intOf]; omega
            · obtain ⟨P, HP⟩ : ∃ P, IntKind.u64.wrap (a * n0) = P := ⟨_, rfl⟩
              have HPP : Hid (P = a * n0) := by rw [← HP]; exact prod_small ab0 (by omega) n0b n0c
              by_cases t2 : 4294967296 * b + d0 < P
              · have hp : 1 ≤ a := HG.out.pos S2.out (.inr (by rw [← HPP.out]; exact t2))
                go_upto_region 27 with (fail)
                by_cases t3 : 4294967296 ≤ b + n1
                · have E := Lib.hid (show a - 1 = q0 from by rw [← Q0.out]; exact HG.out.leave S2.out (.inr (by rw [← HPP.out]; exact t2)) t3)
                  rw [E.out]
                  clear E
                  go_upto_region 28 with (fail)
                  clear t1 t2 t3 hp HP HPP ab0 ab1 bb0 bb1 HG
                  go_wp2
                  go_ret2
                  rw [FQ.out, FR.out]
                  exact ⟨rfl, 0, rfl⟩
                · have HN := Lib.hid (HG.out.next S2.out (.inr (by rw [← HPP.out]; exact t2)) t3)
                  go_wp2
                  go_round
                  case rel => exact ⟨a - 1, b + n1, rfl, rfl, HN.out⟩
                  case measure => simp [intOf]; omega
              · have E := Lib.hid (show a = q0 from by rw [← Q0.out]; exact HG.out.done S2.out (by rw [← HPP.out]; exact t2))
                go_upto_region 28 with (fail)
                rw [E.out]
                clear E t1 t2 HP HPP ab0 ab1 bb0 bb1 HG
                go_wp2
                go_ret2
                rw [FQ.out, FR.out]
                exact ⟨rfl, 0, rfl⟩
        · have HN := Lib.hid (HG.out.next S1.out (.inr (by rw [← HPP.out]; exact t2)) t3)
          go_wp2
          go_round
          case rel => exact ⟨a - 1, b + n1, rfl, rfl, HN.out⟩
          case measure => simp [intOf]; omega
      · have E := Lib.hid (show a = q1 from by rw [← Q1.out]; exact HG.out.done S1.out (by rw [← HPP.out]; exact t2))
        go_upto_region 21 with (fail)
        rw [E.out]
        clear E t1 t2 HP HPP ab0 ab1 bb0 bb1 HG
        go_upto_region 22 with (fail)
        rw [R1.out]
        go_upto_region 23 with (fail)
        rw [Ea1.out]
        go_upto_region 24 with (fail)
        rw [Eb1.out]
        go_loop [18, 16] (fun x y => ∃ a b : Int, x = .int .u64 a ∧ y = .int .u64 b ∧ GuessI n1 n0 r1 d0 a b) (fun x _ => (intOf x).toNat)
        case atStart => exact ⟨a1, b1, rfl, rfl, G2.out⟩
        case round =>
          obtain ⟨a, b, rfl, rfl, hg⟩ := hrel
          have HG := Lib.hid hg
          have ab0 := hg.1
          have bb0 := hg.2.1
          have ab1 := hg.le
          have bb1 := hg.lt
          clear hg
          by_cases t1 : 4294967296 ≤ a
          · go_upto_region 27 with (fail)
            by_cases t3 : 4294967296 ≤ b + n1
            · have E := Lib.hid (show a - 1 = q0 from by rw [← Q0.out]; exact HG.out.leave S2.out (.inl t1) t3)
              rw [E.out]
              clear E
              go_upto_region 28 with (fail)
              clear t1 t3 ab0 ab1 bb0 bb1 HG
              go_wp2
              go_ret2
              rw [FQ.out, FR.out]
              exact ⟨rfl, 0, rfl⟩
            · have HN := Lib.hid (HG.out.next S2.out (.inl t1) t3)
              go_wp2
              go_round
              case rel => exact ⟨a - 1, b + n1, rfl, rfl, HN.out⟩
              case measure => simp [intOf]; omega
          · obtain ⟨P, HP⟩ : ∃ P, IntKind.u64.wrap (a * n0) = P := ⟨_, rfl⟩
            have HPP : Hid (P = a * n0) := by rw [← HP]; exact prod_small ab0 (by omega) n0b n0c
            by_cases t2 : 4294967296 * b + d0 < P
            · have hp : 1 ≤ a := HG.out.pos S2.out (.inr (by rw [← HPP.out]; exact t2))
              go_upto_region 27 with (fail)
              by_cases t3 : 4294967296 ≤ b + n1
              · have E := Lib.hid (show a - 1 = q0 from by rw [← Q0.out]; exact HG.out.leave S2.out (.inr (by rw [← HPP.out]; exact t2)) t3)
                rw [E.out]
                clear E
                go_upto_region 28 with (fail)
                clear t1 t2 t3 hp HP HPP ab0 ab1 bb0 bb1 HG
                go_wp2
                go_ret2
                rw [FQ.out, FR.out]
                exact ⟨rfl, 0, rfl⟩
              · have HN := Lib.hid (HG.out.next S2.out (.inr (by rw [← HPP.out]; exact t2)) t3)
                go_wp2
                go_round
                case rel => exact ⟨a - 1, b + n1, rfl, rfl, HN.out⟩
                case measure => simp [intOf]; omega
            · have E := Lib.hid (show a = q0 from by rw [← Q0.out]; exact HG.out.done S2.out (by rw [← HPP.out]; exact t2))
              go_upto_region 28 with (fail)
              rw [E.out]
              clear E t1 t2 HP HPP ab0 ab1 bb0 bb1 HG
              go_wp2
              go_ret2
              rw [FQ.out, FR.out]
              exact ⟨rfl, 0, rfl⟩
end Go.Proofs.Ythjhekmlhmljlaa
