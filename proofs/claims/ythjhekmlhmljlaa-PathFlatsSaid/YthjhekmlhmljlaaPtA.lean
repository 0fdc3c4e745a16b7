/-
  Outlines and polygons as the document has them: knots, points, the nearest of a quotient, middles, curves, arcs, polygons. No function of the program. No conditions but those that each theorem names.
-/
import Derived.Test.YthjhekmlhmljlaaMulDiv
import Derived.Test.YthjhekmlhmljlaaFxI
namespace Go.Proofs.Ythjhekmlhmljlaa
open Go.RowKit
set_option linter.unusedSimpArgs false
set_option linter.unusedVariables false

/-- A knot. -/
structure Kn where
  x : Int
  y : Int
  k : Int
/-- A point. -/
structure Sp where
  x : Int
  y : Int
/-- Where a knot lies. -/
def Kn.sp (k : Kn) : Sp := ⟨k.x, k.y⟩

/-- The nearest of n by d, halves away from 0. -/
def nearQ (n : Int) (d : Nat) : Int := if n < 0 then -(near n.natAbs d : Int) else (near n.natAbs d : Int)

theorem near_le {m d H : Nat} (hd : 0 < d) (h : m ≤ H * d) : near m d ≤ H := by
  unfold near
  have : (2 * m + d) / (2 * d) < H + 1 := by
    rw [Nat.div_lt_iff_lt_mul (by omega), Nat.add_mul, Nat.one_mul]
    have : H * (2 * d) = 2 * (H * d) := by rw [Nat.mul_left_comm]
    omega
  omega
theorem le_near {m d L : Nat} (hd : 0 < d) (h : L * d ≤ m) : L ≤ near m d := by
  unfold near
  rw [Nat.le_div_iff_mul_le (by omega)]
  have : L * (2 * d) = 2 * (L * d) := by rw [Nat.mul_left_comm]
  omega
theorem le_of_mul {a : Int} {d : Nat} {n : Int} (hd : 0 < d) (h : n ≤ a * (d : Int)) (hn : 0 ≤ n) : 0 ≤ a := by
  rcases Int.lt_or_le a 0 with h1 | h1
  · have : a * (d : Int) < 0 := Int.mul_neg_of_neg_of_pos h1 (by omega)
    omega
  · exact h1
theorem near_int_le {n : Int} {d : Nat} {hi : Int} (hd : 0 < d) (hn : 0 ≤ n) (h : n ≤ hi * (d : Int)) : (near n.natAbs d : Int) ≤ hi := by
  have h0 := le_of_mul hd h hn
  obtain ⟨H, rfl⟩ : ∃ H : Nat, hi = H := ⟨hi.toNat, by omega⟩
  have := near_le (m := n.natAbs) (d := d) (H := H) hd (by rw [← Int.natCast_mul] at h; omega)
  omega
theorem near_int_ge {n : Int} {d : Nat} {lo : Int} (hd : 0 < d) (hn : 0 ≤ n) (h : lo * (d : Int) ≤ n) : lo ≤ (near n.natAbs d : Int) := by
  rcases Int.lt_or_le lo 0 with h1 | h1
  · omega
  · obtain ⟨L, rfl⟩ : ∃ L : Nat, lo = L := ⟨lo.toNat, by omega⟩
    have := le_near (m := n.natAbs) (d := d) (L := L) hd (by rw [← Int.natCast_mul] at h; omega)
    omega
theorem nearQ_bd {n : Int} {d : Nat} {lo hi : Int} (hd : 0 < d) (h1 : lo * (d : Int) ≤ n) (h2 : n ≤ hi * (d : Int)) : lo ≤ nearQ n d ∧ nearQ n d ≤ hi := by
  unfold nearQ
  split
  · rename_i hn
    have e : n.natAbs = (-n).natAbs := by omega
    rw [e]
    have a := near_int_le (n := -n) (d := d) (hi := -lo) hd (by omega) (by rw [Int.neg_mul]; omega)
    have b := near_int_ge (n := -n) (d := d) (lo := -hi) hd (by omega) (by rw [Int.neg_mul]; omega)
    omega
  · exact ⟨near_int_ge hd (by omega) h1, near_int_le hd (by omega) h2⟩
theorem nearQ_mul (b : Int) {d : Nat} (hd : 0 < d) : nearQ (b * (d : Int)) d = b := by
  have := nearQ_bd (n := b * (d : Int)) (lo := b) (hi := b) hd (Int.le_refl _) (Int.le_refl _)
  omega
theorem nearQ_md {n : Int} {d : Nat} (hd : 0 < d) (h1 : (-2147483647) * (d : Int) ≤ n) (h2 : n ≤ 2147483647 * (d : Int)) : mulDiv n 1 (d : Int) = (nearQ n d, 0) := by
  have hb := nearQ_bd hd h1 h2
  have hq : near n.natAbs d ≤ 2147483647 := by unfold nearQ at hb; split at hb <;> omega
  unfold mulDiv
  have e1 : n.natAbs * (1 : Int).natAbs = n.natAbs := by simp
  have e2 : ((d : Int)).natAbs = d := rfl
  have e4 : (prodNeg n 1 != decide ((d : Int) < 0)) = decide (n < 0) := by
    have hd0 : ¬ (d : Int) < 0 := by omega
    unfold prodNeg
    by_cases h : n < 0
    · have : n ≠ 0 := by omega
      simp [h, this, hd0]
    · simp [h, hd0]
  rw [e1, e2, e4, if_neg (by omega)]
  unfold nearQ
  by_cases h : n < 0 <;> simp [h]

/-- The middle of two points. -/
def mid (a b : Sp) : Sp := ⟨nearQ (a.x + b.x) 2, nearQ (a.y + b.y) 2⟩
/-- How many points a curve with such a bend has. -/
def stepsN (d : Int) : Nat := if d ≤ 4 then 1 else if d ≤ 16 then 2 else if d ≤ 64 then 4 else if d ≤ 256 then 8 else 16
theorem stepsN_bd (d : Int) : 1 ≤ stepsN d ∧ stepsN d ≤ 16 := by unfold stepsN; (repeat' split) <;> omega
/-- How far the way from a by c to b is from being straight and even. -/
def bendD (a c b : Sp) : Int := ((a.x - 2 * c.x + b.x).natAbs : Int) + ((a.y - 2 * c.y + b.y).natAbs : Int)
/-- The sums of a curve with one control, of one with two. -/
def quadN (a c b i j : Int) : Int := a * j * j + 2 * c * i * j + b * i * i
def cubN (a c d b i j : Int) : Int := a * j * j * j + 3 * c * i * j * j + 3 * d * i * i * j + b * i * i * i
def quadPt (n i : Nat) (a c b : Sp) : Sp := ⟨nearQ (quadN a.x c.x b.x i (n - i : Nat)) (n * n), nearQ (quadN a.y c.y b.y i (n - i : Nat)) (n * n)⟩
def cubPt (n i : Nat) (a c d b : Sp) : Sp := ⟨nearQ (cubN a.x c.x d.x b.x i (n - i : Nat)) (n * n * n), nearQ (cubN a.y c.y d.y b.y i (n - i : Nat)) (n * n * n)⟩
/-- The first m points of a curve. -/
def quadL (n : Nat) (a c b : Sp) (m : Nat) : List Sp := (List.range m).map fun i => quadPt n (i + 1) a c b
def cubL (n : Nat) (a c d b : Sp) (m : Nat) : List Sp := (List.range m).map fun i => cubPt n (i + 1) a c d b
theorem quadL_succ (n : Nat) (a c b : Sp) (m : Nat) : quadL n a c b (m + 1) = quadL n a c b m ++ [quadPt n (m + 1) a c b] := by simp [quadL, List.range_succ]
theorem cubL_succ (n : Nat) (a c d b : Sp) (m : Nat) : cubL n a c d b (m + 1) = cubL n a c d b m ++ [cubPt n (m + 1) a c d b] := by simp [cubL, List.range_succ]
theorem quadL_length (n : Nat) (a c b : Sp) (m : Nat) : (quadL n a c b m).length = m := by simp [quadL]
theorem cubL_length (n : Nat) (a c d b : Sp) (m : Nat) : (cubL n a c d b m).length = m := by simp [cubL]
def quadPts (a c b : Sp) : List Sp := quadL (stepsN (bendD a c b)) a c b (stepsN (bendD a c b))
def cubPts (a c d b : Sp) : List Sp := cubL (stepsN (bendD a c d + bendD c d b)) a c d b (stepsN (bendD a c d + bendD c d b))

/-- Within lo and hi. -/
def In (lo hi v : Int) : Prop := lo ≤ v ∧ v ≤ hi
theorem mulR {a b c : Int} (h : a ≤ b) (hc : 0 ≤ c) : a * c ≤ b * c := Int.mul_le_mul_of_nonneg_right h hc
theorem quadN_bd {lo hi a c b : Int} {i j n : Nat} (hn : i + j = n) (ha : In lo hi a) (hc : In lo hi c) (hb : In lo hi b) : lo * ((n * n : Nat) : Int) ≤ quadN a c b i j ∧ quadN a c b i j ≤ hi * ((n * n : Nat) : Int) := by
  have e : ∀ t : Int, t * ((n * n : Nat) : Int) = quadN t t t i j := by
    intro t; subst hn; unfold quadN; simp only [Int.natCast_mul, Int.natCast_add]; grind
  rw [e lo, e hi]
  unfold quadN
  have hi0 : (0 : Int) ≤ i := by omega
  have hj0 : (0 : Int) ≤ j := by omega
  have c2 : 2 * lo ≤ 2 * c := by have := hc.1; omega
  have c3 : 2 * c ≤ 2 * hi := by have := hc.2; omega
  have a1 := mulR (mulR ha.1 hj0) hj0
  have a2 := mulR (mulR ha.2 hj0) hj0
  have b1 := mulR (mulR hb.1 hi0) hi0
  have b2 := mulR (mulR hb.2 hi0) hi0
  have d1 := mulR (mulR c2 hi0) hj0
  have d2 := mulR (mulR c3 hi0) hj0
  omega
theorem cubN_bd {lo hi a c d b : Int} {i j n : Nat} (hn : i + j = n) (ha : In lo hi a) (hc : In lo hi c) (hd : In lo hi d) (hb : In lo hi b) : lo * ((n * n * n : Nat) : Int) ≤ cubN a c d b i j ∧ cubN a c d b i j ≤ hi * ((n * n * n : Nat) : Int) := by
  have e : ∀ t : Int, t * ((n * n * n : Nat) : Int) = cubN t t t t i j := by
    intro t; subst hn; unfold cubN; simp only [Int.natCast_mul, Int.natCast_add]; grind
  rw [e lo, e hi]
  unfold cubN
  have hi0 : (0 : Int) ≤ i := by omega
  have hj0 : (0 : Int) ≤ j := by omega
  have c2 : 3 * lo ≤ 3 * c := by have := hc.1; omega
  have c3 : 3 * c ≤ 3 * hi := by have := hc.2; omega
  have k2 : 3 * lo ≤ 3 * d := by have := hd.1; omega
  have k3 : 3 * d ≤ 3 * hi := by have := hd.2; omega
  have a1 := mulR (mulR (mulR ha.1 hj0) hj0) hj0
  have a2 := mulR (mulR (mulR ha.2 hj0) hj0) hj0
  have b1 := mulR (mulR (mulR hb.1 hi0) hi0) hi0
  have b2 := mulR (mulR (mulR hb.2 hi0) hi0) hi0
  have d1 := mulR (mulR (mulR c2 hi0) hj0) hj0
  have d2 := mulR (mulR (mulR c3 hi0) hj0) hj0
  have e1 := mulR (mulR (mulR k2 hi0) hi0) hj0
  have e2 := mulR (mulR (mulR k3 hi0) hi0) hj0
  omega

/-- A point within a box. -/
def InB (x0 y0 x1 y1 : Int) (p : Sp) : Prop := In x0 x1 p.x ∧ In y0 y1 p.y
theorem quadPt_in {x0 y0 x1 y1 : Int} {a c b : Sp} {n i : Nat} (hn : 0 < n) (hi : i ≤ n) (ha : InB x0 y0 x1 y1 a) (hc : InB x0 y0 x1 y1 c) (hb : InB x0 y0 x1 y1 b) : InB x0 y0 x1 y1 (quadPt n i a c b) := by
  have hd : 0 < n * n := Nat.mul_pos hn hn
  have h1 := quadN_bd (i := i) (j := n - i) (n := n) (by omega) ha.1 hc.1 hb.1
  have h2 := quadN_bd (i := i) (j := n - i) (n := n) (by omega) ha.2 hc.2 hb.2
  exact ⟨nearQ_bd hd h1.1 h1.2, nearQ_bd hd h2.1 h2.2⟩
theorem cubPt_in {x0 y0 x1 y1 : Int} {a c d b : Sp} {n i : Nat} (hn : 0 < n) (hi : i ≤ n) (ha : InB x0 y0 x1 y1 a) (hc : InB x0 y0 x1 y1 c) (hd : InB x0 y0 x1 y1 d) (hb : InB x0 y0 x1 y1 b) : InB x0 y0 x1 y1 (cubPt n i a c d b) := by
  have h0 : 0 < n * n * n := Nat.mul_pos (Nat.mul_pos hn hn) hn
  have h1 := cubN_bd (i := i) (j := n - i) (n := n) (by omega) ha.1 hc.1 hd.1 hb.1
  have h2 := cubN_bd (i := i) (j := n - i) (n := n) (by omega) ha.2 hc.2 hd.2 hb.2
  exact ⟨nearQ_bd h0 h1.1 h1.2, nearQ_bd h0 h2.1 h2.2⟩
theorem mid_in {x0 y0 x1 y1 : Int} {a b : Sp} (ha : InB x0 y0 x1 y1 a) (hb : InB x0 y0 x1 y1 b) : InB x0 y0 x1 y1 (mid a b) := by
  obtain ⟨⟨a1, a2⟩, a3, a4⟩ := ha
  obtain ⟨⟨b1, b2⟩, b3, b4⟩ := hb
  exact ⟨nearQ_bd (by decide) (by omega) (by omega), nearQ_bd (by decide) (by omega) (by omega)⟩
theorem quadPt_last {n : Nat} (hn : 0 < n) (a c b : Sp) : quadPt n n a c b = b := by
  have hd : 0 < n * n := Nat.mul_pos hn hn
  have e : ∀ p q r : Int, quadN p q r n (n - n : Nat) = r * ((n * n : Nat) : Int) := by
    intro p q r; rw [Nat.sub_self]; unfold quadN; simp only [Int.natCast_mul]; grind
  unfold quadPt
  rw [e, e, nearQ_mul _ hd, nearQ_mul _ hd]
theorem cubPt_last {n : Nat} (hn : 0 < n) (a c d b : Sp) : cubPt n n a c d b = b := by
  have hd : 0 < n * n * n := Nat.mul_pos (Nat.mul_pos hn hn) hn
  have e : ∀ p q s r : Int, cubN p q s r n (n - n : Nat) = r * ((n * n * n : Nat) : Int) := by
    intro p q s r; rw [Nat.sub_self]; unfold cubN; simp only [Int.natCast_mul]; grind
  unfold cubPt
  rw [e, e, nearQ_mul _ hd, nearQ_mul _ hd]

/-- A line or a curve: its controls, and where it ends. -/
structure Arc where
  cs : List Sp
  e : Sp
/-- An arc's points, from a place. -/
def arcPts (a : Sp) (r : Arc) : List Sp := match r.cs with
  | [] => [r.e]
  | [c] => quadPts a c r.e
  | c :: d :: _ => cubPts a c d r.e
/-- The points of arcs, one behind the other. -/
def ptsL (s : Sp) : List Arc → List Sp
  | [] => []
  | a :: r => arcPts s a ++ ptsL a.e r
/-- Where arcs end. -/
def endL (s : Sp) : List Arc → Sp
  | [] => s
  | a :: r => endL a.e r
theorem ptsL_snoc (s : Sp) : ∀ (l : List Arc) (a : Arc), ptsL s (l ++ [a]) = ptsL s l ++ arcPts (endL s l) a
  | [], a => by simp [ptsL, endL]
  | b :: l, a => by rw [List.cons_append, ptsL, ptsL, endL, ptsL_snoc b.e l a, List.append_assoc]
theorem endL_snoc (s : Sp) : ∀ (l : List Arc) (a : Arc), endL s (l ++ [a]) = a.e
  | [], a => rfl
  | b :: l, a => by rw [List.cons_append, endL, endL_snoc b.e l a]
theorem quadPts_last (a c b : Sp) : (quadPts a c b).getLast? = some b := by
  unfold quadPts
  have h := (stepsN_bd (bendD a c b)).1
  generalize stepsN (bendD a c b) = n at *
  obtain ⟨m, rfl⟩ : ∃ m, n = m + 1 := ⟨n - 1, by omega⟩
  rw [quadL_succ, quadPt_last (by omega)]; simp
theorem cubPts_last (a c d b : Sp) : (cubPts a c d b).getLast? = some b := by
  unfold cubPts
  have h := (stepsN_bd (bendD a c d + bendD c d b)).1
  generalize stepsN (bendD a c d + bendD c d b) = n at *
  obtain ⟨m, rfl⟩ : ∃ m, n = m + 1 := ⟨n - 1, by omega⟩
  rw [cubL_succ, cubPt_last (by omega)]; simp
theorem arcPts_last (a : Sp) (r : Arc) : (arcPts a r).getLast? = some r.e := by
  unfold arcPts; split
  · rfl
  · exact quadPts_last _ _ _
  · exact cubPts_last _ _ _ _
theorem arcPts_length (a : Sp) (r : Arc) : 1 ≤ (arcPts a r).length ∧ (arcPts a r).length ≤ 16 := by
  unfold arcPts; split
  · simp
  · unfold quadPts; rw [quadL_length]; exact stepsN_bd _
  · unfold cubPts; rw [cubL_length]; exact stepsN_bd _

/-- The next arc, the knots behind it, whether it is closed by the start; none: the knots make no curve. -/
def arc1 (st : Sp) : List Kn → Option (Arc × List Kn × Bool)
  | [] => none
  | k :: r => if k.k = 1 then some (⟨[], k.sp⟩, r, false)
    else if k.k = 3 then (match r with
      | [] => none
      | d :: r2 => if d.k = 3 then (match r2 with
        | [] => some (⟨[k.sp, d.sp], st⟩, [], true)
        | e :: r3 => if e.k = 1 then some (⟨[k.sp, d.sp], e.sp⟩, r3, false) else none) else none)
    else (match r with
      | [] => some (⟨[k.sp], st⟩, [], true)
      | e :: r2 => if e.k = 1 then some (⟨[k.sp], e.sp⟩, r2, false) else if e.k = 2 then some (⟨[k.sp], mid k.sp e.sp⟩, e :: r2, false) else none)
theorem arc1_less {st : Sp} {l r : List Kn} {a : Arc} {c : Bool} (h : arc1 st l = some (a, r, c)) : r.length < l.length ∧ (c = true → r = []) := by
  unfold arc1 at h
  split at h
  · cases h
  · split at h
    · cases h; exact ⟨by simp, by simp⟩
    · split at h
      · split at h
        · cases h
        · split at h
          · split at h
            · cases h; exact ⟨by simp, by simp⟩
            · split at h
              · cases h; exact ⟨by simp; omega, by simp⟩
              · cases h
          · cases h
      · split at h
        · cases h; exact ⟨by simp, by simp⟩
        · split at h
          · cases h; exact ⟨by simp; omega, by simp⟩
          · split at h
            · cases h; exact ⟨by simp, by simp⟩
            · cases h
/-- The arcs of knots, and whether the last one is closed by the start. -/
def arcsF (st : Sp) : Nat → List Kn → Option (List Arc × Bool)
  | 0, _ => some ([], false)
  | n + 1, [] => some ([], false)
  | n + 1, k :: l => match arc1 st (k :: l) with
    | none => none
    | some (a, r, c) => (match arcsF st n r with
      | none => none
      | some (bs, d) => some (a :: bs, c || d))
theorem arcsF_nil (st : Sp) (n : Nat) : arcsF st n [] = some ([], false) := by cases n <;> rfl
theorem arcsF_fuel (st : Sp) : ∀ (n m : Nat) (l : List Kn), l.length ≤ n → l.length ≤ m → arcsF st n l = arcsF st m l
  | 0, m, l, h1, h2 => by
    have : l = [] := List.eq_nil_of_length_eq_zero (by omega)
    subst this; rw [arcsF_nil, arcsF_nil]
  | n + 1, 0, l, h1, h2 => by
    have : l = [] := List.eq_nil_of_length_eq_zero (by omega)
    subst this; rw [arcsF_nil, arcsF_nil]
  | n + 1, m + 1, [], _, _ => rfl
  | n + 1, m + 1, k :: l, h1, h2 => by
    rw [arcsF, arcsF]
    cases e : arc1 st (k :: l) with
    | none => rfl
    | some x =>
      obtain ⟨a, r, c⟩ := x
      have := (arc1_less e).1
      simp only [List.length_cons] at *
      rw [arcsF_fuel st n m r (by omega) (by omega)]
/-- The arcs of all the knots. -/
def arcsL (st : Sp) (l : List Kn) : Option (List Arc × Bool) := arcsF st l.length l
theorem arcsL_nil (st : Sp) : arcsL st [] = some ([], false) := rfl
theorem arcsL_none {st : Sp} {l : List Kn} (hl : l ≠ []) (h : arc1 st l = none) : arcsL st l = none := by
  cases l with
  | nil => exact absurd rfl hl
  | cons k l => unfold arcsL; rw [List.length_cons, arcsF, h]
theorem arcsL_some {st : Sp} {l r : List Kn} {a : Arc} {c : Bool} (h : arc1 st l = some (a, r, c)) : arcsL st l = match arcsL st r with
    | none => none
    | some (bs, d) => some (a :: bs, c || d) := by
  have hl := (arc1_less h).1
  cases l with
  | nil => simp at hl
  | cons k l =>
    unfold arcsL
    rw [List.length_cons, arcsF, h]
    simp only [List.length_cons] at hl
    dsimp only
    rw [arcsF_fuel st l.length r.length r (by omega) (Nat.le_refl _)]

/-- The place of the first knot on the curve. -/
def firstOn : List Kn → Option Nat
  | [] => none
  | k :: r => if k.k = 1 then some 0 else (firstOn r).map (· + 1)
/-- A contour's start, and the knots from there round to it; none: there is no start. -/
def begunL (c : List Kn) : Option (Sp × List Kn) := match firstOn c with
  | some i => some ((c.getD i ⟨0, 0, 0⟩).sp, c.drop (i + 1) ++ c.take i)
  | none => if (c.getD 0 ⟨0, 0, 0⟩).k = 3 then none else some (mid (c.getD (c.length - 1) ⟨0, 0, 0⟩).sp (c.getD 0 ⟨0, 0, 0⟩).sp, c)
/-- A polygon: the start and the arcs' points; what the start closes is left out. -/
def ringL (s : Sp) (bs : List Arc) (cl : Bool) : List Sp := if cl = true then (s :: ptsL s bs).dropLast else s :: ptsL s bs
/-- A contour's polygon; none: its knots make no curves. -/
def polyL (c : List Kn) : Option (List Sp) := match c with
  | [] => some []
  | k :: r => match begunL (k :: r) with
    | none => none
    | some (s, l) => (match arcsL s l with
      | none => none
      | some (bs, cl) => some (ringL s bs cl))
/-- An outline's polygons. -/
def flatL : List (List Kn) → Option (List (List Sp))
  | [] => some []
  | c :: r => match polyL c with
    | none => none
    | some p => (match flatL r with
      | none => none
      | some ps => some (p :: ps))
/-- How many knots. -/
def totalL : List (List Kn) → Nat
  | [] => 0
  | c :: r => c.length + totalL r
def kindB (k : Kn) : Bool := decide (1 ≤ k.k ∧ k.k ≤ 3)
def fixK (k : Kn) : Bool := fixB k.x && fixB k.y
def manyB (O : List (List Kn)) : Bool := decide (256 < O.length ∨ 4096 < totalL O)
/-- The error for which an outline is refused. -/
def checkE (O : List (List Kn)) : Int := if manyB O = true then 63 else if (O.all fun c => c.all kindB) = false then 61 else if (O.all fun c => c.all fixK) = false then 64 else 0
/-- Flat's answer: the polygons, and the error's number. -/
def flatR (O : List (List Kn)) : List (List Sp) × Int := if checkE O ≠ 0 then ([], checkE O) else match flatL O with
  | none => ([], 61)
  | some P => (P, 0)

end Go.Proofs.Ythjhekmlhmljlaa
