/-
  The untouched points of a contour in the order in which they are gone through; a map that is a function. No function of the program.
-/
import Derived.Test.YtnoadceeenioeaaZt
import Derived.Test.YtnoadceeenioeaaZo
import Derived.Maps.RangeWalk
import Derived.Maps.OwnSet
namespace Go.Proofs.Ytnoadceeenioeaa
open Go.RowKit Go.PlainAid
set_option linter.unusedSimpArgs false
set_option linter.unusedVariables false

/-- A point, the touched one ahead of it, the one behind it. -/
abbrev Tr := Nat × Nat × Nat
def plC (M : List Mk) (t : Tr) : Int × Bool := flS (M.getD t.1 mk0).o (M.getD t.2.1 mk0) (M.getD t.2.2 mk0)
def vF (M : List Mk) (V : List Tr) (x : Int) : Option Int := (V.reverse.find? fun t => (t.1 : Int) == x).map fun t => (plC M t).1
def badV (M : List Mk) (V : List Tr) : Bool := V.any fun t => (plC M t).2
def aT (T : List Nat) (q : Nat) : Nat := T.getD q 0
def bT (T : List Nat) (q : Nat) : Nat := T.getD ((q + 1) % T.length) 0
def cntK (n : Nat) (T : List Nat) (q : Nat) : Nat := (bT T q + n - aT T q - 1) % n
def segK (n : Nat) (T : List Nat) (q k : Nat) : List Tr := (List.range k).map fun j => ((aT T q + 1 + j) % n, aT T q, bT T q)
def segsK (n : Nat) (T : List Nat) (i : Nat) : List Tr := (List.range i).flatMap fun q => segK n T q (cntK n T q)

theorem vF_nil (M : List Mk) (x : Int) : vF M [] x = none := rfl
theorem vF_snoc (M : List Mk) (V : List Tr) (t : Tr) (x : Int) : vF M (V ++ [t]) x = if x = (t.1 : Int) then some (plC M t).1 else vF M V x := by
  unfold vF
  rw [List.reverse_append, List.reverse_singleton, List.singleton_append, List.find?_cons]
  by_cases h : x = (t.1 : Int)
  · rw [if_pos h, h]; simp
  · have : ((t.1 : Int) == x) = false := by simpa using fun e => h e.symm
    rw [if_neg h, this]
theorem badV_snoc (M : List Mk) (V : List Tr) (t : Tr) : badV M (V ++ [t]) = (badV M V || (plC M t).2) := by simp [badV]
theorem segK_succ (n : Nat) (T : List Nat) (q k : Nat) : segK n T q (k + 1) = segK n T q k ++ [((aT T q + 1 + k) % n, aT T q, bT T q)] := by simp [segK, List.range_succ]
theorem segK_zero (n : Nat) (T : List Nat) (q : Nat) : segK n T q 0 = [] := rfl
theorem segsK_succ (n : Nat) (T : List Nat) (i : Nat) : segsK n T (i + 1) = segsK n T i ++ segK n T i (cntK n T i) := by simp [segsK, List.range_succ, List.flatMap_append]

theorem cyc_back {n a k : Nat} (ha : a < n) (hk : k < n) : ((a + 1 + k) % n + n - (a + 1)) % n = k := by
  by_cases h : a + 1 + k < n
  · rw [Nat.mod_eq_of_lt h, show a + 1 + k + n - (a + 1) = k + n by omega, Nat.add_mod_right, Nat.mod_eq_of_lt hk]
  · rw [show (a + 1 + k) % n = a + 1 + k - n by rw [Nat.mod_eq_sub_mod (show a + 1 + k ≥ n by omega), Nat.mod_eq_of_lt (show a + 1 + k - n < n by omega)], show a + 1 + k - n + n - (a + 1) = k by omega, Nat.mod_eq_of_lt hk]
theorem cyc_end {n a b k : Nat} (ha : a < n) (hb : b < n) (hk : k < n) : (a + 1 + k) % n = b ↔ k = (b + n - a - 1) % n := by
  constructor
  · intro h
    have := cyc_back ha hk
    rw [h, show b + n - (a + 1) = b + n - a - 1 by omega] at this
    exact this.symm
  · intro h
    subst h
    by_cases h : b ≤ a
    · rw [Nat.mod_eq_of_lt (show b + n - a - 1 < n by omega), show a + 1 + (b + n - a - 1) = b + n by omega, Nat.add_mod_right, Nat.mod_eq_of_lt hb]
    · rw [show b + n - a - 1 = (b - a - 1) + n by omega, Nat.add_mod_right, Nat.mod_eq_of_lt (show b - a - 1 < n by omega), show a + 1 + (b - a - 1) = b by omega, Nat.mod_eq_of_lt hb]
theorem cyc_next {n a k : Nat} (hn : 0 < n) : ((a + 1 + k) % n + 1) % n = (a + 1 + (k + 1)) % n := by
  rw [Nat.mod_add_mod]; rfl

theorem wf_small {v : Int} (h : -2147483647 ≤ v ∧ v ≤ 2147483647) : (Lit.int .i64 v).wf = true := by
  have h1 : IntKind.i64.min = -9223372036854775808 := by decide
  have h2 : IntKind.i64.max = 9223372036854775807 := by decide
  simp only [Lit.wf, h1, h2, Bool.and_eq_true, decide_eq_true_eq]
  omega
theorem sumOr_bd (a b : Int) : -2147483647 ≤ (sumOr a b).1 ∧ (sumOr a b).1 ≤ 2147483647 := by
  unfold sumOr
  split
  · rename_i h
    simp only [Bool.and_eq_true] at h
    exact fixB_true h.2
  · decide
theorem flS_bd (g : Int) (a b : Mk) : -2147483647 ≤ (flS g a b).1 ∧ (flS g a b).1 ≤ 2147483647 := by
  unfold flS flH
  split
  · exact sumOr_bd _ _
  · split
    · exact sumOr_bd _ _
    · exact sumOr_bd _ _

/-- The map reads as this function. -/
def MapF (D : DataW Unit) (f : Int → Option Int) : Prop := Maps.IsMap D ∧ ∀ x, (∀ v, f x = some v → Maps.has D (.int .i64 x) = true ∧ ∀ zd, D.atKey (.int .i64 x) zd = .lit (.int .i64 v)) ∧ (f x = none → Maps.has D (.int .i64 x) = false)
theorem mapF_none : MapF (.map []) (fun _ => none) := ⟨⟨[], rfl⟩, fun x => ⟨fun v h => (by simp at h), fun _ => rfl⟩⟩
theorem MapF.put {D : DataW Unit} {f g : Int → Option Int} (h : MapF D f) (x v : Int) (hw : (Lit.int .i64 x).wf = true) (hg : ∀ y, g y = if y = x then some v else f y) : MapF (D.put (.int .i64 x) (.lit (.int .i64 v))) g := by
  have hk : WideAt.IsKeyLit (.int .i64 x) := trivial
  refine ⟨h.1.put _ _, fun y => ?_⟩
  rw [hg y]
  by_cases e : y = x
  · subst e
    rw [if_pos rfl]
    refine ⟨fun u hu => ?_, fun hu => by cases hu⟩
    cases hu
    exact ⟨Maps.has_put_same h.1 hk _, fun zd => Maps.atKey_put_same h.1 hk _ _⟩
  · have hne : (Lit.int .i64 y) ≠ .int .i64 x := fun e2 => e (by cases e2; rfl)
    rw [if_neg e]
    refine ⟨fun u hu => ?_, fun hu => ?_⟩
    · obtain ⟨h1, h2⟩ := (h.2 y).1 u hu
      exact ⟨by rw [Maps.has_put_other hne]; exact h1, fun zd => by rw [Maps.atKey_put_other hne]; exact h2 zd⟩
    · rw [Maps.has_put_other hne]; exact (h.2 y).2 hu

end Go.Proofs.Ytnoadceeenioeaa
