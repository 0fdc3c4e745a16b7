/-
  Smoothing as a function: the places of a contour put in one after the other, whatever their order. No function of the program.
-/
import Derived.Test.YtnoadceeenioeaaZw
import Derived.Test.YtnoadceeenioeaaZn
namespace Go.Proofs.Ytnoadceeenioeaa
open Go.RowKit Go.PlainAid
set_option linter.unusedSimpArgs false
set_option linter.unusedVariables false

/-- The points, where those that are left to come have not yet been put. -/
def mixC (axis : Int) (first : Nat) (f : Int → Option Int) (left : Lit → Bool) (cur : List Sp) : List Sp :=
  cur.mapIdx fun q s => if first ≤ q then (match f ((q - first : Nat) : Int) with
    | some v => if left (.int .i64 ((q - first : Nat) : Int)) = true then s else axS axis s v
    | none => s) else s
def putC (axis : Int) (first : Nat) (f : Int → Option Int) (cur : List Sp) : List Sp := mixC axis first f (fun _ => false) cur
theorem mixC_len (axis : Int) (first : Nat) (f : Int → Option Int) (left : Lit → Bool) (cur : List Sp) : (mixC axis first f left cur).length = cur.length := by simp [mixC]
theorem mixC_start {axis : Int} {first : Nat} {f : Int → Option Int} {left : Lit → Bool} (h : ∀ x v, f x = some v → left (.int .i64 x) = true) (cur : List Sp) : mixC axis first f left cur = cur := by
  apply List.ext_getElem?
  intro q
  simp only [mixC, List.getElem?_mapIdx]
  cases hq : cur[q]? with
  | none => rfl
  | some s =>
    simp only [Option.map_some, Option.some.injEq]
    split
    · split
      · rename_i v hv
        rw [if_pos (h _ _ hv)]
      · rfl
    · rfl
theorem mixC_end {axis : Int} {first : Nat} {f : Int → Option Int} {left : Lit → Bool} (h : ∀ kl, left kl = false) (cur : List Sp) : mixC axis first f left cur = putC axis first f cur := by
  have : left = fun _ => false := funext h
  rw [this]; rfl
theorem mixC_step {axis : Int} {first p : Nat} {f : Int → Option Int} {left : Lit → Bool} {c : Int} (hf : f (p : Int) = some c) (hl : left (.int .i64 (p : Int)) = true) (cur : List Sp) :
    mixC axis first f (fun z => left z && !z.sameKey (.int .i64 (p : Int))) cur = (mixC axis first f left cur).modify (first + p) fun s => axS axis s c := by
  apply List.ext_getElem?
  intro q
  rw [List.getElem?_modify]
  simp only [mixC, List.getElem?_mapIdx]
  cases hq : cur[q]? with
  | none => simp
  | some s =>
    by_cases hqp : first + p = q
    · subst hqp
      have e : first + p - first = p := by omega
      simp only [Option.map_some, if_pos (Nat.le_add_right first p), e, hf, hl]
      simp [Lit.sameKey]
    · simp only [Option.map_some, if_neg hqp, Option.some.injEq, id_eq]
      by_cases h1 : first ≤ q
      · rw [if_pos h1, if_pos h1]
        have hne : (Lit.int .i64 ((q - first : Nat) : Int)) ≠ .int .i64 (p : Int) := by
          intro e
          have : ((q - first : Nat) : Int) = (p : Int) := by cases e; rfl
          omega
        have hk := Maps.sameKey_ne hne
        simp [hk]
      · rw [if_neg h1, if_neg h1]; simp

theorem vF_mem {M : List Mk} {x v : Int} : ∀ {V : List Tr}, vF M V x = some v → ∃ t ∈ V, x = (t.1 : Int) ∧ v = (plC M t).1 := by
  intro V h
  unfold vF at h
  cases hf : V.reverse.find? (fun t => (t.1 : Int) == x) with
  | none => rw [hf] at h; cases h
  | some t =>
    rw [hf] at h
    have h1 := List.mem_of_find?_eq_some hf
    have h2 := List.find?_some hf
    simp at h h1 h2
    exact ⟨t, h1, h2.symm, h.symm⟩
theorem segK_mem {n : Nat} {T : List Nat} {q k : Nat} {t : Tr} (h : t ∈ segK n T q k) : ∃ j, j < k ∧ t = ((aT T q + 1 + j) % n, aT T q, bT T q) := by
  simp only [segK, List.mem_map, List.mem_range] at h
  obtain ⟨j, hj, rfl⟩ := h
  exact ⟨j, hj, rfl⟩
theorem segsK_mem {n : Nat} {T : List Nat} {i : Nat} {t : Tr} (h : t ∈ segsK n T i) : ∃ q j, q < i ∧ j < cntK n T q ∧ t = ((aT T q + 1 + j) % n, aT T q, bT T q) := by
  simp only [segsK, List.mem_flatMap, List.mem_range] at h
  obtain ⟨q, hq, hm⟩ := h
  obtain ⟨j, hj, e⟩ := segK_mem hm
  exact ⟨q, j, hq, hj, e⟩
theorem vF_dom {M : List Mk} {x v : Int} (h : vF M (allV M) x = some v) : ∃ p : Nat, x = (p : Int) ∧ p < M.length := by
  obtain ⟨t, ht, rfl, _⟩ := vF_mem h
  obtain ⟨q, j, hq, hj, rfl⟩ := segsK_mem ht
  refine ⟨_, rfl, Nat.mod_lt _ ?_⟩
  have : q < (tcs M).length := hq
  have := (tcs_lt (List.getElem?_eq_getElem this)).1
  omega

/-- A contour's points. -/
def conM (M : List Mk) (first : Nat) (e : Int) : List Mk := (M.drop first).take (e.toNat + 1 - first)
/-- All contours, one after the other. -/
def smL (M : List Mk) (axis : Int) : Nat → List Int → List Sp → Option (List Sp)
  | _, [], cur => some cur
  | first, e :: r, cur => if badV (conM M first e) (allV (conM M first e)) = true then none else smL M axis (e.toNat + 1) r (putC axis first (vF (conM M first e) (allV (conM M first e))) cur)
/-- What Smooth answers. -/
def smoothZ (Z : Zn) (axis : Int) : Zn × Int :=
  if (soundB Z && (axis == 0 || axis == 1)) = false then (zn0, 91)
  else match smL (mksZ Z axis) axis 0 Z.ends Z.cur with
    | none => (zn0, 94)
    | some cur => (⟨Z.org, cur, Z.tx, Z.ty, Z.ends⟩, 0)
theorem smL_step {M : List Mk} {axis : Int} {first i : Nat} {ends : List Int} {e : Int} {cur : List Sp} (h : ends[i]? = some e) : smL M axis first (ends.drop i) cur = if badV (conM M first e) (allV (conM M first e)) = true then none else smL M axis (e.toNat + 1) (ends.drop (i + 1)) (putC axis first (vF (conM M first e) (allV (conM M first e))) cur) := by
  obtain ⟨hi, rfl⟩ := List.getElem?_eq_some_iff.1 h
  rw [List.drop_eq_getElem_cons hi]
  rfl
/-- The ends rise. -/
theorem rise_all {n : Int} : ∀ {a : Int} {L : List Int}, riseB n a L = true → ∀ (i : Nat) (e : Int), L[i]? = some e → a < e ∧ e < n ∧ ∀ (d : Int), L[i + 1]? = some d → e < d
  | a, [], _, i, e, h => by simp at h
  | a, x :: r, hr, 0, e, h => by
    simp only [riseB, Bool.and_eq_true, decide_eq_true_eq] at hr
    simp at h; subst h
    refine ⟨hr.1.1, hr.1.2, fun d hd => ?_⟩
    have hd' : r[0]? = some d := by simpa using hd
    exact (rise_all hr.2 0 d hd').1
  | a, x :: r, hr, i + 1, e, h => by
    simp only [riseB, Bool.and_eq_true, decide_eq_true_eq] at hr
    have h' : r[i]? = some e := by simpa using h
    obtain ⟨h1, h2, h3⟩ := rise_all hr.2 i e h'
    exact ⟨by omega, h2, fun d hd => h3 d (by simpa using hd)⟩

end Go.Proofs.Ytnoadceeenioeaa
