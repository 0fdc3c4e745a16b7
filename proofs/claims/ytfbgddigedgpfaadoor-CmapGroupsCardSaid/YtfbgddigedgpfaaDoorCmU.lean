/-
  What the statement on groups reckons itself, and that it is what the groups answer.
-/
import Derived.Test.YtfbgddigedgpfaaDoorCmS
namespace Go.Proofs.YtfbgddigedgpfaaDoor
open Go.RowKit Go.PlainAid
set_option linter.unusedSimpArgs false
set_option linter.unusedVariables false

/-- Is the code in the group? -/
def inG (f : Nat → Int) (code : Int) (j : Nat) : Prop := f (3 * j) ≤ code ∧ code ≤ f (3 * j + 1)
instance (f : Nat → Int) (code : Int) (j : Nat) : Decidable (inG f code j) := by unfold inG; infer_instance
/-- The glyph of a code in the group. -/
def valG (rise : Bool) (f : Nat → Int) (code : Int) (j : Nat) : Int := if rise = true then f (3 * j + 2) + (code - f (3 * j)) else f (3 * j + 2)
/-- What the statement has found in the first groups. -/
def wantL (rise : Bool) (f : Nat → Int) (code : Int) : Nat → Int
  | 0 => 0
  | j + 1 => if inG f code j then valG rise f code j else wantL rise f code j
theorem want_none (rise : Bool) (f : Nat → Int) (code : Int) : ∀ n, (∀ j, j < n → ¬ inG f code j) → wantL rise f code n = 0
  | 0, _ => rfl
  | n + 1, h => by rw [wantL, if_neg (h n (by omega)), want_none rise f code n (fun j hj => h j (by omega))]
theorem want_at (rise : Bool) (f : Nat → Int) (code : Int) (i : Nat) (hi : inG f code i) : ∀ n, i < n → (∀ j, i < j → j < n → ¬ inG f code j) → wantL rise f code n = valG rise f code i
  | 0, h, _ => by omega
  | n + 1, h, hall => by
    rw [wantL]
    by_cases e : i = n
    · subst e; rw [if_pos hi]
    · rw [if_neg (hall n (by omega) (by omega))]
      exact want_at rise f code i hi n (by omega) (fun j h1 h2 => hall j h1 (by omega))

/-- A group that the statement takes. -/
def rowG (f : Nat → Int) (j : Nat) : Prop := ahead f j < f (3 * j) ∧ f (3 * j) ≤ f (3 * j + 1) ∧ f (3 * j + 1) ≤ 1114111 ∧ 0 ≤ f (3 * j + 2) ∧ f (3 * j + 2) ≤ 1048576
theorem ahead_ge {n : Nat} {f : Nat → Int} (h : ∀ j, j < n → rowG f j) : ∀ j, j ≤ n → -1 ≤ ahead f j
  | 0, _ => by simp [ahead]
  | j + 1, hj => by
    have h1 := h j (by omega)
    have h2 := ahead_ge h j (by omega)
    show -1 ≤ f (3 * j + 1)
    unfold rowG at h1
    omega
theorem grpOk_of {n : Nat} {f : Nat → Int} (hn : n ≤ 4096) (h : ∀ j, j < n → rowG f j) : GrpOk n f := by
  refine ⟨hn, fun m hm => ?_, fun j hj => ?_⟩
  · have h1 := h (m / 3) (by omega)
    have h2 := ahead_ge h (m / 3) (by omega)
    unfold rowG at h1
    have h3 : m = 3 * (m / 3) ∨ m = 3 * (m / 3) + 1 ∨ m = 3 * (m / 3) + 2 := by omega
    rcases h3 with e | e | e <;> rw [e] <;> omega
  · have h1 := h j hj
    unfold rowG at h1
    omega
theorem ends_rise {n : Nat} {f : Nat → Int} (h : ∀ j, j < n → rowG f j) {i : Nat} : ∀ j, i < j → j < n → f (3 * i + 1) < f (3 * j)
  | 0, h1, _ => by omega
  | j + 1, h1, h2 => by
    have hr := h (j + 1) h2
    have e : ahead f (j + 1) = f (3 * j + 1) := rfl
    unfold rowG at hr
    rw [e] at hr
    by_cases e2 : i = j
    · subst e2; exact hr.1
    · have := ends_rise (i := i) h j (by omega) (by omega)
      have hr2 := h j (by omega)
      unfold rowG at hr2
      omega

theorem endIx_spec (f : Nat → Int) (code : Int) : ∀ n j, j ≤ endIx f code n j ∧ endIx f code n j ≤ j + n ∧ (∀ m, j ≤ m → m < endIx f code n j → f (3 * m + 1) < code) ∧ (endIx f code n j < j + n → code ≤ f (3 * endIx f code n j + 1))
  | 0, j => by rw [endIx]; exact ⟨Nat.le_refl _, Nat.le_refl _, fun m h1 h2 => by omega, fun h => by omega⟩
  | n + 1, j => by
    rw [endIx]
    by_cases h : code ≤ f (3 * j + 1)
    · rw [if_pos h]; exact ⟨Nat.le_refl _, by omega, fun m h1 h2 => by omega, fun _ => h⟩
    · rw [if_neg h]
      obtain ⟨h1, h2, h3, h4⟩ := endIx_spec f code n (j + 1)
      refine ⟨by omega, by omega, fun m hm1 hm2 => ?_, fun hlt => h4 (by omega)⟩
      by_cases e : m = j
      · subst e; omega
      · exact h3 m (by omega) hm2

theorem grp_want {rise : Bool} {n : Nat} {f : Nat → Int} {code : Int} (h : ∀ j, j < n → rowG f j) : grpAns rise n f code = wantL rise f code n := by
  obtain ⟨_, h2, h3, h4⟩ := endIx_spec f code n 0
  unfold grpAns
  generalize endIx f code n 0 = i at *
  by_cases hi : i < n
  · have hc := h4 (by omega)
    by_cases hs : f (3 * i) ≤ code
    · have hin : inSp n f code i = true := by simp [inSp, hi, hs]
      rw [if_pos hin, want_at rise f code i ⟨hs, hc⟩ n hi (fun j h1 h2 hg => by have := ends_rise h j h1 h2; have := hg.1; omega)]
      unfold valG
      split <;> omega
    · have hin : ¬ inSp n f code i = true := by simp [inSp, hs]
      rw [if_neg hin, want_none rise f code n (fun j hj hg => ?_)]
      have h5 := hg.1
      have h6 := hg.2
      by_cases e : j = i
      · subst e; exact hs h5
      · by_cases e2 : j < i
        · have := h3 j (Nat.zero_le _) e2; omega
        · have := ends_rise h j (show i < j by omega) hj; omega
  · have hin : ¬ inSp n f code i = true := by simp [inSp, hi]
    rw [if_neg hin, want_none rise f code n (fun j hj hg => ?_)]
    have := h3 j (Nat.zero_le _) (by omega)
    have := hg.2
    omega
/-- What the map answers is what the statement wants. -/
theorem glyph_want {rise : Bool} {n : Nat} {f : Nat → Int} {code : Int} (h : ∀ j, j < n → rowG f j) : glyphAns (grpAns rise n f) 4096 code = belowI 4096 (wantL rise f code n) := by
  unfold glyphAns
  by_cases h1 : code < 0
  · rw [if_pos h1, want_none rise f code n (fun j hj hg => by have := ahead_ge h j (by omega); have := (h j hj).1; have := hg.1; omega)]
    rfl
  · by_cases h2 : 1114111 < code
    · rw [if_neg h1, if_pos h2, want_none rise f code n (fun j hj hg => by have := (h j hj).2.2.1; have := hg.2; omega)]
      rfl
    · rw [if_neg h1, if_neg h2, grp_want h]
theorem want_bound {rise : Bool} {f : Nat → Int} {code : Int} : ∀ n, (∀ j, j < n → rowG f j) → 0 ≤ wantL rise f code n ∧ wantL rise f code n ≤ 2162688
  | 0, _ => by simp [wantL]
  | n + 1, h => by
    have h1 := want_bound (rise := rise) (code := code) n (fun j hj => h j (by omega))
    have h2 := h n (by omega)
    have h3 := ahead_ge h n (by omega)
    rw [wantL]
    by_cases hg : inG f code n
    · rw [if_pos hg]
      unfold inG at hg
      unfold rowG at h2
      unfold valG
      split <;> omega
    · rw [if_neg hg]; exact h1

end Go.Proofs.YtfbgddigedgpfaaDoor
