/-
  How long a contour's polygon is (over lists).
-/
import Derived.Test.YthjhekmlhmljlaaHlA
namespace Go.Proofs.Ythjhekmlhmljlaa
set_option linter.unusedVariables false
set_option linter.unusedSimpArgs false

theorem ptsL_len : ∀ (l : List Arc) (s : Sp), (ptsL s l).length ≤ 16 * l.length
  | [], s => by simp [ptsL]
  | a :: l, s => by
    rw [ptsL, List.length_append, List.length_cons]
    have h1 := (arcPts_length s a).2
    have h2 := ptsL_len l a.e
    omega
theorem arcsF_len {st : Sp} : ∀ (n : Nat) (l : List Kn) (bs : List Arc) (c : Bool), arcsF st n l = some (bs, c) → bs.length ≤ l.length
  | 0, l, bs, c, h => by cases h; simp
  | n + 1, [], bs, c, h => by cases h; simp
  | n + 1, k :: l, bs, c, h => by
    rw [arcsF] at h
    cases e : arc1 st (k :: l) with
    | none => rw [e] at h; cases h
    | some x =>
      obtain ⟨a, r, c1⟩ := x
      rw [e] at h
      dsimp only at h
      have h1 := (arc1_less e).1
      cases e2 : arcsF st n r with
      | none => rw [e2] at h; cases h
      | some y =>
        obtain ⟨bs2, c2⟩ := y
        rw [e2] at h
        cases h
        have h2 := arcsF_len n r bs2 c2 e2
        rw [List.length_cons]
        omega
theorem begunL_len {c l : List Kn} {s : Sp} (h : begunL c = some (s, l)) : l.length ≤ c.length := by
  unfold begunL at h
  cases e : firstOn c with
  | some i =>
    rw [e] at h
    simp only [Option.some.injEq, Prod.mk.injEq] at h
    obtain ⟨_, rfl⟩ := h
    rw [List.length_append, List.length_drop, List.length_take]; omega
  | none =>
    rw [e] at h
    simp only at h
    split at h
    · cases h
    · simp only [Option.some.injEq, Prod.mk.injEq] at h
      obtain ⟨_, rfl⟩ := h
      exact Nat.le_refl _
theorem polyL_len {c : List Kn} {Q : List Sp} (h : polyL c = some Q) : Q.length ≤ 16 * c.length + 1 := by
  cases c with
  | nil => cases h; simp
  | cons k r =>
    simp only [polyL] at h
    cases e : begunL (k :: r) with
    | none => rw [e] at h; cases h
    | some x =>
      obtain ⟨s, l⟩ := x
      rw [e] at h
      simp only at h
      cases e2 : arcsL s l with
      | none => rw [e2] at h; cases h
      | some y =>
        obtain ⟨bs, cl⟩ := y
        rw [e2] at h
        cases h
        have h1 := begunL_len e
        have h2 := arcsF_len _ l bs cl e2
        have h3 := ptsL_len bs s
        unfold ringL
        split
        · rw [List.length_dropLast, List.length_cons]; omega
        · rw [List.length_cons]; omega
theorem flatL_len : ∀ {O : List (List Kn)} {P : List (List Sp)}, flatL O = some P → P.length = O.length ∧ (∀ p ∈ P, p.length ≤ 16 * totalL O + 1) ∧ P.flatten.length ≤ 16 * totalL O + O.length
  | [], P, h => by cases h; simp
  | c :: r, P, h => by
    rw [flatL] at h
    cases e : polyL c with
    | none => rw [e] at h; cases h
    | some q =>
      rw [e] at h
      dsimp only at h
      cases e2 : flatL r with
      | none => rw [e2] at h; cases h
      | some qs =>
        rw [e2] at h
        cases h
        obtain ⟨h1, h2, h3⟩ := flatL_len e2
        have h4 := polyL_len e
        refine ⟨by simp [h1], fun p hp => ?_, ?_⟩
        · rw [totalL]
          rcases List.mem_cons.1 hp with e3 | hp
          · subst e3; omega
          · have := h2 p hp; omega
        · rw [List.flatten_cons, List.length_append, totalL, List.length_cons]; omega

end Go.Proofs.Ythjhekmlhmljlaa
