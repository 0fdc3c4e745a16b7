/-
  What flattened of package path gives for a contour; rows of rows that are written one by one in new memory.
-/
import Derived.Test.YthjhekmlhmljlaaPtW
namespace Go.Proofs.Ythjhekmlhmljlaa
open Go.RowKit Go.PlainAid
set_option linter.unusedSimpArgs false
set_option linter.unusedVariables false

/-- A new row of points, or none. -/
def RowPost (w : World) (Q : List Sp) (e : Ending) (w' : World) : Prop := ∃ a c', e = .returned (.tuple #[.slice a Q.length c', .int .i64 0]) ∧ w'.ownsRow w.heap.size 47 2 (.slice a Q.length c') Q.length (Q.flatMap clS) ∧ Below w.heap.size w w'
/-- What flattened answers for a contour. -/
def FltPost (w : World) (c : List Kn) (e : Ending) (w' : World) : Prop := match polyL c with
  | none => PolyBad w e w'
  | some Q => RowPost w Q e w'
theorem begun_fix {c l : List Kn} {s : Sp} (hg : GoodK c) (hc : c ≠ []) (h : begunL c = some (s, l)) : FixS s ∧ GoodK l ∧ l.length ≤ c.length := by
  unfold begunL at h
  cases hf : firstOn c with
  | some i =>
    rw [hf] at h
    simp only [Option.some.injEq, Prod.mk.injEq] at h
    obtain ⟨rfl, rfl⟩ := h
    obtain ⟨k, hk, _⟩ := firstOn_lt hf
    refine ⟨by rw [List.getD_eq_getElem?_getD, hk]; exact (hg k (List.mem_of_getElem? hk)).2, fun x hx => ?_, ?_⟩
    · rcases List.mem_append.1 hx with hx | hx
      · exact hg x (List.mem_of_mem_drop hx)
      · exact hg x (List.mem_of_mem_take hx)
    · rw [List.length_append, List.length_drop, List.length_take]; omega
  | none =>
    rw [hf] at h
    simp only at h
    split at h
    · cases h
    · simp only [Option.some.injEq, Prod.mk.injEq] at h
      obtain ⟨rfl, rfl⟩ := h
      have hpos : 0 < c.length := List.length_pos_iff.2 hc
      obtain ⟨k, hk⟩ := get_of hpos
      obtain ⟨l, hl⟩ := get_of (show c.length - 1 < c.length by omega)
      refine ⟨?_, hg, Nat.le_refl _⟩
      rw [List.getD_eq_getElem?_getD, List.getD_eq_getElem?_getD, hk, hl]
      exact mid_in (hg l (List.mem_of_getElem? hl)).2 (hg k (List.mem_of_getElem? hk)).2

set_option maxHeartbeats 1000000 in
theorem flattened_nil (a : Option Addr) (cap : Nat) (w : World) : Calls Try.prog 40 #[.slice a 0 cap] w fun e w' => e = .returned (.tuple #[.slice none 0 0, .int .i64 0]) ∧ w = w' := by
  go_enter Try.func40, Try.ntmps40
  go_wp2_with fail
  go_ret2
  exact ⟨rfl, rfl⟩
set_option maxHeartbeats 1000000 in
theorem flattened_err (a : Option Addr) (cap n : Nat) (w : World) (hn : 0 < n) (hbg : Calls Try.prog 60 #[.slice a n cap] w fun e w' => e = .returned (.tuple #[.agg #[.int .i64 0, .int .i64 0], .slice none 0 0, .int .i64 61]) ∧ Below w.heap.size w w') : Calls Try.prog 40 #[.slice a n cap] w (PolyBad w) := by
  have HBG := Lib.hid hbg
  have q0 : ((n : Int) == 0) = false := by simp; omega
  have q1 : ¬ n = 0 := by omega
  clear hbg hn
  go_enter Try.func40, Try.ntmps40
  go_wp2_with fail
  refine HBG.out.mono ?_
  rintro e w1 ⟨rfl, hb1⟩
  have HB1 := Lib.hid hb1
  clear hb1 HBG
  go_wp2_with fail
  go_ret2
  exact ⟨rfl, bel_alloc HB1.out _⟩

theorem flattened_c (a : Option Addr) (cap : Nat) (c : List Kn) (w : World) (hr : IsR clK w a c) (hn : c.length ≤ 4096) (hcap : c.length ≤ cap) (hg : GoodK c) : Calls Try.prog 40 #[.slice a c.length cap] w (FltPost w c) := by
  by_cases hc : c = []
  · subst hc
    refine (flattened_nil a cap w).mono ?_
    rintro e w' ⟨rfl, rfl⟩
    exact ⟨none, 0, rfl, World.ownsRow_nil _ _ _ _, Below.refl _ _⟩
  · have hpos : 0 < c.length := List.length_pos_iff.2 hc
    have epoly : polyL c = match begunL c with
        | none => none
        | some (s, l) => (match arcsL s l with
          | none => none
          | some (bs, cl) => some (ringL s bs cl)) := by
      cases c with
      | nil => exact absurd rfl hc
      | cons k r => rfl
    have fin : ∀ s l, begunL c = some (s, l) → Calls Try.prog 60 #[.slice a c.length cap] w (BegunPost w s l) → Calls Try.prog 40 #[.slice a c.length cap] w (FltPost w c) := by
      intro s l hb hcall
      obtain ⟨h1, h2, h3⟩ := begun_fix hg hc hb
      refine (flattened_run a cap c.length s l w hpos hcall h1 h2 (by omega)).mono ?_
      intro e w' h
      unfold FltPost
      rw [epoly, hb]
      unfold RingPost at h
      cases har : arcsL s l with
      | none => rw [har] at h; simpa only [har] using h
      | some x =>
        obtain ⟨bs, cl⟩ := x
        rw [har] at h
        simp only [har]
        obtain ⟨g, c', e1, e2, e3⟩ := h
        exact ⟨_, _, e1, e2, e3⟩
    cases hf : firstOn c with
    | some i =>
      obtain ⟨k, hk, _⟩ := firstOn_lt hf
      refine fin k.sp (c.drop (i + 1) ++ c.take i) ?_ (begun_on a cap c i k w hr hn hcap hf hk)
      unfold begunL
      rw [hf]
      simp [List.getD_eq_getElem?_getD, hk]
    | none =>
      obtain ⟨k, hk⟩ := get_of hpos
      obtain ⟨l, hl⟩ := get_of (show c.length - 1 < c.length by omega)
      have e0 : c.getD 0 ⟨0, 0, 0⟩ = k := by rw [List.getD_eq_getElem?_getD, hk]; rfl
      have e1 : c.getD (c.length - 1) ⟨0, 0, 0⟩ = l := by rw [List.getD_eq_getElem?_getD, hl]; rfl
      by_cases h3 : k.k = 3
      · refine (flattened_err a cap c.length w hpos (begun_err a cap c k l w hr hn hcap hf hk hl h3)).mono ?_
        intro e w' h
        unfold FltPost
        have : begunL c = none := by unfold begunL; rw [hf]; simp only [e0, h3, if_true]
        rw [epoly, this]
        exact h
      · refine fin (mid l.sp k.sp) c ?_ (begun_off a cap c k l w hr hn hcap hf hk hl (hg k (List.mem_of_getElem? hk)).2 (hg l (List.mem_of_getElem? hl)).2 h3)
        unfold begunL
        rw [hf]
        simp only [e0, e1, h3, if_false]

end Go.Proofs.Ythjhekmlhmljlaa
