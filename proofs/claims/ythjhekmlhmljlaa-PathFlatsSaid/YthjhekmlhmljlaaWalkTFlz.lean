/-
  What Arcs answers for every contour; the walk of PathFlats: it answers true for every outline, and changes nothing that was there.
-/
import Derived.Test.YthjhekmlhmljlaaWalkTFlats
import Derived.Test.YthjhekmlhmljlaaArY
namespace Go.Proofs.Ythjhekmlhmljlaa
open Go.RowKit Go.PlainAid
set_option linter.unusedSimpArgs false
set_option linter.unusedVariables false

theorem arcs_say : ArcsSay := by
  intro a cap c w hr hn hne hcap hg
  have hpos : 0 < c.length := List.length_pos_iff.2 hne
  unfold ArcsPost
  cases hf : firstOn c with
  | some f =>
    obtain ⟨k, hk, _⟩ := firstOn_lt hf
    have h := arcs_on a cap c w hr hn hpos hcap k f hf hk hg
    have hb : begunL c = some (k.sp, c.drop (f + 1) ++ c.take f) := by
      unfold begunL
      rw [hf]
      simp [List.getD, hk]
    rw [hb]
    exact h
  | none =>
    obtain ⟨k, hk⟩ := get_of hpos
    obtain ⟨l, hl⟩ := get_of (show c.length - 1 < c.length by omega)
    by_cases h3 : k.k = 3
    · have hb : begunL c = none := by
        unfold begunL
        rw [hf]
        simp [List.getD, hk, h3]
      rw [hb]
      exact arcs_err a cap c w hr hn hpos hcap k hf hk h3
    · have hb : begunL c = some (mid l.sp k.sp, c) := by
        unfold begunL
        rw [hf]
        simp [List.getD, hk, hl, h3]
      rw [hb]
      exact arcs_off a cap c w hr hn hpos hcap k l hf hk hl h3 (hg k (List.mem_of_getElem? hk)).2 (hg l (List.mem_of_getElem? hl)).2 hg

namespace pathFlats
theorem walk (a : Option Addr) (cap : Nat) (O : List (List Kn)) (w : World) (hcap : O.length ≤ cap) (ho : IsO clK w a O) (hwf : ∀ c ∈ O, ∀ k ∈ c, WfK k) (hl : Long O) :
    Calls Try.prog 5 #[.slice a O.length cap] w fun e w' => e = .returned (.bool true) ∧ Below w.heap.size w w' := walk_by arcs_say a cap O w ho hl
end pathFlats
end Go.Proofs.Ythjhekmlhmljlaa
