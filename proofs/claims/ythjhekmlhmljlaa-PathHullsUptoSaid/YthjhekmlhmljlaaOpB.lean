/-
  What the bound of a narrowed row gives for an outline: it has at most 1048576 contours and knots together.
-/
import Derived.Test.YthjhekmlhmljlaaRows
import Derived.Test.YthjhekmlhmljlaaOpK
namespace Go.Proofs.Ythjhekmlhmljlaa

theorem bulk_part {H : Type} {d : DataW H} : ∀ {l : List (DataW H)} {j : Nat}, l[j]? = some d → Rows.uptoBulk d ≤ Rows.uptoBulkAll l
  | x :: r, 0, h => by
    simp at h; subst h; simp only [Rows.uptoBulkAll]; omega
  | x :: r, j + 1, h => by
    simp at h
    have := bulk_part h
    simp only [Rows.uptoBulkAll]; omega
  | [], _, h => by simp at h
theorem bulk_one {H : Type} (d : DataW H) : 0 < Rows.uptoBulk d := by
  match d with
  | .lit l => cases l <;> exact Nat.succ_pos _
  | .nil | .held _ | .ptr _ | .agg _ | .iface _ _ | .map _ | .slice _ _ => simp [Rows.uptoBulk]
theorem bulk_length {H : Type} : ∀ (l : List (DataW H)), l.length ≤ Rows.uptoBulkAll l
  | [] => by simp [Rows.uptoBulkAll]
  | x :: r => by
    have h1 := bulk_one x
    have h2 := bulk_length r
    simp only [Rows.uptoBulkAll, List.length_cons]; omega
theorem bulk_inner {H : Type} {c : List Kn} {d : DataW H} (h : InnerD c d) : c.length ≤ Rows.uptoBulk d := by
  rcases h with ⟨rfl, rfl⟩ | ⟨e, s, rfl, hl⟩
  · simp
  · have := bulk_length e
    simp only [Rows.uptoBulk]; omega
theorem bulk_total {H : Type} : ∀ (O : List (List Kn)) (l : List (DataW H)), l.length = O.length → (∀ (i : Nat) (c : List Kn), O[i]? = some c → ∃ d, l[i]? = some d ∧ InnerD c d) → totalL O ≤ Rows.uptoBulkAll l
  | [], _, _, _ => by simp [totalL]
  | c :: O, [], h, _ => by simp at h
  | c :: O, d :: l, h, hall => by
    obtain ⟨d', hd, hin⟩ := hall 0 c rfl
    have e : d = d' := by simpa using hd
    subst e
    have h1 := bulk_inner hin
    have h2 := bulk_total O l (by simpa using h) (fun i c hc => by simpa using hall (i + 1) c (by simpa using hc))
    simp only [Rows.uptoBulkAll, totalL]; omega
theorem small_out {H : Type} {ds : List (DataW H)} {j : Nat} {d : DataW H} {O : List (List Kn)} (hk : Rows.uptoSmall H ds = true) (hd : ds[j]? = some d) (h : OutD O d) : O.length ≤ 1048576 ∧ totalL O ≤ 1048576 := by
  have hb : Rows.uptoBulkAll ds ≤ 1048576 := of_decide_eq_true hk
  rcases h with ⟨_, rfl⟩ | ⟨elems, spare, rfl, hl, hall⟩
  · simp [totalL]
  · have h1 := bulk_part hd
    have h2 := bulk_length elems
    have h3 := bulk_total O elems hl hall
    simp only [Rows.uptoBulk] at h1
    omega
end Go.Proofs.Ythjhekmlhmljlaa
