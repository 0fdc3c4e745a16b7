/-
  What the bound of a narrowed row gives for a slice of bytes: it has at most 1048576 bytes.
-/
import Derived.Test.YtckadnegilmdbaaPeekO
namespace Go.Proofs.Ytckadnegilmdbaa

theorem bulk_part {H : Type} {d : DataW H} : ∀ {l : List (DataW H)} {j : Nat}, l[j]? = some d → Rows.uptoBulk d ≤ Rows.uptoBulkAll l
  | x :: r, 0, h => by
    simp at h; subst h; simp only [Rows.uptoBulkAll]; omega
  | x :: r, j + 1, h => by
    simp at h
    have := bulk_part h
    simp only [Rows.uptoBulkAll]; omega
  | [], _, h => by simp at h
theorem bulk_one {H : Type} (d : DataW H) : 0 < Rows.uptoBulk d := by
  match d with
  | .lit l => cases l <;> exact Nat.succ_pos _
  | .nil | .held _ | .ptr _ | .agg _ | .iface _ _ | .map _ | .slice _ _ => simp [Rows.uptoBulk]
theorem bulk_length {H : Type} : ∀ (l : List (DataW H)), l.length ≤ Rows.uptoBulkAll l
  | [] => by simp [Rows.uptoBulkAll]
  | x :: r => by
    have h1 := bulk_one x
    have h2 := bulk_length r
    simp only [Rows.uptoBulkAll, List.length_cons]; omega

theorem small_bytes {H : Type} {ds : List (DataW H)} {j cap n : Nat} {d : DataW H} (hk : Rows.uptoSmall H ds = true) (hd : ds[j]? = some d)
    (hn : n ≤ cap) (h : (d = .nil ∧ n = 0) ∨ ∃ elems spare, d = .slice elems spare ∧ elems.length + spare.length = cap) : n ≤ 1048576 := by
  have hb : Rows.uptoBulkAll ds ≤ 1048576 := of_decide_eq_true hk
  rcases h with ⟨_, h⟩ | ⟨elems, spare, rfl, h⟩
  · omega
  · have h1 := bulk_part hd
    have h2 := bulk_length elems
    have h3 := bulk_length spare
    simp only [Rows.uptoBulk] at h1
    omega
end Go.Proofs.Ytckadnegilmdbaa
