/-
  Rows that are made: of marks, flags, knots, rows. No function of the program.
-/
import Derived.Test.YtnoadceeenioeaaZta
import Derived.Laws.MakeOwn
namespace Go.Proofs.Ytnoadceeenioeaa
open Go.RowKit Go.PlainAid
set_option linter.unusedSimpArgs false
set_option linter.unusedVariables false

theorem made_gen {α : Type} {cl : α → List Value} {s : Nat} (hcl : ∀ x, (cl x).length = s) (hs0 : 0 < s) (x0 : α) (n : Nat) : madeCells (cl x0).toArray (n * s) = ((List.replicate n x0).flatMap cl).toArray := by
  apply Array.ext
  · simp [size_madeCells, flat_length hcl]
  · intro i h1 h2
    have hlt : i < n * s := by simpa [size_madeCells] using h1
    have hm : i % s < s := Nat.mod_lt _ hs0
    have hd : i / s < n := by rw [Nat.div_lt_iff_lt_mul hs0]; exact hlt
    have e := flat_at hcl (List.replicate n x0) (i / s) x0 (by simp [List.getElem?_replicate, hd]) (i % s) hm
    rw [Nat.mul_comm, Nat.div_add_mod] at e
    have hc : i % s < (cl x0).length := by rw [hcl]; exact hm
    obtain ⟨h7, h8⟩ := List.getElem?_eq_some_iff.1 (e.trans (List.getElem?_eq_getElem hc))
    have e2 : (madeCells (cl x0).toArray (n * s))[i] = (cl x0)[i % s]'hc := by
      simp [madeCells, hcl, List.getElem?_eq_getElem hc]
    rw [e2]
    simp [h8]

theorem make_gen {α : Type} {cl : α → List Value} {s by' : Nat} {t e : TypeId} (hcl : ∀ x, (cl x).length = s) (hs0 : 0 < s) (x0 : α) (z : Value) (hz : z.cells = (cl x0).toArray) (ht : Try.prog.underlying t = some (.slice e))
    (hinfo : (Try.prog.info? e).map (fun i => (i.zero, i.size, i.bytes)) = some (some z, s, by')) (k : Nat) (hk : k * by' ≤ 281474976710656) (hk2 : k ≤ 140737488355328) (u : World) :
    ∃ w', (Instr.makeSlice t (.int .i64 (k : Int)) (.int .i64 (k : Int))).run Try.prog u = .ok (.slice (some ⟨u.heap.size, 0, none⟩) k k) w' ∧
    w'.ownsRow u.heap.size e s (.slice (some ⟨u.heap.size, 0, none⟩) k k) k ((List.replicate k x0).flatMap cl) ∧ Below u.heap.size u w' ∧ w'.heap.size = u.heap.size + 1 := by
  obtain ⟨i0, hi, hz0, hz1, hz2⟩ := info_parts hinfo
  have h := run_make (P := Try.prog) u t e i0 z ht hi hz0 .i64 .i64 (k : Int) (k : Int) (by omega) (Int.le_refl _) (by rw [hz2, ← Int.natCast_mul, Nat.mul_comm]; omega) (by omega)
  rw [Int.toNat_natCast] at h
  refine ⟨u.alloc (.cells ((List.replicate k x0).flatMap cl).toArray e), ?_, ?_, (Below.refl _ _).alloc (Nat.le_refl _) _, by simp [go_sem]⟩
  · rw [← made_gen hcl hs0]
    rw [hz1, hz] at h
    exact h
  · have := World.ownsRow_lit (base := u.heap.size) (e := e) (size := s) u ((List.replicate k x0).flatMap cl).toArray k (Nat.le_refl _) (by unfold maxLen; omega) (by simp [flat_length hcl])
    simpa using this

def clM (m : Mk) : List Value := [.int .i64 m.o, .int .i64 m.c, .bool m.t]
theorem clM_length (m : Mk) : (clM m).length = 3 := rfl
def mk0 : Mk := ⟨0, 0, false⟩
theorem infoM : (Try.prog.info? 82).map (fun i => (i.zero, i.size, i.bytes)) = some (some (.agg #[.int .i64 0, .int .i64 0, .bool false]), 3, 24) := by kernel_rfl
theorem make_marks (k : Nat) (hk : k ≤ 4096) (u : World) : ∃ w', (Instr.makeSlice 72 (.int .i64 (k : Int)) (.int .i64 (k : Int))).run Try.prog u = .ok (.slice (some ⟨u.heap.size, 0, none⟩) k k) w' ∧
    w'.ownsRow u.heap.size 82 3 (.slice (some ⟨u.heap.size, 0, none⟩) k k) k ((List.replicate k mk0).flatMap clM) ∧ Below u.heap.size u w' ∧ w'.heap.size = u.heap.size + 1 :=
  make_gen clM_length (by decide) mk0 (.agg #[.int .i64 0, .int .i64 0, .bool false]) rfl Try.underlying72 infoM k (by omega) (by omega) u
theorem IsR.mark {w : World} {a : Option Addr} {L : List Mk} (h : IsR clM w a L) {i : Nat} {k : Mk} (hk : L[i]? = some k) : ∃ b off, a = some ⟨b, off, none⟩ ∧ w.cell? ⟨b, off + i * 3, none⟩ = some (.int .i64 k.o) ∧ w.cell? ⟨b, off + i * 3 + 1, none⟩ = some (.int .i64 k.c) ∧ w.cell? ⟨b, off + i * 3 + 2, none⟩ = some (.bool k.t) := by
  rcases h with h | ⟨b, off, h1, h2⟩
  · subst h; simp at hk
  · refine ⟨b, off, h1, ?_, ?_, ?_⟩
    · have := h2 (i * 3 + 0) _ (flat_at clM_length L i k hk 0 (by decide)); simpa using this
    · have := h2 (i * 3 + 1) _ (flat_at clM_length L i k hk 1 (by decide)); simpa [Nat.add_assoc] using this
    · have := h2 (i * 3 + 2) _ (flat_at clM_length L i k hk 2 (by decide)); simpa [Nat.add_assoc] using this
theorem flat_setM (L : List Mk) : ∀ (j : Nat) (k : Mk), (((L.flatMap clM).set (j * 3) (.int .i64 k.o)).set (j * 3 + 1) (.int .i64 k.c)).set (j * 3 + 2) (.bool k.t) = (L.set j k).flatMap clM := by
  induction L with
  | nil => intro j k; simp
  | cons a L ih =>
    intro j k
    cases j with
    | zero => simp [clM]
    | succ j =>
      have h1 : (j + 1) * 3 = j * 3 + 3 := by omega
      rw [List.set_cons_succ, List.flatMap_cons, List.flatMap_cons, ← ih j k, h1]
      simp [clM, List.set_cons_succ]
/-- Written so far. -/
def partR {α : Type} (L : List α) (x0 : α) (i : Nat) : List α := L.take i ++ List.replicate (L.length - i) x0
theorem partR_len {α : Type} (L : List α) (x0 : α) {i : Nat} (h : i ≤ L.length) : (partR L x0 i).length = L.length := by simp [partR]; omega
theorem partR_zero {α : Type} (L : List α) (x0 : α) : partR L x0 0 = List.replicate L.length x0 := by simp [partR]
theorem partR_all {α : Type} (L : List α) (x0 : α) : partR L x0 L.length = L := by simp [partR]
theorem partR_set {α : Type} (L : List α) (x0 x : α) {i : Nat} (h : L[i]? = some x) : (partR L x0 i).set i x = partR L x0 (i + 1) := by
  obtain ⟨hi, rfl⟩ := List.getElem?_eq_some_iff.1 h
  unfold partR
  have h1 : (L.take i).length = i := by simp; omega
  rw [List.set_append_right _ _ (by omega), h1, Nat.sub_self]
  obtain ⟨t, ht⟩ : ∃ t, L.length - i = t + 1 := ⟨L.length - i - 1, by omega⟩
  have h2 : L.length - (i + 1) = t := by omega
  have h3 : L.take (i + 1) = L.take i ++ [L[i]] := by rw [List.take_add_one, List.getElem?_eq_getElem hi]; rfl
  rw [ht, h2, List.replicate_succ, List.set_cons_zero, h3, List.append_assoc]
  rfl

end Go.Proofs.Ytnoadceeenioeaa
