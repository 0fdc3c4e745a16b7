/-
  What flattened of package path gives: a contour's polygon, in a new row, or refused. For knots of the three kinds whose coordinates are FIX.
-/
import Derived.Test.YthjhekmlhmljlaaPtX
import Derived.Test.YthjhekmlhmljlaaPtP
namespace Go.Proofs.Ythjhekmlhmljlaa
open Go.RowKit Go.PlainAid
set_option linter.unusedSimpArgs false
set_option linter.unusedVariables false

/-- The arcs so far, and those of the knots to come. -/
def RunInv (st : Sp) (l : List Kn) (done : List Arc) (L : List Kn) (cl : Bool) : Prop := arcsL st l = match arcsL st L with
  | none => none
  | some (bs, d) => some (done ++ bs, cl || d)
theorem RunInv.start (st : Sp) (l : List Kn) : RunInv st l [] l false := by
  unfold RunInv
  cases arcsL st l with
  | none => rfl
  | some x => obtain ⟨bs, d⟩ := x; simp
theorem RunInv.next {st : Sp} {l L L' : List Kn} {done : List Arc} {cl c2 : Bool} {a : Arc} (h : RunInv st l done L cl) (ha : arc1 st L = some (a, L', c2)) : RunInv st l (done ++ [a]) L' (cl || c2) := by
  unfold RunInv at *
  rw [h, arcsL_some ha]
  cases arcsL st L' with
  | none => rfl
  | some x => obtain ⟨bs, d⟩ := x; simp [Bool.or_assoc]
theorem RunInv.stop {st : Sp} {l L : List Kn} {done : List Arc} {cl : Bool} (h : RunInv st l done L cl) (hL : L ≠ []) (ha : arc1 st L = none) : arcsL st l = none := by
  unfold RunInv at h
  rw [h, arcsL_none hL ha]
theorem RunInv.fin {st : Sp} {l : List Kn} {done : List Arc} {cl : Bool} (h : RunInv st l done [] cl) : arcsL st l = some (done, cl) := by
  unfold RunInv at h
  rw [h, arcsL_nil]; simp
theorem arc1_good {st : Sp} {L L' : List Kn} {a : Arc} {c : Bool} (hst : FixS st) (hg : GoodK L) (h : arc1 st L = some (a, L', c)) : FixS a.e ∧ GoodK L' := by
  cases L with
  | nil => simp [arc1] at h
  | cons k r =>
    have gk := hg k (by simp)
    have gr : GoodK r := fun x hx => hg x (by simp [hx])
    rcases gk.1 with h1 | h2 | h3
    · simp [arc1, h1] at h
      obtain ⟨rfl, rfl, _⟩ := h
      exact ⟨gk.2, gr⟩
    · simp only [arc1, h2] at h
      cases r with
      | nil => simp at h; obtain ⟨rfl, rfl, _⟩ := h; exact ⟨hst, gr⟩
      | cons d r2 =>
        have gd := hg d (by simp)
        by_cases hd1 : d.k = 1
        · simp [hd1] at h; obtain ⟨rfl, rfl, _⟩ := h; exact ⟨gd.2, fun x hx => gr x (by simp [hx])⟩
        · by_cases hd2 : d.k = 2
          · simp [hd2] at h; obtain ⟨rfl, rfl, _⟩ := h; exact ⟨mid_in gk.2 gd.2, gr⟩
          · simp [hd1, hd2] at h
    · simp only [arc1, h3] at h
      cases r with
      | nil => simp at h
      | cons d r2 =>
        by_cases hd3 : d.k = 3
        · cases r2 with
          | nil => simp [hd3] at h; obtain ⟨rfl, rfl, _⟩ := h; exact ⟨hst, fun x hx => by simp at hx⟩
          | cons e r3 =>
            have ge := hg e (by simp)
            by_cases he1 : e.k = 1
            · simp [hd3, he1] at h; obtain ⟨rfl, rfl, _⟩ := h; exact ⟨ge.2, fun x hx => gr x (by simp [hx])⟩
            · simp [hd3, he1] at h
        · simp [hd3] at h
theorem ptsL_last (st : Sp) (done : List Arc) : (st :: ptsL st done).getLast? = some (endL st done) := by
  have : ∀ (l : List Arc) (s : Sp), (s :: ptsL s l).getLast? = some (endL s l) := by
    intro l
    induction l with
    | nil => intro s; rfl
    | cons a l ih =>
      intro s
      have h1 := ih a.e
      have h2 := arcPts_last s a
      rw [ptsL, endL]
      obtain ⟨q, hq⟩ : ∃ q, arcPts s a = q ++ [a.e] := by
        have hne : arcPts s a ≠ [] := by intro e; rw [e] at h2; simp at h2
        rw [List.getLast?_eq_some_getLast hne] at h2
        exact ⟨(arcPts s a).dropLast, by rw [← Option.some.inj h2]; exact (List.dropLast_concat_getLast hne).symm⟩
      rw [hq, List.append_assoc, List.singleton_append]
      rw [← List.cons_append, List.getLast?_append, h1]; rfl
  exact this done st
theorem last_at {P : List Sp} {p : Sp} (h : P.getLast? = some p) : P[P.length - 1]? = some p ∧ 0 < P.length := by
  rw [List.getLast?_eq_getElem?] at h
  refine ⟨h, ?_⟩
  cases P with
  | nil => simp at h
  | cons a l => simp

/-- How many knots are to come. -/
def comLen (W : Nat) (w : World) : Nat := match w.cell? ⟨W, 2, none⟩ with
  | some (.slice _ n _) => n
  | _ => 0
theorem Wk.com_len {w0 w : World} {W cc g pc : Nat} {st : Sp} {ca : Option Addr} {L : List Kn} {P : List Sp} {c : Bool} (h : Wk w0 W st ca cc L g pc P c w) : comLen W w = L.length := by
  unfold comLen; rw [h.cs.c2]

/-- What flattened answers. -/
def PolyPost (w : World) (Q : List Sp) (e : Ending) (w' : World) : Prop := ∃ g c', e = .returned (.tuple #[.slice (some ⟨g, 0, none⟩) Q.length c', .int .i64 0]) ∧ w'.ownsRow w.heap.size 47 2 (.slice (some ⟨g, 0, none⟩) Q.length c') Q.length (Q.flatMap clS) ∧ Below w.heap.size w w'
def PolyBad (w : World) (e : Ending) (w' : World) : Prop := e = .returned (.tuple #[.slice none 0 0, .int .i64 61]) ∧ Below w.heap.size w w'
/-- What the loop keeps. -/
structure Flt (w2 : World) (W : Nat) (st : Sp) (l : List Kn) (wr : World) (L : List Kn) (done : List Arc) (cl : Bool) (ca : Option Addr) (cc g pc : Nat) : Prop where
  wk : Wk w2 W st ca cc L g pc (st :: ptsL st done) cl wr
  good : GoodK L
  run : RunInv st l done L cl
  size : (ptsL st done).length + 16 * L.length ≤ 65536
  fix : FixS (endL st done)
  shut : cl = true → 0 < done.length

theorem wk_new (w2 : World) (st : Sp) (ca : Option Addr) (cc : Nat) (l : List Kn) (hr : IsR clK w2 ca l) (hl : l.length ≤ cc) :
    Wk w2 (w2.heap.size + 1) st ca cc l w2.heap.size 1 [st] false ((w2.alloc (.cells #[.int .i64 st.x, .int .i64 st.y] 47)).alloc (.cells #[.int .i64 st.x, .int .i64 st.y, .slice ca l.length cc, .slice (some ⟨w2.heap.size, 0, none⟩) 1 1, .bool false] 102)) := by
  have hs : (w2.alloc (.cells #[.int .i64 st.x, .int .i64 st.y] 47)).heap.size = w2.heap.size + 1 := by simp
  refine ⟨?_, hr, hl, ?_, by omega, by omega, bel_alloc ((Below.refl _ _).alloc (Nat.le_refl _) _) _⟩
  · have := heap_alloc_new (w2.alloc (.cells #[.int .i64 st.x, .int .i64 st.y] 47)) (.cells #[.int .i64 st.x, .int .i64 st.y, .slice ca l.length cc, .slice (some ⟨w2.heap.size, 0, none⟩) 1 1, .bool false] 102)
    rw [hs] at this
    exact this
  · exact (World.ownsRow_lit (base := w2.heap.size) (e := 47) (size := 2) w2 #[.int .i64 st.x, .int .i64 st.y] 1 (Nat.le_refl _) (by decide) rfl).alloc _

theorem flat_take (P : List Sp) : (P.flatMap clS).take ((P.length - 1) * 2) = P.dropLast.flatMap clS := by
  rcases List.eq_nil_or_concat P with h | ⟨q, p, h⟩
  · subst h; rfl
  · subst h
    have e : (q ++ [p]).length - 1 = q.length := by simp
    rw [List.concat_eq_append, e, List.dropLast_concat, List.flatMap_append]
    have e2 : (q.flatMap clS).length = q.length * 2 := flat_length clS_length q
    rw [← e2, List.take_left]

end Go.Proofs.Ythjhekmlhmljlaa
