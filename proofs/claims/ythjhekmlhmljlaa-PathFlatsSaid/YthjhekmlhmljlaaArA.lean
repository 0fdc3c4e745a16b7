/-
  Rows of arcs in memory; which knot is the first on the curve, from the end; knots round from a place. No function of the program. No conditions but those that each theorem names.
-/
import Derived.Test.YthjhekmlhmljlaaCpA
import Derived.Test.YthjhekmlhmljlaaHlB
import Derived.Test.YthjhekmlhmljlaaPtM
namespace Go.Proofs.Ythjhekmlhmljlaa
open Go.RowKit Go.PlainAid
set_option linter.unusedSimpArgs false
set_option linter.unusedVariables false

theorem elA : ElT 68 72 3 40 := ⟨Try.underlying68, by decide, .agg #[.slice none 0 0, .int .i64 0, .int .i64 0], by kernel_rfl, rfl⟩
/-- An arc with the place of its controls. -/
structure ArcZ where
  r : Arc
  a : Option Addr
  c : Nat
def arcC (z : ArcZ) : List Value := [.slice z.a z.r.cs.length z.c, .int .i64 z.r.e.x, .int .i64 z.r.e.y]
theorem arcC_length (z : ArcZ) : (arcC z).length = 3 := rfl
/-- An arc's controls lie apart from the block g. -/
def CtlAt (w : World) (B g : Nat) (z : ArcZ) : Prop := z.r.cs = [] ∨ ∃ b, z.a = some ⟨b, 0, none⟩ ∧ b ≠ g ∧ B ≤ b ∧ Lies w b 0 (z.r.cs.flatMap clS)
theorem CtlAt.below {w w' : World} {B g : Nat} {z : ArcZ} (h : CtlAt w B g z) (k : Below w.heap.size w w') : CtlAt w' B g z := by
  rcases h with h | ⟨b, h1, h2, h3, h4⟩
  · exact .inl h
  · exact .inr ⟨b, h1, h2, h3, h4.below k⟩
theorem lies_lt {w : World} {b off : Nat} {cs : List Value} (h : Lies w b off cs) (hc : cs ≠ []) : b < w.heap.size := by
  cases cs with
  | nil => exact absurd rfl hc
  | cons u l => exact World.block_lt_of_cell? w _ (h 0 u rfl)
theorem lies_grown {w w' : World} {b off g : Nat} {cs : List Value} (h : Lies w b off cs) (k : w.grownBy w' (some g)) (hb : b ≠ g) : Lies w' b off cs := fun j u hj => grown_cell k (h j u hj) hb
theorem flat_ne {l : List Sp} (h : l ≠ []) : l.flatMap clS ≠ [] := by
  cases l with
  | nil => exact absurd rfl h
  | cons a l => simp [clS]
theorem CtlAt.grown {w w' : World} {B g g' : Nat} {z : ArcZ} (h : CtlAt w B g z) (k : w.grownBy w' (some g)) (hat : g' = g ∨ g' = w.heap.size) : CtlAt w' B g' z := by
  by_cases hn : z.r.cs = []
  · exact .inl hn
  rcases h with h | ⟨b, h1, h2, h3, h4⟩
  · exact .inl h
  · have hlt := lies_lt h4 (flat_ne hn)
    exact .inr ⟨b, h1, by rcases hat with rfl | rfl <;> omega, h3, lies_grown h4 k h2⟩
/-- A row of arcs that grows. -/
structure ArcsAt (w : World) (B g n c : Nat) (zs : List ArcZ) : Prop where
  own : w.ownsRow B 72 3 (.slice (some ⟨g, 0, none⟩) n c) n (zs.flatMap arcC)
  len : zs.length = n
  ctl : ∀ z ∈ zs, CtlAt w B g z
theorem ArcsAt.below {w w' : World} {B g n c : Nat} {zs : List ArcZ} (h : ArcsAt w B g n c zs) (k : Below w.heap.size w w') : ArcsAt w' B g n c zs := ⟨own_below h.own k, h.len, fun z hz => (h.ctl z hz).below k⟩
theorem ArcsAt.snoc {w w' : World} {B g n c g' c' : Nat} {zs : List ArcZ} {z : ArcZ} (h : ArcsAt w B g n c zs) (hz : CtlAt w B g z) (ho : w'.ownsRow B 72 3 (.slice (some ⟨g', 0, none⟩) (n + 1) c') (n + 1) (zs.flatMap arcC ++ arcC z)) (k : w.grownBy w' (some g)) (hat : g' = g ∨ g' = w.heap.size) :
    ArcsAt w' B g' (n + 1) c' (zs ++ [z]) := by
  refine ⟨by rw [List.flatMap_append]; simpa using ho, by simp [h.len], fun y hy => ?_⟩
  rcases List.mem_append.1 hy with hy | hy
  · exact (h.ctl y hy).grown k hat
  · simp at hy; subst hy; exact hz.grown k hat
theorem arcsAt_nil (w : World) (B : Nat) (hB : B ≤ w.heap.size) : ArcsAt (w.alloc (.cells #[] 72)) B w.heap.size 0 0 [] := ⟨World.ownsRow_lit (base := B) (e := 72) (size := 3) w #[] 0 hB (by decide) rfl, rfl, fun z hz => by simp at hz⟩
/-- The knots still to come lie apart from the block g. -/
def ComeAt (w : World) (g : Nat) (a : Option Addr) (l : List Kn) : Prop := l = [] ∨ ∃ b off, a = some ⟨b, off, none⟩ ∧ b ≠ g ∧ Lies w b off (l.flatMap clK)
theorem ComeAt.isR {w : World} {g : Nat} {a : Option Addr} {l : List Kn} (h : ComeAt w g a l) : IsR clK w a l := by
  rcases h with h | ⟨b, off, h1, _, h3⟩
  · exact .inl h
  · exact .inr ⟨b, off, h1, h3⟩
theorem ComeAt.below {w w' : World} {g : Nat} {a : Option Addr} {l : List Kn} (h : ComeAt w g a l) (k : Below w.heap.size w w') : ComeAt w' g a l := by
  rcases h with h | ⟨b, off, h1, h2, h3⟩
  · exact .inl h
  · exact .inr ⟨b, off, h1, h2, h3.below k⟩
theorem ComeAt.grown {w w' : World} {g g' : Nat} {a : Option Addr} {l : List Kn} (h : ComeAt w g a l) (k : w.grownBy w' (some g)) (hat : g' = g ∨ g' = w.heap.size) : ComeAt w' g' a l := by
  cases l with
  | nil => exact .inl rfl
  | cons q l =>
    rcases h with h | ⟨b, off, h1, h2, h3⟩
    · exact .inl h
    · have hlt := lies_lt h3 (by simp [clK])
      exact .inr ⟨b, off, h1, by rcases hat with rfl | rfl <;> omega, lies_grown h3 k h2⟩
theorem ComeAt.tail {w : World} {g b off : Nat} {k : Kn} {l : List Kn} (h : ComeAt w g (some ⟨b, off, none⟩) (k :: l)) : ComeAt w g (some ⟨b, off + 3, none⟩) l := by
  rcases h with h | ⟨b', off', h1, h2, h3⟩
  · cases h
  · cases h1
    refine .inr ⟨b, off + 3, rfl, h2, fun j u hj => ?_⟩
    have := h3 (j + 3) u (by rw [List.flatMap_cons]; simpa [clK] using hj)
    rwa [show off + (j + 3) = off + 3 + j by omega] at this
theorem ComeAt.some {w : World} {g : Nat} {a : Option Addr} {k : Kn} {l : List Kn} (h : ComeAt w g a (k :: l)) : ∃ b off, a = .some ⟨b, off, none⟩ := by
  rcases h with h | ⟨b, off, h1, _⟩
  · cases h
  · exact ⟨b, off, h1⟩

/-- The first knot on the curve from the j-th on, as a number. -/
def fiI (c : List Kn) (j : Nat) : Int := match firstOn (c.drop j) with
  | none => -1
  | some t => ((j + t : Nat) : Int)
theorem fiI_end (c : List Kn) : fiI c c.length = -1 := by unfold fiI; rw [List.drop_length]; rfl
theorem fiI_step {c : List Kn} {i : Nat} {k : Kn} (hk : c[i]? = some k) : fiI c i = if k.k = 1 then (i : Int) else fiI c (i + 1) := by
  obtain ⟨hlt, he⟩ := List.getElem?_eq_some_iff.1 hk
  have e : c.drop i = k :: c.drop (i + 1) := by rw [← he]; exact List.drop_eq_getElem_cons hlt
  unfold fiI
  rw [e]
  by_cases h : k.k = 1
  · simp [firstOn, h]
  · simp only [firstOn, h, if_false]
    cases firstOn (c.drop (i + 1)) with
    | none => rfl
    | some t => simp; omega
theorem fiI_none {c : List Kn} (h : firstOn c = none) : fiI c 0 = -1 := by unfold fiI; rw [List.drop_zero, h]
theorem fiI_some {c : List Kn} {i : Nat} (h : firstOn c = some i) : fiI c 0 = (i : Int) := by unfold fiI; rw [List.drop_zero, h]; simp
/-- Round from a place. -/
theorem rot_at {c : List Kn} {f i : Nat} (hf : f < c.length) (hi : 0 < i) (hin : i < c.length) : ∃ q, (c.drop (f + 1) ++ c.take f)[i - 1]? = some q ∧ c[(f + i) % c.length]? = some q := by
  by_cases h : f + i < c.length
  · obtain ⟨q, hq⟩ := get_of h
    refine ⟨q, ?_, by rw [Nat.mod_eq_of_lt h]; exact hq⟩
    rw [List.getElem?_append_left (by rw [List.length_drop]; omega), List.getElem?_drop, show f + 1 + (i - 1) = f + i by omega]; exact hq
  · have hm : (f + i) % c.length = f + i - c.length := by
      rw [Nat.mod_eq_sub_mod (by omega), Nat.mod_eq_of_lt (by omega)]
    obtain ⟨q, hq⟩ := get_of (show f + i - c.length < c.length by omega)
    refine ⟨q, ?_, by rw [hm]; exact hq⟩
    rw [List.getElem?_append_right (by rw [List.length_drop]; omega), List.length_drop, show i - 1 - (c.length - (f + 1)) = f + i - c.length by omega, List.getElem?_take, if_pos (by omega)]; exact hq
/-- Arcs so far and those to come. -/
def Upto (st : Sp) (L : List Kn) (zs : List ArcZ) (l : List Kn) : Prop := arcsL st L = (arcsL st l).map fun x => (zs.map ArcZ.r ++ x.1, x.2)
theorem upto_start (st : Sp) (L : List Kn) : Upto st L [] L := by
  unfold Upto
  cases arcsL st L <;> simp
theorem Upto.step {st : Sp} {L l l' : List Kn} {zs : List ArcZ} {z : ArcZ} (h : Upto st L zs l) (ha : arc1 st l = some (z.r, l', false)) : Upto st L (zs ++ [z]) l' := by
  unfold Upto at *
  rw [h, arcsL_some ha]
  cases arcsL st l' with
  | none => rfl
  | some x => simp
theorem Upto.fail {st : Sp} {L l : List Kn} {zs : List ArcZ} (h : Upto st L zs l) (hl : l ≠ []) (ha : arc1 st l = none) : arcsL st L = none := by
  unfold Upto at h
  rw [h, arcsL_none hl ha]; rfl
theorem Upto.close {st : Sp} {L l : List Kn} {zs : List ArcZ} {z : ArcZ} (h : Upto st L zs l) (ha : arc1 st l = some (z.r, [], true)) : arcsL st L = some ((zs ++ [z]).map ArcZ.r, true) := by
  unfold Upto at h
  rw [h, arcsL_some ha, arcsL_nil]; simp
theorem Upto.done {st : Sp} {L : List Kn} {zs : List ArcZ} (h : Upto st L zs []) : arcsL st L = some (zs.map ArcZ.r, false) := by
  unfold Upto at h
  rw [h, arcsL_nil]; simp

/-- What Arcs answers. -/
def NoArcs (w : World) (e : Ending) (w' : World) : Prop := ∃ st : Sp, e = .returned (.tuple #[.agg #[.int .i64 st.x, .int .i64 st.y], .slice none 0 0, .bool false, .bool false]) ∧ Below w.heap.size w w'
def RunArcs (w : World) (s : Sp) (r : Option (List Arc × Bool)) (e : Ending) (w' : World) : Prop := match r with
  | none => NoArcs w e w'
  | some (bs, cl) => ∃ g n c zs, zs.map ArcZ.r = bs ∧ e = .returned (.tuple #[.agg #[.int .i64 s.x, .int .i64 s.y], .slice (some ⟨g, 0, none⟩) n c, .bool cl, .bool true]) ∧ ArcsAt w' w.heap.size g n c zs ∧ Below w.heap.size w w'
theorem runArcs_none {w : World} {s : Sp} {r : Option (List Arc × Bool)} {e : Ending} {w' : World} (h : r = none) (hp : NoArcs w e w') : RunArcs w s r e w' := by rw [h]; exact hp

end Go.Proofs.Ythjhekmlhmljlaa
