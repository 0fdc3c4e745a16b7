/-
  Rows of texts that a law makes; the fonts of Type2Ends.
-/
import Derived.Test.YtklenppldblbdaaQj
import Derived.Laws.OwnMore
namespace Go.Proofs.Ytklenppldblbdaa
open Go.RowKit Go.PlainAid
set_option linter.unusedSimpArgs false
set_option linter.unusedVariables false

theorem elBB : ElT 24 23 1 24 := ⟨Try.underlying24, by decide, .slice none 0 0, by kernel_rfl, rfl⟩

/-- The value is a text of its own. -/
def TextV (w : World) (v : Value) (P : ByteArray) : Prop := ∃ a c, v = .slice a P.size c ∧ w.ownsRow 0 5 1 (.slice a P.size c) P.size (cellsOfStr P)
theorem TextV.chg {w w' : World} {v : Value} {P : ByteArray} {r : Option Nat} {T : TypeId} (h : TextV w v P) (hg : w.grownBy w' r) (ht : TypAt w r T) (hT : 5 ≠ T) : TextV w' v P := by
  obtain ⟨a, c, h1, h2⟩ := h
  exact ⟨a, c, h1, own_chg h2 hg ht hT⟩
theorem own_bel {w w' : World} {B : Nat} {e : TypeId} {s n : Nat} {v : Value} {xs : List Value} (h : w.ownsRow B e s v n xs) (hb : Below w.heap.size w w') : w'.ownsRow B e s v n xs :=
  h.kept (grown_bel none hb) (by
    rcases hq : v.ownBlock with _ | k
    · exact .inl rfl
    · exact .inr (by simp))
theorem TextV.below {w w' : World} {v : Value} {P : ByteArray} (h : TextV w v P) (hb : Below w.heap.size w w') : TextV w' v P := by
  obtain ⟨a, c, h1, h2⟩ := h
  exact ⟨a, c, h1, own_bel h2 hb⟩
theorem textV_lit (w : World) {C : Array Value} {s : ByteArray} (hC : C.toList = cellsOfStr s) (hs : s.size ≤ 1000) : TextV (w.alloc (.cells C 5)) (.slice (some ⟨w.heap.size, 0, none⟩) s.size s.size) s :=
  ⟨_, _, rfl, World.ownsRow.mono (own_lit (w0 := w) (Nat.le_refl _) hC hs) (Nat.zero_le _)⟩

/-- A row of texts of its own. -/
def CodeW (w : World) (B : Nat) (a : Option Addr) (c : Nat) (Ps : List ByteArray) : Prop :=
  ∃ vs, w.ownsRow B 23 1 (.slice a Ps.length c) Ps.length vs ∧ ∀ (i : Nat) (P : ByteArray), Ps[i]? = some P → ∃ v, vs[i]? = some v ∧ TextV w v P

theorem CodeW.below {w w' : World} {B : Nat} {a : Option Addr} {c : Nat} {Ps : List ByteArray} (h : CodeW w B a c Ps) (hb : Below w.heap.size w w') : CodeW w' B a c Ps := by
  obtain ⟨vs, h1, h2⟩ := h
  exact ⟨vs, own_bel h1 hb, fun i P hP => by obtain ⟨v, k1, k2⟩ := h2 i P hP; exact ⟨v, k1, k2.below hb⟩⟩

theorem CodeW.isL {w : World} {B : Nat} {a : Option Addr} {c : Nat} {Ps : List ByteArray} (h : CodeW w B a c Ps) : IsL w a Ps := by
  obtain ⟨vs, h1, h2⟩ := h
  by_cases h0 : Ps.length = 0
  · exact .inl (List.eq_nil_of_length_eq_zero h0)
  · obtain ⟨g, rfl, _, _, _⟩ := own_some h1 (by omega)
    refine .inr ⟨g, 0, rfl, fun i P hP => ?_⟩
    obtain ⟨v, k1, a, c, rfl, k2⟩ := h2 i P hP
    have := own_lies h1 i _ k1
    exact ⟨a, c, this, isB_of_owns k2⟩

theorem codeW_nil (w : World) (h : w.heap.size ≤ w.heap.size) : CodeW (w.alloc (.cells #[] 23)) w.heap.size (some ⟨w.heap.size, 0, none⟩) 0 [] :=
  ⟨[], World.ownsRow_lit w #[] 0 (Nat.le_refl _) (by unfold maxLen; omega) rfl, fun i P h => by simp at h⟩

/-- The row behind an append. -/
theorem codeW_app {w w' : World} {B : Nat} {a : Option Addr} {c g' c' n : Nat} {Ps Qs : List ByteArray} {vs us : List Value} (h1 : w.ownsRow B 23 1 (.slice a Ps.length c) Ps.length vs) (h2 : ∀ (i : Nat) (P : ByteArray), Ps[i]? = some P → ∃ v, vs[i]? = some v ∧ TextV w v P)
    (h3 : us.length = Qs.length) (h4 : ∀ (i : Nat) (P : ByteArray), Qs[i]? = some P → ∃ v, us[i]? = some v ∧ TextV w v P)
    (hn : n = Ps.length + Qs.length) (ho : w'.ownsRow B 23 1 (.slice (some ⟨g', 0, none⟩) n c') n (vs ++ us)) (hg : w.grownBy w' (Value.slice a Ps.length c).ownBlock) : CodeW w' B (some ⟨g', 0, none⟩) c' (Ps ++ Qs) := by
  have ht := typ_own h1
  have hl : vs.length = Ps.length := by have := h1.1; omega
  refine ⟨vs ++ us, by rw [List.length_append, ← hn]; exact ho, fun i P hP => ?_⟩
  by_cases hi : i < Ps.length
  · rw [List.getElem?_append_left hi] at hP
    obtain ⟨v, k1, k2⟩ := h2 i P hP
    exact ⟨v, by rw [List.getElem?_append_left (by omega)]; exact k1, k2.chg hg ht (by decide)⟩
  · rw [List.getElem?_append_right (by omega)] at hP
    obtain ⟨v, k1, k2⟩ := h4 _ P hP
    exact ⟨v, by rw [List.getElem?_append_right (by omega), hl]; exact k1, k2.chg hg ht (by decide)⟩

theorem isL_cells {w : World} {b : Nat} {cs : Array Value} {T : TypeId} {Ps : List ByteArray} (hb : w.heap[b]? = some (.cells cs T (0, 0))) (h : ∀ (i : Nat) (P : ByteArray), Ps[i]? = some P → ∃ ai ci, cs[i]? = some (.slice ai P.size ci) ∧ IsB w ai P.size ci P) : IsL w (some ⟨b, 0, none⟩) Ps := by
  refine .inr ⟨b, 0, rfl, fun i P hP => ?_⟩
  obtain ⟨ai, ci, k1, k2⟩ := h i P hP
  exact ⟨ai, ci, by rw [Nat.zero_add]; exact blk_cell hb i _ k1, k2⟩

/-- How many knots the first j contours have. -/
def knotsTo (O : List (List Kn)) (j : Nat) : Nat := ((O.take j).map List.length).sum
theorem knotsTo_succ {O : List (List Kn)} {j : Nat} {c : List Kn} (h : O[j]? = some c) : knotsTo O (j + 1) = knotsTo O j + c.length := by
  unfold knotsTo; rw [List.take_add_one, h, Option.toList_some, List.map_append, List.sum_append]; simp
theorem knotsTo_le (O : List (List Kn)) (j : Nat) : knotsTo O j ≤ (O.map List.length).sum := by
  unfold knotsTo
  rw [List.map_take]
  have : ∀ (l : List Nat) (j : Nat), (l.take j).sum ≤ l.sum := fun l j => by
    have := List.take_append_drop j l
    have h2 : l.sum = (l.take j).sum + (l.drop j).sum := by rw [← List.sum_append, this]
    omega
  exact this _ _

/-- The routine that calls the next of m. -/
def routine (m j : Nat) : ByteArray := ⟨#[(32 + (j + 1) % m).toUInt8, 10, 11]⟩
def locN (m j : Nat) : List ByteArray := (List.range j).map (routine m)
theorem locN_succ (m j : Nat) : locN m (j + 1) = locN m j ++ [routine m j] := by unfold locN; rw [List.range_succ, List.map_append]; rfl
theorem locN_length (m j : Nat) : (locN m j).length = j := by simp [locN]
theorem sizeN_loc (m : Nat) : ∀ j, sizeN (locN m j) = 3 * j
  | 0 => rfl
  | j + 1 => by rw [locN_succ, sizeN_snoc, sizeN_loc m j]; show 3 * j + 3 = _; omega

theorem routine_cells (k : Nat) (h : k ≤ 62) : (#[.int .u8 (k : Int), .int .u8 10, .int .u8 11] : Array Value).toList = cellsOfStr ⟨#[k.toUInt8, 10, 11]⟩ := by
  have e : bt (⟨#[k.toUInt8, 10, 11]⟩ : ByteArray) 0 = (k : Int) := by
    have : ∀ k : Fin 63, bt (⟨#[k.val.toUInt8, 10, 11]⟩ : ByteArray) 0 = (k.val : Int) := by decide
    exact this ⟨k, by omega⟩
  show [Value.int .u8 (k : Int), .int .u8 10, .int .u8 11] = [Value.int .u8 (bt (⟨#[k.toUInt8, 10, 11]⟩ : ByteArray) 0), .int .u8 10, .int .u8 11]
  rw [e]

def callB : ByteArray := ⟨#[32, 10, 14]⟩
theorem callB_cells : (#[.int .u8 32, .int .u8 10, .int .u8 14] : Array Value).toList = cellsOfStr callB := by kernel_rfl
def endF (m : Nat) (code : ByteArray) : FS := { glyphs := [callB, code], locals := locN m m, globals := [], w0 := 0, w1 := 0 }

theorem step_glyphs (f : FS) (gs : List ByteArray) (s : MS) : MS.step { f with glyphs := gs } s = MS.step f s := rfl
theorem run_glyphs (f : FS) (gs : List ByteArray) : ∀ (n : Nat) (s : MS), MS.run { f with glyphs := gs } n s = MS.run f n s
  | 0, _ => rfl
  | n + 1, s => by
    rw [MS.run, MS.run]
    split
    · rfl
    · rw [step_glyphs, run_glyphs f gs n]

theorem end_faults : ∀ k : Fin 30, (MS.run (endF (k.val + 1) ByteArray.empty) 20001 (MS.start (endF (k.val + 1) ByteArray.empty) callB)).fault = 83 := of_decide_eq_true (by kernel_rfl)

theorem end_first (m : Nat) (code : ByteArray) (h1 : 1 ≤ m) (h2 : m ≤ 30) : glyphM (endF m code) 0 = ([], 0, 83) := by
  have h := end_faults ⟨m - 1, by omega⟩
  have e : m - 1 + 1 = m := by omega
  simp only [e] at h
  have hr : MS.run (endF m code) 20001 (MS.start (endF m code) callB) = MS.run (endF m ByteArray.empty) 20001 (MS.start (endF m ByteArray.empty) callB) :=
    run_glyphs (endF m ByteArray.empty) [callB, code] 20001 _
  show (let s := MS.run (endF m code) 20001 (MS.start (endF m code) callB); if s.fault ≠ 0 then ([], 0, s.fault) else (s.out, s.width, 0)) = _
  rw [hr]
  simp only [h]
  rfl

theorem run_fit {f : FS} (hf : FSFit f) : ∀ (n : Nat) (s : MS), StepFit s → StepFit (MS.run f n s)
  | 0, s, h => h
  | n + 1, s, h => by
    rw [MS.run]
    split
    · exact h
    · rename_i h0
      exact run_fit hf n _ (h.step (by simp only [not_or, Decidable.not_not] at h0; exact h0.2) f hf)

/-- Whatever glyph: few knots, few contours, none with an error. -/
theorem glyph_few {f : FS} (hf : FSFit f) (g : Nat) (P : ByteArray) (hP : f.glyphs[g]? = some P) : ((glyphM f g).1.map List.length).sum ≤ 4096 ∧ (glyphM f g).1.length ≤ 256 ∧ ((glyphM f g).2.2 = 0 ∨ (glyphM f g).1 = []) := by
  have h := run_fit hf 20001 _ (start_fit f P (hf.1 P (List.mem_of_getElem? hP)))
  have e : glyphM f g = if (MS.run f 20001 (MS.start f P)).fault ≠ 0 then ([], 0, (MS.run f 20001 (MS.start f P)).fault) else ((MS.run f 20001 (MS.start f P)).out, (MS.run f 20001 (MS.start f P)).width, 0) := by unfold glyphM; rw [hP]
  rw [e]
  split
  · exact ⟨Nat.zero_le _, Nat.zero_le _, .inr rfl⟩
  · have hp := h.pen
    exact ⟨by rw [hp.2.2]; exact hp.1, hp.2.1, .inl rfl⟩

theorem end_ok (m : Nat) (code : ByteArray) (h1 : 1 ≤ m) (h2 : m ≤ 30) (hc : code.size ≤ 3000) : FOk (endF m code) := by
  refine ⟨⟨by show 2 ≤ 60000; decide, by show (locN m m).length ≤ 60000; rw [locN_length]; omega, by show 0 ≤ 60000; decide⟩, ⟨?_, ?_, by show 0 ≤ 60000; decide⟩, ⟨by show (-2147483648 : Int) ≤ 0; decide, by show (0 : Int) ≤ 2147483647; decide⟩, ⟨by show (-2147483648 : Int) ≤ 0; decide, by show (0 : Int) ≤ 2147483647; decide⟩, by show 0 < 2; decide⟩
  · show 3 + (code.size + 0) ≤ 60000; omega
  · show sizeN (locN m m) ≤ 60000; rw [sizeN_loc]; omega

end Go.Proofs.Ytklenppldblbdaa
