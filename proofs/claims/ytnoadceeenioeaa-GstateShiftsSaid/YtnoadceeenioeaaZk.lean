/-
  Rows of knots, and rows of such rows, as they lie in memory: what is read, what is kept, append to an owned row of any element. It hangs on no function of the program.
-/
import Derived.Test.YtnoadceeenioeaaZi
import Derived.Laws.OwnMore
import Derived.Deep.AppendLies
import Derived.Deep.Onto
import Derived.Deep.QuietTactic
import Derived.BigQuiet
namespace Go.Proofs.Ytnoadceeenioeaa
open Go.RowKit Go.PlainAid
set_option linter.unusedSimpArgs false
set_option linter.unusedVariables false

/-- A knot. -/
structure Kn where
  x : Int
  y : Int
  k : Int

theorem bel_next {w a b : World} (h : Below w.heap.size w a) (k : Below a.heap.size a b) : Below w.heap.size w b := h.trans (k.mono h.size)

theorem bel_alloc {w a : World} (h : Below w.heap.size w a) (o : Obj) : Below w.heap.size w (a.alloc o) := h.alloc h.size o

theorem bel_to {B : Nat} {w0 a b : World} (h : Below B w0 a) (k : Below a.heap.size a b) (hB : B ≤ a.heap.size) : Below B w0 b := h.trans (k.mono hB)

theorem bel_drewN {B : Nat} {a w : World} (h : Below B a w) (n : Nat) : Below B a (w.drewN n) := ⟨h.os, h.tape, h.output, h.size, h.block⟩

theorem bel_set {B : Nat} {a w : World} (h : Below B a w) {b o : Nat} (hb : B ≤ b) (u : Value) : Below B a (w.setCell ⟨b, o, none⟩ u) := h.setCell hb u

theorem keepC {w w' : World} {p : Addr} {v : Value} (hb : Below w.heap.size w w') (hc : w.cell? p = some v) : w'.cell? p = some v := by
  rw [hb.cell (World.block_lt_of_cell? w _ hc)]; exact hc

theorem keepS {w : World} {b o b' o' : Nat} {u : Value} (h : b ≠ b') : (w.setCell ⟨b, o, none⟩ u).cell? ⟨b', o', none⟩ = w.cell? ⟨b', o', none⟩ := World.cell?_setCell_other w _ _ _ (fun e => h (by cases e; rfl))

theorem keepF {w w' : World} {p : Addr} {v : Value} {f : Bool} (hb : Below w.heap.size w w') (hc : w.cell? p = some v) (hf : w.frozen? p = f) : w'.frozen? p = f := by
  rw [hb.frozen (World.block_lt_of_cell? w _ hc)]; exact hf

/-- These cells lie there. -/
def Lies (w : World) (b off : Nat) (cs : List Value) : Prop := ∀ j u, cs[j]? = some u → w.cell? ⟨b, off + j, none⟩ = some u

theorem Lies.below {w w' : World} {b off : Nat} {cs : List Value} (h : Lies w b off cs) (hb : Below w.heap.size w w') : Lies w' b off cs := fun j u hj => keepC hb (h j u hj)

/-- The cells of a knot, of a point. -/
def clK (k : Kn) : List Value := [.int .i64 k.x, .int .i64 k.y, .int .i64 k.k]

/-- A row is read as this list. -/
def IsR {α : Type} (cl : α → List Value) (w : World) (a : Option Addr) (L : List α) : Prop := L = [] ∨ ∃ b off, a = some ⟨b, off, none⟩ ∧ Lies w b off (L.flatMap cl)

/-- A row of rows is read as this list of lists. -/
def IsO {α : Type} (cl : α → List Value) (w : World) (a : Option Addr) (O : List (List α)) : Prop :=
  O = [] ∨ ∃ b off, a = some ⟨b, off, none⟩ ∧ ∀ i c, O[i]? = some c → ∃ ai ci, w.cell? ⟨b, off + i, none⟩ = some (.slice ai c.length ci) ∧ c.length ≤ ci ∧ IsR cl w ai c

theorem IsR.below {α : Type} {cl : α → List Value} {w w' : World} {a : Option Addr} {L : List α} (h : IsR cl w a L) (hb : Below w.heap.size w w') : IsR cl w' a L := by
  rcases h with h | ⟨b, off, h1, h2⟩
  · exact .inl h
  · exact .inr ⟨b, off, h1, h2.below hb⟩

theorem IsO.below {α : Type} {cl : α → List Value} {w w' : World} {a : Option Addr} {O : List (List α)} (h : IsO cl w a O) (hb : Below w.heap.size w w') : IsO cl w' a O := by
  rcases h with h | ⟨b, off, h1, h2⟩
  · exact .inl h
  · refine .inr ⟨b, off, h1, fun i c hc => ?_⟩
    obtain ⟨ai, ci, h3, h4, h5⟩ := h2 i c hc
    exact ⟨ai, ci, keepC hb h3, h4, h5.below hb⟩

theorem IsO.at {α : Type} {cl : α → List Value} {w : World} {a : Option Addr} {O : List (List α)} (h : IsO cl w a O) {i : Nat} {c : List α} (hc : O[i]? = some c) : ∃ b off ai ci, a = some ⟨b, off, none⟩ ∧ w.cell? ⟨b, off + i, none⟩ = some (.slice ai c.length ci) ∧ c.length ≤ ci ∧ IsR cl w ai c := by
  rcases h with h | ⟨b, off, h1, h2⟩
  · subst h; simp at hc
  · obtain ⟨ai, ci, h3, h4, h5⟩ := h2 i c hc
    exact ⟨b, off, ai, ci, h1, h3, h4, h5⟩

theorem flat_at {α : Type} {cl : α → List Value} {s : Nat} (hcl : ∀ x, (cl x).length = s) : ∀ (L : List α) (i : Nat) (x : α), L[i]? = some x → ∀ r, r < s → (L.flatMap cl)[i * s + r]? = (cl x)[r]?
  | [], i, x, h, r, hr => by simp at h
  | a :: L, 0, x, h, r, hr => by
    simp at h; subst h
    rw [List.flatMap_cons, Nat.zero_mul, Nat.zero_add, List.getElem?_append_left (by rw [hcl]; exact hr)]
  | a :: L, i + 1, x, h, r, hr => by
    have h' : L[i]? = some x := by simpa using h
    rw [List.flatMap_cons, List.getElem?_append_right (by rw [hcl, Nat.add_mul]; omega), hcl, show (i + 1) * s + r - s = i * s + r by rw [Nat.add_mul]; omega]
    exact flat_at hcl L i x h' r hr

theorem flat_length {α : Type} {cl : α → List Value} {s : Nat} (hcl : ∀ x, (cl x).length = s) : ∀ (L : List α), (L.flatMap cl).length = L.length * s
  | [] => by simp
  | a :: L => by rw [List.flatMap_cons, List.length_append, hcl, flat_length hcl L, List.length_cons, Nat.add_mul]; omega

theorem clK_length (k : Kn) : (clK k).length = 3 := rfl

theorem IsR.knot {w : World} {a : Option Addr} {L : List Kn} (h : IsR clK w a L) {i : Nat} {k : Kn} (hk : L[i]? = some k) : ∃ b off, a = some ⟨b, off, none⟩ ∧ w.cell? ⟨b, off + i * 3, none⟩ = some (.int .i64 k.x) ∧ w.cell? ⟨b, off + i * 3 + 1, none⟩ = some (.int .i64 k.y) ∧ w.cell? ⟨b, off + i * 3 + 2, none⟩ = some (.int .i64 k.k) := by
  rcases h with h | ⟨b, off, h1, h2⟩
  · subst h; simp at hk
  · refine ⟨b, off, h1, ?_, ?_, ?_⟩
    · have := h2 (i * 3 + 0) _ (flat_at clK_length L i k hk 0 (by decide)); simpa using this
    · have := h2 (i * 3 + 1) _ (flat_at clK_length L i k hk 1 (by decide)); simpa [Nat.add_assoc] using this
    · have := h2 (i * 3 + 2) _ (flat_at clK_length L i k hk 2 (by decide)); simpa [Nat.add_assoc] using this

/-- What an element of a row is: its type, how many cells and bytes it has. -/
def ElT (t e : TypeId) (s by' : Nat) : Prop := Try.prog.underlying t = some (.slice e) ∧ 0 < s ∧ ∃ z, (Try.prog.info? e).map (fun i => (i.zero, i.size, i.bytes)) = some (some z, s, by') ∧ z.cells.size = s

theorem elK : ElT 57 59 3 24 := ⟨Try.underlying57, by decide, .agg #[.int .i64 0, .int .i64 0, .int .i64 0], by kernel_rfl, rfl⟩

theorem elKK : ElT 26 57 1 24 := ⟨Try.underlying26, by decide, .slice none 0 0, by kernel_rfl, rfl⟩

theorem ownsRow_cap {w : World} {base : Nat} {e : TypeId} {s g n c : Nat} {xs : List Value} (h : w.ownsRow base e s (.slice (some ⟨g, 0, none⟩) n c) n xs) : n ≤ c ∧ base ≤ g ∧ g < w.heap.size := by
  rcases h.2 with ⟨hv, _⟩ | ⟨g', cap', cur, hv, hb, hg, hnc, _⟩
  · cases hv
  · cases hv; exact ⟨hnc, hb, (Array.getElem?_eq_some_iff.1 hg).1⟩

/-- append to an owned row that is there, of a row that is read. -/
theorem app_run {t e : TypeId} {s by' : Nat} (H : ElT t e s by') (w : World) (base : Nat) (ty : TypeId) (g c n : Nat) (xs : List Value) (a : Option Addr) (m cap : Nat) (news : List Value)
    (hown : w.ownsRow base e s (.slice (some ⟨g, 0, none⟩) n c) n xs) (hl : news.length = m * s) (hsrc : m = 0 ∨ ∃ b off, a = some ⟨b, off, none⟩ ∧ Lies w b off news) (h1 : ∀ u ∈ news, u.oneCell' = true)
    (hb : (n + m) * by' ≤ 140737488355328) (hm : n + m ≤ 140737488355328) (hbase : base ≤ w.heap.size) :
    ∃ g' c' w', (Builtin.append_ #[t, t] ty #[.slice (some ⟨g, 0, none⟩) n c, .slice a m cap]).run Try.prog w = .ok (.slice (some ⟨g', 0, none⟩) (n + m) c') w' ∧
      w'.ownsRow base e s (.slice (some ⟨g', 0, none⟩) (n + m) c') (n + m) (xs ++ news) ∧ w.grownBy w' (some g) ∧ (g' = g ∨ g' = w.heap.size) := by
  obtain ⟨ht, hs0, z, hz, hzs⟩ := H
  obtain ⟨i0, hi, hz0, hz1, hz2⟩ := info_parts hz
  by_cases h0 : m = 0
  · subst h0
    have hn0 : news = [] := List.eq_nil_of_length_eq_zero (by omega)
    subst hn0
    have hnc := (ownsRow_cap hown).1
    refine ⟨g, c, w, ?_, by simpa using hown, ⟨rfl, rfl, rfl, Nat.le_refl _, fun _ _ _ => rfl⟩, .inl rfl⟩
    cases a <;> simp [Builtin.append_, run_underlying ht, sizeOf, typeInfo, hi, Builtin.lenOf, Builtin.firstCells, loadCells, loadCellsFrom, storeCells, hnc]
  · rcases hsrc with hsrc | ⟨b, off, rfl, hlies⟩
    · exact absurd hsrc h0
    obtain ⟨g', c', w', hr, ho, hg, hat, hlt⟩ := run_append_lies (P := Try.prog) w t ty base e i0 z s by' ht hi hz0 hz1 hz2 hzs hs0 _ n xs hown ⟨b, off, none⟩ m cap news hl
      (fun j u hj => by rw [Addr.add_lit]; exact hlies j u hj) h1 (by omega) (by unfold maxLen; omega) hb hbase w.heap.size rfl
    refine ⟨g', c', w', hr, ho, hg, ?_⟩
    rcases hat with h | h
    · left; simpa [Value.ownBlock] using h.symm
    · exact .inr h

theorem wpList_app {t e : TypeId} {s by' : Nat} (H : ElT t e s by') {ops : Array Oper} {rest : List Oper} {o : Oper} {f : Act} {Q : Exit → Act → World → Prop} (hgd : o.guard = none) (sl x : Operand)
    (ho : o.op = .call { callee := .builtin .append, args := #[sl, x], argTypes := #[t, t] })
    (w : World) (base g c n : Nat) (xs : List Value) (a : Option Addr) (m cap : Nat) (news : List Value) (hs : f.eval sl = .slice (some ⟨g, 0, none⟩) n c) (hx : f.eval x = .slice a m cap)
    (hown : w.ownsRow base e s (.slice (some ⟨g, 0, none⟩) n c) n xs) (hl : news.length = m * s) (hsrc : m = 0 ∨ ∃ b off, a = some ⟨b, off, none⟩ ∧ Lies w b off news) (h1 : ∀ u ∈ news, u.oneCell' = true)
    (hb : (n + m) * by' ≤ 140737488355328) (hm : n + m ≤ 140737488355328) (hbase : base ≤ w.heap.size)
    (h : ∀ g' c' w', w'.ownsRow base e s (.slice (some ⟨g', 0, none⟩) (n + m) c') (n + m) (xs ++ news) → w.grownBy w' (some g) → (g' = g ∨ g' = w.heap.size) → wpList Try.prog ops Q rest (f.put o.dst (.slice (some ⟨g', 0, none⟩) (n + m) c')) w') :
    wpList Try.prog ops Q (o :: rest) f w :=
  wpList_plain hgd fun _ hK => by
    obtain ⟨g', c', w', hr, h2, h3, h4⟩ := app_run H w base o.type g c n xs a m cap news hown hl hsrc h1 hb hm hbase
    unfold Oper.wp execOp
    simp only [ho, resolve, invoke, builtin, Sem.run_bind, Sem.run_pure, Result.andThen_ok, List.map_toArray, List.map_cons, List.map_nil, hs, hx, hr]
    exact hK _ _ (h g' c' w' h2 h3 h4)

theorem step_app {t e : TypeId} {s by' : Nat} (H : ElT t e s by') {ops : Array Oper} {o : Oper} {f : Act} {K : Act → World → Prop} {Q : Exit → Act → World → Prop} {E : Prop} (hgd : o.guard = none) (sl x : Operand)
    (ho : o.op = .call { callee := .builtin .append, args := #[sl, x], argTypes := #[t, t] })
    (w : World) (base g c n : Nat) (xs : List Value) (a : Option Addr) (m cap : Nat) (news : List Value) (hs : f.eval sl = .slice (some ⟨g, 0, none⟩) n c) (hx : f.eval x = .slice a m cap)
    (hown : w.ownsRow base e s (.slice (some ⟨g, 0, none⟩) n c) n xs) (hl : news.length = m * s) (hsrc : m = 0 ∨ ∃ b off, a = some ⟨b, off, none⟩ ∧ Lies w b off news) (h1 : ∀ u ∈ news, u.oneCell' = true)
    (hb : (n + m) * by' ≤ 140737488355328) (hm : n + m ≤ 140737488355328) (hbase : base ≤ w.heap.size)
    (h : ∀ g' c' w', w'.ownsRow base e s (.slice (some ⟨g', 0, none⟩) (n + m) c') (n + m) (xs ++ news) → w.grownBy w' (some g) → (g' = g ∨ g' = w.heap.size) → K (f.put o.dst (.slice (some ⟨g', 0, none⟩) (n + m) c')) w') :
    if Region.wanted o (yielded ops f.tmps) = true then Oper.wp Try.prog o f w K Q else E := by
  have hw : Region.wanted o (yielded ops f.tmps) = true := by simp [Region.wanted, hgd]
  rw [if_pos hw]
  obtain ⟨g', c', w', hr, h2, h3, h4⟩ := app_run H w base o.type g c n xs a m cap news hown hl hsrc h1 hb hm hbase
  unfold Oper.wp execOp
  simp only [ho, resolve, invoke, builtin, Sem.run_bind, Sem.run_pure, Result.andThen_ok, List.map_toArray, List.map_cons, List.map_nil, hs, hx, hr]
  exact h g' c' w' h2 h3 h4

/-- What is owned is kept. -/
theorem own_keep {w w' : World} {B : Nat} {e : TypeId} {s n : Nat} {v : Value} {xs : List Value} (h : w.ownsRow B e s v n xs) (hk : ∀ g, v.ownBlock = some g → w'.heap[g]? = w.heap[g]?) : w'.ownsRow B e s v n xs := by
  refine ⟨h.1, ?_⟩
  rcases h.2 with hn | ⟨g, cap, cur, hv, hb, hg, rest⟩
  · exact .inl hn
  · exact .inr ⟨g, cap, cur, hv, hb, by rw [hk g (by rw [hv]; rfl)]; exact hg, rest⟩

theorem own_below {w w' : World} {B : Nat} {e : TypeId} {s n : Nat} {v : Value} {xs : List Value} (h : w.ownsRow B e s v n xs) (hb : Below w.heap.size w w') : w'.ownsRow B e s v n xs :=
  own_keep h fun g hg => hb.block g (h.lt g hg).2

theorem own_set {w : World} {B : Nat} {e : TypeId} {s n g c : Nat} {xs : List Value} (h : w.ownsRow B e s (.slice (some ⟨g, 0, none⟩) n c) n xs) (p : Addr) (u : Value) (hp : p.block ≠ g) : (w.setCell p u).ownsRow B e s (.slice (some ⟨g, 0, none⟩) n c) n xs :=
  own_keep h fun g' hg => by
    have : g' = g := by simpa [Value.ownBlock] using hg.symm
    subst this
    exact Below.heap_setCell _ _ _ _ (Ne.symm hp)

theorem own_lies {w : World} {B : Nat} {e : TypeId} {s n g c : Nat} {xs : List Value} (h : w.ownsRow B e s (.slice (some ⟨g, 0, none⟩) n c) n xs) : Lies w g 0 xs := fun j u hj => by
  have := h.cells (g := g) rfl j u hj
  rwa [Addr.add_lit] at this

theorem own_isR {α : Type} {cl : α → List Value} {w : World} {B : Nat} {e : TypeId} {s n : Nat} {a : Option Addr} {c : Nat} {L : List α} (hn : n = L.length) (h : w.ownsRow B e s (.slice a n c) n (L.flatMap cl)) : IsR cl w a L := by
  rcases h.2 with ⟨hv, h0⟩ | ⟨g, cap, cur, hv, _⟩
  · exact .inl (List.eq_nil_of_length_eq_zero (by omega))
  · cases hv
    exact .inr ⟨g, 0, rfl, own_lies h⟩

/-- An owned row cut short. -/
theorem own_cut {w : World} {B : Nat} {e : TypeId} {s n g c : Nat} {xs : List Value} (h : w.ownsRow B e s (.slice (some ⟨g, 0, none⟩) n c) n xs) (m : Nat) (hm : m ≤ n) : w.ownsRow B e s (.slice (some ⟨g, 0, none⟩) m c) m (xs.take (m * s)) := by
  have hms : m * s ≤ n * s := Nat.mul_le_mul_right s hm
  refine ⟨by rw [List.length_take, h.1, Nat.min_eq_left hms], ?_⟩
  rcases h.2 with ⟨hv, _⟩ | ⟨g', cap, cur, hv, hb, hg, hnc, hcm, hcs, ht⟩
  · cases hv
  · cases hv
    exact .inr ⟨g, c, cur, rfl, hb, hg, by omega, hcm, hcs, by rw [← ht, List.take_take, Nat.min_eq_left hms]⟩

theorem grown_other {w w' : World} {r : Option Nat} (h : w.grownBy w' r) {b : Nat} (hb : b < w.heap.size) (hr : r ≠ some b) : w'.heap[b]? = w.heap[b]? := h.block b hb (Ne.symm hr)

def knV (k : Kn) : Value := .agg #[.int .i64 k.x, .int .i64 k.y, .int .i64 k.k]

theorem get_of {α : Type} {l : List α} {j : Nat} (h : j < l.length) : ∃ x, l[j]? = some x := ⟨l[j], List.getElem?_eq_getElem h⟩

theorem take_all {α : Type} {P : α → Prop} {l : List α} {j : Nat} {x : α} (h : ∀ y ∈ l.take j, P y) (hx : l[j]? = some x) (hp : P x) : ∀ y ∈ l.take (j + 1), P y := by
  intro y hy
  rw [List.take_add_one, hx] at hy
  rcases List.mem_append.1 hy with hy | hy
  · exact h y hy
  · simp at hy; subst hy; exact hp

theorem next64 {j : Nat} (h : j ≤ 140737488355328) : wrap64 ((j : Int) + 1) = ((j + 1 : Nat) : Int) := by unfold wrap64; omega

/-- The rows are no longer than memory bears. -/
def Long (O : List (List Kn)) : Prop := O.length ≤ 5864062014805 ∧ ∀ c ∈ O, c.length ≤ 5864062014805

theorem lies_new {w : World} {cs : Array Value} {T : TypeId} : Lies (w.alloc (.cells cs T)) w.heap.size 0 cs.toList := by
  intro j u hj
  rw [Nat.zero_add]
  have : (w.alloc (.cells cs T)).heap[w.heap.size]? = some (.cells cs T (0, 0)) := heap_alloc_new w _
  unfold World.cell?
  simp only [this]
  simpa using hj

/-- append of k zero knots to the row that is none. -/
theorem append_zeros (w : World) (ty : TypeId) (k : Nat) (hk : 0 < k) (hk2 : k ≤ 10000) : ∃ c w', (Builtin.append_ #[57, 3] ty #[.slice none 0 0, .int .i64 (k : Int)]).run Try.prog w = .ok (.slice (some ⟨w.heap.size, 0, none⟩) k c) w' ∧ k ≤ c ∧
    w'.ownsRow w.heap.size 59 3 (.slice (some ⟨w.heap.size, 0, none⟩) 0 c) 0 [] ∧ Below w.heap.size w w' := by
  obtain ⟨ht, hs0, z, hz, hzs⟩ := elK
  obtain ⟨i0, hi, hz0, hz1, hz2⟩ := info_parts hz
  have hw : IntKind.i64.wrap (k : Int) = (k : Int) := IntWalk.i64_in _ (by omega)
  have h48 : ¬ (281474976710656 < (k : Int) * 24) := by omega
  have h48' : ¬ (281474976710656 < Builtin.nextslicecap k 0 * 24) := by rw [nextslicecap_zero hk]; omega
  have h63 : ¬ (9223372036854775807 < (k : Int)) := by omega
  have hneg : ¬ ((k : Int) < 0) := by omega
  have hk0 : ¬ k = 0 := by omega
  have hpos : ¬ ((k : Int) ≤ 0) := by omega
  have hmax : max (k : Int) 0 = (k : Int) := by omega
  have hge := grownCap_ge w k 0 59
  refine ⟨grownCap w k 0 59, w.drew.alloc (.cells (Builtin.zeroCells z.cells k ++ Builtin.zeroCells z.cells (grownCap w k 0 59 - k)) 59), ?_, hge, ?_, ?_⟩
  · simp [Builtin.append_, run_underlying ht, run_underlying Try.underlying3, sizeOf, typeInfo, zeroValue, hi, hz0, hz1, hz2, Builtin.lenOf, Builtin.firstCells, hk0, h48, h48', h63, hneg, hw, Question.forced, newRow, grownCap, asInt, asIntOf, hpos, hmax]
    intro h; omega
  · exact World.ownsRow_made w.drew _ _ (Nat.le_refl _) (grownCap_le_maxLen w k 0 59 (by unfold maxLen; omega)) (by simp only [Array.size_append, size_zeroCells, hzs]; generalize grownCap w k 0 59 = gc at *; omega)
  · exact (Below.refl _ _).drew.alloc (Nat.le_refl _) _

theorem wpList_zeros {ops : Array Oper} {rest : List Oper} {o : Oper} {f : Act} {Q : Exit → Act → World → Prop} (hgd : o.guard = none) (sl x : Operand)
    (ho : o.op = .call { callee := .builtin .append, args := #[sl, x], argTypes := #[57, 3] })
    (w : World) (k : Nat) (hs : f.eval sl = .slice none 0 0) (hx : f.eval x = .int .i64 (k : Int)) (hk : 0 < k) (hk2 : k ≤ 10000)
    (h : ∀ c w', k ≤ c → w'.ownsRow w.heap.size 59 3 (.slice (some ⟨w.heap.size, 0, none⟩) 0 c) 0 [] → Below w.heap.size w w' → wpList Try.prog ops Q rest (f.put o.dst (.slice (some ⟨w.heap.size, 0, none⟩) k c)) w') :
    wpList Try.prog ops Q (o :: rest) f w :=
  wpList_plain hgd fun _ hK => by
    obtain ⟨c, w', hr, h2, h3, h4⟩ := append_zeros w o.type k hk hk2
    unfold Oper.wp execOp
    simp only [ho, resolve, invoke, builtin, Sem.run_bind, Sem.run_pure, Result.andThen_ok, List.map_toArray, List.map_cons, List.map_nil, hs, hx, hr]
    exact hK _ _ (h c w' h2 h3 h4)

theorem wpList_nil0 {ops : Array Oper} {rest : List Oper} {o : Oper} {f : Act} {Q : Exit → Act → World → Prop} (hgd : o.guard = none) (sl x : Operand)
    (ho : o.op = .call { callee := .builtin .append, args := #[sl, x], argTypes := #[57, 57] })
    (w : World) (a : Option Addr) (c : Nat) (hs : f.eval sl = .slice none 0 0) (hx : f.eval x = .slice a 0 c)
    (h : wpList Try.prog ops Q rest (f.put o.dst (.slice none 0 0)) w) :
    wpList Try.prog ops Q (o :: rest) f w :=
  wpList_plain hgd fun _ hK => by
    obtain ⟨ht, hs0, z, hz, hzs⟩ := elK
    obtain ⟨i0, hi, hz0, hz1, hz2⟩ := info_parts hz
    have hr : (Builtin.append_ #[57, 57] o.type #[.slice none 0 0, .slice a 0 c]).run Try.prog w = .ok (.slice none 0 0) w := by
      cases a <;> simp [Builtin.append_, run_underlying ht, sizeOf, typeInfo, hi, Builtin.lenOf, Builtin.firstCells, loadCells, loadCellsFrom, storeCells]
    unfold Oper.wp execOp
    simp only [ho, resolve, invoke, builtin, Sem.run_bind, Sem.run_pure, Result.andThen_ok, List.map_toArray, List.map_cons, List.map_nil, hs, hx, hr]
    exact hK _ _ h

theorem clK_one {L : List Kn} : ∀ u ∈ L.flatMap clK, u.oneCell' = true := by
  intro u hu
  obtain ⟨k, _, hk⟩ := List.mem_flatMap.1 hu
  simp [clK] at hk
  rcases hk with rfl | rfl | rfl <;> rfl

theorem isR_src {α : Type} {cl : α → List Value} {w : World} {a : Option Addr} {L : List α} (h : IsR cl w a L) : L.length = 0 ∨ ∃ b off, a = some ⟨b, off, none⟩ ∧ Lies w b off (L.flatMap cl) := by
  rcases h with h | h
  · exact .inl (by rw [h]; rfl)
  · exact .inr h

theorem belGrown {B : Nat} {w a b : World} {g : Nat} (h : Below B w a) (k : a.grownBy b (some g)) (hg : B ≤ g) (hB : B ≤ a.heap.size) : Below B w b :=
  ⟨k.os.trans h.os, k.tape.trans h.tape, k.output.trans h.output, Nat.le_trans h.size k.size, fun i hi => (k.block i (by omega) (fun e => by cases e; omega)).trans (h.block i hi)⟩

/-- Rows in memory from B on, each of its own, and none of them in the block g. -/
def RowsOwn (w : World) (B g : Nat) (vs : List Value) (O : List (List Kn)) : Prop := vs.length = O.length ∧ ∀ (i : Nat) (c : List Kn), O[i]? = some c → ∃ gi ci, vs[i]? = some (.slice (some ⟨gi, 0, none⟩) c.length ci) ∧ gi ≠ g ∧ w.ownsRow B 59 3 (.slice (some ⟨gi, 0, none⟩) c.length ci) c.length (c.flatMap clK)

theorem RowsOwn.below {w w' : World} {B g : Nat} {vs : List Value} {O : List (List Kn)} (h : RowsOwn w B g vs O) (k : Below w.heap.size w w') : RowsOwn w' B g vs O := by
  refine ⟨h.1, fun i c hc => ?_⟩
  obtain ⟨gi, ci, h1, h2, h3⟩ := h.2 i c hc
  exact ⟨gi, ci, h1, h2, own_below h3 k⟩

theorem RowsOwn.grown {w w' : World} {B g g' : Nat} {vs : List Value} {O : List (List Kn)} (h : RowsOwn w B g vs O) (k : w.grownBy w' (some g)) (hg : g' = g ∨ g' = w.heap.size) : RowsOwn w' B g' vs O := by
  refine ⟨h.1, fun i c hc => ?_⟩
  obtain ⟨gi, ci, h1, h2, h3⟩ := h.2 i c hc
  have hlt := (ownsRow_cap h3).2.2
  refine ⟨gi, ci, h1, by rcases hg with rfl | rfl <;> omega, own_keep h3 fun x hx => ?_⟩
  have : x = gi := by simpa [Value.ownBlock] using hx.symm
  subst this
  exact k.block x hlt (fun e => h2 (by cases e; rfl))

theorem RowsOwn.snoc {w : World} {B g : Nat} {vs : List Value} {O : List (List Kn)} (h : RowsOwn w B g vs O) {gi ci : Nat} {c : List Kn} (hg : gi ≠ g) (ho : w.ownsRow B 59 3 (.slice (some ⟨gi, 0, none⟩) c.length ci) c.length (c.flatMap clK)) :
    RowsOwn w B g (vs ++ [.slice (some ⟨gi, 0, none⟩) c.length ci]) (O ++ [c]) := by
  refine ⟨by simp [h.1], fun i d hd => ?_⟩
  by_cases hi : i < O.length
  · rw [List.getElem?_append_left hi] at hd
    obtain ⟨g2, c2, h1, h2, h3⟩ := h.2 i d hd
    exact ⟨g2, c2, by rw [List.getElem?_append_left (by rw [h.1]; exact hi)]; exact h1, h2, h3⟩
  · rw [List.getElem?_append_right (by omega)] at hd
    have hi2 : i - O.length = 0 := by have := (List.getElem?_eq_some_iff.1 hd).1; simp at this; omega
    rw [hi2] at hd
    have e : c = d := by simpa using hd
    subst e
    exact ⟨gi, ci, by rw [List.getElem?_append_right (by rw [h.1]; omega), h.1, hi2]; rfl, hg, ho⟩

/-- One row in new memory. -/
theorem isO_lit {α : Type} {cl : α → List Value} {s : Nat} (hcl : ∀ x, (cl x).length = s) (w : World) (L : List α) (T TS : TypeId) (cs : Array Value) (hc : cs.toList = L.flatMap cl) :
    IsO cl ((w.alloc (.cells cs T)).alloc (.cells #[.slice (some ⟨w.heap.size, 0, none⟩) L.length L.length] TS)) (some ⟨w.heap.size + 1, 0, none⟩) [L] := by
  refine .inr ⟨w.heap.size + 1, 0, rfl, fun i c h => ?_⟩
  have hi : i = 0 := by have := (List.getElem?_eq_some_iff.1 h).1; simp at this; omega
  subst hi
  have e : L = c := by simpa using h
  subst e
  refine ⟨some ⟨w.heap.size, 0, none⟩, L.length, by simp [go_sem], Nat.le_refl _, ?_⟩
  refine .inr ⟨w.heap.size, 0, rfl, ?_⟩
  rw [← hc]
  exact (lies_new (w := w) (cs := cs) (T := T)).below ((Below.refl _ _).alloc (Nat.le_refl _) _)

/-- The lists are no longer than memory bears. -/
def LongA {α : Type} (O : List (List α)) : Prop := O.length ≤ 140737488355328 ∧ ∀ c ∈ O, c.length ≤ 140737488355328

end Go.Proofs.Ytnoadceeenioeaa
