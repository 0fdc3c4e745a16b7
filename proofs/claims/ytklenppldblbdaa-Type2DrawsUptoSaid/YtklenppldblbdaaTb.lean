/-
  The machine of package type2 in memory: its block, its outline, its open rows, its stack; what stays of each where one of them is written.
-/
import Derived.Test.YtklenppldblbdaaTa
namespace Go.Proofs.Ytklenppldblbdaa
open Go.RowKit Go.PlainAid
set_option linter.unusedSimpArgs false
set_option linter.unusedVariables false

theorem blk_cell {w : World} {A : Nat} {cs : Array Value} {T : TypeId} {fr : Nat × Nat} (h : w.heap[A]? = some (.cells cs T fr)) (i : Nat) (v : Value) (hv : cs[i]? = some v) : w.cell? ⟨A, i, none⟩ = some v := by
  simp only [World.cell?, h]; exact hv
theorem blk_free {w : World} {A : Nat} {cs : Array Value} {T : TypeId} (h : w.heap[A]? = some (.cells cs T (0, 0))) (i : Nat) : w.frozen? ⟨A, i, none⟩ = false := by
  simp [World.frozen?, h]
theorem blk_set {w : World} {A : Nat} {cs : Array Value} {T : TypeId} {fr : Nat × Nat} (h : w.heap[A]? = some (.cells cs T fr)) (j : Nat) (v : Value) : (w.setCell ⟨A, j, none⟩ v).heap[A]? = some (.cells (cs.setIfInBounds j v) T fr) := by
  simp [World.setCell, Array.getElem?_modify, h]
theorem blk_lt {w : World} {A : Nat} {o : Obj} (h : w.heap[A]? = some o) : A < w.heap.size := (Array.getElem?_eq_some_iff.1 h).1
theorem blk_below {w w' : World} {A : Nat} {o : Obj} (h : w.heap[A]? = some o) (hb : Below w.heap.size w w') : w'.heap[A]? = some o := (hb.block A (blk_lt h)).trans h

theorem grown_set (w : World) (R o : Nat) (u : Value) : w.grownBy (w.setCell ⟨R, o, none⟩ u) (some R) :=
  ⟨rfl, rfl, rfl, by simp, fun k hk hne => Below.heap_setCell w _ u k (fun e => hne (by rw [e]))⟩
theorem grown_trans {a b c : World} {r : Option Nat} (h : a.grownBy b r) (k : b.grownBy c r) : a.grownBy c r :=
  ⟨k.os.trans h.os, k.tape.trans h.tape, k.output.trans h.output, Nat.le_trans h.size k.size, fun i hi hne => (k.block i (Nat.lt_of_lt_of_le hi h.size) hne).trans (h.block i hi hne)⟩
theorem grown_bel {a b : World} (r : Option Nat) (h : Below a.heap.size a b) : a.grownBy b r := ⟨h.os, h.tape, h.output, h.size, fun i hi _ => h.block i hi⟩

/-- The block, if there is one, holds values of this type. -/
def TypAt (w : World) (r : Option Nat) (T : TypeId) : Prop := ∀ D, r = some D → ∃ cs fr, w.heap[D]? = some (.cells cs T fr)

theorem typ_blk {w : World} {D : Nat} {cs : Array Value} {T : TypeId} {fr : Nat × Nat} (h : w.heap[D]? = some (.cells cs T fr)) : TypAt w (some D) T := fun _ e => by cases e; exact ⟨cs, fr, h⟩
theorem typ_own {w : World} {B : Nat} {e : TypeId} {s n : Nat} {v : Value} {xs : List Value} (h : w.ownsRow B e s v n xs) : TypAt w v.ownBlock e := by
  intro D hD
  rcases h.2 with ⟨hv, _⟩ | ⟨g, cap, cur, hv, hb, hg, _⟩
  · subst hv; cases hD
  · subst hv; cases hD; exact ⟨_, _, hg⟩

theorem blk_chg {w w' : World} {r : Option Nat} {T T' : TypeId} {A : Nat} {cs : Array Value} {fr : Nat × Nat} (h : w.heap[A]? = some (.cells cs T fr)) (hg : w.grownBy w' r) (ht : TypAt w r T') (hne : T ≠ T') : w'.heap[A]? = some (.cells cs T fr) := by
  rw [hg.block A (blk_lt h) (fun e => ?_), h]
  obtain ⟨cs', fr', h'⟩ := ht A e.symm
  rw [h] at h'
  cases h'
  exact hne rfl

theorem own_chg {w w' : World} {r : Option Nat} {T' : TypeId} {B : Nat} {e : TypeId} {s n : Nat} {v : Value} {xs : List Value} (h : w.ownsRow B e s v n xs) (hg : w.grownBy w' r) (ht : TypAt w r T') (hne : e ≠ T') : w'.ownsRow B e s v n xs := by
  refine own_keep h fun g hv => ?_
  obtain ⟨cs, fr, hc⟩ := typ_own h g hv
  rw [blk_chg hc hg ht hne, hc]

/-- What is owned is kept by a change of another row of the same make. -/
theorem own_apart {w w' : World} {r : Option Nat} {B : Nat} {e : TypeId} {s n : Nat} {v : Value} {xs : List Value} (h : w.ownsRow B e s v n xs) (hg : w.grownBy w' r) (hr : ∀ g, v.ownBlock = some g → r ≠ some g) : w'.ownsRow B e s v n xs :=
  own_keep h fun g hv => hg.block g (h.lt g hv).2 (fun e => hr g hv e.symm)

theorem own_cutA {w : World} {B : Nat} {e : TypeId} {s n c : Nat} {a : Option Addr} {xs : List Value} (h : w.ownsRow B e s (.slice a n c) n xs) (m : Nat) (hm : m ≤ n) : w.ownsRow B e s (.slice a m c) m (xs.take (m * s)) := by
  rcases h.2 with ⟨hv, h0⟩ | ⟨g, cap, cur, hv, _⟩
  · cases hv
    obtain rfl : m = 0 := by omega
    exact ⟨by simp, .inl ⟨rfl, rfl⟩⟩
  · cases hv
    exact own_cut h m hm

/-- The row R of the view V lies there. -/
structure RowAt (w : World) (R V : Nat) (r : Rw) : Prop where
  row : w.heap[R]? = some (.cells #[.pointer (some ⟨V, 0, none⟩), .int .i64 (r.p : Int), .bool r.c] 74 (0, 0))
  text : w.heap[V]? = some (.cells #[.string r.s] 63 (0, 0))

theorem RowAt.view {w : World} {R V : Nat} {r : Rw} (h : RowAt w R V r) : w.cell? ⟨V, 0, none⟩ = some (.string r.s) := blk_cell h.text 0 _ rfl
theorem RowAt.c0 {w : World} {R V : Nat} {r : Rw} (h : RowAt w R V r) : w.cell? ⟨R, 0, none⟩ = some (.pointer (some ⟨V, 0, none⟩)) := blk_cell h.row 0 _ rfl
theorem RowAt.c1 {w : World} {R V : Nat} {r : Rw} (h : RowAt w R V r) : w.cell? ⟨R, 1, none⟩ = some (.int .i64 (r.p : Int)) := blk_cell h.row 1 _ rfl
theorem RowAt.c2 {w : World} {R V : Nat} {r : Rw} (h : RowAt w R V r) : w.cell? ⟨R, 2, none⟩ = some (.bool r.c) := blk_cell h.row 2 _ rfl
theorem RowAt.below {w w' : World} {R V : Nat} {r : Rw} (h : RowAt w R V r) (hb : Below w.heap.size w w') : RowAt w' R V r := ⟨blk_below h.row hb, blk_below h.text hb⟩
theorem RowAt.ne {w : World} {R V : Nat} {r : Rw} (h : RowAt w R V r) : V ≠ R := by
  intro e; subst e
  have h1 := h.row
  rw [h.text] at h1
  exact absurd h1 (by simp)
theorem RowAt.setP {w : World} {R V : Nat} {r : Rw} (h : RowAt w R V r) (q : Nat) : RowAt (w.setCell ⟨R, 1, none⟩ (.int .i64 (q : Int))) R V { r with p := q } :=
  ⟨blk_set h.row 1 _, (Below.heap_setCell _ _ _ _ h.ne).trans h.text⟩
theorem RowAt.setC {w : World} {R V : Nat} {r : Rw} (h : RowAt w R V r) (c : Bool) : RowAt (w.setCell ⟨R, 2, none⟩ (.bool c)) R V { r with c := c } :=
  ⟨blk_set h.row 2 _, (Below.heap_setCell _ _ _ _ h.ne).trans h.text⟩
theorem RowAt.chg {w w' : World} {r' : Option Nat} {T : TypeId} {R V : Nat} {r : Rw} (h : RowAt w R V r) (hg : w.grownBy w' r') (ht : TypAt w r' T) (h1 : T ≠ 74) (h2 : T ≠ 63) : RowAt w' R V r :=
  ⟨blk_chg h.row hg ht (Ne.symm h1), blk_chg h.text hg ht (Ne.symm h2)⟩
theorem RowAt.typ {w : World} {R V : Nat} {r : Rw} (h : RowAt w R V r) : TypAt w (some R) 74 := typ_blk h.row

/-- Where the machine's parts lie: its outline's row and the contours' slices, its row of open rows, each open row's block and view (the first one is gone through), its stack. -/
structure Lay where
  oa : Option Addr
  oc : Nat
  vs : List Value
  pg : Nat
  pc : Nat
  rb : List (Nat × Nat)
  sa : Option Addr
  sc : Nat

def mcells (F : Nat) (L : Lay) (s : MS) : Array Value := #[.slice L.oa s.out.length L.oc, .int .i64 (s.knots : Int), .int .i64 s.x, .int .i64 s.y, .int .i64 s.fault, .pointer (some ⟨F, 0, none⟩),
  .slice (some ⟨L.pg, 0, none⟩) s.rows.length L.pc, .slice L.sa s.stack.length L.sc, .int .i64 (s.fuel : Int), .int .i64 (s.stems : Int), .int .i64 s.width, .bool s.asked, .bool s.ended]

structure OutW (w : World) (B : Nat) (oa : Option Addr) (oc : Nat) (vs : List Value) (O : List (List Kn)) : Prop where
  own : w.ownsRow B 35 1 (.slice oa O.length oc) O.length vs
  conts : ∀ (i : Nat) (c : List Kn), O[i]? = some c → ∃ (ai : Option Addr) (ci : Nat), vs[i]? = some (.slice ai c.length ci) ∧ w.ownsRow B 38 3 (.slice ai c.length ci) c.length (c.flatMap clK)
  apart : ∀ (i j : Nat) (v u : Value) (g : Nat), i ≠ j → vs[i]? = some v → vs[j]? = some u → v.ownBlock = some g → u.ownBlock ≠ some g

structure RowsW (w : World) (B pg pc : Nat) (rb : List (Nat × Nat)) (rows : List Rw) : Prop where
  own : w.ownsRow B 72 1 (.slice (some ⟨pg, 0, none⟩) rows.length pc) rows.length (rb.reverse.map fun q => .pointer (some ⟨q.1, 0, none⟩))
  len : rb.length = rows.length
  rows : ∀ (i : Nat) (r : Rw) (q : Nat × Nat), rows[i]? = some r → rb[i]? = some q → B ≤ q.1 ∧ RowAt w q.1 q.2 r
  apart : (rb.map Prod.fst).Nodup

/-- The machine M of the font F lies there, all from B on. -/
structure Mach (w : World) (B M F : Nat) (L : Lay) (s : MS) : Prop where
  mem : w.heap[M]? = some (.cells (mcells F L s) 59 (0, 0))
  mB : B ≤ M
  out : OutW w B L.oa L.oc L.vs s.out
  rows : RowsW w B L.pg L.pc L.rb s.rows
  stack : w.ownsRow B 3 1 (.slice L.sa s.stack.length L.sc) s.stack.length (s.stack.map (Value.int .i64))

theorem OutW.below {w w' : World} {B : Nat} {oa : Option Addr} {oc : Nat} {vs : List Value} {O : List (List Kn)} (h : OutW w B oa oc vs O) (hb : Below w.heap.size w w') : OutW w' B oa oc vs O :=
  ⟨own_below h.own hb, fun i c hc => by obtain ⟨ai, ci, h1, h2⟩ := h.conts i c hc; exact ⟨ai, ci, h1, own_below h2 hb⟩, h.apart⟩
theorem OutW.chg {w w' : World} {B : Nat} {oa : Option Addr} {oc : Nat} {vs : List Value} {O : List (List Kn)} {r : Option Nat} {T : TypeId} (h : OutW w B oa oc vs O) (hg : w.grownBy w' r) (ht : TypAt w r T) (h1 : T ≠ 35) (h2 : T ≠ 38) : OutW w' B oa oc vs O :=
  ⟨own_chg h.own hg ht (Ne.symm h1), fun i c hc => by obtain ⟨ai, ci, h3, h4⟩ := h.conts i c hc; exact ⟨ai, ci, h3, own_chg h4 hg ht (Ne.symm h2)⟩, h.apart⟩
theorem RowsW.below {w w' : World} {B pg pc : Nat} {rb : List (Nat × Nat)} {rows : List Rw} (h : RowsW w B pg pc rb rows) (hb : Below w.heap.size w w') : RowsW w' B pg pc rb rows :=
  ⟨own_below h.own hb, h.len, fun i r q h1 h2 => ⟨(h.rows i r q h1 h2).1, (h.rows i r q h1 h2).2.below hb⟩, h.apart⟩
theorem RowsW.chg {w w' : World} {B pg pc : Nat} {rb : List (Nat × Nat)} {rows : List Rw} {r : Option Nat} {T : TypeId} (h : RowsW w B pg pc rb rows) (hg : w.grownBy w' r) (ht : TypAt w r T) (h1 : T ≠ 72) (h2 : T ≠ 74) (h3 : T ≠ 63) : RowsW w' B pg pc rb rows :=
  ⟨own_chg h.own hg ht (Ne.symm h1), h.len, fun i r q h4 h5 => ⟨(h.rows i r q h4 h5).1, (h.rows i r q h4 h5).2.chg hg ht h2 h3⟩, h.apart⟩

theorem Mach.below {w w' : World} {B M F : Nat} {L : Lay} {s : MS} (h : Mach w B M F L s) (hb : Below w.heap.size w w') : Mach w' B M F L s :=
  ⟨blk_below h.mem hb, h.mB, h.out.below hb, h.rows.below hb, own_below h.stack hb⟩

theorem Mach.typ {w : World} {B M F : Nat} {L : Lay} {s : MS} (h : Mach w B M F L s) : TypAt w (some M) 59 := typ_blk h.mem

/-- A cell of the machine is written that says nothing of where its parts lie. -/
theorem Mach.mset {w : World} {B M F : Nat} {L : Lay} {s : MS} (h : Mach w B M F L s) (j : Nat) (v : Value) (s' : MS) (hc : (mcells F L s).setIfInBounds j v = mcells F L s') (ho : s'.out = s.out) (hr : s'.rows = s.rows) (hs : s'.stack = s.stack) :
    Mach (w.setCell ⟨M, j, none⟩ v) B M F L s' := by
  have hg := grown_set w M j v
  refine ⟨by rw [blk_set h.mem, hc], h.mB, ?_, ?_, ?_⟩
  · rw [ho]; exact h.out.chg hg h.typ (by decide) (by decide)
  · rw [hr]; exact h.rows.chg hg h.typ (by decide) (by decide) (by decide)
  · rw [hs]; exact own_chg h.stack hg h.typ (by decide)

theorem Mach.setFault {w : World} {B M F : Nat} {L : Lay} {s : MS} (h : Mach w B M F L s) (e : Int) : Mach (w.setCell ⟨M, 4, none⟩ (.int .i64 e)) B M F L { s with fault := e } := h.mset 4 _ _ rfl rfl rfl rfl
theorem Mach.setX {w : World} {B M F : Nat} {L : Lay} {s : MS} (h : Mach w B M F L s) (e : Int) : Mach (w.setCell ⟨M, 2, none⟩ (.int .i64 e)) B M F L { s with x := e } := h.mset 2 _ _ rfl rfl rfl rfl
theorem Mach.setY {w : World} {B M F : Nat} {L : Lay} {s : MS} (h : Mach w B M F L s) (e : Int) : Mach (w.setCell ⟨M, 3, none⟩ (.int .i64 e)) B M F L { s with y := e } := h.mset 3 _ _ rfl rfl rfl rfl
theorem Mach.setKnots {w : World} {B M F : Nat} {L : Lay} {s : MS} (h : Mach w B M F L s) (n : Nat) : Mach (w.setCell ⟨M, 1, none⟩ (.int .i64 (n : Int))) B M F L { s with knots := n } := h.mset 1 _ _ rfl rfl rfl rfl
theorem Mach.setFuel {w : World} {B M F : Nat} {L : Lay} {s : MS} (h : Mach w B M F L s) (n : Nat) : Mach (w.setCell ⟨M, 8, none⟩ (.int .i64 (n : Int))) B M F L { s with fuel := n } := h.mset 8 _ _ rfl rfl rfl rfl
theorem Mach.setStems {w : World} {B M F : Nat} {L : Lay} {s : MS} (h : Mach w B M F L s) (n : Nat) : Mach (w.setCell ⟨M, 9, none⟩ (.int .i64 (n : Int))) B M F L { s with stems := n } := h.mset 9 _ _ rfl rfl rfl rfl
theorem Mach.setWidth {w : World} {B M F : Nat} {L : Lay} {s : MS} (h : Mach w B M F L s) (e : Int) : Mach (w.setCell ⟨M, 10, none⟩ (.int .i64 e)) B M F L { s with width := e } := h.mset 10 _ _ rfl rfl rfl rfl
theorem Mach.setAsked {w : World} {B M F : Nat} {L : Lay} {s : MS} (h : Mach w B M F L s) (b : Bool) : Mach (w.setCell ⟨M, 11, none⟩ (.bool b)) B M F L { s with asked := b } := h.mset 11 _ _ rfl rfl rfl rfl
theorem Mach.setEnded {w : World} {B M F : Nat} {L : Lay} {s : MS} (h : Mach w B M F L s) (b : Bool) : Mach (w.setCell ⟨M, 12, none⟩ (.bool b)) B M F L { s with ended := b } := h.mset 12 _ _ rfl rfl rfl rfl

theorem Mach.c {w : World} {B M F : Nat} {L : Lay} {s : MS} (h : Mach w B M F L s) (i : Nat) (v : Value) (hv : (mcells F L s)[i]? = some v) : w.cell? ⟨M, i, none⟩ = some v := blk_cell h.mem i v hv
theorem Mach.c0 {w : World} {B M F : Nat} {L : Lay} {s : MS} (h : Mach w B M F L s) : w.cell? ⟨M, 0, none⟩ = some (.slice L.oa s.out.length L.oc) := h.c 0 _ rfl
theorem Mach.c1 {w : World} {B M F : Nat} {L : Lay} {s : MS} (h : Mach w B M F L s) : w.cell? ⟨M, 1, none⟩ = some (.int .i64 (s.knots : Int)) := h.c 1 _ rfl
theorem Mach.c2 {w : World} {B M F : Nat} {L : Lay} {s : MS} (h : Mach w B M F L s) : w.cell? ⟨M, 2, none⟩ = some (.int .i64 s.x) := h.c 2 _ rfl
theorem Mach.c3 {w : World} {B M F : Nat} {L : Lay} {s : MS} (h : Mach w B M F L s) : w.cell? ⟨M, 3, none⟩ = some (.int .i64 s.y) := h.c 3 _ rfl
theorem Mach.c4 {w : World} {B M F : Nat} {L : Lay} {s : MS} (h : Mach w B M F L s) : w.cell? ⟨M, 4, none⟩ = some (.int .i64 s.fault) := h.c 4 _ rfl
theorem Mach.c5 {w : World} {B M F : Nat} {L : Lay} {s : MS} (h : Mach w B M F L s) : w.cell? ⟨M, 5, none⟩ = some (.pointer (some ⟨F, 0, none⟩)) := h.c 5 _ rfl
theorem Mach.c6 {w : World} {B M F : Nat} {L : Lay} {s : MS} (h : Mach w B M F L s) : w.cell? ⟨M, 6, none⟩ = some (.slice (some ⟨L.pg, 0, none⟩) s.rows.length L.pc) := h.c 6 _ rfl
theorem Mach.c7 {w : World} {B M F : Nat} {L : Lay} {s : MS} (h : Mach w B M F L s) : w.cell? ⟨M, 7, none⟩ = some (.slice L.sa s.stack.length L.sc) := h.c 7 _ rfl
theorem Mach.c8 {w : World} {B M F : Nat} {L : Lay} {s : MS} (h : Mach w B M F L s) : w.cell? ⟨M, 8, none⟩ = some (.int .i64 (s.fuel : Int)) := h.c 8 _ rfl
theorem Mach.c9 {w : World} {B M F : Nat} {L : Lay} {s : MS} (h : Mach w B M F L s) : w.cell? ⟨M, 9, none⟩ = some (.int .i64 (s.stems : Int)) := h.c 9 _ rfl
theorem Mach.c10 {w : World} {B M F : Nat} {L : Lay} {s : MS} (h : Mach w B M F L s) : w.cell? ⟨M, 10, none⟩ = some (.int .i64 s.width) := h.c 10 _ rfl
theorem Mach.c11 {w : World} {B M F : Nat} {L : Lay} {s : MS} (h : Mach w B M F L s) : w.cell? ⟨M, 11, none⟩ = some (.bool s.asked) := h.c 11 _ rfl
theorem Mach.c12 {w : World} {B M F : Nat} {L : Lay} {s : MS} (h : Mach w B M F L s) : w.cell? ⟨M, 12, none⟩ = some (.bool s.ended) := h.c 12 _ rfl
theorem Mach.f {w : World} {B M F : Nat} {L : Lay} {s : MS} (h : Mach w B M F L s) (i : Nat) : w.frozen? ⟨M, i, none⟩ = false := blk_free h.mem i

/-- The stack cut short. -/
theorem Mach.cutStack {w : World} {B M F : Nat} {L : Lay} {s : MS} (h : Mach w B M F L s) (n : Nat) (hn : n ≤ s.stack.length) : Mach (w.setCell ⟨M, 7, none⟩ (.slice L.sa n L.sc)) B M F L { s with stack := s.stack.take n } := by
  have hg := grown_set w M 7 (.slice L.sa n L.sc)
  have hl : (s.stack.take n).length = n := by rw [List.length_take]; omega
  refine ⟨?_, h.mB, h.out.chg hg h.typ (by decide) (by decide), h.rows.chg hg h.typ (by decide) (by decide) (by decide), ?_⟩
  · rw [blk_set h.mem]
    simp [mcells, hl]
  · have h1 := own_chg h.stack hg h.typ (by decide)
    show (w.setCell ⟨M, 7, none⟩ (.slice L.sa n L.sc)).ownsRow B 3 1 (.slice L.sa (s.stack.take n).length L.sc) (s.stack.take n).length ((s.stack.take n).map (Value.int .i64))
    rw [hl]
    have h3 := own_cutA h1 n hn
    rw [Nat.mul_one, ← List.map_take] at h3
    exact h3

/-- append to the stack. -/
theorem Mach.pushed {w w' : World} {B M F : Nat} {L : Lay} {s : MS} {g c : Nat} {n : Int} (h : Mach w B M F L s) (ho : w'.ownsRow B 3 1 (.slice (some ⟨g, 0, none⟩) (s.stack.length + 1) c) (s.stack.length + 1) (s.stack.map (Value.int .i64) ++ [.int .i64 n]))
    (hg : w.grownBy w' (Value.slice L.sa s.stack.length L.sc).ownBlock) : Mach (w'.setCell ⟨M, 7, none⟩ (.slice (some ⟨g, 0, none⟩) (s.stack.length + 1) c)) B M F { L with sa := some ⟨g, 0, none⟩, sc := c } { s with stack := s.stack ++ [n] } := by
  have ht := typ_own h.stack
  have hm := blk_chg h.mem hg ht (by decide)
  have hg2 := grown_set w' M 7 (.slice (some ⟨g, 0, none⟩) (s.stack.length + 1) c)
  have ht2 := typ_blk hm
  refine ⟨?_, h.mB, (h.out.chg hg ht (by decide) (by decide)).chg hg2 ht2 (by decide) (by decide), (h.rows.chg hg ht (by decide) (by decide) (by decide)).chg hg2 ht2 (by decide) (by decide) (by decide), ?_⟩
  · rw [blk_set hm]
    simp [mcells]
  · have := own_chg ho hg2 ht2 (by decide)
    show (w'.setCell ⟨M, 7, none⟩ (.slice (some ⟨g, 0, none⟩) (s.stack.length + 1) c)).ownsRow B 3 1 (.slice (some ⟨g, 0, none⟩) (s.stack ++ [n]).length c) (s.stack ++ [n]).length ((s.stack ++ [n]).map (Value.int .i64))
    rw [List.length_append, List.map_append]
    exact this

/-- The row that is gone through has moved. -/
theorem Mach.rowed {w w' : World} {B M F R V : Nat} {L : Lay} {s : MS} {r r' : Rw} {rest : List Rw} {rb : List (Nat × Nat)} (h : Mach w B M F L s) (hr : s.rows = r :: rest) (hb : L.rb = (R, V) :: rb) (hw : RowAt w' R V r') (hg : w.grownBy w' (some R)) :
    Mach w' B M F L { s with rows := r' :: rest } := by
  have h0 := (h.rows.rows 0 r (R, V) (by rw [hr]; rfl) (by rw [hb]; rfl)).2
  have ht := h0.typ
  refine ⟨?_, h.mB, h.out.chg hg ht (by decide) (by decide), ⟨?_, ?_, ?_, h.rows.apart⟩, own_chg h.stack hg ht (by decide)⟩
  · rw [blk_chg h.mem hg ht (by decide)]
    simp [mcells, hr]
  · have := own_chg h.rows.own hg ht (by decide)
    rw [hr] at this
    exact this
  · have := h.rows.len
    rw [hr] at this
    exact this
  · intro i q p h1 h2
    cases i with
    | zero =>
      rw [hb] at h2
      simp at h1 h2
      subst h1; subst h2
      exact ⟨(h.rows.rows 0 r (R, V) (by rw [hr]; rfl) (by rw [hb]; rfl)).1, hw⟩
    | succ i =>
      have h3 := h.rows.rows (i + 1) q p (by rw [hr]; exact h1) h2
      refine ⟨h3.1, ?_⟩
      have hne : p.1 ≠ R := by
        intro e
        have := h.rows.apart
        rw [hb] at this h2
        simp at this h2
        exact this.1 p.2 (by rw [← e]; exact List.mem_of_getElem? h2)
      have hnv : p.2 ≠ R := by
        intro e
        have h4 := h3.2.text
        rw [e, h0.row] at h4
        exact absurd h4 (by simp)
      exact ⟨(hg.block _ (blk_lt h3.2.row) (fun e => hne (by cases e; rfl))).trans h3.2.row, (hg.block _ (blk_lt h3.2.text) (fun e => hnv (by cases e; rfl))).trans h3.2.text⟩

end Go.Proofs.Ytklenppldblbdaa
