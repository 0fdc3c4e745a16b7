/-
  Zones as they lie in memory: points, touches, ends; rows that are owned; append to any owned row. No function of the program.
-/
import Derived.Test.YtnoadceeenioeaaZk
import Derived.Test.YtnoadceeenioeaaFs
namespace Go.Proofs.Ytnoadceeenioeaa
open Go.RowKit Go.PlainAid
set_option linter.unusedSimpArgs false
set_option linter.unusedVariables false

/-- A point. -/
structure Sp where
  x : Int
  y : Int
def clS (p : Sp) : List Value := [.int .i64 p.x, .int .i64 p.y]
def clB (b : Bool) : List Value := [.bool b]
def clI (n : Int) : List Value := [.int .i64 n]
theorem clS_length (p : Sp) : (clS p).length = 2 := rfl
theorem clB_length (p : Bool) : (clB p).length = 1 := rfl
theorem clI_length (p : Int) : (clI p).length = 1 := rfl
theorem elS : ElT 27 38 2 16 := ⟨Try.underlying27, by decide, .agg #[.int .i64 0, .int .i64 0], by kernel_rfl, rfl⟩
theorem elB : ElT 28 4 1 1 := ⟨Try.underlying28, by decide, .bool false, by kernel_rfl, rfl⟩
theorem elI : ElT 29 3 1 8 := ⟨Try.underlying29, by decide, .int .i64 0, by kernel_rfl, rfl⟩
theorem oneS {L : List Sp} : ∀ u ∈ L.flatMap clS, u.oneCell' = true := by
  intro u hu
  obtain ⟨k, _, hk⟩ := List.mem_flatMap.1 hu
  simp [clS] at hk
  rcases hk with rfl | rfl <;> rfl
theorem oneB {L : List Bool} : ∀ u ∈ L.flatMap clB, u.oneCell' = true := by
  intro u hu
  obtain ⟨k, _, hk⟩ := List.mem_flatMap.1 hu
  simp [clB] at hk
  subst hk; rfl
theorem oneI {L : List Int} : ∀ u ∈ L.flatMap clI, u.oneCell' = true := by
  intro u hu
  obtain ⟨k, _, hk⟩ := List.mem_flatMap.1 hu
  simp [clI] at hk
  subst hk; rfl

theorem IsR.spot {w : World} {a : Option Addr} {L : List Sp} (h : IsR clS w a L) {i : Nat} {p : Sp} (hp : L[i]? = some p) : ∃ b off, a = some ⟨b, off, none⟩ ∧ w.cell? ⟨b, off + i * 2, none⟩ = some (.int .i64 p.x) ∧ w.cell? ⟨b, off + i * 2 + 1, none⟩ = some (.int .i64 p.y) := by
  rcases h with h | ⟨b, off, h1, h2⟩
  · subst h; simp at hp
  · refine ⟨b, off, h1, ?_, ?_⟩
    · have := h2 (i * 2 + 0) _ (flat_at clS_length L i p hp 0 (by decide)); simpa using this
    · have := h2 (i * 2 + 1) _ (flat_at clS_length L i p hp 1 (by decide)); simpa [Nat.add_assoc] using this
theorem IsR.flag {w : World} {a : Option Addr} {L : List Bool} (h : IsR clB w a L) {i : Nat} {p : Bool} (hp : L[i]? = some p) : ∃ b off, a = some ⟨b, off, none⟩ ∧ w.cell? ⟨b, off + i, none⟩ = some (.bool p) := by
  rcases h with h | ⟨b, off, h1, h2⟩
  · subst h; simp at hp
  · refine ⟨b, off, h1, ?_⟩
    have := h2 (i * 1 + 0) _ (flat_at clB_length L i p hp 0 (by decide)); simpa using this
theorem IsR.num {w : World} {a : Option Addr} {L : List Int} (h : IsR clI w a L) {i : Nat} {p : Int} (hp : L[i]? = some p) : ∃ b off, a = some ⟨b, off, none⟩ ∧ w.cell? ⟨b, off + i, none⟩ = some (.int .i64 p) := by
  rcases h with h | ⟨b, off, h1, h2⟩
  · subst h; simp at hp
  · refine ⟨b, off, h1, ?_⟩
    have := h2 (i * 1 + 0) _ (flat_at clI_length L i p hp 0 (by decide)); simpa using this

/-- append of a row that is read to any owned row, none too. -/
theorem app_R {t e : TypeId} {s by' : Nat} (H : ElT t e s by') (w : World) (base : Nat) (ty : TypeId) (a0 : Option Addr) (n c : Nat) (xs : List Value) (a : Option Addr) (m cap : Nat) (news : List Value)
    (hown : w.ownsRow base e s (.slice a0 n c) n xs) (hl : news.length = m * s) (hsrc : m = 0 ∨ ∃ b off, a = some ⟨b, off, none⟩ ∧ Lies w b off news) (h1 : ∀ u ∈ news, u.oneCell' = true)
    (hb : (n + m) * by' ≤ 140737488355328) (hm : n + m ≤ 140737488355328) (hbase : base ≤ w.heap.size) :
    ∃ a' c' w', (Builtin.append_ #[t, t] ty #[.slice a0 n c, .slice a m cap]).run Try.prog w = .ok (.slice a' (n + m) c') w' ∧
      w'.ownsRow base e s (.slice a' (n + m) c') (n + m) (xs ++ news) ∧ w.grownBy w' (Value.slice a0 n c).ownBlock ∧ (a' = a0 ∨ a' = some ⟨w.heap.size, 0, none⟩) := by
  obtain ⟨ht, hs0, z, hz, hzs⟩ := H
  obtain ⟨i0, hi, hz0, hz1, hz2⟩ := info_parts hz
  by_cases h0 : m = 0
  · subst h0
    have hn0 : news = [] := List.eq_nil_of_length_eq_zero (by omega)
    subst hn0
    have hnc : n ≤ c := by
      rcases hown.2 with ⟨hv, h3⟩ | ⟨g', cap', cur, hv, hb, hg, hnc, _⟩
      · omega
      · cases hv; exact hnc
    refine ⟨a0, c, w, ?_, by simpa using hown, ⟨rfl, rfl, rfl, Nat.le_refl _, fun _ _ _ => rfl⟩, .inl rfl⟩
    rcases hown.2 with ⟨hv, h3⟩ | ⟨g', cap', cur, hv, hb, hg, hnc, _⟩
    · cases hv
      cases a <;> simp [Builtin.append_, run_underlying ht, sizeOf, typeInfo, hi, Builtin.lenOf, Builtin.firstCells, loadCells, loadCellsFrom, storeCells]
    · cases hv
      cases a <;> simp [Builtin.append_, run_underlying ht, sizeOf, typeInfo, hi, Builtin.lenOf, Builtin.firstCells, loadCells, loadCellsFrom, storeCells, hnc]
  · rcases hsrc with hsrc | ⟨b, off, rfl, hlies⟩
    · exact absurd hsrc h0
    obtain ⟨g', c', w', hr, ho, hg, hat, hlt⟩ := run_append_lies (P := Try.prog) w t ty base e i0 z s by' ht hi hz0 hz1 hz2 hzs hs0 _ n xs hown ⟨b, off, none⟩ m cap news hl
      (fun j u hj => by rw [Addr.add_lit]; exact hlies j u hj) h1 (by omega) (by unfold maxLen; omega) hb hbase w.heap.size rfl
    refine ⟨some ⟨g', 0, none⟩, c', w', hr, ho, hg, ?_⟩
    rcases hat with h | h
    · left
      rcases hown.2 with ⟨hv, h3⟩ | ⟨g2, cap', cur, hv, hb, hg, hnc, _⟩
      · rw [hv] at h; cases h
      · cases hv
        have : g2 = g' := by simpa [Value.ownBlock] using h
        rw [this]
    · right; rw [h]

theorem wpList_appR {t e : TypeId} {s by' : Nat} (H : ElT t e s by') {ops : Array Oper} {rest : List Oper} {o : Oper} {f : Act} {Q : Exit → Act → World → Prop} (hgd : o.guard = none) (sl x : Operand)
    (ho : o.op = .call { callee := .builtin .append, args := #[sl, x], argTypes := #[t, t] })
    (w : World) (base : Nat) (a0 : Option Addr) (n c : Nat) (xs : List Value) (a : Option Addr) (m cap : Nat) (news : List Value) (hs : f.eval sl = .slice a0 n c) (hx : f.eval x = .slice a m cap)
    (hown : w.ownsRow base e s (.slice a0 n c) n xs) (hl : news.length = m * s) (hsrc : m = 0 ∨ ∃ b off, a = some ⟨b, off, none⟩ ∧ Lies w b off news) (h1 : ∀ u ∈ news, u.oneCell' = true)
    (hb : (n + m) * by' ≤ 140737488355328) (hm : n + m ≤ 140737488355328) (hbase : base ≤ w.heap.size)
    (h : ∀ a' c' w', w'.ownsRow base e s (.slice a' (n + m) c') (n + m) (xs ++ news) → w.grownBy w' (Value.slice a0 n c).ownBlock → (a' = a0 ∨ a' = some ⟨w.heap.size, 0, none⟩) → wpList Try.prog ops Q rest (f.put o.dst (.slice a' (n + m) c')) w') :
    wpList Try.prog ops Q (o :: rest) f w :=
  wpList_plain hgd fun _ hK => by
    obtain ⟨a', c', w', hr, h2, h3, h4⟩ := app_R H w base o.type a0 n c xs a m cap news hown hl hsrc h1 hb hm hbase
    unfold Oper.wp execOp
    simp only [ho, resolve, invoke, builtin, Sem.run_bind, Sem.run_pure, Result.andThen_ok, List.map_toArray, List.map_cons, List.map_nil, hs, hx, hr]
    exact hK _ _ (h a' c' w' h2 h3 h4)

/-- The row that is none is owned. -/
theorem own_nil {w : World} {B : Nat} {e : TypeId} {s : Nat} : w.ownsRow B e s (.slice none 0 0) 0 [] := ⟨by simp, .inl ⟨rfl, rfl⟩⟩

/-- No two of these share a block. -/
def Apart (a b : Option Addr) : Prop := ∀ x y : Addr, a = some x → b = some y → x.block ≠ y.block
theorem Apart.symm {a b : Option Addr} (h : Apart a b) : Apart b a := fun x y hx hy e => h y x hy hx e.symm
theorem apart_none (a : Option Addr) : Apart none a := fun x y hx _ => by cases hx
theorem own_lt {w : World} {B : Nat} {e : TypeId} {s n m c : Nat} {a : Option Addr} {xs : List Value} (h : w.ownsRow B e s (.slice a m c) n xs) : ∀ x, a = some x → B ≤ x.block ∧ x.block < w.heap.size := by
  intro x hx
  subst hx
  rcases h.2 with ⟨hv, h3⟩ | ⟨g2, cap', cur, hv, hb, hg, hnc, _⟩
  · cases hv
  · cases hv
    exact ⟨hb, (Array.getElem?_eq_some_iff.1 hg).1⟩
/-- Owned later, further on. -/
theorem apart_late {w w' : World} {B : Nat} {e e' : TypeId} {s s' n m n' m' c c' : Nat} {a b : Option Addr} {xs ys : List Value} (h : w.ownsRow B e s (.slice a m c) n xs) (k : w'.ownsRow w.heap.size e' s' (.slice b m' c') n' ys) : Apart a b :=
  fun x y hx hy e => by have := (own_lt h x hx).2; have := (own_lt k y hy).1; omega
theorem own_type {w : World} {B : Nat} {e : TypeId} {s n m c : Nat} {a : Option Addr} {xs : List Value} (h : w.ownsRow B e s (.slice a m c) n xs) : ∀ x, a = some x → ∃ cs fr, w.heap[x.block]? = some (.cells cs e fr) := by
  intro x hx
  subst hx
  rcases h.2 with ⟨hv, h3⟩ | ⟨g2, cap', cur, hv, hb, hg, hnc, _⟩
  · cases hv
  · cases hv
    exact ⟨_, _, hg⟩
theorem apart_type {w : World} {B B' : Nat} {e e' : TypeId} (hne : e ≠ e') {s s' n m n' m' c c' : Nat} {a b : Option Addr} {xs ys : List Value} (h : w.ownsRow B e s (.slice a m c) n xs) (k : w.ownsRow B' e' s' (.slice b m' c') n' ys) : Apart a b := by
  intro x y hx hy ee
  obtain ⟨cs, fr, h1⟩ := own_type h x hx
  obtain ⟨ds, fs, h2⟩ := own_type k y hy
  rw [ee, h2] at h1
  cases h1
  exact hne rfl
theorem own_apart {w w' : World} {B : Nat} {e : TypeId} {s n m c : Nat} {a : Option Addr} {xs : List Value} {r : Option Nat} (h : w.ownsRow B e s (.slice a n c) n xs) (hg : w.grownBy w' r) (hr : ∀ x, a = some x → r ≠ some x.block) : w'.ownsRow B e s (.slice a n c) n xs :=
  own_keep h fun g hgg => by
    cases a with
    | none => simp [Value.ownBlock] at hgg
    | some x =>
      have : x.block = g := by simpa [Value.ownBlock] using hgg
      subst this
      exact hg.block _ (own_lt h x rfl).2 (Ne.symm (hr x rfl))
theorem own_base {w : World} {B B' : Nat} {e : TypeId} {s n : Nat} {v : Value} {xs : List Value} (h : w.ownsRow B e s v n xs) (hB : B' ≤ B) : w.ownsRow B' e s v n xs := by
  refine ⟨h.1, ?_⟩
  rcases h.2 with hn | ⟨g, cap, cur, hv, hb, rest⟩
  · exact .inl hn
  · exact .inr ⟨g, cap, cur, hv, Nat.le_trans hB hb, rest⟩
/-- What grew lies above. -/
theorem bel_grownA {B : Nat} {w a b : World} {v : Option Addr} {n m c : Nat} {e : TypeId} {s : Nat} {xs : List Value} (h : Below B w a) (ho : a.ownsRow B e s (.slice v n c) m xs) (k : a.grownBy b (Value.slice v n c).ownBlock) (hB : B ≤ a.heap.size) : Below B w b :=
  ⟨k.os.trans h.os, k.tape.trans h.tape, k.output.trans h.output, Nat.le_trans h.size k.size, fun i hi => (k.block i (by omega) (fun ee => by
    cases v with
    | none => simp [Value.ownBlock] at ee
    | some x =>
      have : i = x.block := by simpa [Value.ownBlock] using ee
      have := (own_lt ho x rfl).1
      omega)).trans (h.block i hi)⟩

/-- A zone. -/
structure Zn where
  org : List Sp
  cur : List Sp
  tx : List Bool
  ty : List Bool
  ends : List Int
/-- The zone of nothing. -/
def zn0 : Zn := ⟨[], [], [], [], []⟩

/-- A zone is read so. -/
structure ZIn (w : World) (Z : Zn) (a0 a1 a2 a3 a4 : Option Addr) : Prop where
  r0 : IsR clS w a0 Z.org
  r1 : IsR clS w a1 Z.cur
  r2 : IsR clB w a2 Z.tx
  r3 : IsR clB w a3 Z.ty
  r4 : IsR clI w a4 Z.ends
theorem ZIn.below {w w' : World} {Z : Zn} {a0 a1 a2 a3 a4 : Option Addr} (h : ZIn w Z a0 a1 a2 a3 a4) (hb : Below w.heap.size w w') : ZIn w' Z a0 a1 a2 a3 a4 :=
  ⟨h.r0.below hb, h.r1.below hb, h.r2.below hb, h.r3.below hb, h.r4.below hb⟩

/-- A zone's value. -/
def zv (Z : Zn) (a0 a1 a2 a3 a4 : Option Addr) (c0 c1 c2 c3 c4 : Nat) : Value := .agg #[.slice a0 Z.org.length c0, .slice a1 Z.cur.length c1, .slice a2 Z.tx.length c2, .slice a3 Z.ty.length c3, .slice a4 Z.ends.length c4]

/-- A zone in rows of its own, from B on. -/
structure ZOwn (w : World) (B : Nat) (Z : Zn) (a0 a1 a2 a3 a4 : Option Addr) (c0 c1 c2 c3 c4 : Nat) : Prop where
  o0 : w.ownsRow B 38 2 (.slice a0 Z.org.length c0) Z.org.length (Z.org.flatMap clS)
  o1 : w.ownsRow B 38 2 (.slice a1 Z.cur.length c1) Z.cur.length (Z.cur.flatMap clS)
  o2 : w.ownsRow B 4 1 (.slice a2 Z.tx.length c2) Z.tx.length (Z.tx.flatMap clB)
  o3 : w.ownsRow B 4 1 (.slice a3 Z.ty.length c3) Z.ty.length (Z.ty.flatMap clB)
  o4 : w.ownsRow B 3 1 (.slice a4 Z.ends.length c4) Z.ends.length (Z.ends.flatMap clI)
  h01 : Apart a0 a1
  h23 : Apart a2 a3
theorem ZOwn.below {w w' : World} {B : Nat} {Z : Zn} {a0 a1 a2 a3 a4 : Option Addr} {c0 c1 c2 c3 c4 : Nat} (h : ZOwn w B Z a0 a1 a2 a3 a4 c0 c1 c2 c3 c4) (hb : Below w.heap.size w w') : ZOwn w' B Z a0 a1 a2 a3 a4 c0 c1 c2 c3 c4 :=
  ⟨own_below h.o0 hb, own_below h.o1 hb, own_below h.o2 hb, own_below h.o3 hb, own_below h.o4 hb, h.h01, h.h23⟩
theorem ZOwn.base {w : World} {B B' : Nat} {Z : Zn} {a0 a1 a2 a3 a4 : Option Addr} {c0 c1 c2 c3 c4 : Nat} (h : ZOwn w B Z a0 a1 a2 a3 a4 c0 c1 c2 c3 c4) (hB : B' ≤ B) : ZOwn w B' Z a0 a1 a2 a3 a4 c0 c1 c2 c3 c4 :=
  ⟨own_base h.o0 hB, own_base h.o1 hB, own_base h.o2 hB, own_base h.o3 hB, own_base h.o4 hB, h.h01, h.h23⟩
theorem ZOwn.isIn {w : World} {B : Nat} {Z : Zn} {a0 a1 a2 a3 a4 : Option Addr} {c0 c1 c2 c3 c4 : Nat} (h : ZOwn w B Z a0 a1 a2 a3 a4 c0 c1 c2 c3 c4) : ZIn w Z a0 a1 a2 a3 a4 :=
  ⟨own_isR rfl h.o0, own_isR rfl h.o1, own_isR rfl h.o2, own_isR rfl h.o3, own_isR rfl h.o4⟩
theorem zown0 (w : World) (B : Nat) : ZOwn w B zn0 none none none none none 0 0 0 0 0 :=
  ⟨own_nil, own_nil, own_nil, own_nil, own_nil, apart_none _, apart_none _⟩

/-- No longer than memory bears. -/
structure ZLong (Z : Zn) : Prop where
  l0 : Z.org.length * 16 ≤ 140737488355328
  l1 : Z.cur.length * 16 ≤ 140737488355328
  l2 : Z.tx.length ≤ 140737488355328
  l3 : Z.ty.length ≤ 140737488355328
  l4 : Z.ends.length * 8 ≤ 140737488355328

end Go.Proofs.Ytnoadceeenioeaa
