/-
  A variable of three cells that is written; the document's font while it is opened; how the document's Open ends.
-/
import Derived.Test.YtbcjicmledckbaaRefR
import Derived.Deep.QuietTactic
import Derived.BigQuiet
import Derived.Laws.Cover1
namespace Go.Proofs.Ytbcjicmledckbaa
open Go.RowKit Go.PlainAid
set_option linter.unusedSimpArgs false
set_option linter.unusedVariables false

/-- A variable of three cells that may be written. -/
structure Trip (w : World) (g : Nat) (u0 u1 u2 : Value) : Prop where
  c0 : w.cell? ⟨g, 0, none⟩ = some u0
  c1 : w.cell? ⟨g, 1, none⟩ = some u1
  c2 : w.cell? ⟨g, 2, none⟩ = some u2
  f0 : w.frozen? ⟨g, 0, none⟩ = false
  f1 : w.frozen? ⟨g, 1, none⟩ = false
  f2 : w.frozen? ⟨g, 2, none⟩ = false
theorem Trip.lt {w : World} {g : Nat} {u0 u1 u2 : Value} (h : Trip w g u0 u1 u2) : g < w.heap.size := World.block_lt_of_cell? w _ h.c0
theorem Trip.heap {w w' : World} {g : Nat} {u0 u1 u2 : Value} (h : Trip w g u0 u1 u2) (hk : w'.heap[g]? = w.heap[g]?) : Trip w' g u0 u1 u2 :=
  ⟨by rw [World.cell?_of_block hk]; exact h.c0, by rw [World.cell?_of_block hk]; exact h.c1, by rw [World.cell?_of_block hk]; exact h.c2, by rw [World.frozen?_of_block hk]; exact h.f0, by rw [World.frozen?_of_block hk]; exact h.f1, by rw [World.frozen?_of_block hk]; exact h.f2⟩
theorem Trip.below {w w' : World} {g : Nat} {u0 u1 u2 : Value} (h : Trip w g u0 u1 u2) (hb : Below w.heap.size w w') : Trip w' g u0 u1 u2 := h.heap (hb.block g h.lt)
theorem Trip.other {w : World} {g : Nat} {u0 u1 u2 : Value} (h : Trip w g u0 u1 u2) (p : Addr) (u : Value) (hne : p.block ≠ g) : Trip (w.setCell p u) g u0 u1 u2 := h.heap (Below.heap_setCell _ _ _ _ (Ne.symm hne))
theorem Trip.set0 {w : World} {g : Nat} {u0 u1 u2 : Value} (h : Trip w g u0 u1 u2) (u : Value) : Trip (w.setCell ⟨g, 0, none⟩ u) g u u1 u2 :=
  ⟨World.cell?_setCell_same _ _ _ h.c0, by rw [World.cell?_setCell_other _ _ _ _ (by simp)]; exact h.c1, by rw [World.cell?_setCell_other _ _ _ _ (by simp)]; exact h.c2, by simpa using h.f0, by simpa using h.f1, by simpa using h.f2⟩
theorem Trip.set1 {w : World} {g : Nat} {u0 u1 u2 : Value} (h : Trip w g u0 u1 u2) (u : Value) : Trip (w.setCell ⟨g, 1, none⟩ u) g u0 u u2 :=
  ⟨by rw [World.cell?_setCell_other _ _ _ _ (by simp)]; exact h.c0, World.cell?_setCell_same _ _ _ h.c1, by rw [World.cell?_setCell_other _ _ _ _ (by simp)]; exact h.c2, by simpa using h.f0, by simpa using h.f1, by simpa using h.f2⟩
theorem Trip.set2 {w : World} {g : Nat} {u0 u1 u2 : Value} (h : Trip w g u0 u1 u2) (u : Value) : Trip (w.setCell ⟨g, 2, none⟩ u) g u0 u1 u :=
  ⟨by rw [World.cell?_setCell_other _ _ _ _ (by simp)]; exact h.c0, by rw [World.cell?_setCell_other _ _ _ _ (by simp)]; exact h.c1, World.cell?_setCell_same _ _ _ h.c2, by simpa using h.f0, by simpa using h.f1, by simpa using h.f2⟩
theorem trip_put {w : World} {g : Nat} {u0 u1 u2 : Value} (h : Trip w g u0 u1 u2) (v0 v1 v2 : Value) : Trip (((w.setCell ⟨g, 0, none⟩ v0).setCell ⟨g, 1, none⟩ v1).setCell ⟨g, 2, none⟩ v2) g v0 v1 v2 ∧ ∀ B w0, B ≤ g → Below B w0 w → Below B w0 (((w.setCell ⟨g, 0, none⟩ v0).setCell ⟨g, 1, none⟩ v1).setCell ⟨g, 2, none⟩ v2) :=
  ⟨((h.set0 v0).set1 v1).set2 v2, fun B w0 hB hb => ((hb.setCell (p := ⟨g, 0, none⟩) hB v0).setCell (p := ⟨g, 1, none⟩) hB v1).setCell (p := ⟨g, 2, none⟩) hB v2⟩
theorem trip_alloc (w : World) (u0 u1 u2 : Value) (t : TypeId) : Trip (w.alloc (.cells #[u0, u1, u2] t)) w.heap.size u0 u1 u2 := by
  refine ⟨?_, ?_, ?_, ?_, ?_, ?_⟩ <;> simp [go_sem]

/-- The document's font while it is opened. -/
structure RO (w : World) (kd : Int) (rv : Value) (a : Option Addr) (len cap : Nat) (l : List Row) (wr : World) : Prop where
  bel : Below w.heap.size w wr
  r : Trip wr w.heap.size (.int .i64 0) (.slice none 0 0) (.slice none 0 0)
  f : Trip wr (w.heap.size + 1) (.int .i64 kd) rv (.slice a len cap)
  own : OwnT (w.heap.size + 1 + 1) wr rv l
theorem ownT_lt {B : Nat} {w : World} {v : Value} {l : List Row} (h : OwnT B w v l) {g : Nat} (hg : v.ownBlock = some g) : B ≤ g ∧ g < w.heap.size := by
  rcases h.2 with ⟨hn, _⟩ | ⟨g', cap, cur, hv, hb, hh, _⟩
  · rw [hn] at hg; cases hg
  · rw [hv] at hg; cases hg; exact ⟨hb, (Array.getElem?_eq_some_iff.1 hh).1⟩
theorem RO.below {w wr w' : World} {kd : Int} {rv : Value} {a : Option Addr} {len cap : Nat} {l : List Row} (h : RO w kd rv a len cap l wr) (hb : Below wr.heap.size wr w') : RO w kd rv a len cap l w' :=
  ⟨h.bel.trans (hb.mono h.bel.size), h.r.below hb, h.f.below hb, ownT_keep h.own (fun g _ hl => hb.block g hl)⟩

theorem RO.setK {w wr : World} {kd : Int} {rv : Value} {a : Option Addr} {len cap : Nat} {l : List Row} (h : RO w kd rv a len cap l wr) (k : Int) : RO w k rv a len cap l (wr.setCell ⟨w.heap.size + 1, 0, none⟩ (.int .i64 k)) :=
  ⟨h.bel.setCell (p := ⟨w.heap.size + 1, 0, none⟩) (by show w.heap.size ≤ w.heap.size + 1; omega) _, h.r.other _ _ (by show w.heap.size + 1 ≠ w.heap.size; omega), h.f.set0 _, ownT_keep h.own (fun g hg _ => Below.heap_setCell _ _ _ _ (by have := (ownT_lt h.own hg).1; show g ≠ w.heap.size + 1; omega))⟩

/-- How Open ends. -/
def ROpenPost (w : World) (a : Option Addr) (len cap : Nat) (s : ByteArray) (r : Int × Option (Int × List Row)) (e : Ending) (w' : World) : Prop :=
  match r with
  | (f, none) => e = .returned (.tuple #[.agg #[.int .i64 0, .slice none 0 0, .slice none 0 0], .int .i64 f]) ∧ Below w.heap.size w w'
  | (f, some (kd, l)) => ∃ rv, e = .returned (.tuple #[.agg #[.int .i64 kd, rv, .slice a len cap], .int .i64 f]) ∧ OwnT w.heap.size w' rv l ∧ Below w.heap.size w w'
theorem ropen_no {w w' : World} {a : Option Addr} {len cap : Nat} {s : ByteArray} {r : Int × Option (Int × List Row)} {f : Int} (h : r = (f, none)) (hb : Below w.heap.size w w') : ROpenPost w a len cap s r (.returned (.tuple #[.agg #[.int .i64 0, .slice none 0 0, .slice none 0 0], .int .i64 f])) w' := by subst h; exact ⟨rfl, hb⟩
theorem ropen_yes {w w' : World} {a : Option Addr} {len cap : Nat} {s : ByteArray} {r : Int × Option (Int × List Row)} {kd : Int} {l : List Row} {rv : Value} (h : r = (0, some (kd, l))) (ho : OwnT w.heap.size w' rv l) (hb : Below w.heap.size w w') : ROpenPost w a len cap s r (.returned (.tuple #[.agg #[.int .i64 kd, rv, .slice a len cap], .int .i64 0])) w' := by subst h; exact ⟨rv, rfl, ho, hb⟩

theorem rows_bad {s : ByteArray} {b : Int} {k n : Nat} {l : List Row} (h : rowsOf s b k = some l) (hk : k < n) (hr : rowOf s (b + 16 * k) = none) : rowsOf s b n = none := rowsOf_stop (by rw [rowsOf_next h, hr]) hk
theorem rowsOf_at {s : ByteArray} {b : Int} {k p : Nat} {l : List Row} {tg : ByteArray} {fg x8 f8 x12 f12 x4 f4 : Int} (h : rowsOf s b k = some l) (hp : b + 16 * (k : Int) = (p : Int)) (h16 : p + 16 ≤ s.size)
    (ht : tagOr s (p : Int) = (tg, fg)) (h8 : numOr s ((p : Int) + 8) 4 = (x8, f8)) (h12 : numOr s ((p : Int) + 12) 4 = (x12, f12)) (h4 : numOr s ((p : Int) + 4) 4 = (x4, f4)) :
    rowsOf s b (k + 1) = if hasB s x8 x12 = false then none else if x8 % 4 ≠ 0 then none else if (tg.toList == [104, 101, 97, 100]) = false ∧ sumB (s.extract x8.toNat (x8.toNat + x12.toNat)) ≠ x4 then none else if tagLe tg (lastTag l) = true then none else some (l ++ [⟨tg, x8, x12⟩]) := by
  rw [rowsOf_next h, hp, rowOf_file h16]
  have c8 : ((p + 8 : Nat) : Int) = (p : Int) + 8 := by omega
  have c12 : ((p + 12 : Nat) : Int) = (p : Int) + 12 := by omega
  have c4 : ((p + 4 : Nat) : Int) = (p : Int) + 4 := by omega
  rw [c8, c12, c4, ht, h8, h12, h4]
  simp only
  cases hasB s x8 x12
  · rfl
  · by_cases h1 : x8 % 4 = 0
    · cases h2 : (tg.toList == [104, 101, 97, 100])
      · by_cases h3 : sumB (s.extract x8.toNat (x8.toNat + x12.toNat)) = x4 <;> simp [h1, h2, h3]
      · simp [h1, h2]
    · simp [h1]
theorem tagOr_size {s t : ByteArray} {p f : Int} (h : tagOr s p = (t, f)) (hh : hasB s p 4 = true) : t.size = 4 := by
  unfold tagOr at h
  rw [if_pos hh] at h
  simp only [Prod.mk.injEq] at h
  rw [← h.1, ByteArray.size_extract]
  unfold hasB at hh
  simp at hh
  omega
theorem hasB_16 {s : ByteArray} {p : Nat} (h : p + 16 ≤ s.size) : hasB s (p : Int) 4 = true := by unfold hasB; simp; omega
theorem tagLe_first {t : ByteArray} (h : t.size = 4) : tagLe t (lastTag []) = false := by
  have h1 : t.toList.length = 4 := by rw [ByteArray.toList_eq, ← h]; rfl
  have h2 : (lastTag []).toList = [] := by rw [ByteArray.toList_eq]; rfl
  unfold tagLe
  rw [h2]
  match h3 : t.toList, h1 with
  | x :: q, _ => simp [Op.bytesLess]
theorem tagLe_less {a b : ByteArray} : tagLe b a = !(Op.bytesLess a.toList b.toList) := by
  unfold tagLe
  rw [less_total b.toList a.toList]
  simp
theorem rowCells_last (l : List Row) (r : Row) : (rowCells (l ++ [r]))[3 * l.length]? = some (.string r.tag) := by
  have h := (rowCells_at (l ++ [r]) l.length r (by simp)).1
  rw [Nat.mul_comm] at h
  exact h
theorem ownT_last {B : Nat} {w : World} {v : Value} {l : List Row} {j : Nat} (h : OwnT B w v l) (hl : l.length = j + 1) : ∃ g c, v = .slice (some ⟨g, 0, none⟩) (j + 1) c ∧ w.cell? ⟨g, 3 * j, none⟩ = some (.string (lastTag l)) := by
  rcases h.2 with ⟨_, hn⟩ | ⟨g, c, cur, hv, rest⟩
  · omega
  · refine ⟨g, c, by rw [hv, hl], ?_⟩
    obtain ⟨l0, r, rfl⟩ : ∃ l0 r, l = l0 ++ [r] := by
      rcases List.eq_nil_or_concat l with h0 | ⟨l0, r, h0⟩
      · rw [h0] at hl; simp at hl
      · exact ⟨l0, r, by rw [h0, List.concat_eq_append]⟩
    have h2 : l0.length = j := by simp at hl; omega
    rw [lastTag_snoc]
    subst hv
    have := rowCells_last l0 r
    rw [h2] at this
    exact (owns_cell h this).1

end Go.Proofs.Ytbcjicmledckbaa
