/-
  Rows of numbers that fill a block of any type; what the functions answer that find a span: cmp.Compare, the closure that compares, BinarySearchFunc, spanOf.
-/
import Derived.Test.YtfbgddigedgpfaaDoorPk
import Derived.Laws.EntriesVeiled
import Derived.Deep.QuietTactic
import Derived.BigQuiet
namespace Go.Proofs.YtfbgddigedgpfaaDoor
open Go.RowKit Go.PlainAid
set_option linter.unusedSimpArgs false
set_option linter.unusedVariables false

theorem bel_drewN {B : Nat} {a w : World} (h : Below B a w) (n : Nat) : Below B a (w.drewN n) := ⟨h.os, h.tape, h.output, h.size, h.block⟩
/-- The block holds these numbers and nothing else, and may be written. -/
def FlatAt (w : World) (g : Nat) (T : TypeId) (L : List Int) : Prop := w.heap[g]? = some (.cells (L.map (Value.int .i64)).toArray T (0, 0))
theorem FlatAt.lt {w : World} {g : Nat} {T : TypeId} {L : List Int} (h : FlatAt w g T L) : g < w.heap.size := (Array.getElem?_eq_some_iff.1 h).1
theorem FlatAt.cell {w : World} {g : Nat} {T : TypeId} {L : List Int} (h : FlatAt w g T L) {i : Nat} (hi : i < L.length) : w.cell? ⟨g, i, none⟩ = some (.int .i64 (L.getD i 0)) := by
  have h' : w.heap[g]? = _ := h
  simp [World.cell?, World.cells?, h', hi, List.getD]
theorem FlatAt.frozen {w : World} {g : Nat} {T : TypeId} {L : List Int} (h : FlatAt w g T L) (i : Nat) : w.frozen? ⟨g, i, none⟩ = false := by
  have h' : w.heap[g]? = _ := h
  simp [World.frozen?, h']
theorem FlatAt.kept {w w' : World} {g B : Nat} {T : TypeId} {L : List Int} (h : FlatAt w g T L) (hb : Below B w w') (hB : g < B) : FlatAt w' g T L := by
  unfold FlatAt; rw [hb.block g hB]; exact h
theorem FlatAt.below {w w' : World} {g : Nat} {T : TypeId} {L : List Int} (h : FlatAt w g T L) (hb : Below w.heap.size w w') : FlatAt w' g T L := h.kept hb h.lt
theorem FlatAt.set {w : World} {g : Nat} {T : TypeId} {L : List Int} (h : FlatAt w g T L) (j : Nat) (v : Int) : FlatAt (w.setCell ⟨g, j, none⟩ (.int .i64 v)) g T (L.set j v) := by
  have h' : w.heap[g]? = _ := h
  unfold FlatAt
  simp [World.setCell, Array.getElem?_modify, h', List.map_set]
theorem FlatAt.other {w : World} {g : Nat} {T : TypeId} {L : List Int} (h : FlatAt w g T L) (p : Addr) (v : Value) (hne : p.block ≠ g) : FlatAt (w.setCell p v) g T L := by
  unfold FlatAt; rw [Below.heap_setCell _ _ _ _ (Ne.symm hne)]; exact h
theorem partL_getD (f : Nat → Int) (k j i : Nat) (hi : i < k) : (partL f k j).getD i 0 = if i < j then f i else 0 := by
  simp [partL, List.getD, hi]
theorem FlatAt.at {w : World} {g : Nat} {T : TypeId} {f : Nat → Int} {n j : Nat} (h : FlatAt w g T (partL f n j)) {i : Nat} (hi : i < j) (hn : j ≤ n) : w.cell? ⟨g, i, none⟩ = some (.int .i64 (f i)) := by
  rw [h.cell (by rw [partL_length]; omega), partL_getD f n j i (by omega), if_pos hi]

/-- A slice of spans: the i-th has its start at 3 i, its end at 3 i + 1, its value at 3 i + 2. -/
def IsSp (w : World) (a : Option Addr) (k : Nat) (f : Nat → Int) : Prop := k = 0 ∨ ∃ g, a = some ⟨g, 0, none⟩ ∧ FlatAt w g 54 (partL f (3 * k) (3 * k))
theorem IsSp.below {w w' : World} {a : Option Addr} {k : Nat} {f : Nat → Int} (h : IsSp w a k f) (hb : Below w.heap.size w w') : IsSp w' a k f := by
  rcases h with h | ⟨g, h1, h2⟩
  · exact .inl h
  · exact .inr ⟨g, h1, h2.below hb⟩

/-- What cmp.Compare answers. -/
def cmpI (a b : Int) : Int := if a < b then -1 else if b < a then 1 else 0

set_option maxHeartbeats 400000 in
theorem isNaN_c (a : Int) (w : World) : Calls Tryd.prog 37 #[.int .i64 a] w fun e w' => e = .returned (.bool false) ∧ w = w' := by
  go_enter Tryd.func37, Tryd.ntmps37
  go_wp2
  go_ret
  exact ⟨by simp, rfl⟩

set_option maxHeartbeats 400000 in
theorem compare_c (a b : Int) (w : World) : Calls Tryd.prog 26 #[.int .i64 a, .int .i64 b] w fun e w' => e = .returned (.int .i64 (cmpI a b)) ∧ w = w' := by
  by_cases h1 : a < b
  · have HE : Hid (cmpI a b = -1) := by unfold Hid; simp [cmpI, h1]
    go_enter Tryd.func26, Tryd.ntmps26
    go_wp2_with fail
    refine (isNaN_c a w).mono ?_
    rintro e w1 ⟨rfl, rfl⟩
    go_wp2_with fail
    refine (isNaN_c b w).mono ?_
    rintro e w1 ⟨rfl, rfl⟩
    go_wp2_with fail
    go_ret
    rw [HE.out]; exact ⟨rfl, rfl⟩
  · by_cases h2 : b < a
    · have HE : Hid (cmpI a b = 1) := by unfold Hid; simp [cmpI, h1, h2]
      go_enter Tryd.func26, Tryd.ntmps26
      go_wp2_with fail
      refine (isNaN_c a w).mono ?_
      rintro e w1 ⟨rfl, rfl⟩
      go_wp2_with fail
      refine (isNaN_c b w).mono ?_
      rintro e w1 ⟨rfl, rfl⟩
      go_wp2_with fail
      go_ret
      rw [HE.out]; exact ⟨rfl, rfl⟩
    · have HE : Hid (cmpI a b = 0) := by unfold Hid; simp [cmpI, h1, h2]
      go_enter Tryd.func26, Tryd.ntmps26
      go_wp2_with fail
      refine (isNaN_c a w).mono ?_
      rintro e w1 ⟨rfl, rfl⟩
      go_wp2_with fail
      refine (isNaN_c b w).mono ?_
      rintro e w1 ⟨rfl, rfl⟩
      go_wp2_with fail
      go_ret
      rw [HE.out]; exact ⟨rfl, rfl⟩

set_option maxHeartbeats 400000 in
theorem cmpSpan_c (a b c code : Int) (w : World) : Calls Tryd.prog 25 #[.agg #[.int .i64 a, .int .i64 b, .int .i64 c], .int .i64 code] w fun e w' => e = .returned (.int .i64 (cmpI b code)) ∧ Below w.heap.size w w' := by
  have HB := Lib.hid ((Below.refl w.heap.size w).alloc (Nat.le_refl _) (.cells #[.int .i64 a, .int .i64 b, .int .i64 c] 54))
  go_enter Tryd.func25, Tryd.ntmps25
  go_wp2_with fail
  refine (compare_c b code _).mono ?_
  rintro e w1 ⟨rfl, rfl⟩
  go_wp2_with fail
  go_ret
  exact ⟨rfl, HB.out⟩

/-- The ends rise. -/
def Rising (k : Nat) (f : Nat → Int) : Prop := ∀ i j, i < j → j < k → f (3 * i + 1) < f (3 * j + 1)
/-- The first span that doesn't end below the code. -/
def AtEnd (k : Nat) (f : Nat → Int) (code : Int) (i : Nat) : Prop := i ≤ k ∧ (∀ j, j < i → f (3 * j + 1) < code) ∧ (∀ j, i ≤ j → j < k → code ≤ f (3 * j + 1))

theorem cmpI_neg {a b : Int} : cmpI a b < 0 ↔ a < b := by unfold cmpI; split <;> (try split) <;> omega
theorem half_sum (lo hi : Nat) (h1 : lo < hi) (h2 : hi ≤ 1048577) : ∃ S : Int, ∃ m : Nat, wrap64 ((lo : Int) + (hi : Int)) = S ∧ wrap64 (IntKind.u64.wrap S / 2) = (m : Int) ∧ lo ≤ m ∧ m < hi ∧ wrap64 ((m : Int) + 1) = ((m + 1 : Nat) : Int) := by
  refine ⟨(lo : Int) + (hi : Int), (lo + hi) / 2, by unfold wrap64; omega, ?_, by omega, by omega, by unfold wrap64; omega⟩
  have e : IntKind.u64.wrap ((lo : Int) + (hi : Int)) = (lo : Int) + (hi : Int) := by
    show ((lo : Int) + (hi : Int)) % 18446744073709551616 = _
    omega
  rw [e]
  unfold wrap64; omega
theorem IsSp.cells {w : World} {a : Option Addr} {k : Nat} {f : Nat → Int} (h : IsSp w a k f) {m : Nat} (hm : m < k) : ∃ g, a = some ⟨g, 0, none⟩ ∧ w.cell? ⟨g, m * 3, none⟩ = some (.int .i64 (f (3 * m))) ∧ w.cell? ⟨g, m * 3 + 1, none⟩ = some (.int .i64 (f (3 * m + 1))) ∧ w.cell? ⟨g, m * 3 + 2, none⟩ = some (.int .i64 (f (3 * m + 2))) := by
  rcases h with h | ⟨g, h1, h2⟩
  · omega
  · refine ⟨g, h1, ?_, ?_, ?_⟩
    · rw [Nat.mul_comm m 3]; exact h2.at (by omega) (Nat.le_refl _)
    · rw [Nat.mul_comm m 3]; exact h2.at (by omega) (Nat.le_refl _)
    · rw [Nat.mul_comm m 3]; exact h2.at (by omega) (Nat.le_refl _)

/-- What the search answers. -/
def SearchPost (k : Nat) (f : Nat → Int) (code : Int) (w : World) (e : Ending) (w' : World) : Prop := ∃ i : Nat, ∃ b, e = .returned (.tuple #[.int .i64 i, .bool b]) ∧ AtEnd k f code i ∧ Below w.heap.size w w'

set_option maxRecDepth 20000 in
set_option maxHeartbeats 1000000 in
theorem search_c (a : Option Addr) (k : Nat) (f : Nat → Int) (code : Int) (w : World) (hs : IsSp w a k f) (hk : k ≤ 1048577) (hr : Rising k f) :
    Calls Tryd.prog 24 #[.slice a k k, .int .i64 code, .func (.func 25) #[] #[]] w (SearchPost k f code w) := by
  have HS := Lib.hid hs
  have HK := Lib.hid hk
  have HR := Lib.hid hr
  clear hs hk hr
  go_enter Tryd.func24, Tryd.ntmps24
  go_wp2_with fail
  go_loopw [9, 10] (fun x y wr => ∃ lo hi : Nat, lo ≤ hi ∧ hi ≤ k ∧ x = .int .i64 lo ∧ y = .int .i64 hi ∧ Hid (∀ j, j < lo → f (3 * j + 1) < code) ∧ Hid (∀ j, hi ≤ j → j < k → code ≤ f (3 * j + 1)) ∧ Hid (Below w.heap.size w wr)) (fun x y _ => (intOf y).toNat - (intOf x).toNat)
  case atStart => exact ⟨0, k, Nat.zero_le _, Nat.le_refl _, rfl, rfl, fun j hj => by omega, fun j h1 h2 => by omega, Below.refl _ _⟩
  case round =>
    obtain ⟨lo, hi, hlh, hhk, rfl, rfl, HL, HH, HB⟩ := hrel
    by_cases hlt : lo < hi
    · have hlt' : (lo : Int) < (hi : Int) := by omega
      obtain ⟨S, m, hS, hM, hm1, hm2, hm3⟩ := half_sum lo hi hlt (by have := HK.out; omega)
      have H1 := Lib.hid (And.intro hlh (And.intro hhk (And.intro hm1 (And.intro hm2 hlt))))
      have HM := Lib.hid hm3
      obtain ⟨g, rfl, c0, c1, c2⟩ := (HS.out.below HB.out).cells (m := m) (by omega)
      have hmk : (m : Int) < (k : Int) := by omega
      obtain ⟨x0, HX0⟩ : ∃ x0, Hid (f (3 * m) = x0) := ⟨_, rfl⟩
      obtain ⟨x1, HX1⟩ : ∃ x1, Hid (f (3 * m + 1) = x1) := ⟨_, rfl⟩
      obtain ⟨x2, HX2⟩ : ∃ x2, Hid (f (3 * m + 2) = x2) := ⟨_, rfl⟩
      rw [HX0.out] at c0
      rw [HX1.out] at c1
      rw [HX2.out] at c2
      obtain ⟨r, HRR⟩ : ∃ r, Hid (cmpI x1 code = r) := ⟨_, rfl⟩
      clear hlh hhk hm1 hm2 hlt hm3
      by_cases hr0 : r < 0
      · have HN : Hid (∀ j, j < m + 1 → f (3 * j + 1) < code) := by
          intro j hj
          have h1 : x1 < code := cmpI_neg.1 (by rw [HRR.out]; exact hr0)
          have h2 := H1.out
          by_cases e : j = m
          · subst e; rw [HX1.out]; exact h1
          · have := HR.out j m (by omega) (by omega)
            rw [HX1.out] at this
            omega
        go_wp2_with fail
        refine (cmpSpan_c x0 x1 x2 code wr).mono ?_
        rintro e w1 ⟨rfl, hb1⟩
        rw [HRR.out]
        have HB1 := Lib.hid (HB.out.trans (hb1.mono HB.out.size))
        clear hb1 HB
        go_wp2_with fail
        go_roundw
        case rel => exact ⟨m + 1, hi, by have := H1.out; omega, by have := H1.out; omega, by rw [HM.out], rfl, HN, HH, HB1⟩
        case measure => rw [HM.out]; have := H1.out; simp only [intOf]; omega
      · have HN : Hid (∀ j, m ≤ j → j < k → code ≤ f (3 * j + 1)) := by
          intro j hj hjk
          have h1 : ¬ x1 < code := fun h => hr0 (by rw [← HRR.out]; exact cmpI_neg.2 h)
          have h2 := H1.out
          by_cases e : j = m
          · subst e; rw [HX1.out]; omega
          · have := HR.out m j (by omega) hjk
            rw [HX1.out] at this
            omega
        go_wp2_with fail
        refine (cmpSpan_c x0 x1 x2 code wr).mono ?_
        rintro e w1 ⟨rfl, hb1⟩
        rw [HRR.out]
        have HB1 := Lib.hid (HB.out.trans (hb1.mono HB.out.size))
        clear hb1 HB
        go_wp2_with fail
        go_roundw
        case rel => exact ⟨lo, m, by have := H1.out; omega, by have := H1.out; omega, rfl, rfl, HL, HN, HB1⟩
        case measure => have := H1.out; simp only [intOf]; omega
    · have hlt' : ¬ (lo : Int) < (hi : Int) := by omega
      obtain rfl : lo = hi := by omega
      have HE : Hid (AtEnd k f code lo) := ⟨hhk, HL.out, HH.out⟩
      by_cases hk2 : lo < k
      · have hk' : (lo : Int) < (k : Int) := by omega
        obtain ⟨g, rfl, c0, c1, c2⟩ := (HS.out.below HB.out).cells hk2
        generalize f (3 * lo) = x0 at c0
        generalize f (3 * lo + 1) = x1 at c1
        generalize f (3 * lo + 2) = x2 at c2
        clear hlh hhk hk2 hlt HL HH
        go_wp2_with fail
        refine (cmpSpan_c x0 x1 x2 code wr).mono ?_
        rintro e w1 ⟨rfl, hb1⟩
        have HB1 := Lib.hid (HB.out.trans (hb1.mono HB.out.size))
        clear hb1 HB
        go_wp2_with fail
        go_ret2
        exact ⟨lo, _, rfl, HE.out, HB1.out⟩
      · have hk' : ¬ (lo : Int) < (k : Int) := by omega
        clear hlh hhk hk2 hlt HL HH
        go_wp2_with fail
        go_ret2
        exact ⟨lo, _, rfl, HE.out, HB.out⟩

/-- Which span the code is in: the first that doesn't end below it, if it doesn't start above it. -/
def inSp (k : Nat) (f : Nat → Int) (code : Int) (i : Nat) : Bool := decide (i < k) && decide (f (3 * i) ≤ code)

/-- What spanOf answers. -/
def SpanPost (k : Nat) (f : Nat → Int) (code : Int) (w : World) (e : Ending) (w' : World) : Prop := ∃ i : Nat, e = .returned (.tuple #[.int .i64 i, .bool (inSp k f code i)]) ∧ AtEnd k f code i ∧ Below w.heap.size w w'

set_option maxHeartbeats 1000000 in
theorem spanOf_c (a : Option Addr) (k : Nat) (f : Nat → Int) (code : Int) (w : World) (hs : IsSp w a k f) (hk : k ≤ 1048577) (hr : Rising k f) :
    Calls Tryd.prog 18 #[.slice a k k, .int .i64 code] w (SpanPost k f code w) := by
  have HS := Lib.hid hs
  have HC := Lib.hid (search_c a k f code w hs hk hr)
  clear hs hk hr
  go_enter Tryd.func18, Tryd.ntmps18
  go_wp2_with fail
  refine HC.out.mono ?_
  rintro e w1 ⟨i, b, rfl, hi, hb⟩
  have HI := Lib.hid hi
  have HB := Lib.hid hb
  clear hi hb HC
  by_cases h1 : i < k
  · obtain ⟨g, rfl, c0, c1, c2⟩ := (HS.out.below HB.out).cells h1
    have h1' : (i : Int) < (k : Int) := by omega
    have hd : decide ((i : Int) < (k : Int)) = true := by simpa using h1
    obtain ⟨x0, HX0⟩ : ∃ x0, Hid (f (3 * i) = x0) := ⟨_, rfl⟩
    rw [HX0.out] at c0
    have HE : Hid (inSp k f code i = decide (x0 ≤ code)) := by unfold Hid inSp; rw [HX0.out]; simp [h1]
    clear c1 c2
    go_wp2_with fail
    go_quiet (fail)
    go_wp2_with fail
    go_ret2
    exact ⟨i, by rw [HE.out]; rfl, HI.out, bel_drewN HB.out _⟩
  · have h1' : ¬ (i : Int) < (k : Int) := by omega
    have hd : decide ((i : Int) < (k : Int)) = false := by simpa using h1
    have HE : Hid (inSp k f code i = false) := by unfold Hid inSp; simp [h1]
    go_wp2_with fail
    go_quiet (fail)
    go_wp2_with fail
    go_ret2
    exact ⟨i, by rw [HE.out]; rfl, HI.out, bel_drewN HB.out _⟩

end Go.Proofs.YtfbgddigedgpfaaDoor
