/-
  What Open, Kind and Tables of package sfnt answer, as contracts over the translated program. Nothing that was there is changed. Condition: the slice has at most 2 to the 47th bytes.
-/
import Derived.Test.YtbcjicmledckbaaSfTabs
namespace Go.Proofs.Ytbcjicmledckbaa
open Go.RowKit Go.PlainAid
set_option linter.unusedSimpArgs false
set_option linter.unusedVariables false

/-- The error, or the kind and the rows of the font that is opened. -/
def openOf (s : ByteArray) (face : Int) : Int × Option (Int × List Row) :=
  if 1048576 < s.size then (33, none)
  else if (dirOf s face).2 ≠ 0 then ((dirOf s face).2, none)
  else if (headOf s (dirOf s face).1).2.2 ≠ 0 then ((headOf s (dirOf s face).1).2.2, none)
  else match rowsOf s ((dirOf s face).1 + 12) (headOf s (dirOf s face).1).2.1.toNat with
    | none => (31, none)
    | some l => (0, some ((headOf s (dirOf s face).1).1, l))

theorem colOf_bound {s : ByteArray} {face x f : Int} (h : colOf s face = (x, f)) : 0 ≤ x ∧ x ≤ 4294967295 := by
  have hb : 0 ≤ (numOr s (12 + 4 * face) 4).1 ∧ (numOr s (12 + 4 * face) 4).1 ≤ 4294967295 := num32_bound (f := (numOr s (12 + 4 * face) 4).2) rfl
  unfold colOf at h
  repeat' split at h
  all_goals (simp only [Prod.mk.injEq] at h; omega)
theorem dirOf_bound {s : ByteArray} {face x f : Int} (h : dirOf s face = (x, f)) : 0 ≤ x ∧ x ≤ 4294967295 := by
  unfold dirOf at h
  split at h
  · simp only [Prod.mk.injEq] at h; omega
  · split at h
    · exact colOf_bound h
    · split at h <;> (simp only [Prod.mk.injEq] at h; omega)
theorem headOf_bound {s : ByteArray} {start x y : Int} (h : headOf s start = (x, y, 0)) : 1 ≤ y ∧ y ≤ 64 := by
  have hb : 0 ≤ (numOr s (start + 4) 2).1 ∧ (numOr s (start + 4) 2).1 ≤ 65535 := num16_bound (f := (numOr s (start + 4) 2).2) rfl
  unfold headOf at h
  repeat' split at h
  all_goals (simp only [Prod.mk.injEq] at h; omega)

/-- An opened font in memory. -/
structure IsFont (B : Nat) (w : World) (gf : Nat) (kd : Int) (l : List Row) (s : ByteArray) : Prop where
  at' : ∃ gl gv, B ≤ gf ∧ w.cell? ⟨gf, 0, none⟩ = some (.int .i64 kd) ∧ w.cell? ⟨gf, 1, none⟩ = some (.slice (some ⟨gl, 0, none⟩) l.length l.length) ∧ w.cell? ⟨gf, 2, none⟩ = some (.pointer (some ⟨gv, 0, none⟩)) ∧
    w.cell? ⟨gv, 0, none⟩ = some (.string s) ∧ w.ownsRow B 64 3 (.slice (some ⟨gl, 0, none⟩) l.length l.length) l.length (rowCells l)
  len : l.length ≤ 64

theorem owns_base {w : World} {B B' : Nat} {e : TypeId} {size n : Nat} {v : Value} {xs : List Value} (hB : B' ≤ B) (h : w.ownsRow B e size v n xs) : w.ownsRow B' e size v n xs := by
  refine ⟨h.1, ?_⟩
  rcases h.2 with h2 | ⟨g', cap', cur, hv, hbg, rest⟩
  · exact .inl h2
  · exact .inr ⟨g', cap', cur, hv, by omega, rest⟩

/-- How Open ends. -/
def OpenPost (w : World) (s : ByteArray) (face : Int) (e : Ending) (w' : World) : Prop :=
  match openOf s face with
  | (f, none) => e = .returned (.tuple #[.pointer none, .int .i64 f]) ∧ Below w.heap.size w w'
  | (f, some (kd, l)) => (∃ gf, e = .returned (.tuple #[.pointer (some ⟨gf, 0, none⟩), .int .i64 f]) ∧ IsFont w.heap.size w' gf kd l s) ∧ Below w.heap.size w w'
theorem openPost_no {w w' : World} {s : ByteArray} {face f : Int} (h : openOf s face = (f, none)) (hb : Below w.heap.size w w') : OpenPost w s face (.returned (.tuple #[.pointer none, .int .i64 f])) w' := by
  unfold OpenPost
  rw [h]
  exact ⟨rfl, hb⟩
theorem openPost_yes {w w' : World} {s : ByteArray} {face f kd : Int} {l : List Row} {gf : Nat} (h : openOf s face = (f, some (kd, l))) (hf : IsFont w.heap.size w' gf kd l s) (hb : Below w.heap.size w w') : OpenPost w s face (.returned (.tuple #[.pointer (some ⟨gf, 0, none⟩), .int .i64 f])) w' := by
  unfold OpenPost
  rw [h]
  exact ⟨⟨gf, rfl, hf⟩, hb⟩

set_option maxHeartbeats 400000 in
theorem open_big (a : Option Addr) (cap : Nat) (face : Int) (s : ByteArray) (w : World) (h : 1048576 < s.size) :
    Calls Try.prog 10 #[.slice a s.size cap, .int .i64 face] w (OpenPost w s face) := by
  have HE : Hid (openOf s face = (33, none)) := by unfold Hid openOf; rw [if_pos h]
  have h' : (1048576 : Int) < (s.size : Int) := by omega
  go_enter Try.func10, Try.ntmps10
  go_wp2_with fail
  go_ret2
  exact openPost_no HE.out (Below.refl _ _)

set_option maxHeartbeats 1000000 in
theorem open_c (a : Option Addr) (cap : Nat) (face : Int) (s : ByteArray) (w : World) (hB : IsB w a s.size cap s) :
    Calls Try.prog 10 #[.slice a s.size cap, .int .i64 face] w (OpenPost w s face) := by
  by_cases hbig : 1048576 < s.size
  · exact open_big a cap face s w hbig
  have hbig' : ¬ (1048576 : Int) < (s.size : Int) := by omega
  have HS : Hid ((s.size : Int) ≤ 1048576) := by unfold Hid; omega
  have HB := Lib.hid hB
  obtain ⟨st, ed, HD⟩ : ∃ x f, Hid (dirOf s face = (x, f)) := ⟨_, _, rfl⟩
  have HDB := Lib.hid (dirOf_bound HD.out)
  have HO1 : Hid (openOf s face = if ed ≠ 0 then (ed, none) else if (headOf s st).2.2 ≠ 0 then ((headOf s st).2.2, none) else match rowsOf s (st + 12) (headOf s st).2.1.toNat with
    | none => (31, none)
    | some l => (0, some ((headOf s st).1, l))) := by unfold Hid openOf; rw [if_neg hbig, HD.out]
  clear hbig hB
  go_enter Try.func10, Try.ntmps10
  go_wp2_with fail
  refine (new_c a s.size cap s w HB.out).mono ?_
  rintro e w1 ⟨rfl, hw1⟩
  have HV1 : Hid (w1.cell? ⟨w.heap.size, 0, none⟩ = some (.string s)) := by unfold Hid; rw [hw1]; simp [go_sem]
  have HW1 : Hid (Below w.heap.size w w1) := by unfold Hid; rw [hw1]; exact (Below.refl _ _).alloc (Nat.le_refl _) _
  obtain ⟨gv, HGV⟩ : ∃ gv, Hid (w.heap.size = gv) := ⟨_, rfl⟩
  rw [HGV.out] at HV1
  clear hw1
  rw [HGV.out]
  go_wp2_with fail
  refine (directory_c gv face st ed s w1 HV1.out (by have := HS.out; omega) HD).mono ?_
  rintro e w2 ⟨rfl, rfl⟩
  by_cases h1 : ed = 0
  · subst h1
    obtain ⟨kd, n, eh, HH⟩ : ∃ x y f, Hid (headOf s st = (x, y, f)) := ⟨_, _, _, rfl⟩
    have HO2 : Hid (openOf s face = if eh ≠ 0 then (eh, none) else match rowsOf s (st + 12) n.toNat with
      | none => (31, none)
      | some l => (0, some (kd, l))) := by unfold Hid; rw [HO1.out, HH.out]; rfl
    clear HO1
    go_wp2_with fail
    refine (heading_c gv st kd n eh s w1 HV1.out (by have := HS.out; omega) HDB.out.1 HDB.out.2 HH).mono ?_
    rintro e w2 ⟨rfl, rfl⟩
    by_cases h2 : eh = 0
    · subst h2
      have hn := headOf_bound HH.out
      obtain ⟨N, rfl⟩ := Int.eq_ofNat_of_zero_le (show 0 ≤ n by omega)
      have HN : Hid (N ≤ 64) := by unfold Hid; omega
      have hw : wrap64 (st + 12) = st + 12 := by have := HDB.out; unfold wrap64; omega
      clear hn
      go_wp2_with fail
      rw [hw]
      refine (tables_c gv N (st + 12) s w1 HV1.out HS.out (by have := HDB.out; omega) (by have := HDB.out; omega) HN.out).mono ?_
      intro e w2 hpost
      unfold TabsPost at hpost
      cases hr : rowsOf s (st + 12) N with
      | none =>
        rw [hr] at hpost
        obtain ⟨rfl, hb2⟩ := hpost
        have HE : Hid (openOf s face = (31, none)) := by unfold Hid; rw [HO2.out, Int.toNat_natCast, hr]; rfl
        have HW2 := Lib.hid (HW1.out.trans (hb2.mono HW1.out.size))
        clear hb2 hr
        go_wp2_with fail
        go_ret2
        exact openPost_no HE.out HW2.out
      | some l =>
        rw [hr] at hpost
        obtain ⟨rfl, hl, tabs⟩ := hpost
        have HE : Hid (openOf s face = (0, some (kd, l))) := by unfold Hid; rw [HO2.out, Int.toNat_natCast, hr]; rfl
        have HT := Lib.hid tabs
        have HL := Lib.hid hl
        clear hr tabs hl
        go_wp2_with fail
        go_ret2
        have hl := HL.out
        subst hl
        have hb2 : Below w2.heap.size w2 (w2.alloc (.cells #[.int .i64 kd, .slice (some ⟨w1.heap.size, 0, none⟩) l.length l.length, .pointer (some ⟨gv, 0, none⟩)] 73)) := (Below.refl _ _).alloc (Nat.le_refl _) _
        have hbw : Below w.heap.size w w2 := HW1.out.trans (HT.out.bel.mono HW1.out.size)
        refine openPost_yes HE.out ⟨⟨w1.heap.size, gv, hbw.size, ?_, ?_, ?_, keepC hb2 HT.out.v, ?_⟩, HN.out⟩ (hbw.trans (hb2.mono hbw.size))
        · simp [go_sem]
        · simp [go_sem]
        · simp [go_sem]
        · exact owns_base HW1.out.size (owns_below HT.out.own hb2)
    · have HE : Hid (openOf s face = (eh, none)) := by unfold Hid; rw [HO2.out]; simp [h2]
      go_wp2_with fail
      go_ret2
      exact openPost_no HE.out HW1.out
  · have HE : Hid (openOf s face = (ed, none)) := by unfold Hid; rw [HO1.out]; simp [h1]
    go_wp2_with fail
    go_ret2
    exact openPost_no HE.out HW1.out

end Go.Proofs.Ytbcjicmledckbaa
