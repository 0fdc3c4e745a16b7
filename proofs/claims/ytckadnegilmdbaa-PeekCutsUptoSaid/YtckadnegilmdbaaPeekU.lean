/-
  What U16s of package peek answers, as a contract over the translated program: refused, or a new row of the numbers. Condition: the view has at most 2 to the 46th bytes.
-/
import Derived.Test.YtckadnegilmdbaaPeekK
namespace Go.Proofs.Ytckadnegilmdbaa
open Go.RowKit Go.PlainAid
set_option linter.unusedSimpArgs false
set_option linter.unusedVariables false

theorem infoInt : (Try.prog.info? 3).map (fun i => (i.zero, i.size, i.bytes)) = some (some (.int .i64 0), 1, 8) := by kernel_rfl

theorem hasB_twice {s : ByteArray} {a n : Int} (h : hasB s a n = false) (h0 : 0 ≤ n) : hasB s a (2 * n) = false := by
  simp [hasB] at h ⊢
  intro h1 _
  have := h h1 h0
  omega

set_option maxHeartbeats 400000 in
theorem u16s_no1 (g : Nat) (at' n : Int) (s : ByteArray) (w : World) (hc : w.cell? ⟨g, 0, none⟩ = some (.string s)) (hs : (s.size : Int) ≤ 140737488355328) (ha : at' ≤ 9223372036854775807) (h : hasB s at' n = false) :
    Calls Try.prog 22 #[.pointer (some ⟨g, 0, none⟩), .int .i64 at', .int .i64 n] w fun e w' => e = .returned (.tuple #[.slice none 0 0, .int .i64 21]) ∧ w = w' := by
  have HC := Lib.hid (within_c g s at' n w hc hs ha)
  have HE := Lib.hid h
  clear h hs ha
  go_enter Try.func22, Try.ntmps22
  go_wp2_with fail
  refine HC.out.mono ?_
  rintro e w1 ⟨rfl, rfl⟩
  rw [HE.out]
  go_wp2_with fail
  go_ret2
  exact ⟨rfl, rfl⟩

set_option maxHeartbeats 400000 in
theorem u16s_no2 (g : Nat) (at' n : Int) (s : ByteArray) (w : World) (hc : w.cell? ⟨g, 0, none⟩ = some (.string s)) (hs : (s.size : Int) ≤ 140737488355328) (ha : at' ≤ 9223372036854775807) (h : hasB s at' n = true) (h2 : hasB s at' (2 * n) = false) :
    Calls Try.prog 22 #[.pointer (some ⟨g, 0, none⟩), .int .i64 at', .int .i64 n] w fun e w' => e = .returned (.tuple #[.slice none 0 0, .int .i64 21]) ∧ w = w' := by
  have HC := Lib.hid (within_c g s at' n w hc hs ha)
  have HD := Lib.hid (within_c g s at' (2 * n) w hc hs ha)
  have hw : wrap64 (2 * n) = 2 * n := by simp [hasB] at h; unfold wrap64; omega
  have HE := Lib.hid h
  have HF := Lib.hid h2
  clear h hs ha h2
  go_enter Try.func22, Try.ntmps22
  go_wp2_with fail
  refine HC.out.mono ?_
  rintro e w1 ⟨rfl, rfl⟩
  rw [HE.out]
  go_wp2_with fail
  rw [hw]
  refine HD.out.mono ?_
  rintro e w1 ⟨rfl, rfl⟩
  rw [HF.out]
  go_wp2_with fail
  go_ret2
  exact ⟨rfl, rfl⟩

/-- The numbers in the first j cells, and the room of k cells. -/
structure Nums (w : World) (s : ByteArray) (p k j : Nat) (wr : World) : Prop where
  bel : Below w.heap.size w wr
  slots : Slots wr w.heap.size k
  nums : ∀ i, i < j → wr.cell? ⟨w.heap.size, i, none⟩ = some (.int .i64 (numN s (p + 2 * i) 2))

theorem Nums.start (w : World) (s : ByteArray) (p k : Nat) (cs : Array Value) (t : TypeId) (h : cs.size = k) : Nums w s p k 0 (w.alloc (.cells cs t)) :=
  ⟨(Below.refl _ _).alloc (Nat.le_refl _) _, fun i hi => by
    have hh := heap_alloc_new w (.cells cs t)
    refine ⟨?_, ?_⟩
    · rw [cell_of_row _ w.heap.size i cs t (0, 0) hh]; simp [h, hi]
    · simp only [World.frozen?, hh]; simp, fun i hi => by omega⟩

theorem Nums.next {w wr : World} {s : ByteArray} {p k j : Nat} (h : Nums w s p k j wr) (hj : j < k) : Nums w s p k (j + 1) (wr.setCell ⟨w.heap.size, j, none⟩ (.int .i64 (numN s (p + 2 * j) 2))) := by
  refine ⟨h.bel.setCell (Nat.le_refl _) _, h.slots.set _ _ _, fun i hi => ?_⟩
  by_cases e : i = j
  · subst e
    obtain ⟨y, hy⟩ := Option.isSome_iff_exists.1 (h.slots i hj).1
    exact World.cell?_setCell_same wr _ _ hy
  · rw [World.cell?_setCell_other wr _ _ _ (by intro q; cases q; omega)]
    exact h.nums i (by omega)

set_option maxHeartbeats 400000 in
theorem u16s_yes (g p k : Nat) (s : ByteArray) (w : World) (hc : w.cell? ⟨g, 0, none⟩ = some (.string s)) (hs : (s.size : Int) ≤ 70368744177664) (h : p + 2 * k ≤ s.size) :
    Calls Try.prog 22 #[.pointer (some ⟨g, 0, none⟩), .int .i64 p, .int .i64 k] w fun e w' => e = .returned (.tuple #[.slice (some ⟨w.heap.size, 0, none⟩) k k, .int .i64 0]) ∧ Nums w s p k k w' := by
  have HC := Lib.hid (within_c g s p k w hc (by omega) (by omega))
  have HD := Lib.hid (within_c g s p (2 * (k : Int)) w hc (by omega) (by omega))
  have HE : Hid (hasB s p k = true) := by unfold Hid; simp [hasB]; omega
  have HF : Hid (hasB s p (2 * (k : Int)) = true) := by unfold Hid; simp [hasB]; omega
  have hw : wrap64 (2 * (k : Int)) = 2 * (k : Int) := by unfold wrap64; omega
  have HCC := Lib.hid hc
  have HS := Lib.hid hs
  have HP := Lib.hid h
  obtain ⟨i0, hi, hz0, hz1, hz2⟩ := info_parts infoInt
  have hmk : ∀ u : World, (Instr.makeSlice 42 (.int .i64 (k : Int)) (.int .i64 (k : Int))).run Try.prog u =
      .ok (.slice (some ⟨u.heap.size, 0, none⟩) k k) (u.alloc (.cells (madeCells #[.int .i64 0] k) 3)) := fun u => by
    have h := run_make (P := Try.prog) u 42 3 i0 (.int .i64 0) Try.underlying42 hi hz0 .i64 .i64 (k : Int) (k : Int) (by omega) (Int.le_refl _) (by rw [hz2]; omega) (by omega)
    rw [Int.toNat_natCast] at h
    simpa [hz1, Value.cells] using h
  clear h hs hc hi hz0 hz1 hz2
  go_enter Try.func22, Try.ntmps22
  go_wp2_with fail
  refine HC.out.mono ?_
  rintro e w1 ⟨rfl, rfl⟩
  rw [HE.out]
  go_wp2_with fail
  rw [hw]
  refine HD.out.mono ?_
  rintro e w1 ⟨rfl, rfl⟩
  rw [HF.out]
  go_wp2_with fail
  have HN0 := Lib.hid (Nums.start w s p k (madeCells #[.int .i64 0] k) 3 (size_madeCells _ _))
  go_loopw [27] (fun i wr => ∃ j : Nat, j ≤ k ∧ i = .int .i64 j ∧ Nums w s p k j wr) (fun i _ => k - (intOf i).toNat)
  case atStart => exact ⟨0, Nat.zero_le _, rfl, HN0.out⟩
  case round =>
    obtain ⟨j, hj, rfl, nums⟩ := hrel
    by_cases hlt : j < k
    · have hlt' : (j : Int) < (k : Int) := by omega
      obtain ⟨hsome, hf⟩ := nums.slots j hlt
      obtain ⟨y, hy⟩ := Option.isSome_iff_exists.1 hsome
      have HN := Lib.hid nums
      have hj0 := (join_c g (p + 2 * j) 2 s wr (by rw [nums.bel.cell (p := ⟨g, 0, none⟩) (World.block_lt_of_cell? w _ HCC.out)]; exact HCC.out) (by have := HS.out; omega) (by decide) (by have := HP.out; omega))
      rw [show ((p + 2 * j : Nat) : Int) = (p : Int) + 2 * (j : Int) by omega] at hj0
      have HJ := Lib.hid hj0
      clear hj0
      have hw1 : wrap64 (2 * (j : Int)) = 2 * (j : Int) := by have := HS.out; have := HP.out; unfold wrap64; omega
      have hw2 : wrap64 ((p : Int) + 2 * (j : Int)) = ((p + 2 * j : Nat) : Int) := by have := HS.out; have := HP.out; unfold wrap64; omega
      have HX : Hid (wrap64 ((j : Int) + 1) = ((j + 1 : Nat) : Int)) := by have := HS.out; have := HP.out; unfold Hid wrap64; omega
      clear nums hsome
      go_wp2_with fail
      refine HJ.out.mono ?_
      rintro e w1 ⟨rfl, rfl⟩
      go_wp2_with fail
      go_roundw
      case rel => exact ⟨j + 1, by omega, by rw [HX.out], HN.out.next hlt⟩
      case measure => rw [HX.out]; simp only [intOf]; omega
    · have hlt' : ¬ (j : Int) < (k : Int) := by omega
      have e : j = k := by omega
      subst e
      have HN := Lib.hid nums
      clear nums
      go_wp2_with fail
      go_ret2
      exact ⟨rfl, HN.out⟩

/-- A part of a slice of bytes: the slice that the expression gives, in every world, and that it holds the part's bytes. -/
theorem slice_bytes (a : Option Addr) (cap p k : Nat) (s : ByteArray) (w : World) (hB : IsB w a s.size cap s) (h : p + k ≤ s.size) :
    ∃ a' c', (∀ u : World, (Instr.slice 22 (.slice a s.size cap) (some (.int .i64 (p : Int))) (some (.int .i64 ((p + k : Nat) : Int))) none).run Try.prog u = .ok (.slice a' k c') u) ∧ ∀ u, Below w.heap.size w u → IsB u a' k c' (s.extract p (p + k)) := by
  have hc := hB.2.1
  obtain ⟨i0, hi, hz0, hz1, hz2⟩ := info_parts infoU8
  refine ⟨if cap = p then a else a.map (·.add p), cap - p, fun u => ?_, fun u hu => ?_⟩
  · have h1 : ((p + k : Nat) : Int) ≤ (cap : Int) := by omega
    have h2 : (p : Int) ≤ ((p + k : Nat) : Int) := by omega
    have h3 : (0 : Int) ≤ ((p + k : Nat) : Int) := by omega
    have h4 : (0 : Int) ≤ (p : Int) := by omega
    have he : Try.prog.underlying 22 = some (.slice (Try.prog.elem 22)) := by kernel_rfl
    have hu : Try.prog.elem 22 = 5 := by kernel_rfl
    rw [run_slice_lh u 22 a s.size cap he .i64 .i64 _ _ h4 h2 h1, hu]
    have e1 : ((p : Nat) : Int).toNat = p := by omega
    have e2 : ((p + k : Nat) : Int).toNat = p + k := by omega
    have e3 : p + k - p = k := by omega
    rw [e1, e2]
    simp only [sizeOf, typeInfo]
    simp [sliced, e3]
    rw [hi]
    simp [hz1]
  · have hB' := hB.below hu
    obtain ⟨h1, h2, h3 | ⟨b, off, rfl, hcell⟩⟩ := hB'
    · exact ⟨by rw [ByteArray.size_extract]; omega, by omega, .inl (by omega)⟩
    · by_cases e : k = 0
      · exact ⟨by rw [ByteArray.size_extract]; omega, by omega, .inl e⟩
      · have := (hB.below hu).cut (p := p) (q := p + k) (c := cap - p) (by omega) (by omega) (by omega)
        rw [show p + k - p = k by omega] at this
        rw [if_neg (by omega)]
        simp [Addr.add_lit]
        exact this

end Go.Proofs.Ytckadnegilmdbaa
