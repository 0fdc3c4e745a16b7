/-
  What readRows and subtable of package cmap answer.
-/
import Derived.Test.YtfbgddigedgpfaaDoorCmC
namespace Go.Proofs.YtfbgddigedgpfaaDoor
open Go.RowKit Go.PlainAid
set_option linter.unusedSimpArgs false
set_option linter.unusedVariables false

theorem infoRow : (Tryd.prog.info? 76).map (fun i => (i.zero, i.size, i.bytes)) = some (some (.agg #[.int .i64 0, .int .i64 0, .int .i64 0]), 3, 24) := by kernel_rfl
theorem infoSpan : (Tryd.prog.info? 54).map (fun i => (i.zero, i.size, i.bytes)) = some (some (.agg #[.int .i64 0, .int .i64 0, .int .i64 0]), 3, 24) := by kernel_rfl
theorem made_zero3 (k : Nat) : madeCells #[.int .i64 0, .int .i64 0, .int .i64 0] k = ((List.replicate k (0 : Int)).map (Value.int .i64)).toArray := by
  apply Array.ext
  · simp [size_madeCells]
  · intro i h1 h2
    have h3 : i % 3 = 0 ∨ i % 3 = 1 ∨ i % 3 = 2 := by omega
    rcases h3 with h | h | h <;> simp [madeCells, h]
/-- make of so many rows of three numbers. -/
theorem make_three (S E : TypeId) (hS : Tryd.prog.underlying S = some (.slice E)) (hE : (Tryd.prog.info? E).map (fun i => (i.zero, i.size, i.bytes)) = some (some (.agg #[.int .i64 0, .int .i64 0, .int .i64 0]), 3, 24)) (k : Nat) (hk : k ≤ 1048577) (u : World) :
    ∃ w', (Instr.makeSlice S (.int .i64 (k : Int)) (.int .i64 (k : Int))).run Tryd.prog u = .ok (.slice (some ⟨u.heap.size, 0, none⟩) k k) w' ∧
      (∀ f, FlatAt w' u.heap.size E (partL f (3 * k) 0)) ∧ Below u.heap.size u w' ∧ w'.heap.size = u.heap.size + 1 := by
  obtain ⟨i0, hi, hz0, hz1, hz2⟩ := info_parts hE
  have h := run_make (P := Tryd.prog) u S E i0 (.agg #[.int .i64 0, .int .i64 0, .int .i64 0]) hS hi hz0 .i64 .i64 (k : Int) (k : Int) (by omega) (Int.le_refl _) (by rw [hz2]; omega) (by omega)
  rw [Int.toNat_natCast] at h
  refine ⟨u.alloc (.cells ((List.replicate (3 * k) (0 : Int)).map (Value.int .i64)).toArray E), ?_, fun f => ?_, (Below.refl _ _).alloc (Nat.le_refl _) _, by simp [go_sem]⟩
  · rw [← made_zero3, Nat.mul_comm 3 k]
    simpa [hz1, Value.cells] using h
  · rw [partL_zero]; exact heap_alloc_new u _
theorem part3 (f : Nat → Int) (n j : Nat) : (((partL f n (3 * j)).set (j * 3) (f (3 * j))).set (j * 3 + 1) (f (3 * j + 1))).set (j * 3 + 2) (f (3 * j + 2)) = partL f n (3 * (j + 1)) := by
  rw [Nat.mul_comm j 3, partL_set, partL_set, show 3 * j + 2 = 3 * j + 1 + 1 by omega, partL_set, show 3 * (j + 1) = 3 * j + 1 + 1 + 1 by omega]
theorem FlatAt.set3 {w : World} {g : Nat} {T : TypeId} {f : Nat → Int} {n j : Nat} {x0 x1 x2 : Int} (h : FlatAt w g T (partL f n (3 * j))) (h0 : f (3 * j) = x0) (h1 : f (3 * j + 1) = x1) (h2 : f (3 * j + 2) = x2) :
    FlatAt (((w.setCell ⟨g, j * 3, none⟩ (.int .i64 x0)).setCell ⟨g, j * 3 + 1, none⟩ (.int .i64 x1)).setCell ⟨g, j * 3 + 2, none⟩ (.int .i64 x2)) g T (partL f n (3 * (j + 1))) := by
  subst h0 h1 h2
  have := ((h.set (j * 3) (f (3 * j))).set (j * 3 + 1) (f (3 * j + 1))).set (j * 3 + 2) (f (3 * j + 2))
  rwa [part3] at this
theorem FlatAt.there {w : World} {g : Nat} {T : TypeId} {f : Nat → Int} {n j i : Nat} (h : FlatAt w g T (partL f n j)) (hi : i < n) : ∃ z, w.cell? ⟨g, i, none⟩ = some (.int .i64 z) := ⟨_, h.cell (by rw [partL_length]; exact hi)⟩

/-- The m-th number of the rows. -/
def rowF (s : ByteArray) (m : Nat) : Int :=
  if m % 3 = 0 then (numOr (s.extract (4 + 8 * (m / 3)) (4 + 8 * (m / 3) + 8)) 0 2).1
  else if m % 3 = 1 then (numOr (s.extract (4 + 8 * (m / 3)) (4 + 8 * (m / 3) + 8)) 2 2).1
  else (numOr (s.extract (4 + 8 * (m / 3)) (4 + 8 * (m / 3) + 8)) 4 4).1
theorem rowF0 (s : ByteArray) (j : Nat) : rowF s (3 * j) = (numOr (s.extract (4 + 8 * j) (4 + 8 * j + 8)) 0 2).1 := by
  unfold rowF; rw [if_pos (by omega), show 3 * j / 3 = j by omega]
theorem rowF1 (s : ByteArray) (j : Nat) : rowF s (3 * j + 1) = (numOr (s.extract (4 + 8 * j) (4 + 8 * j + 8)) 2 2).1 := by
  unfold rowF; rw [if_neg (by omega), if_pos (by omega), show (3 * j + 1) / 3 = j by omega]
theorem rowF2 (s : ByteArray) (j : Nat) : rowF s (3 * j + 2) = (numOr (s.extract (4 + 8 * j) (4 + 8 * j + 8)) 4 4).1 := by
  unfold rowF; rw [if_neg (by omega), if_neg (by omega), show (3 * j + 2) / 3 = j by omega]
/-- For what reason the rows are refused; 0: they aren't. -/
def rowsErr (s : ByteArray) : Int :=
  if (numOr s 0 2).2 ≠ 0 then 51 else if (numOr s 0 2).1 ≠ 0 then 52 else if (numOr s 2 2).2 ≠ 0 then 51 else if 64 < (numOr s 2 2).1 then 53
  else if (s.size : Int) < 4 + 8 * (numOr s 2 2).1 then 51 else 0
/-- How many rows there are. -/
def rowsN (s : ByteArray) : Nat := (numOr s 2 2).1.toNat

/-- What readRows answers. -/
def RowsPost (s : ByteArray) (w : World) (e : Ending) (w' : World) : Prop :=
  Below w.heap.size w w' ∧ ((rowsErr s ≠ 0 ∧ e = .returned (.tuple #[.slice none 0 0, .int .i64 (rowsErr s)])) ∨
    (rowsErr s = 0 ∧ rowsN s ≤ 64 ∧ ∃ g, e = .returned (.tuple #[.slice (some ⟨g, 0, none⟩) (rowsN s) (rowsN s), .int .i64 0]) ∧ FlatAt w' g 76 (partL (rowF s) (3 * rowsN s) (3 * rowsN s))))
theorem rows_bad {s : ByteArray} {w w' : World} {x : Int} (h : rowsErr s = x) (hx : x ≠ 0) (hb : Below w.heap.size w w') : RowsPost s w (.returned (.tuple #[.slice none 0 0, .int .i64 x])) w' := by
  subst h; exact ⟨hb, .inl ⟨hx, rfl⟩⟩

set_option maxRecDepth 20000 in
set_option maxHeartbeats 2000000 in
theorem readRows_c (g : Nat) (s : ByteArray) (w : World) (hc : w.cell? ⟨g, 0, none⟩ = some (.string s)) (hs : (s.size : Int) ≤ 140737488355328) :
    Calls Tryd.prog 19 #[.pointer (some ⟨g, 0, none⟩)] w (RowsPost s w) := by
  have HC := Lib.hid hc
  have HS := Lib.hid hs
  obtain ⟨v, ev, HV⟩ := numOr_ex s 0 2
  obtain ⟨n, en, HN⟩ := numOr_ex s 2 2
  have HE : Hid (rowsErr s = if ev ≠ 0 then 51 else if v ≠ 0 then 52 else if en ≠ 0 then 51 else if 64 < n then 53 else if (s.size : Int) < 4 + 8 * n then 51 else 0) := by
    unfold Hid rowsErr; rw [HV.out, HN.out]
  have HNN : Hid (rowsN s = n.toNat) := by unfold Hid rowsN; rw [HN.out]
  clear hc hs
  by_cases h1 : ev = 0
  · subst h1
    by_cases h2 : v = 0
    · subst h2
      by_cases h3 : en = 0
      · subst h3
        by_cases h4 : 64 < n
        · have HR : Hid (rowsErr s = 53) := by unfold Hid; rw [HE.out]; simp [h4]
          go_enter Tryd.func19, Tryd.ntmps19
          go_wp2_with fail
          refine (u16_c g 0 0 0 s w HC.out HS.out (by decide) HV).mono ?_
          rintro e w1 ⟨rfl, rfl⟩
          go_wp2_with fail
          refine (u16_c g 2 n 0 s w HC.out HS.out (by decide) HN).mono ?_
          rintro e w1 ⟨rfl, rfl⟩
          go_wp2_with fail
          go_ret2
          exact rows_bad HR.out (by decide) (Below.refl _ _)
        · obtain ⟨k, rfl⟩ := Int.eq_ofNat_of_zero_le (num16_bound HN.out).1
          rw [Int.toNat_natCast] at HNN
          have HK : Hid (k ≤ 64) := by unfold Hid; omega
          have HZ : Hid (4 ≤ s.size) := by
            have := HN.out
            unfold Hid numOr at *
            cases hb : hasB s 2 2
            · rw [hb] at this; simp at this
            · simp [hasB] at hb; omega
          have HE2 : Hid (rowsErr s = if (s.size : Int) < 4 + 8 * (k : Int) then 51 else 0) := by unfold Hid; rw [HE.out]; simp [h4]
          obtain ⟨w0, hmk, hf0, hb0, hz0⟩ := make_three 57 76 Tryd.underlying57 infoRow k (by omega) w
          have HF0 := Lib.hid (hf0 (rowF s))
          have HB0 := Lib.hid hb0
          have hd4 : decide ((64 : Int) < (k : Int)) = false := by simp; omega
          clear hf0 hb0 hz0 HE
          generalize hB : w.heap.size = B at *
          have HBB := Lib.hid hB
          clear hB
          go_enter Tryd.func19, Tryd.ntmps19
          go_wp2_with fail
          refine (u16_c g 0 0 0 s w HC.out HS.out (by decide) HV).mono ?_
          rintro e w1 ⟨rfl, rfl⟩
          go_wp2_with fail
          refine (u16_c g 2 k 0 s w HC.out HS.out (by decide) HN).mono ?_
          rintro e w1 ⟨rfl, rfl⟩
          clear HN HV
          go_wp2_with fail
          go_loopw [33] (fun i wr => ∃ j : Nat, j ≤ k ∧ i = .int .i64 j ∧ Hid (4 + 8 * j ≤ s.size) ∧ Hid (FlatAt wr B 76 (partL (rowF s) (3 * k) (3 * j))) ∧ Hid (Below B w wr)) (fun i _ => k - (intOf i).toNat)
          case atStart => exact ⟨0, Nat.zero_le _, rfl, HZ, HF0, HB0⟩
          case round =>
            clear HF0 HB0 HZ hmk
            obtain ⟨j, hj, rfl, HJ, HF, HB⟩ := hrel
            by_cases hlt : j < k
            · have hlt' : (j : Int) < (k : Int) := by omega
              have hw1 : wrap64 (8 * (j : Int)) = 8 * (j : Int) := by have := HK.out; unfold wrap64; omega
              have hw2 : wrap64 (4 + 8 * (j : Int)) = ((4 + 8 * j : Nat) : Int) := by have := HK.out; unfold wrap64; omega
              have HX7 : Hid (wrap64 ((j : Int) + 1) = ((j + 1 : Nat) : Int)) := by have := HK.out; unfold Hid wrap64; omega
              have HCW := Lib.hid (keepC (by rw [HBB.out]; exact HB.out) HC.out)
              by_cases hin : 4 + 8 * j + 8 ≤ s.size
              · obtain ⟨r, HRR⟩ : ∃ r, Hid (s.extract (4 + 8 * j) (4 + 8 * j + 8) = r) := ⟨_, rfl⟩
                have HRS : Hid ((r.size : Int) ≤ 140737488355328) := by unfold Hid; rw [← HRR.out, ByteArray.size_extract]; omega
                obtain ⟨x0, e0, H0⟩ := numOr_ex r 0 2
                obtain ⟨x1, e1, H1⟩ := numOr_ex r 2 2
                obtain ⟨x2, e2, H2⟩ := numOr_ex r 4 4
                have HX0 : Hid (rowF s (3 * j) = x0) := by unfold Hid; rw [rowF0, HRR.out, H0.out]
                have HX1 : Hid (rowF s (3 * j + 1) = x1) := by unfold Hid; rw [rowF1, HRR.out, H1.out]
                have HX2 : Hid (rowF s (3 * j + 2) = x2) := by unfold Hid; rw [rowF2, HRR.out, H2.out]
                have HIN := Lib.hid hin
                have hcut := cut_at g (4 + 8 * j) 8 8 rfl s wr HCW.out HS.out hin
                rw [HRR.out] at hcut
                have HCUT := Lib.hid hcut
                clear hcut hin hj hlt HRR
                go_wp2_with fail
                refine HCUT.out.mono ?_
                rintro e w1 ⟨rfl, hw1'⟩
                have hb1 : Below wr.heap.size wr w1 := by rw [hw1']; exact (Below.refl _ _).alloc (Nat.le_refl _) _
                have HF1 := Lib.hid (HF.out.below hb1)
                have HB1 := Lib.hid (HB.out.trans (hb1.mono (by have := HF.out.lt; omega)))
                have HV1 : Hid (w1.cell? ⟨wr.heap.size, 0, none⟩ = some (.string r)) := by unfold Hid; rw [hw1']; simp [go_sem]
                have HNE : Hid (B ≠ wr.heap.size) := by have := HF.out.lt; unfold Hid; omega
                clear hw1' hb1 HF HB HCUT HCW
                generalize wr.heap.size = gb at *
                obtain ⟨z0, k0⟩ := HF1.out.there (i := j * 3) (by omega)
                obtain ⟨z1, k1⟩ := HF1.out.there (i := j * 3 + 1) (by omega)
                obtain ⟨z2, k2⟩ := HF1.out.there (i := j * 3 + 2) (by omega)
                have f0 := HF1.out.frozen (j * 3)
                have f1 := HF1.out.frozen (j * 3 + 1)
                have f2 := HF1.out.frozen (j * 3 + 2)
                have HV2 : Hid ((w1.setCell ⟨B, j * 3, none⟩ (.int .i64 x0)).cell? ⟨gb, 0, none⟩ = some (.string r)) := by
                  unfold Hid; rw [World.cell?_setCell_other _ _ _ _ (fun q => HNE.out (congrArg Addr.block q))]; exact HV1.out
                have HV3 : Hid (((w1.setCell ⟨B, j * 3, none⟩ (.int .i64 x0)).setCell ⟨B, j * 3 + 1, none⟩ (.int .i64 x1)).cell? ⟨gb, 0, none⟩ = some (.string r)) := by
                  unfold Hid; rw [World.cell?_setCell_other _ _ _ _ (fun q => HNE.out (congrArg Addr.block q))]; exact HV2.out
                have HF2 := Lib.hid (HF1.out.set3 HX0.out HX1.out HX2.out)
                have HB2 := Lib.hid (((HB1.out.setCell (p := ⟨B, j * 3, none⟩) (Nat.le_refl _) (.int .i64 x0)).setCell (p := ⟨B, j * 3 + 1, none⟩) (Nat.le_refl _) (.int .i64 x1)).setCell (p := ⟨B, j * 3 + 2, none⟩) (Nat.le_refl _) (.int .i64 x2))
                clear HF1 HB1
                go_wp2_with fail
                refine (u16_c gb 0 x0 e0 r _ HV1.out HRS.out (by decide) H0).mono ?_
                rintro e w2 ⟨rfl, rfl⟩
                go_wp2_with fail
                refine (u16_c gb 2 x1 e1 r _ HV2.out HRS.out (by decide) H1).mono ?_
                rintro e w2 ⟨rfl, rfl⟩
                go_wp2_with fail
                refine (u32_c gb 4 x2 e2 r _ HV3.out HRS.out (by decide) H2).mono ?_
                rintro e w2 ⟨rfl, rfl⟩
                go_wp2_with fail
                go_roundw
                case rel => exact ⟨j + 1, by omega, by go_num, by have := HIN.out; unfold Hid; omega, HF2, HB2⟩
                case measure => simp only [intOf]; omega
              · have HR : Hid (rowsErr s = 51) := by unfold Hid; rw [HE2.out, if_pos (by omega)]
                have hno : hasB s ((4 + 8 * j : Nat) : Int) 8 = false := by simp [hasB]; omega
                have HCUT := Lib.hid (cut_no g ((4 + 8 * j : Nat) : Int) 8 s wr HCW.out HS.out (by have := HK.out; omega) hno)
                clear hno hin
                go_wp2_with fail
                refine HCUT.out.mono ?_
                rintro e w1 ⟨rfl, rfl⟩
                go_wp2_with fail
                go_ret2
                exact rows_bad HR.out (by decide) (by rw [HBB.out]; exact HB.out)
            · have hlt' : ¬ (j : Int) < (k : Int) := by omega
              obtain rfl : j = k := by omega
              have HR : Hid (rowsErr s = 0) := by have := HJ.out; unfold Hid; rw [HE2.out, if_neg (by omega)]
              go_wp2_with fail
              go_ret2
              refine ⟨by rw [HBB.out]; exact HB.out, .inr ⟨HR.out, by rw [HNN.out]; exact HK.out, B, ?_, ?_⟩⟩
              · rw [HNN.out]; rfl
              · rw [HNN.out]; exact HF.out
      · have HR : Hid (rowsErr s = 51) := by unfold Hid; rw [HE.out]; simp [h3]
        go_enter Tryd.func19, Tryd.ntmps19
        go_wp2_with fail
        refine (u16_c g 0 0 0 s w HC.out HS.out (by decide) HV).mono ?_
        rintro e w1 ⟨rfl, rfl⟩
        go_wp2_with fail
        refine (u16_c g 2 n en s w HC.out HS.out (by decide) HN).mono ?_
        rintro e w1 ⟨rfl, rfl⟩
        go_wp2_with fail
        go_ret2
        exact rows_bad HR.out (by decide) (Below.refl _ _)
    · have HR : Hid (rowsErr s = 52) := by unfold Hid; rw [HE.out]; simp [h2]
      go_enter Tryd.func19, Tryd.ntmps19
      go_wp2_with fail
      refine (u16_c g 0 v 0 s w HC.out HS.out (by decide) HV).mono ?_
      rintro e w1 ⟨rfl, rfl⟩
      go_wp2_with fail
      go_ret2
      exact rows_bad HR.out (by decide) (Below.refl _ _)
  · have HR : Hid (rowsErr s = 51) := by unfold Hid; rw [HE.out]; simp [h1]
    go_enter Tryd.func19, Tryd.ntmps19
    go_wp2_with fail
    refine (u16_c g 0 v ev s w HC.out HS.out (by decide) HV).mono ?_
    rintro e w1 ⟨rfl, rfl⟩
    go_wp2_with fail
    go_ret2
    exact rows_bad HR.out (by decide) (Below.refl _ _)

/-- What subtable answers: all that the table has from a place on, and its form. -/
def SubPost (s : ByteArray) (p : Int) (w : World) (e : Ending) (w' : World) : Prop :=
  Below w.heap.size w w' ∧ (((numOr s p 2).2 ≠ 0 ∧ e = .returned (.tuple #[.pointer none, .int .i64 0, .int .i64 51])) ∨
    ((numOr s p 2).2 = 0 ∧ ∃ g, w.heap.size ≤ g ∧ e = .returned (.tuple #[.pointer (some ⟨g, 0, none⟩), .int .i64 (numOr s p 2).1, .int .i64 0]) ∧ w'.cell? ⟨g, 0, none⟩ = some (.string (s.extract p.toNat s.size))))

theorem numN_ext (s : ByteArray) (p : Nat) (i : Nat) : ∀ k, p + i + k ≤ s.size → numN (s.extract p s.size) i k = numN s (p + i) k
  | 0, _ => rfl
  | k + 1, h => by rw [numN, numN, numN_ext s p i k (by omega), bt_extract s p s.size (i + k) (Nat.le_refl _) (by omega), Nat.add_assoc]
theorem numOr_ext (s : ByteArray) (p : Nat) (i n : Int) (hp : p ≤ s.size) (h0 : 0 ≤ i) (hn : 0 ≤ n) : numOr (s.extract p s.size) i n = numOr s (p + i) n := by
  obtain ⟨j, rfl⟩ := Int.eq_ofNat_of_zero_le h0
  obtain ⟨m, rfl⟩ := Int.eq_ofNat_of_zero_le hn
  unfold numOr
  have hz : (s.extract p s.size).size = s.size - p := by rw [ByteArray.size_extract]; omega
  by_cases h : p + j + m ≤ s.size
  · rw [if_pos (by simp [hasB, hz]; omega), if_pos (by simp [hasB]; omega)]
    have := numN_ext s p j m h
    simp only [Int.toNat_natCast, show ((p : Int) + (j : Int)).toNat = p + j by omega]
    rw [this]
  · rw [if_neg (by simp [hasB, hz]; omega), if_neg (by simp [hasB]; omega)]

set_option maxHeartbeats 1000000 in
theorem subtable_c (g : Nat) (s : ByteArray) (p : Int) (w : World) (hc : w.cell? ⟨g, 0, none⟩ = some (.string s)) (hs : (s.size : Int) ≤ 140737488355328) (hp0 : 0 ≤ p) (hp1 : p ≤ 4294967295) :
    Calls Tryd.prog 30 #[.pointer (some ⟨g, 0, none⟩), .int .i64 p] w (SubPost s p w) := by
  obtain ⟨p, rfl⟩ := Int.eq_ofNat_of_zero_le hp0
  have HC := Lib.hid hc
  have HS := Lib.hid hs
  obtain ⟨L, hL⟩ : ∃ L : Int, (s.size : Int) - (p : Int) = L := ⟨_, rfl⟩
  have hw1 : wrap64 ((s.size : Int) - (p : Int)) = L := by rw [← hL]; unfold wrap64; omega
  by_cases h : p ≤ s.size
  · obtain ⟨k, rfl⟩ : ∃ k : Nat, L = (k : Int) := ⟨s.size - p, by omega⟩
    obtain ⟨sub, HSUB⟩ : ∃ sub, Hid (s.extract p s.size = sub) := ⟨_, rfl⟩
    have hcut := cut_at g p k (k : Int) rfl s w hc hs (by omega)
    rw [show p + k = s.size by omega, HSUB.out] at hcut
    have HCUT := Lib.hid hcut
    obtain ⟨x, ex, HX⟩ := numOr_ex sub 0 2
    have HE : Hid (numOr s (p : Int) 2 = (x, ex)) := by unfold Hid; rw [← HX.out, ← HSUB.out, numOr_ext s p 0 2 h (by decide) (by decide)]; simp
    have HRS : Hid ((sub.size : Int) ≤ 140737488355328) := by unfold Hid; rw [← HSUB.out, ByteArray.size_extract]; omega
    clear hc hs hcut h hp0 hp1
    have HL := Lib.hid hL
    clear hL
    by_cases h2 : ex = 0
    · subst h2
      go_enter Tryd.func30, Tryd.ntmps30
      go_wp2_with fail
      refine (len_c g s w HC.out).mono ?_
      rintro e w1 ⟨rfl, rfl⟩
      go_wp2_with fail
      refine HCUT.out.mono ?_
      rintro e w1 ⟨rfl, hw⟩
      have HV : Hid (w1.cell? ⟨w.heap.size, 0, none⟩ = some (.string sub)) := by unfold Hid; rw [hw]; simp [go_sem]
      have HB : Hid (Below w.heap.size w w1) := by unfold Hid; rw [hw]; exact (Below.refl _ _).alloc (Nat.le_refl _) _
      clear hw
      go_wp2_with fail
      refine (u16_c w.heap.size 0 x 0 sub w1 HV.out HRS.out (by decide) HX).mono ?_
      rintro e w2 ⟨rfl, rfl⟩
      go_wp2_with fail
      go_ret3
      refine ⟨HB.out, .inr ⟨by rw [HE.out], w.heap.size, Nat.le_refl _, by rw [HE.out]; rfl, ?_⟩⟩
      rw [Int.toNat_natCast, HSUB.out]; exact HV.out
    · go_enter Tryd.func30, Tryd.ntmps30
      go_wp2_with fail
      refine (len_c g s w HC.out).mono ?_
      rintro e w1 ⟨rfl, rfl⟩
      go_wp2_with fail
      refine HCUT.out.mono ?_
      rintro e w1 ⟨rfl, hw⟩
      have HV : Hid (w1.cell? ⟨w.heap.size, 0, none⟩ = some (.string sub)) := by unfold Hid; rw [hw]; simp [go_sem]
      have HB : Hid (Below w.heap.size w w1) := by unfold Hid; rw [hw]; exact (Below.refl _ _).alloc (Nat.le_refl _) _
      clear hw
      go_wp2_with fail
      refine (u16_c w.heap.size 0 x ex sub w1 HV.out HRS.out (by decide) HX).mono ?_
      rintro e w2 ⟨rfl, rfl⟩
      go_wp2_with fail
      go_ret3
      exact ⟨HB.out, .inl ⟨by rw [HE.out]; exact h2, rfl⟩⟩
  · have hno : hasB s p L = false := by simp [hasB]; omega
    have HCUT := Lib.hid (cut_no g p L s w hc hs (by omega) hno)
    have HE : Hid ((numOr s (p : Int) 2).2 ≠ 0) := by unfold Hid numOr; rw [if_neg (by simp [hasB]; omega)]; decide
    have HL := Lib.hid hL
    clear hc hs h hp0 hp1 hno hL
    go_enter Tryd.func30, Tryd.ntmps30
    go_wp2_with fail
    refine (len_c g s w HC.out).mono ?_
    rintro e w1 ⟨rfl, rfl⟩
    go_wp2_with fail
    refine HCUT.out.mono ?_
    rintro e w1 ⟨rfl, rfl⟩
    go_wp2_with fail
    go_ret3
    exact ⟨Below.refl _ _, .inl ⟨HE.out, rfl⟩⟩

end Go.Proofs.YtfbgddigedgpfaaDoor
