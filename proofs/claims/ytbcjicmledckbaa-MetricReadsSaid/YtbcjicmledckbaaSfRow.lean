/-
  What the function of package sfnt answers that reads one row of a directory, as a contract over the translated program. Nothing that was there is changed. Condition: the view has at most 1048576 bytes.
-/
import Derived.Test.YtbcjicmledckbaaSfDir
namespace Go.Proofs.Ytbcjicmledckbaa
open Go.RowKit Go.PlainAid
set_option linter.unusedSimpArgs false
set_option linter.unusedVariables false

/-- A row's tag, place and length. -/
structure Row where
  tag : ByteArray
  place : Int
  len : Int

/-- What a row of sixteen bytes says, if the file has what it speaks of. -/
def rowIn (s r : ByteArray) : Option Row :=
  if hasB s (numOr r 8 4).1 (numOr r 12 4).1 = false then none
  else if (numOr r 8 4).1 % 4 ≠ 0 then none
  else if ((tagOr r 0).1.toList == [104, 101, 97, 100]) = true then some ⟨(tagOr r 0).1, (numOr r 8 4).1, (numOr r 12 4).1⟩
  else if sumB (s.extract (numOr r 8 4).1.toNat ((numOr r 8 4).1.toNat + (numOr r 12 4).1.toNat)) ≠ (numOr r 4 4).1 then none
  else some ⟨(tagOr r 0).1, (numOr r 8 4).1, (numOr r 12 4).1⟩
/-- The row at a place of the file. -/
def rowOf (s : ByteArray) (at' : Int) : Option Row :=
  if hasB s at' 16 = false then none else rowIn s (s.extract at'.toNat (at'.toNat + 16))

/-- The row as the program answers it. -/
def rowVal : Option Row → Value
  | none => .tuple #[.agg #[.string ByteArray.empty, .int .i64 0, .int .i64 0], .bool false]
  | some r => .tuple #[.agg #[.string r.tag, .int .i64 r.place, .int .i64 r.len], .bool true]

theorem keepC {w w' : World} {p : Addr} {v : Value} (hb : Below w.heap.size w w') (hc : w.cell? p = some v) : w'.cell? p = some v := by
  rw [hb.cell (World.block_lt_of_cell? w _ hc)]; exact hc

set_option maxHeartbeats 1000000 in
theorem table_no (g : Nat) (at' : Int) (s : ByteArray) (w : World) (hc : w.cell? ⟨g, 0, none⟩ = some (.string s)) (hs : (s.size : Int) ≤ 1048576) (ha : at' ≤ 9223372036854775807) (h : hasB s at' 16 = false) :
    Calls Try.prog 50 #[.pointer (some ⟨g, 0, none⟩), .int .i64 at'] w fun e w' => e = .returned (rowVal none) ∧ Below w.heap.size w w' := by
  have HS := Lib.hid hs
  have HA := Lib.hid ha
  have HH := Lib.hid h
  have HC : Hid ((w.alloc (.cells #[.string ByteArray.empty, .int .i64 0, .int .i64 0] 64)).cell? ⟨g, 0, none⟩ = some (.string s)) := by
    exact keepC ((Below.refl _ _).alloc (Nat.le_refl _) _) hc
  clear hs ha h hc
  go_enter Try.func50, Try.ntmps50
  go_wp2_with fail
  refine (cut_no g at' 16 s _ HC.out (by have := HS.out; omega) HA.out HH.out).mono ?_
  rintro e w1 ⟨rfl, rfl⟩
  go_wp2_with fail
  refine bodyPost_ret (v := rowVal none) (by simp [results, Try.results50, go_sem]; rfl) rfl ⟨rfl, ?_⟩
  exact (Below.refl _ _).alloc (Nat.le_refl _) _

/-- What is kept while a row is read: all that was there, the file's view, and the place of the answer. -/
structure Seat (w : World) (rb g : Nat) (s : ByteArray) (wr : World) : Prop where
  bel : Below rb w wr
  v : wr.cell? ⟨g, 0, none⟩ = some (.string s)
  c0 : wr.cell? ⟨rb, 0, none⟩ = some (.string ByteArray.empty)
  c1 : wr.cell? ⟨rb, 1, none⟩ = some (.int .i64 0)
  c2 : wr.cell? ⟨rb, 2, none⟩ = some (.int .i64 0)
  f0 : wr.frozen? ⟨rb, 0, none⟩ = false
  f1 : wr.frozen? ⟨rb, 1, none⟩ = false
  f2 : wr.frozen? ⟨rb, 2, none⟩ = false
theorem Seat.below {w wr w' : World} {rb g : Nat} {s : ByteArray} (h : Seat w rb g s wr) (hb : Below wr.heap.size wr w') : Seat w rb g s w' := by
  have hlt : rb < wr.heap.size := World.block_lt_of_cell? wr _ h.c0
  exact ⟨h.bel.trans (hb.mono (by omega)), keepC hb h.v, keepC hb h.c0, keepC hb h.c1, keepC hb h.c2, by rw [hb.frozen (p := ⟨rb, 0, none⟩) hlt]; exact h.f0, by rw [hb.frozen (p := ⟨rb, 1, none⟩) hlt]; exact h.f1, by rw [hb.frozen (p := ⟨rb, 2, none⟩) hlt]; exact h.f2⟩
theorem Seat.bel3 {w wr : World} {rb g : Nat} {s : ByteArray} (h : Seat w rb g s wr) (a b c : Value) : Below rb w (((wr.setCell ⟨rb, 0, none⟩ a).setCell ⟨rb, 1, none⟩ b).setCell ⟨rb, 2, none⟩ c) :=
  ((h.bel.setCell (p := ⟨rb, 0, none⟩) (Nat.le_refl _) a).setCell (p := ⟨rb, 1, none⟩) (Nat.le_refl _) b).setCell (p := ⟨rb, 2, none⟩) (Nat.le_refl _) c
theorem seat_start (w : World) (g : Nat) (s : ByteArray) (hc : w.cell? ⟨g, 0, none⟩ = some (.string s)) : Seat w w.heap.size g s (w.alloc (.cells #[.string ByteArray.empty, .int .i64 0, .int .i64 0] 64)) := by
  refine ⟨(Below.refl _ _).alloc (Nat.le_refl _) _, keepC ((Below.refl _ _).alloc (Nat.le_refl _) _) hc, ?_, ?_, ?_, ?_, ?_, ?_⟩ <;> simp [go_sem]

theorem cut_at (g p k : Nat) (n : Int) (hn : n = (k : Int)) (s : ByteArray) (w : World) (hc : w.cell? ⟨g, 0, none⟩ = some (.string s)) (hs : (s.size : Int) ≤ 140737488355328) (h : p + k ≤ s.size) :
    Calls Try.prog 65 #[.pointer (some ⟨g, 0, none⟩), .int .i64 p, .int .i64 n] w fun e w' => e = .returned (.tuple #[.pointer (some ⟨w.heap.size, 0, none⟩), .int .i64 0]) ∧ w' = w.alloc (.cells #[.string (s.extract p (p + k))] 87) := by
  subst hn
  exact cut_yes g p k s w hc hs h

set_option maxHeartbeats 400000 in
theorem table_yes (g p : Nat) (s r : ByteArray) (w : World) (rr : Option Row) (hc : w.cell? ⟨g, 0, none⟩ = some (.string s)) (hs : (s.size : Int) ≤ 1048576) (h : p + 16 ≤ s.size) (HR : Hid (s.extract p (p + 16) = r)) (HX : Hid (rowIn s r = rr)) :
    Calls Try.prog 50 #[.pointer (some ⟨g, 0, none⟩), .int .i64 p] w fun e w' => e = .returned (rowVal rr) ∧ Below w.heap.size w w' := by
  have HS := Lib.hid hs
  have HH := Lib.hid h
  have HT0 := Lib.hid (seat_start w g s hc)
  obtain ⟨t, et, HT⟩ := tagOr_ex r 0
  obtain ⟨sm, e1, H1⟩ := numOr_ex r 4 4
  obtain ⟨pl, e2, H2⟩ := numOr_ex r 8 4
  obtain ⟨ln, e3, H3⟩ := numOr_ex r 12 4
  have HRS : Hid ((r.size : Int) ≤ 140737488355328) := by unfold Hid; rw [← HR.out, ByteArray.size_extract]; omega
  have HPB := Lib.hid (num32_bound H2.out)
  have HLB := Lib.hid (num32_bound H3.out)
  have HX2 : Hid ((if hasB s pl ln = false then none else if pl % 4 ≠ 0 then none else if (t.toList == [104, 101, 97, 100]) = true then some (Row.mk t pl ln) else if sumB (s.extract pl.toNat (pl.toNat + ln.toNat)) ≠ sm then none else some ⟨t, pl, ln⟩) = rr) := by
    have := HX.out
    rw [rowIn, HT.out, H1.out, H2.out, H3.out] at this
    exact this
  clear hs h hc HX
  go_enter Try.func50, Try.ntmps50
  go_wp2_with fail
  refine (cut_at g p 16 16 rfl s _ HT0.out.v (by have := HS.out; omega) HH.out).mono ?_
  rintro e w1 ⟨rfl, hw1⟩
  rw [HR.out] at hw1
  have HT1 : Hid (Seat w w.heap.size g s w1) := by rw [hw1]; exact HT0.out.below ((Below.refl _ _).alloc (Nat.le_refl _) _)
  have HV1 : Hid (w1.cell? ⟨(w.alloc (.cells #[.string ByteArray.empty, .int .i64 0, .int .i64 0] 64)).heap.size, 0, none⟩ = some (.string r)) := by unfold Hid; rw [hw1]; simp [go_sem]
  clear hw1 HT0
  generalize (w.alloc (.cells #[.string ByteArray.empty, .int .i64 0, .int .i64 0] 64)).heap.size = gr at *
  generalize hrb : w.heap.size = rb at *
  have HRB := Lib.hid hrb
  clear hrb
  go_wp2_with fail
  refine (tag_c gr 0 et r t w1 HV1.out HRS.out (by decide) HT).mono ?_
  rintro e w2 ⟨rfl, rfl⟩
  go_wp2_with fail
  refine (u32_c gr 4 sm e1 r w1 HV1.out HRS.out (by decide) H1).mono ?_
  rintro e w2 ⟨rfl, rfl⟩
  go_wp2_with fail
  refine (u32_c gr 8 pl e2 r w1 HV1.out HRS.out (by decide) H2).mono ?_
  rintro e w2 ⟨rfl, rfl⟩
  go_wp2_with fail
  refine (u32_c gr 12 ln e3 r w1 HV1.out HRS.out (by decide) H3).mono ?_
  rintro e w2 ⟨rfl, rfl⟩
  go_wp2_with fail
  cases h1 : hasB s pl ln
  · have HE : Hid (none = rr) := by have := HX2.out; unfold Hid; simpa [h1] using this
    have HH1 := Lib.hid h1
    clear h1
    refine (cut_no g pl ln s w1 HT1.out.v (by have := HS.out; omega) (by have := HPB.out; omega) HH1.out).mono ?_
    rintro e w2 ⟨rfl, rfl⟩
    obtain ⟨bel, _, k0, k1, k2, f0, f1, f2⟩ := HT1.out
    go_wp2_with fail
    refine bodyPost_ret (v := rowVal none) (by simp [results, Try.results50, go_sem, k0, k1, k2]; rfl) rfl ⟨by rw [← HE.out], ?_⟩
    rw [HRB.out]
    exact HT1.out.bel3 _ _ _
  · have HX3 : Hid ((if pl % 4 ≠ 0 then none else if (t.toList == [104, 101, 97, 100]) = true then some (Row.mk t pl ln) else if sumB (s.extract pl.toNat (pl.toNat + ln.toNat)) ≠ sm then none else some ⟨t, pl, ln⟩) = rr) := by have := HX2.out; unfold Hid; simpa [h1] using this
    simp [hasB] at h1
    have hp0 := HPB.out
    have hl0 := HLB.out
    obtain ⟨P, rfl⟩ := Int.eq_ofNat_of_zero_le hp0.1
    obtain ⟨L, rfl⟩ := Int.eq_ofNat_of_zero_le hl0.1
    have HPL : Hid (P + L ≤ s.size) := by unfold Hid; omega
    clear h1 hp0 hl0 HX2
    refine (cut_yes g P L s w1 HT1.out.v (by have := HS.out; omega) HPL.out).mono ?_
    rintro e w2 ⟨rfl, hw2⟩
    obtain ⟨bd, HBD⟩ : ∃ bd, Hid (s.extract P (P + L) = bd) := ⟨_, rfl⟩
    rw [HBD.out] at hw2
    have HX4 : Hid ((if (P : Int) % 4 ≠ 0 then none else if (t.toList == [104, 101, 97, 100]) = true then some (Row.mk t P L) else if sumB bd ≠ sm then none else some ⟨t, P, L⟩) = rr) := by have := HX3.out; unfold Hid; simpa only [Int.toNat_natCast, HBD.out] using this
    clear HX3
    have HT2 : Hid (Seat w rb g s w2) := by rw [hw2]; exact HT1.out.below ((Below.refl _ _).alloc (Nat.le_refl _) _)
    have HV2 : Hid (w2.cell? ⟨w1.heap.size, 0, none⟩ = some (.string bd)) := by unfold Hid; rw [hw2]; simp [go_sem]
    have HBS : Hid ((bd.size : Int) ≤ 140737488355328) := by unfold Hid; rw [← HBD.out, ByteArray.size_extract]; have := HS.out; omega
    clear hw2 HT1 HV1
    generalize w1.heap.size = gb at *
    by_cases h2 : (P : Int) % 4 = 0
    · have hmod : ((P : Int)).tmod 4 = 0 := by rw [Int.tmod_eq_emod_of_nonneg (by omega)]; exact h2
      cases h3 : t.toList == [104, 101, 97, 100]
      · have h3' : (t.toList != [104, 101, 97, 100]) = true := by simp only [bne, h3]; rfl
        have HX5 : Hid ((if sumB bd ≠ sm then none else some (Row.mk t P L)) = rr) := by have := HX4.out; unfold Hid; simpa [h2, h3] using this
        go_wp2_with fail
        refine (bytes_c gb bd w2 HV2.out).mono ?_
        rintro e w3 ⟨rfl, hw3⟩
        have HT3 : Hid (Seat w rb g s w3) := by rw [hw3]; exact HT2.out.below (below_bytes _ _ _)
        have HI3 : Hid (IsB w3 (some ⟨w2.heap.size, 0, none⟩) bd.size (grownCap w2 bd.size 0 5) bd) := by rw [hw3]; exact isB_bytes _ _ _
        clear hw3 HT2 HV2
        go_wp2_with fail
        refine (sum_c _ _ _ bd w3 HI3.out HBS.out).mono ?_
        rintro e w4 ⟨rfl, rfl⟩
        by_cases h4 : sumB bd = sm
        · have h4' : (sumB bd != sm) = false := by simp [h4]
          have HE : Hid (some (Row.mk t P L) = rr) := by have := HX5.out; unfold Hid; simpa [h4] using this
          obtain ⟨_, _, k0, k1, k2, f0, f1, f2⟩ := HT3.out
          go_wp2_with fail
          refine bodyPost_ret (v := rowVal (some (Row.mk t P L))) (by simp [results, Try.results50, go_sem, k0, k1, k2]; try rfl) rfl ⟨by rw [← HE.out], ?_⟩
          rw [HRB.out]
          exact HT3.out.bel3 _ _ _
        · have h4' : (sumB bd != sm) = true := by simp [h4]
          have HE : Hid (none = rr) := by have := HX5.out; unfold Hid; simpa [h4] using this
          obtain ⟨_, _, k0, k1, k2, f0, f1, f2⟩ := HT3.out
          go_wp2_with fail
          refine bodyPost_ret (v := rowVal none) (by simp [results, Try.results50, go_sem, k0, k1, k2]; try rfl) rfl ⟨by rw [← HE.out], ?_⟩
          rw [HRB.out]
          exact HT3.out.bel3 _ _ _
      · have h3' : (t.toList != [104, 101, 97, 100]) = false := by simp only [bne, h3]; rfl
        have HE : Hid (some (Row.mk t P L) = rr) := by have := HX4.out; unfold Hid; simpa [h2, h3] using this
        obtain ⟨_, _, k0, k1, k2, f0, f1, f2⟩ := HT2.out
        go_wp2_with fail
        refine bodyPost_ret (v := rowVal (some (Row.mk t P L))) (by simp [results, Try.results50, go_sem, k0, k1, k2]; try rfl) rfl ⟨by rw [← HE.out], ?_⟩
        rw [HRB.out]
        exact HT2.out.bel3 _ _ _
    · have hmod : ¬ ((P : Int)).tmod 4 = 0 := by rw [Int.tmod_eq_emod_of_nonneg (by omega)]; exact h2
      have HE : Hid (none = rr) := by have := HX4.out; unfold Hid; simpa [h2] using this
      obtain ⟨_, _, k0, k1, k2, f0, f1, f2⟩ := HT2.out
      go_wp2_with fail
      refine bodyPost_ret (v := rowVal none) (by simp [results, Try.results50, go_sem, k0, k1, k2]; try rfl) rfl ⟨by rw [← HE.out], ?_⟩
      rw [HRB.out]
      exact HT2.out.bel3 _ _ _

theorem table_c (g : Nat) (at' : Int) (s : ByteArray) (w : World) (rr : Option Row) (hc : w.cell? ⟨g, 0, none⟩ = some (.string s)) (hs : (s.size : Int) ≤ 1048576) (ha : at' ≤ 9223372036854775807) (HX : Hid (rowOf s at' = rr)) :
    Calls Try.prog 50 #[.pointer (some ⟨g, 0, none⟩), .int .i64 at'] w fun e w' => e = .returned (rowVal rr) ∧ Below w.heap.size w w' := by
  cases h : hasB s at' 16
  · have e : rr = none := by rw [← HX.out, rowOf, if_pos h]
    rw [e]
    exact table_no g at' s w hc hs ha h
  · have h' := h
    simp [hasB] at h
    obtain ⟨p, rfl⟩ := Int.eq_ofNat_of_zero_le h.1
    refine table_yes g p s _ w rr hc hs (by omega) rfl ?_
    have := HX.out
    rw [rowOf, if_neg (by rw [h']; decide)] at this
    unfold Hid
    simpa using this

end Go.Proofs.Ytbcjicmledckbaa
