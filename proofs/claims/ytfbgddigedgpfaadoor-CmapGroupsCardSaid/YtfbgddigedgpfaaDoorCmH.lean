/-
  What segmentSpans and readSegments of package cmap answer, and the closure that readSegments makes.
-/
import Derived.Test.YtfbgddigedgpfaaDoorCmG
import Derived.RegionTactic
import Derived.BigRegion
namespace Go.Proofs.YtfbgddigedgpfaaDoor
open Go.RowKit Go.PlainAid
set_option linter.unusedSimpArgs false
set_option linter.unusedVariables false

/-- The m-th number of the segments. -/
def segF (s : ByteArray) (k m : Nat) : Int :=
  if m % 3 = 0 then numN s (16 + 2 * k + 2 * (m / 3)) 2 else if m % 3 = 1 then numN s (14 + 2 * (m / 3)) 2 else numN s (16 + 4 * k + 2 * (m / 3)) 2
theorem segF0 (s : ByteArray) (k j : Nat) : segF s k (3 * j) = numN s (16 + 2 * k + 2 * j) 2 := by
  unfold segF; rw [if_pos (by omega), show 3 * j / 3 = j by omega]
theorem segF1 (s : ByteArray) (k j : Nat) : segF s k (3 * j + 1) = numN s (14 + 2 * j) 2 := by
  unfold segF; rw [if_neg (by omega), if_pos (by omega), show (3 * j + 1) / 3 = j by omega]
theorem segF2 (s : ByteArray) (k j : Nat) : segF s k (3 * j + 2) = numN s (16 + 4 * k + 2 * j) 2 := by
  unfold segF; rw [if_neg (by omega), if_neg (by omega), show (3 * j + 2) / 3 = j by omega]
theorem segF_bound (s : ByteArray) (k m : Nat) : 0 ≤ segF s k m ∧ segF s k m ≤ 65535 := by
  have h : ∀ p, 0 ≤ numN s p 2 ∧ numN s p 2 ≤ 65535 := fun p => by have := numN_bound s p 2; omega
  unfold segF
  split
  · exact h _
  · split
    · exact h _
    · exact h _
theorem numsL_getD (s : ByteArray) (p k i : Nat) (h : i < k) : (numsL s p k).getD i 0 = numN s (p + 2 * i) 2 := by
  simp [numsL, List.getD, h]

theorem cell_drewN {w : World} {p : Addr} {v : Value} (h : w.cell? p = some v) (n : Nat) : (w.drewN n).cell? p = some v := h
/-- What is kept while the segments are written. -/
structure SgW (w : World) (E S D C : Nat) (s : ByteArray) (k j : Nat) (wr : World) : Prop where
  bel : Below w.heap.size w wr
  ie : IntsAt wr E (numsL s 14 k)
  is : IntsAt wr S (numsL s (16 + 2 * k) k)
  id : IntsAt wr D (numsL s (16 + 4 * k) k)
  fl : FlatAt wr C 54 (partL (segF s k) (3 * k) (3 * j))
  ne : E ≠ C ∧ S ≠ C ∧ D ≠ C ∧ w.heap.size ≤ C
theorem IntsAt.drewN {w : World} {g : Nat} {L : List Int} (h : IntsAt w g L) (n : Nat) : IntsAt (w.drewN n) g L := h
theorem FlatAt.drewN {w : World} {g : Nat} {T : TypeId} {L : List Int} (h : FlatAt w g T L) (n : Nat) : FlatAt (w.drewN n) g T L := h
theorem SgW.drewN {w wr : World} {E S D C k j : Nat} {s : ByteArray} (h : SgW w E S D C s k j wr) (n : Nat) : SgW w E S D C s k j (wr.drewN n) :=
  ⟨bel_drewN h.bel n, h.ie.drewN n, h.is.drewN n, h.id.drewN n, h.fl.drewN n, h.ne⟩
theorem SgW.drew {w wr : World} {E S D C k j : Nat} {s : ByteArray} (h : SgW w E S D C s k j wr) : SgW w E S D C s k j wr.drew := h.drewN 1
theorem SgW.next {w wr : World} {E S D C k j : Nat} {s : ByteArray} {x0 x1 x2 : Int} (h : SgW w E S D C s k j wr) (h0 : segF s k (3 * j) = x0) (h1 : segF s k (3 * j + 1) = x1) (h2 : segF s k (3 * j + 2) = x2) :
    SgW w E S D C s k (j + 1) (((wr.setCell ⟨C, j * 3, none⟩ (.int .i64 x0)).setCell ⟨C, j * 3 + 1, none⟩ (.int .i64 x1)).setCell ⟨C, j * 3 + 2, none⟩ (.int .i64 x2)) := by
  obtain ⟨n1, n2, n3, n4⟩ := h.ne
  exact ⟨((h.bel.setCell (p := ⟨C, j * 3, none⟩) n4 _).setCell (p := ⟨C, j * 3 + 1, none⟩) n4 _).setCell (p := ⟨C, j * 3 + 2, none⟩) n4 _,
    ((h.ie.other _ _ (Ne.symm n1)).other _ _ (Ne.symm n1)).other _ _ (Ne.symm n1), ((h.is.other _ _ (Ne.symm n2)).other _ _ (Ne.symm n2)).other _ _ (Ne.symm n2), ((h.id.other _ _ (Ne.symm n3)).other _ _ (Ne.symm n3)).other _ _ (Ne.symm n3), h.fl.set3 h0 h1 h2, h.ne⟩

/-- What segmentSpans answers. -/
def SegPost (s : ByteArray) (k : Nat) (w : World) (e : Ending) (w' : World) : Prop :=
  Below w.heap.size w w' ∧ (e = .returned (.tuple #[.slice none 0 0, .int .i64 51]) ∨ ∃ g, w.heap.size ≤ g ∧ e = .returned (.tuple #[.slice (some ⟨g, 0, none⟩) k k, .int .i64 0]) ∧ FlatAt w' g 54 (partL (segF s k) (3 * k) (3 * k)) ∧ Rising k (segF s k))

theorem rising_ahead {k : Nat} {f : Nat → Int} (h : ∀ i, i < k → ahead f i < f (3 * i + 1)) : Rising k f := by
  intro i j hij hjk
  induction j with
  | zero => omega
  | succ n ih =>
    have h1 := h (n + 1) hjk
    have h2 : ahead f (n + 1) = f (3 * n + 1) := rfl
    by_cases e : i = n
    · subst e; omega
    · have := ih (by omega) (by omega); omega

set_option maxRecDepth 20000 in
set_option maxHeartbeats 2000000 in
theorem segmentSpans_c (g k : Nat) (s : ByteArray) (w : World) (hc : w.cell? ⟨g, 0, none⟩ = some (.string s)) (hs : (s.size : Int) ≤ 140737488355328) (hk : k ≤ 4096) (h : 16 + 8 * k ≤ s.size) :
    Calls Tryd.prog 44 #[.pointer (some ⟨g, 0, none⟩), .int .i64 (k : Int)] w (SegPost s k w) := by
  have HC := Lib.hid hc
  have HS := Lib.hid hs
  have HK := Lib.hid hk
  have HZ := Lib.hid h
  have hw1 : wrap64 (2 * (k : Int)) = 2 * (k : Int) := by unfold wrap64; omega
  have hw3 : wrap64 (4 * (k : Int)) = 4 * (k : Int) := by unfold wrap64; omega
  obtain ⟨p2, HP2⟩ : ∃ p2, Hid (16 + 2 * k = p2) := ⟨_, rfl⟩
  obtain ⟨p3, HP3⟩ : ∃ p3, Hid (16 + 4 * k = p3) := ⟨_, rfl⟩
  have hw2 : wrap64 (16 + 2 * (k : Int)) = (p2 : Int) := by rw [← HP2.out]; unfold wrap64; omega
  have hw4 : wrap64 (16 + 4 * (k : Int)) = (p3 : Int) := by rw [← HP3.out]; unfold wrap64; omega
  clear hc hs hk h
  go_enter Tryd.func44, Tryd.ntmps44
  go_wp2_with fail
  refine (u16s_yes g 14 k s w HC.out HS.out (by have := HK.out; omega) (by have := HZ.out; omega)).mono ?_
  rintro e w1 ⟨rfl, hi1, hb1⟩
  have HI1 := Lib.hid hi1
  have HB1 := Lib.hid hb1
  have HL1 := Lib.hid hi1.lt
  clear hi1 hb1
  go_wp2_with fail
  refine (u16s_yes g p2 k s w1 (keepC HB1.out HC.out) HS.out (by have := HK.out; omega) (by have := HZ.out; have := HP2.out; omega)).mono ?_
  rintro e w2 ⟨rfl, hi2, hb2⟩
  have HI2 := Lib.hid hi2
  have HI1b := Lib.hid (HI1.out.below hb2)
  have HB2 := Lib.hid (HB1.out.trans (hb2.mono HB1.out.size))
  have HL2 := Lib.hid hi2.lt
  clear hi2 hb2 HI1 HB1
  go_wp2_with fail
  refine (u16s_yes g p3 k s w2 (keepC HB2.out HC.out) HS.out (by have := HK.out; omega) (by have := HZ.out; have := HP3.out; omega)).mono ?_
  rintro e w3 ⟨rfl, hi3, hb3⟩
  have HI3 := Lib.hid hi3
  have HI2b := Lib.hid (HI2.out.below hb3)
  have HI1c := Lib.hid (HI1b.out.below hb3)
  have HB3 := Lib.hid (HB2.out.trans (hb3.mono HB2.out.size))
  have HL3 := Lib.hid hi3.lt
  clear hi3 hb3 HI2 HI1b HB2
  obtain ⟨w4, hmk, hf4, hb4, hz4⟩ := make_three 48 54 Tryd.underlying48 infoSpan k (by have := HK.out; omega) w3
  have HW4 : Hid (SgW w w.heap.size w1.heap.size w2.heap.size w3.heap.size s k 0 w4) :=
    ⟨HB3.out.trans (hb4.mono HB3.out.size), HI1c.out.below hb4, by rw [HP2.out]; exact HI2b.out.below hb4, by rw [HP3.out]; exact HI3.out.below hb4, hf4 _, by have := HL1.out; have := HL2.out; have := HL3.out; omega⟩
  clear hf4 hb4 hz4 HI3 HI2b HI1c HB3 HL1 HL2 HL3 hw1 hw2 hw3 hw4
  go_wp2_with fail
  clear hmk
  generalize hE : w.heap.size = E at HW4 ⊢
  generalize w1.heap.size = S at *
  generalize w2.heap.size = D at *
  generalize w3.heap.size = C at *
  have HE := Lib.hid hE
  clear hE
  go_loopw [13, 43] (fun a i wr => ∃ j : Nat, ∃ x : Int, j ≤ k ∧ a = .int .i64 x ∧ i = .int .i64 j ∧ Hid (ahead (segF s k) j = x) ∧ Hid (∀ i, i < j → ahead (segF s k) i < segF s k (3 * i + 1)) ∧ Hid (SgW w E S D C s k j wr)) (fun _ i _ => k - (intOf i).toNat)
  case atStart => exact ⟨0, -1, Nat.zero_le _, rfl, rfl, rfl, fun i hi => by omega, HW4⟩
  case round =>
    clear HW4
    obtain ⟨j, x, hj, rfl, rfl, HA, HO, HW⟩ := hrel
    by_cases hlt : j < k
    · have hlt' : (j : Int) < (k : Int) := by omega
      have hj0 : (0 : Int) ≤ (j : Int) := by omega
      have HX7 : Hid (wrap64 ((j : Int) + 1) = ((j + 1 : Nat) : Int)) := by have := HK.out; unfold Hid wrap64; omega
      have ce := HW.out.ie.cell (i := j) (by rw [numsL_length]; exact hlt)
      have cs := HW.out.is.cell (i := j) (by rw [numsL_length]; exact hlt)
      have cd := HW.out.id.cell (i := j) (by rw [numsL_length]; exact hlt)
      rw [numsL_getD _ _ _ _ hlt] at ce cs cd
      obtain ⟨x0, HX0⟩ : ∃ x0, Hid (segF s k (3 * j) = x0) := ⟨_, rfl⟩
      obtain ⟨x1, HX1⟩ : ∃ x1, Hid (segF s k (3 * j + 1) = x1) := ⟨_, rfl⟩
      obtain ⟨x2, HX2⟩ : ∃ x2, Hid (segF s k (3 * j + 2) = x2) := ⟨_, rfl⟩
      rw [← segF1 s k j, HX1.out] at ce
      rw [← segF0 s k j, HX0.out] at cs
      rw [← segF2 s k j, HX2.out] at cd
      have HJK : Hid (j < k) := hlt
      clear hlt hj
      by_cases h1 : x1 ≤ x
      · have hd : decide (x1 ≤ x) = true := by simpa using h1
        go_wp2_with fail
        go_quiet (fail)
        go_wp2_with fail
        go_ret2
        exact ⟨(HW.out.drewN _).bel, .inl rfl⟩
      · have hd : decide (x1 ≤ x) = false := by simpa using h1
        by_cases h2 : x1 < x0
        · have hd2 : decide (x1 < x0) = true := by simpa using h2
          go_wp2_with fail
          go_quiet (fail)
          go_wp2_with fail
          go_ret2
          exact ⟨(HW.out.drewN _).bel, .inl rfl⟩
        · have hd2 : decide (x1 < x0) = false := by simpa using h2
          go_wp2_with fail
          go_quiet (fail)
          go_wp2_with fail
          have HQ := Lib.hid (HW.out.drewN nq)
          clear ce cs cd HW
          generalize wr.drewN nq = wq at *
          have ce := HQ.out.ie.cell (i := j) (by rw [numsL_length]; exact HJK.out)
          have cs := HQ.out.is.cell (i := j) (by rw [numsL_length]; exact HJK.out)
          have cd := HQ.out.id.cell (i := j) (by rw [numsL_length]; exact HJK.out)
          rw [numsL_getD _ _ _ _ HJK.out] at ce cs cd
          rw [← segF1 s k j, HX1.out] at ce
          rw [← segF0 s k j, HX0.out] at cs
          rw [← segF2 s k j, HX2.out] at cd
          obtain ⟨z0, m0⟩ := HQ.out.fl.there (i := j * 3) (by have := HJK.out; omega)
          obtain ⟨z1, m1⟩ := HQ.out.fl.there (i := j * 3 + 1) (by have := HJK.out; omega)
          obtain ⟨z2, m2⟩ := HQ.out.fl.there (i := j * 3 + 2) (by have := HJK.out; omega)
          have f0 := HQ.out.fl.frozen (j * 3)
          have f1 := HQ.out.fl.frozen (j * 3 + 1)
          have f2 := HQ.out.fl.frozen (j * 3 + 2)
          go_region
          have HN := Lib.hid (HQ.out.next HX0.out HX1.out HX2.out).drew
          clear ce cs cd m0 m1 m2 f0 f1 f2 HQ
          generalize (((wq.setCell ⟨C, j * 3, none⟩ (.int .i64 x0)).setCell ⟨C, j * 3 + 1, none⟩ (.int .i64 x1)).setCell ⟨C, j * 3 + 2, none⟩ (.int .i64 x2)).drew = wn at *
          have ce := HN.out.ie.cell (i := j) (by rw [numsL_length]; exact HJK.out)
          rw [numsL_getD _ _ _ _ HJK.out, ← segF1 s k j, HX1.out] at ce
          have HO1 : Hid (∀ i, i < j + 1 → ahead (segF s k) i < segF s k (3 * i + 1)) := fun i hi => by
            by_cases e : i = j
            · subst e; rw [HA.out, HX1.out]; exact h1
            · exact HO.out i (by omega)
          go_wp2_with fail
          go_roundw
          case rel => exact ⟨j + 1, x1, HJK.out, rfl, by rw [HX7.out], HX1, HO1, HN⟩
          case measure => have := HJK.out; rw [HX7.out]; simp only [intOf]; omega
    · have hlt' : ¬ (j : Int) < (k : Int) := by omega
      obtain rfl : j = k := by omega
      go_wp2_with fail
      go_ret2
      exact ⟨HW.out.bel, .inr ⟨C, HW.out.ne.2.2.2, rfl, HW.out.fl, rising_ahead HO.out⟩⟩

/-- The glyph that segments give a code: where the segment has an offset, the number at a place of the subtable. -/
def segAns (s : ByteArray) (k : Nat) (code : Int) : Int :=
  let i := endIx (segF s k) code k 0
  if inSp k (segF s k) code i = true then
    (if numN s (16 + 6 * k + 2 * i) 2 = 0 then (code + segF s k (3 * i + 2)) % 65536
     else if (numOr s (16 + 6 * (k : Int) + 2 * (i : Int) + numN s (16 + 6 * k + 2 * i) 2 + 2 * (code - segF s k (3 * i))) 2).1 = 0 then 0
     else ((numOr s (16 + 6 * (k : Int) + 2 * (i : Int) + numN s (16 + 6 * k + 2 * i) 2 + 2 * (code - segF s k (3 * i))) 2).1 + segF s k (3 * i + 2)) % 65536)
  else 0

set_option maxRecDepth 20000 in
set_option maxHeartbeats 2000000 in
theorem segment1_c (gs go gv ga gsub gof ggs k : Nat) (s : ByteArray) (code : Int) (w : World) (c1 : w.cell? ⟨gs, 0, none⟩ = some (.slice (some ⟨ggs, 0, none⟩) k k)) (c2 : w.cell? ⟨go, 0, none⟩ = some (.slice (some ⟨gof, 0, none⟩) k k))
    (c3 : w.cell? ⟨gv, 0, none⟩ = some (.pointer (some ⟨gsub, 0, none⟩))) (c4 : w.cell? ⟨ga, 0, none⟩ = some (.int .i64 (16 + 6 * (k : Int)))) (hv : w.cell? ⟨gsub, 0, none⟩ = some (.string s)) (hs : (s.size : Int) ≤ 140737488355328)
    (hl : IntsAt w gof (numsL s (16 + 6 * k) k)) (hf : FlatAt w ggs 54 (partL (segF s k) (3 * k) (3 * k))) (hr : Rising k (segF s k)) (hk : k ≤ 4096) (h0 : 0 ≤ code) (h1 : code ≤ 1114111) :
    Calls Tryd.prog 45 #[.int .i64 code, .pointer (some ⟨gs, 0, none⟩), .pointer (some ⟨go, 0, none⟩), .pointer (some ⟨gv, 0, none⟩), .pointer (some ⟨ga, 0, none⟩)] w fun e w' => e = .returned (.int .i64 (segAns s k code)) ∧ Below w.heap.size w w' := by
  have HS := Lib.hid hs
  have HK := Lib.hid hk
  have HC := Lib.hid (And.intro c1 (And.intro c2 (And.intro c3 (And.intro c4 (And.intro hv (And.intro hl hf))))))
  have H01 := Lib.hid (And.intro h0 h1)
  have HSP := Lib.hid (spanOf_c (some ⟨ggs, 0, none⟩) k (segF s k) code w (.inr ⟨ggs, rfl, hf⟩) (by omega) hr)
  clear c2 c3 c4 hv hs hl hf hr hk h0 h1
  go_enter Tryd.func45, Tryd.ntmps45
  go_wp2_with fail
  refine HSP.out.mono ?_
  rintro e w1 ⟨i, rfl, hi, hb⟩
  have HB := Lib.hid hb
  have HIX := Lib.hid hi.ix
  clear c1 HSP hi
  cases hin : inSp k (segF s k) code i
  · have HE : Hid (segAns s k code = 0) := by unfold Hid segAns; simp only [HIX.out, hin]; rfl
    clear hb
    go_wp2_with fail
    go_ret
    rw [HE.out]
    exact ⟨rfl, HB.out⟩
  · have hik : i < k ∧ segF s k (3 * i) ≤ code := by simpa [inSp] using hin
    have c1 := keepC hb HC.out.1
    have c2 := keepC hb HC.out.2.1
    have c3 := keepC hb HC.out.2.2.1
    have c4 := keepC hb HC.out.2.2.2.1
    have HV := Lib.hid (keepC hb HC.out.2.2.2.2.1)
    have co := (HC.out.2.2.2.2.2.1.below hb).cell (i := i) (by rw [numsL_length]; exact hik.1)
    rw [numsL_getD _ _ _ _ hik.1] at co
    obtain ⟨g', hg', k0, k1, k2⟩ := IsSp.cells (w := w1) (a := some ⟨ggs, 0, none⟩) (k := k) (f := segF s k) (.inr ⟨ggs, rfl, HC.out.2.2.2.2.2.2.below hb⟩) hik.1
    cases hg'
    have hik' : (i : Int) < (k : Int) := by omega
    have hi0 : (0 : Int) ≤ (i : Int) := by omega
    obtain ⟨o, HO⟩ : ∃ o, Hid (numN s (16 + 6 * k + 2 * i) 2 = o) := ⟨_, rfl⟩
    obtain ⟨x0, HX0⟩ : ∃ x0, Hid (segF s k (3 * i) = x0) := ⟨_, rfl⟩
    obtain ⟨x2, HX2⟩ : ∃ x2, Hid (segF s k (3 * i + 2) = x2) := ⟨_, rfl⟩
    rw [HO.out] at co
    rw [HX0.out] at k0
    rw [HX2.out] at k2
    have HBD : Hid ((0 ≤ o ∧ o ≤ 65535) ∧ (0 ≤ x0 ∧ x0 ≤ 65535) ∧ (0 ≤ x2 ∧ x2 ≤ 65535)) := by
      have h1 := segF_bound s k (3 * i)
      have h2 := segF_bound s k (3 * i + 2)
      have h3 := numN_bound s (16 + 6 * k + 2 * i) 2
      rw [HX0.out] at h1
      rw [HX2.out] at h2
      rw [HO.out] at h3
      unfold Hid; omega
    have HE : Hid (segAns s k code = if o = 0 then (code + x2) % 65536 else if (numOr s (16 + 6 * (k : Int) + 2 * (i : Int) + o + 2 * (code - x0)) 2).1 = 0 then 0 else ((numOr s (16 + 6 * (k : Int) + 2 * (i : Int) + o + 2 * (code - x0)) 2).1 + x2) % 65536) := by
      unfold Hid segAns; simp only [HIX.out, hin, HO.out, HX0.out, HX2.out]; rfl
    clear hb k1 hik hin
    cases ho : (o == 0)
    · have ho' : (o != 0) = true := by simpa using ho
      have hon : ¬ o = 0 := by simpa using ho
      obtain ⟨A, HA⟩ : ∃ A, Hid (16 + 6 * (k : Int) + 2 * (i : Int) + o + 2 * (code - x0) = A) := ⟨_, rfl⟩
      obtain ⟨y, ey, HY⟩ := numOr_ex s A 2
      have HE2 : Hid (segAns s k code = if y = 0 then 0 else (y + x2) % 65536) := by unfold Hid; rw [HE.out, if_neg hon, HA.out, HY.out]
      obtain ⟨b0, hb0⟩ : ∃ b0 : Int, 16 + 6 * (k : Int) = b0 := ⟨_, rfl⟩
      rw [hb0] at c4
      have hA2 := HA.out
      rw [hb0] at hA2
      have hbd := HBD.out
      have hkk := HK.out
      have h01 := H01.out
      have q1 : IntKind.i64.wrap (2 * (i : Int)) = 2 * (i : Int) := IntWalk.i64_in _ (by omega)
      have q2 : IntKind.i64.wrap (b0 + 2 * (i : Int)) = b0 + 2 * (i : Int) := IntWalk.i64_in _ (by omega)
      have q3 : IntKind.i64.wrap (b0 + 2 * (i : Int) + o) = b0 + 2 * (i : Int) + o := IntWalk.i64_in _ (by omega)
      have q4 : IntKind.i64.wrap (code - x0) = code - x0 := IntWalk.i64_in _ (by omega)
      have q5 : IntKind.i64.wrap (2 * (code - x0)) = 2 * (code - x0) := IntWalk.i64_in _ (by omega)
      have q6 : IntKind.i64.wrap (b0 + 2 * (i : Int) + o + 2 * (code - x0)) = A := by rw [IntWalk.i64_in _ (by omega)]; exact hA2
      have HAB : Hid (A ≤ 9223372036854775807) := by unfold Hid; omega
      have HYB := Lib.hid (num16_bound HY.out)
      clear hA2 hbd hkk h01 HE hb0
      go_wp2_with fail
      go_quiet ((go_at_call 27; refine Calls.quiet_of_same ((u16_c gsub A y ey s _ (cell_drewN HV.out _) HS.out HAB.out HY).mono fun e w' ⟨he, hw⟩ => ⟨he, hw.symm⟩)))
      have HBQ := Lib.hid (bel_drewN HB.out nq)
      have c1q := cell_drewN c1 nq
      have k2q := cell_drewN k2 nq
      clear c1 c2 c3 c4 k0 k2 co HB HV q1 q2 q3 q4 q5 q6
      generalize w1.drewN nq = wq at *
      cases hy : (y == 0)
      · have hyn : ¬ y = 0 := by simpa using hy
        have HE3 : Hid (segAns s k code = (y + x2) % 65536) := by unfold Hid; rw [HE2.out, if_neg hyn]
        have hw1 : wrap64 (y + x2) = y + x2 := by have := HYB.out; have := HBD.out; unfold wrap64; omega
        have hw2 : (y + x2).tmod 65536 = (y + x2) % 65536 := by have := HYB.out; have := HBD.out; exact Int.tmod_eq_emod_of_nonneg (by omega)
        go_wp2_with fail
        go_ret
        rw [HE3.out]
        exact ⟨rfl, HBQ.out⟩
      · have hy0 : y = 0 := by simpa using hy
        have HE3 : Hid (segAns s k code = 0) := by unfold Hid; rw [HE2.out, if_pos hy0]
        clear hy0
        go_wp2_with fail
        go_ret
        rw [HE3.out]
        exact ⟨rfl, HBQ.out⟩
    · have ho0 : o = 0 := by simpa using ho
      have ho' : (o != 0) = false := by simpa using ho
      have HE2 : Hid (segAns s k code = (code + x2) % 65536) := by unfold Hid; rw [HE.out, if_pos ho0]
      have hw1 : wrap64 (code + x2) = code + x2 := by have := H01.out; have := HBD.out; unfold wrap64; omega
      have hw2 : (code + x2).tmod 65536 = (code + x2) % 65536 := by have := H01.out; have := HBD.out; exact Int.tmod_eq_emod_of_nonneg (by omega)
      clear ho0 HE
      go_wp2_with fail
      go_ret
      rw [HE2.out]
      exact ⟨rfl, HB.out⟩

end Go.Proofs.YtfbgddigedgpfaaDoor
