/-
  What the document's Open answers for the first face: the font, its rows new memory, or the first error.
-/
import Derived.Test.YtbcjicmledckbaaTripB
import Derived.Deep.DeepCutAuto
import Derived.Deep.CutBlock
import Derived.Deep.LoopGhost
namespace Go.Proofs.Ytbcjicmledckbaa
open Go.RowKit Go.PlainAid
set_option linter.unusedSimpArgs false
set_option linter.unusedVariables false

set_option maxHeartbeats 8000000 in
set_option maxRecDepth 20000 in
theorem ropen_c (a : Option Addr) (cap : Nat) (s : ByteArray) (w : World) (hB : IsB w a s.size cap s) :
    Calls Try.prog 9 #[.slice a s.size cap, .int .i64 0] w (ROpenPost w a s.size cap s (openOf s 0)) := by
  have HB := Lib.hid hB
  have HTR := Lib.hid (trip_alloc w (.int .i64 0) (.slice none 0 0) (.slice none 0 0) 26)
  have HBE : Hid (Below w.heap.size w (w.alloc (.cells #[.int .i64 0, .slice none 0 0, .slice none 0 0] 26))) := (Below.refl _ _).alloc (Nat.le_refl _) _
  clear hB
  go_enter Try.func9, Try.ntmps9
  by_cases hbig : (1048576 : Int) < (s.size : Int)
  · have HE : Hid (openOf s 0 = (33, none)) := by unfold Hid openOf; rw [if_pos (by omega)]
    go_wp2_with fail
    obtain ⟨q0, q1, q2, _, _, _⟩ := HTR.out
    refine bodyPost_ret (v := .tuple #[.agg #[.int .i64 0, .slice none 0 0, .slice none 0 0], .int .i64 33]) (by simp [results, Try.results9, go_sem, q0, q1, q2]; try rfl) rfl ?_
    exact ropen_no HE.out HBE.out
  have HSZ : Hid ((s.size : Int) ≤ 1048576) := by unfold Hid; omega
  have HOF : Hid (openOf s 0 = if (dirOf s 0).2 ≠ 0 then ((dirOf s 0).2, none)
    else if (headOf s (dirOf s 0).1).2.2 ≠ 0 then ((headOf s (dirOf s 0).1).2.2, none)
    else match rowsOf s ((dirOf s 0).1 + 12) (headOf s (dirOf s 0).1).2.1.toNat with
      | none => (31, none)
      | some l => (0, some ((headOf s (dirOf s 0).1).1, l))) := by unfold Hid openOf; rw [if_neg (by omega)]; rfl
  have HZ0 : Hid ((w.alloc (.cells #[.int .i64 0, .slice none 0 0, .slice none 0 0] 26)).heap.size = w.heap.size + 1) := by unfold Hid; simp [go_sem]
  go_wp2_with fail
  generalize (w.alloc (.cells #[.int .i64 0, .slice none 0 0, .slice none 0 0] 26)) = w0 at *
  refine (begin0_c a s.size cap s w0 (HB.out.below HBE.out) (by have := HSZ.out; omega)).mono ?_
  rintro e wq ⟨rfl, rfl⟩
  obtain ⟨at', e0, HD⟩ : ∃ x f, Hid (dirOf s 0 = (x, f)) := ⟨_, _, rfl⟩
  have HDB := Lib.hid (dirOf_bound HD.out)
  rw [HD.out]
  by_cases h1 : ¬ e0 = 0
  · have h1' : (e0 != 0) = true := by simpa using h1
    have HE : Hid (openOf s 0 = (e0, none)) := by unfold Hid; rw [HOF.out, HD.out]; simp only; rw [if_pos h1]
    obtain ⟨r0, r1, r2, rf0, rf1, rf2⟩ := HTR.out
    have HPUT := Lib.hid (trip_put HTR.out (.int .i64 0) (.slice none 0 0) (.slice none 0 0))
    go_wp2_with fail
    obtain ⟨q0, q1, q2, _, _, _⟩ := HPUT.out.1
    refine bodyPost_ret (v := .tuple #[.agg #[.int .i64 0, .slice none 0 0, .slice none 0 0], .int .i64 e0]) (by simp [results, Try.results9, go_sem, q0, q1, q2]; try rfl) rfl ?_
    exact ropen_no HE.out (HPUT.out.2 _ _ (Nat.le_refl _) HBE.out)
  have h1e : e0 = 0 := by simpa using h1
  subst h1e
  have HO1 : Hid (openOf s 0 = if (headOf s at').2.2 ≠ 0 then ((headOf s at').2.2, none)
    else match rowsOf s (at' + 12) (headOf s at').2.1.toNat with
      | none => (31, none)
      | some l => (0, some ((headOf s at').1, l))) := by unfold Hid; rw [HOF.out, HD.out]; simp only; rw [if_neg (by simp)]
  clear HOF
  go_wp2_with fail
  refine (has_c a s.size cap s at' 4 w0 (HB.out.below HBE.out).1 (by have := HSZ.out; omega)).mono ?_
  rintro e wq ⟨rfl, rfl⟩
  cases h2 : hasB s at' 4
  · have HE : Hid (openOf s 0 = (31, none)) := by
      have HH : headOf s at' = (0, 0, 31) := by unfold headOf; rw [if_pos (by rw [tagOr_hasnt h2]; decide)]
      unfold Hid; rw [HO1.out, HH]; rfl
    obtain ⟨r0, r1, r2, rf0, rf1, rf2⟩ := HTR.out
    have HPUT := Lib.hid (trip_put HTR.out (.int .i64 0) (.slice none 0 0) (.slice none 0 0))
    go_wp2_with fail
    obtain ⟨q0, q1, q2, _, _, _⟩ := HPUT.out.1
    refine bodyPost_ret (v := .tuple #[.agg #[.int .i64 0, .slice none 0 0, .slice none 0 0], .int .i64 31]) (by simp [results, Try.results9, go_sem, q0, q1, q2]; try rfl) rfl ?_
    exact ropen_no HE.out (HPUT.out.2 _ _ (Nat.le_refl _) HBE.out)
  obtain ⟨t, ft, HT⟩ := tagOr_ex s at'
  have HFT : Hid (ft = 0) := by have h9 := HT.out; have := tagOr_has h2; rw [h9] at this; exact this
  obtain ⟨y, fy, HY⟩ := numOr_ex s (at' + 4) 2
  have HYB := Lib.hid (num16_bound HY.out)
  have HRO : Hid (RO w 0 (.slice none 0 0) a s.size cap [] (w0.alloc (.cells #[.int .i64 0, .slice none 0 0, .slice a s.size cap] 26))) := by
    have hz : w0.heap.size = w.heap.size + 1 := HZ0.out
    have hb9 : Below w0.heap.size w0 (w0.alloc (.cells #[.int .i64 0, .slice none 0 0, .slice a s.size cap] 26)) := (Below.refl _ _).alloc (Nat.le_refl _) _
    have h8 := trip_alloc w0 (.int .i64 0) (.slice none 0 0) (.slice a s.size cap) 26
    rw [hz] at h8
    exact ⟨HBE.out.trans (hb9.mono HBE.out.size), HTR.out.below hb9, h8, ownT_nil _ _⟩
  go_wp2_with fail
  generalize (w0.alloc (.cells #[.int .i64 0, .slice none 0 0, .slice a s.size cap] 26)) = wf at *
  rw [HZ0.out]
  refine (reftag_c a s.size cap s t at' ft wf (HB.out.below HRO.out.bel) (by have := HSZ.out; omega) HT).mono ?_
  rintro e wq ⟨rfl, rfl⟩
  have fc0 := HRO.out.f.c0
  have ff0 := HRO.out.f.f0
  have hw4 : wrap64 (at' + 4) = at' + 4 := by have := HDB.out; unfold wrap64; omega
  have HHD : Hid (headOf s at' = if kindB t = 0 then (0, 0, 32) else if fy ≠ 0 then (0, 0, 31) else if y = 0 then (0, 0, 31) else if 64 < y then (0, 0, 33) else (kindB t, y, 0)) := by
    unfold Hid headOf; rw [HT.out, HY.out]; simp only [HFT.out]; rfl
  go_upto_block 0 with fail
  go_cut [5, 38, 42] (fun r x y wr => r = .int .i64 0 ∧ ∃ kd : Int, Hid (kindB t = kd) ∧ Hid (kd ≠ 0) ∧ Hid (RO w kd (.slice none 0 0) a s.size cap [] wr))
  case first =>
    cases k1 : (t.toList == [0, 1, 0, 0])
    · cases k2 : (t.toList == [116, 114, 117, 101])
      · cases k3 : (t.toList == [79, 84, 84, 79])
        · have HE : Hid (openOf s 0 = (32, none)) := by
            have HH : headOf s at' = (0, 0, 32) := by rw [HHD.out, if_pos (by unfold kindB; simp [k1, k2, k3])]
            unfold Hid; rw [HO1.out, HH]; rfl
          obtain ⟨r0, r1, r2, rf0, rf1, rf2⟩ := HRO.out.r
          have HPUT := Lib.hid (trip_put HRO.out.r (.int .i64 0) (.slice none 0 0) (.slice none 0 0))
          go_wp2_with fail
          obtain ⟨q0, q1, q2, _, _, _⟩ := HPUT.out.1
          refine bodyPost_ret (v := .tuple #[.agg #[.int .i64 0, .slice none 0 0, .slice none 0 0], .int .i64 32]) (by simp [results, Try.results9, go_sem, q0, q1, q2]; try rfl) rfl ?_
          exact ropen_no HE.out (HPUT.out.2 _ _ (Nat.le_refl _) HRO.out.bel)
        · have HKD : Hid (kindB t = 2) := by unfold Hid kindB; simp [k1, k2, k3]
          go_wp2_with fail
          go_meet
          exact ⟨rfl, 2, HKD, Lib.hid (by decide), HRO.out.setK 2⟩
      · have HKD : Hid (kindB t = 1) := by unfold Hid kindB; simp [k1, k2]
        go_wp2_with fail
        go_meet
        exact ⟨rfl, 1, HKD, Lib.hid (by decide), HRO.out.setK 1⟩
    · have HKD : Hid (kindB t = 1) := by unfold Hid kindB; simp [k1]
      go_wp2_with fail
      go_meet
      exact ⟨rfl, 1, HKD, Lib.hid (by decide), HRO.out.setK 1⟩
  case rest =>
    obtain ⟨rfl, kd, HKD, HK0, HR1⟩ := hcut
    clear fc0 ff0 HRO HTR HBE HZ0 h1 h2 HT HFT HD
    go_wp2_with fail
    refine (refu16_c a s.size cap s (at' + 4) y fy wc (HB.out.below HR1.out.bel) (by have := HSZ.out; omega) HY).mono ?_
    rintro e wq ⟨rfl, rfl⟩
    by_cases h5 : y = 0
    · have HE : Hid (openOf s 0 = (31, none)) := by
        have HH : headOf s at' = (0, 0, 31) := by rw [HHD.out, HKD.out, if_neg HK0.out]; by_cases h9 : fy ≠ 0 <;> simp [h9, h5]
        unfold Hid; rw [HO1.out, HH]; rfl
      subst h5
      obtain ⟨r0, r1, r2, rf0, rf1, rf2⟩ := HR1.out.r
      have HPUT := Lib.hid (trip_put HR1.out.r (.int .i64 0) (.slice none 0 0) (.slice none 0 0))
      go_wp2_with fail
      obtain ⟨q0, q1, q2, _, _, _⟩ := HPUT.out.1
      refine bodyPost_ret (v := .tuple #[.agg #[.int .i64 0, .slice none 0 0, .slice none 0 0], .int .i64 31]) (by simp [results, Try.results9, go_sem, q0, q1, q2]; try rfl) rfl ?_
      exact ropen_no HE.out (HPUT.out.2 _ _ (Nat.le_refl _) HR1.out.bel)
    have h5' : (y == 0) = false := by simpa using h5
    have HFY : Hid (fy = 0) := by
      cases h8 : hasB s (at' + 4) 2
      · have h9 := HY.out; rw [numOr_hasnt h8] at h9; simp at h9; omega
      · have h9 := HY.out; have := numOr_has h8; rw [h9] at this; exact this
    by_cases h6 : 64 < y
    · have HE : Hid (openOf s 0 = (33, none)) := by
        have HH : headOf s at' = (0, 0, 33) := by rw [HHD.out, HKD.out, if_neg HK0.out, if_neg (by simp [HFY.out]), if_neg h5, if_pos h6]
        unfold Hid; rw [HO1.out, HH]; rfl
      obtain ⟨r0, r1, r2, rf0, rf1, rf2⟩ := HR1.out.r
      have HPUT := Lib.hid (trip_put HR1.out.r (.int .i64 0) (.slice none 0 0) (.slice none 0 0))
      go_wp2_with fail
      obtain ⟨q0, q1, q2, _, _, _⟩ := HPUT.out.1
      refine bodyPost_ret (v := .tuple #[.agg #[.int .i64 0, .slice none 0 0, .slice none 0 0], .int .i64 33]) (by simp [results, Try.results9, go_sem, q0, q1, q2]; try rfl) rfl ?_
      exact ropen_no HE.out (HPUT.out.2 _ _ (Nat.le_refl _) HR1.out.bel)
    obtain ⟨n, hn⟩ : ∃ n : Nat, y = n := ⟨y.toNat, by have := HYB.out; omega⟩
    have HO2 : Hid (openOf s 0 = match rowsOf s (at' + 12) n with
        | none => (31, none)
        | some l => (0, some (kd, l))) := by
      have HH : headOf s at' = (kd, y, 0) := by rw [HHD.out, HKD.out, if_neg HK0.out, if_neg (by simp [HFY.out]), if_neg h5, if_neg (by omega)]
      unfold Hid; rw [HO1.out, HH]; simp only; rw [if_neg (by simp), hn, Int.toNat_natCast]
    have HNB : Hid (1 ≤ n ∧ n ≤ 64) := by unfold Hid; omega
    subst hn
    go_wp2_with fail
    clear h5 h5' h6 HHD HO1 HKD HK0 HFY HY HYB hw4
    go_loopg [10] n (fun gk i wr => ∃ k : Nat, ∃ l : List Row, ∃ rv : Value, Hid (gk + k = n) ∧ i = .int .i64 k ∧ Hid (rowsOf s (at' + 12) k = some l) ∧ Hid (l.length = k) ∧ Hid (RO w kd rv a s.size cap l wr))
    case atStart => exact ⟨0, [], .slice none 0 0, Lib.hid (Nat.add_zero _), rfl, Lib.hid rfl, Lib.hid rfl, HR1⟩
    case round =>
      clear HR1
      obtain ⟨k, l, rv, HK, rfl, HR, HL, HO⟩ := hrel
      by_cases hlt : k < n
      · have hlt' : (k : Int) < (n : Int) := by omega
        obtain ⟨p, hp⟩ : ∃ p : Nat, at' + 12 + 16 * (k : Int) = p := ⟨(at' + 12 + 16 * (k : Int)).toNat, by have := HDB.out; omega⟩
        have HP := Lib.hid hp
        have hw1 : wrap64 (at' + 12) = at' + 12 := by have := HDB.out; unfold wrap64; omega
        have hw2 : wrap64 (16 * (k : Int)) = 16 * (k : Int) := by have := HNB.out; unfold wrap64; omega
        have hw3 : wrap64 (at' + 12 + 16 * (k : Int)) = (p : Int) := by have := HNB.out; have := HDB.out; unfold wrap64; omega
        have HPB : Hid (p ≤ 4294969000) := by have := HNB.out; have := HDB.out; unfold Hid; omega
        clear hp
        go_wp2_with fail
        refine (has_c a s.size cap s p 16 wr rfl (by have := HSZ.out; omega)).mono ?_
        rintro e wq ⟨rfl, rfl⟩
        cases h16 : hasB s p 16
        · have HE : Hid (openOf s 0 = (31, none)) := by unfold Hid; rw [HO2.out, rows_bad HR.out hlt (by rw [HP.out]; unfold rowOf; rw [if_pos h16])]
          obtain ⟨r0, r1, r2, rf0, rf1, rf2⟩ := HO.out.r
          have HPUT := Lib.hid (trip_put HO.out.r (.int .i64 0) (.slice none 0 0) (.slice none 0 0))
          go_wp2_with fail
          obtain ⟨q0, q1, q2, _, _, _⟩ := HPUT.out.1
          refine bodyPost_ret (v := .tuple #[.agg #[.int .i64 0, .slice none 0 0, .slice none 0 0], .int .i64 31]) (by simp [results, Try.results9, go_sem, q0, q1, q2]; try rfl) rfl ?_
          exact ropen_no HE.out (HPUT.out.2 _ _ (Nat.le_refl _) HO.out.bel)
        · have HP16 : Hid (p + 16 ≤ s.size) := by unfold Hid; have h9 := h16; unfold hasB at h9; simp at h9; omega
          obtain ⟨tg, fg, HTG⟩ := tagOr_ex s p
          obtain ⟨x8, f8, H8⟩ := numOr_ex s ((p : Int) + 8) 4
          obtain ⟨x12, f12, H12⟩ := numOr_ex s ((p : Int) + 12) 4
          obtain ⟨x4, f4, H4⟩ := numOr_ex s ((p : Int) + 4) 4
          have HB8 := Lib.hid (num32_bound H8.out)
          have HB12 := Lib.hid (num32_bound H12.out)
          have hw8 : wrap64 ((p : Int) + 8) = (p : Int) + 8 := by have := HPB.out; unfold wrap64; omega
          have hw12 : wrap64 ((p : Int) + 12) = (p : Int) + 12 := by have := HPB.out; unfold wrap64; omega
          have hwp4 : wrap64 ((p : Int) + 4) = (p : Int) + 4 := by have := HPB.out; unfold wrap64; omega
          go_wp2_with fail
          refine (reftag_c a s.size cap s tg p fg wr (HB.out.below HO.out.bel) (by have := HSZ.out; omega) HTG).mono ?_
          rintro e wq ⟨rfl, rfl⟩
          go_wp2_with fail
          refine (refu32_c a s.size cap s ((p : Int) + 8) x8 f8 wr (HB.out.below HO.out.bel) (by have := HSZ.out; omega) H8).mono ?_
          rintro e wq ⟨rfl, rfl⟩
          go_wp2_with fail
          refine (refu32_c a s.size cap s ((p : Int) + 12) x12 f12 wr (HB.out.below HO.out.bel) (by have := HSZ.out; omega) H12).mono ?_
          rintro e wq ⟨rfl, rfl⟩
          have HX : Hid (Trip (wr.alloc (.cells #[.string tg, .int .i64 x8, .int .i64 x12] 64)) wr.heap.size (.string tg) (.int .i64 x8) (.int .i64 x12)) := trip_alloc _ _ _ _ _
          have HOX : Hid (RO w kd rv a s.size cap l (wr.alloc (.cells #[.string tg, .int .i64 x8, .int .i64 x12] 64))) := HO.out.below ((Below.refl _ _).alloc (Nat.le_refl _) _)
          have HRN := Lib.hid (rowsOf_at HR.out HP.out HP16.out HTG.out H8.out H12.out H4.out)
          have HTS : Hid (tg.size = 4) := tagOr_size HTG.out (hasB_16 HP16.out)
          have hrem : x8.tmod 4 = x8 % 4 := Int.tmod_eq_emod_of_nonneg HB8.out.1
          obtain ⟨bad, HBAD⟩ : ∃ b, Hid (b = ((decide (0 < k) && !(Op.bytesLess (lastTag l).toList tg.toList)) || (x8 % 4 != 0) || !hasB s x8 x12)) := ⟨_, Lib.hid rfl⟩
          go_upto_region 28 with fail
          generalize (wr.alloc (.cells #[.string tg, .int .i64 x8, .int .i64 x12] 64)) = W at *
          obtain ⟨c0, c1, c2, _, _, _⟩ := HX.out
          go_cut [111] from 55 to 139 (fun c wx => c = .bool bad ∧ ∃ nd, wx = W.drewN nd)
          case first =>
            rcases Nat.eq_zero_or_pos k with hk0 | hk1
            · subst hk0
              clear hw2 hw3 hlt'
              by_cases h4 : x8 % 4 = 0
              · have h4' : (x8 % 4 != 0) = false := by simpa using h4
                cases hhb : hasB s x8 x12
                · go_quiet ((go_at_call 22; refine Calls.quiet_of_same ((has_c a s.size cap s x8 x12 _ rfl (by have := HSZ.out; omega)).mono fun e w' ⟨he, hw⟩ => ⟨he, hw.symm⟩)))
                  go_wp2_with fail
                  go_meet
                  exact ⟨congrArg Value.bool (by rw [HBAD.out]; simp [h4, hhb]), _, rfl⟩
                · go_quiet ((go_at_call 22; refine Calls.quiet_of_same ((has_c a s.size cap s x8 x12 _ rfl (by have := HSZ.out; omega)).mono fun e w' ⟨he, hw⟩ => ⟨he, hw.symm⟩)))
                  go_wp2_with fail
                  go_meet
                  exact ⟨congrArg Value.bool (by rw [HBAD.out]; simp [h4, hhb]), _, rfl⟩
              · have h4' : (x8 % 4 != 0) = true := by simpa using h4
                go_quiet (fail)
                go_wp2_with fail
                go_meet
                exact ⟨congrArg Value.bool (by rw [HBAD.out]; simp [h4]), _, rfl⟩
            · obtain ⟨j, HKJ⟩ : ∃ j, Hid (k = j + 1) := ⟨k - 1, by unfold Hid; omega⟩
              obtain ⟨g, c, hv, hcell⟩ := ownT_last HOX.out.own (HL.out.trans HKJ.out)
              rw [← HKJ.out] at hv
              subst hv
              obtain ⟨tl, HTL⟩ : ∃ t, Hid (lastTag l = t) := ⟨_, Lib.hid rfl⟩
              rw [HTL.out] at hcell HBAD
              have hcell' := hcell
              rw [Nat.mul_comm] at hcell'
              clear hw2 hw3 hlt'
              have hfc := HOX.out.f.c1
              have hg0 : (0 : Int) < (k : Int) := by omega
              have hwj : wrap64 ((k : Int) - 1) = (j : Int) := by have := HNB.out; have := HK.out; have := HKJ.out; unfold wrap64; omega
              have hjk : (j : Int) < (k : Int) := by have := HKJ.out; omega
              clear hlt
              cases hbl : Op.bytesLess tl.toList tg.toList
              · go_quiet (fail)
                go_wp2_with fail
                go_meet
                exact ⟨congrArg Value.bool (by rw [HBAD.out]; simp [hk1, hbl]), _, rfl⟩
              · have hbl2 := hbl
                by_cases h4 : x8 % 4 = 0
                · have h4' : (x8 % 4 != 0) = false := by simpa using h4
                  cases hhb : hasB s x8 x12
                  · go_quiet ((go_at_call 22; refine Calls.quiet_of_same ((has_c a s.size cap s x8 x12 _ rfl (by have := HSZ.out; omega)).mono fun e w' ⟨he, hw⟩ => ⟨he, hw.symm⟩)))
                    go_wp2_with fail
                    go_meet
                    exact ⟨congrArg Value.bool (by rw [HBAD.out]; simp [hk1, hbl, h4, hhb]), _, rfl⟩
                  · go_quiet ((go_at_call 22; refine Calls.quiet_of_same ((has_c a s.size cap s x8 x12 _ rfl (by have := HSZ.out; omega)).mono fun e w' ⟨he, hw⟩ => ⟨he, hw.symm⟩)))
                    go_wp2_with fail
                    go_meet
                    exact ⟨congrArg Value.bool (by rw [HBAD.out]; simp [hk1, hbl, h4, hhb]), _, rfl⟩
                · have h4' : (x8 % 4 != 0) = true := by simpa using h4
                  go_quiet (fail)
                  go_wp2_with fail
                  go_meet
                  exact ⟨congrArg Value.bool (by rw [HBAD.out]; simp [hk1, hbl, h4]), _, rfl⟩
          case rest =>
            obtain ⟨rfl, nd, rfl⟩ := hcut
            have HXD : Hid (Trip (W.drewN nd) wr.heap.size (.string tg) (.int .i64 x8) (.int .i64 x12)) := HX.out.below (bel_drewN (Below.refl _ _) nd)
            have HOD : Hid (RO w kd rv a s.size cap l (W.drewN nd)) := HOX.out.below (bel_drewN (Below.refl _ _) nd)
            generalize W.drewN nd = V at *
            clear c0 c1 c2 HX HOX HO h16
            obtain ⟨c0, c1, c2, _, _, _⟩ := HXD.out
            cases bad
            · obtain ⟨HHAS, HRG⟩ : Hid (hasB s x8 x12 = true) ∧ Hid _ := rnx_good (x4 := x4) HTS.out HL.out HBAD.out
              go_upto_region 30 with fail
              go_cut [132] from 55 to 139 (fun c wx => ∃ b2 : Bool, c = .bool b2 ∧ Hid (b2 = (!(tg.toList == [104, 101, 97, 100]) && (sumB (s.extract x8.toNat (x8.toNat + x12.toNat)) != x4))) ∧ V = wx)
              case first =>
                have HSZ8 : Hid ((s.size : Int) ≤ 140737488355328) := Lib.hid (Int.le_trans HSZ.out (by decide))
                cases hhd : (tg.toList == [104, 101, 97, 100])
                · have hhd' := bne_t hhd
                  obtain ⟨p8, n12, e8, e12, hpn⟩ := has_nat HHAS.out
                  subst e8
                  subst e12
                  obtain ⟨bf, of, e9⟩ := isB_addr HB.out (pos_16 HP16.out)
                  subst e9
                  obtain ⟨hw, i1, i2, i3, i4⟩ := fit_facts HB.out HSZ.out hpn
                  have HN12 := Lib.hid i4
                  have HPN := Lib.hid hpn
                  clear i4 hpn hw1 hw2 hw3 hw8 hw12 hlt' hrem hlt
                  by_cases hcap : cap = p8
                  · obtain rfl : p8 = cap := hcap.symm
                    obtain rfl : n12 = 0 := zero_len HB.out HPN.out
                    clear hw i2 i3
                    have hw0 := wrap_len HB.out HSZ.out HPN.out
                    go_wp2_with fail
                    refine (refsum_c _ 0 _ (s.extract p8 (p8 + 0)) V (cut_1 (HB.out.below HOD.out.bel) HPN.out) HN12.out).mono ?_
                    rintro e wq ⟨rfl, rfl⟩
                    go_wp2_with fail
                    refine (refu32_c (some ⟨bf, of, none⟩) s.size _ s ((p : Int) + 4) x4 f4 V (HB.out.below HOD.out.bel) HSZ8.out H4).mono ?_
                    rintro e wq ⟨rfl, rfl⟩
                    go_wp2_with fail
                    go_meet
                    exact ⟨_, rfl, Lib.hid (and_t0 hhd), rfl⟩
                  · go_wp2_with fail
                    refine (refsum_c _ n12 _ (s.extract p8 (p8 + n12)) V (cut_2 (HB.out.below HOD.out.bel) HPN.out hcap) HN12.out).mono ?_
                    rintro e wq ⟨rfl, rfl⟩
                    go_wp2_with fail
                    refine (refu32_c (some ⟨bf, of, none⟩) s.size cap s ((p : Int) + 4) x4 f4 V (HB.out.below HOD.out.bel) HSZ8.out H4).mono ?_
                    rintro e wq ⟨rfl, rfl⟩
                    go_wp2_with fail
                    go_meet
                    exact ⟨_, rfl, Lib.hid (and_t hhd), rfl⟩
                · have hhd' := bne_f hhd
                  go_wp2_with fail
                  go_meet
                  exact ⟨_, rfl, Lib.hid (and_f hhd), rfl⟩
              case rest =>
                obtain ⟨b2, rfl, HB2, rfl⟩ := hcut
                have HRQ : Hid (rowsOf s (at' + 12) (k + 1) = if b2 = true then none else some (l ++ [⟨tg, x8, x12⟩])) := by unfold Hid; rw [HRN.out, HRG.out, HB2.out]
                clear HRN HRG HB2
                cases b2
                · have HX2 : Hid (Trip (V.alloc (.cells #[.string tg, .int .i64 x8, .int .i64 x12] 64)) V.heap.size (.string tg) (.int .i64 x8) (.int .i64 x12)) := trip_alloc _ _ _ _ _
                  have HO3 : Hid (RO w kd rv a s.size cap l (V.alloc (.cells #[.string tg, .int .i64 x8, .int .i64 x12] 64))) := HOD.out.below ((Below.refl _ _).alloc (Nat.le_refl _) _)
                  have hfc := HOD.out.f.c1
                  have HLL : Hid (l.length + 1 = k + 1) := Lib.hid (by rw [HL.out])
                  have HFW := Lib.hid (few HL.out HK.out HNB.out)
                  clear hw1 hw2 hw3 hw8 hw12 hlt' hrem hwp4
                  go_wp2_with (at_builtin; refine wpList_addT rfl _ _ rfl (V.alloc (.cells #[.string tg, .int .i64 x8, .int .i64 x12] 64)) (w.heap.size + 1 + 1) rv l V.heap.size ⟨tg, x8, x12⟩ rfl rfl HO3.out.own HX2.out.c0 HX2.out.c1 HX2.out.c2 HFW.out.1 HO3.out.len ?_; intro g' c' w' ho hg hat hlt2; have HNX := Lib.hid (HO3.out.add ho hg); have hf1 := (HO3.out.addF hg).c1; have hff1 := (HO3.out.addF hg).f1; clear ho hg hat hlt2)
                  go_roundg (gk - 1)
                  case measure => exact (round_1 HK.out hlt).2
                  case rel => exact ⟨k + 1, l ++ [⟨tg, x8, x12⟩], _, Lib.hid (round_1 HK.out hlt).1, by first | rfl | simp, Lib.hid (by rw [HRQ.out]; rfl), Lib.hid (len_1 HL.out), HNX⟩
                · have HE : Hid (openOf s 0 = (31, none)) := by unfold Hid; rw [HO2.out, rowsOf_stop (by rw [HRQ.out]; rfl) hlt]
                  obtain ⟨r0, r1, r2, rf0, rf1, rf2⟩ := HOD.out.r
                  have HPUT := Lib.hid (trip_put HOD.out.r (.int .i64 0) (.slice none 0 0) (.slice none 0 0))
                  go_wp2_with fail
                  obtain ⟨q0, q1, q2, _, _, _⟩ := HPUT.out.1
                  refine bodyPost_ret (v := .tuple #[.agg #[.int .i64 0, .slice none 0 0, .slice none 0 0], .int .i64 31]) (by simp [results, Try.results9, go_sem, q0, q1, q2]; try rfl) rfl ?_
                  exact ropen_no HE.out (HPUT.out.2 _ _ (Nat.le_refl _) HOD.out.bel)
            · have HE : Hid (openOf s 0 = (31, none)) := by unfold Hid; rw [HO2.out, rowsOf_stop (by rw [HRN.out]; exact rnx_bad HTS.out HL.out HBAD.out) hlt]
              obtain ⟨r0, r1, r2, rf0, rf1, rf2⟩ := HOD.out.r
              have HPUT := Lib.hid (trip_put HOD.out.r (.int .i64 0) (.slice none 0 0) (.slice none 0 0))
              go_wp2_with fail
              obtain ⟨q0, q1, q2, _, _, _⟩ := HPUT.out.1
              refine bodyPost_ret (v := .tuple #[.agg #[.int .i64 0, .slice none 0 0, .slice none 0 0], .int .i64 31]) (by simp [results, Try.results9, go_sem, q0, q1, q2]; try rfl) rfl ?_
              exact ropen_no HE.out (HPUT.out.2 _ _ (Nat.le_refl _) HOD.out.bel)
      · have hlt' : ¬ (k : Int) < (n : Int) := by omega
        obtain rfl : k = n := by have := HK.out; omega
        obtain ⟨j, HKJ⟩ : ∃ j, Hid (k = j + 1) := ⟨k - 1, by have := HNB.out; unfold Hid; omega⟩
        obtain ⟨g, c, hv, _⟩ := ownT_last HO.out.own (HL.out.trans HKJ.out)
        subst hv
        obtain ⟨f0, f1, f2, _, _, _⟩ := HO.out.f
        obtain ⟨r0, r1, r2, rf0, rf1, rf2⟩ := HO.out.r
        have HPUT := Lib.hid (trip_put HO.out.r (.int .i64 kd) (.slice (some ⟨g, 0, none⟩) (j + 1) c) (.slice a s.size cap))
        go_wp2_with fail
        obtain ⟨q0, q1, q2, _, _, _⟩ := HPUT.out.1
        refine bodyPost_ret (v := .tuple #[.agg #[.int .i64 kd, .slice (some ⟨g, 0, none⟩) (j + 1) c, .slice a s.size cap], .int .i64 0]) (by simp [results, Try.results9, go_sem, q0, q1, q2]; try rfl) rfl ?_
        exact ropen_yes (by rw [HO2.out, HR.out]) HO.out.done (HPUT.out.2 _ _ (Nat.le_refl _) HO.out.bel)

end Go.Proofs.Ytbcjicmledckbaa
