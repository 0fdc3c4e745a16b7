/-
  The walk of CmapGroups: it answers true of whatever groups and code, and changes nothing that was there.
-/
import Derived.Test.YtfbgddigedgpfaaDoorCmU
namespace Go.Proofs.YtfbgddigedgpfaaDoor.cmapGroups
open Go.RowKit Go.PlainAid
set_option linter.unusedSimpArgs false
set_option linter.unusedVariables false

set_option maxRecDepth 20000 in
set_option maxHeartbeats 4000000 in
theorem walkRise (a : Option Addr) (n cap : Nat) (f : Nat → Int) (code : Int) (w : World) (hG : IsG w a n f) (hc : (Lit.int .i64 code).wf = true) (hg : Rk w) :
    Calls Tryd.prog 4 #[.slice a n cap, .int .i64 code, .bool false] w fun e w' => e = .returned (.bool true) ∧ Below w.heap.size w w' := by
  have HG := Lib.hid hG
  have HR := Lib.hid hg
  clear hG hg hc
  by_cases hn : (4096 : Int) < (n : Int)
  · go_enter Tryd.func4, Tryd.ntmps4
    go_wp2_with fail
    refine (alive_c w HR.out).mono ?_
    rintro e w1 ⟨rfl, hb1⟩
    have HB1 := Lib.hid hb1
    clear hb1
    go_wp2_with fail
    go_ret
    exact ⟨rfl, HB1.out⟩
  · have HN : Hid (n ≤ 4096) := by unfold Hid; omega
    have hdn : decide ((4096 : Int) < (n : Int)) = false := by simpa using hn
    go_enter Tryd.func4, Tryd.ntmps4
    go_wp2_with fail
    refine (alive_c w HR.out).mono ?_
    rintro e w1 ⟨rfl, hb1⟩
    have HB1 := Lib.hid hb1
    clear hb1
    go_wp2_with fail
    clear hn hdn
    go_loopw [7, 9, 22] (fun l u i wr => ∃ j : Nat, ∃ x y : Int, j ≤ n ∧ l = .int .i64 x ∧ u = .int .i64 y ∧ i = .int .i64 j ∧ Hid (ahead f j = x) ∧ Hid (wantL true f code j = y) ∧ Hid (∀ i, i < j → rowG f i) ∧ Hid (Below w.heap.size w wr)) (fun _ _ i _ => n - (intOf i).toNat)
    case atStart => exact ⟨0, -1, 0, Nat.zero_le _, rfl, rfl, rfl, rfl, rfl, fun i hi => by omega, HB1⟩
    case round =>
      clear HB1
      obtain ⟨j, x, y, hj, rfl, rfl, rfl, HX, HY, HO, HB⟩ := hrel
      by_cases hlt : j < n
      · have hlt' : (j : Int) < (n : Int) := by omega
        obtain ⟨b, off, rfl, c0, c1, c2⟩ := (HG.out.below HB.out).cells hlt
        obtain ⟨x0, HX0⟩ : ∃ x0, Hid (f (3 * j) = x0) := ⟨_, rfl⟩
        obtain ⟨x1, HX1⟩ : ∃ x1, Hid (f (3 * j + 1) = x1) := ⟨_, rfl⟩
        obtain ⟨x2, HX2⟩ : ∃ x2, Hid (f (3 * j + 2) = x2) := ⟨_, rfl⟩
        rw [HX0.out] at c0
        rw [HX1.out] at c1
        rw [HX2.out] at c2
        have HB2 := Lib.hid (HB.out.alloc HB.out.size (.cells #[.int .i64 x0, .int .i64 x1, .int .i64 x2] 24))
        have HX7 : Hid (wrap64 ((j : Int) + 1) = ((j + 1 : Nat) : Int)) := by have := HN.out; unfold Hid wrap64; omega
        have HJN : Hid (j < n) := hlt
        clear hlt hj
        by_cases q1 : x0 ≤ x
        · go_wp2_with fail
          go_ret
          exact ⟨rfl, HB2.out⟩
        · have kq1 : ¬ x0 ≤ x := q1
          by_cases q2 : x1 < x0
          · go_wp2_with fail
            go_ret
            exact ⟨rfl, HB2.out⟩
          · have kq2 : ¬ x1 < x0 := q2
            by_cases q3 : 1114111 < x1
            · go_wp2_with fail
              go_ret
              exact ⟨rfl, HB2.out⟩
            · have kq3 : ¬ 1114111 < x1 := q3
              by_cases q4 : x2 < 0
              · go_wp2_with fail
                go_ret
                exact ⟨rfl, HB2.out⟩
              · have kq4 : ¬ x2 < 0 := q4
                by_cases q5 : 1048576 < x2
                · go_wp2_with fail
                  go_ret
                  exact ⟨rfl, HB2.out⟩
                · have kq5 : ¬ 1048576 < x2 := q5
                  have HRG : Hid (rowG f j) := by unfold Hid rowG; rw [HX.out, HX0.out, HX1.out, HX2.out]; omega
                  have HO1 : Hid (∀ i, i < j + 1 → rowG f i) := fun i hi => by
                    by_cases e : i = j
                    · subst e; exact HRG.out
                    · exact HO.out i (by omega)
                  have HA1 : Hid (ahead f (j + 1) = x1) := HX1.out
                  have hx0 : 0 ≤ x0 := by have h5 := ahead_ge HO.out j (Nat.le_refl _); rw [HX.out] at h5; omega
                  have hw8 : x0 ≤ code → code ≤ x1 → wrap64 (code - x0) = code - x0 := fun _ _ => by unfold wrap64; omega
                  have hw9 : x0 ≤ code → code ≤ x1 → wrap64 (x2 + (code - x0)) = x2 + (code - x0) := fun _ _ => by unfold wrap64; omega
                  clear kq1 kq2 kq3 kq4 kq5
                  by_cases q6 : x0 ≤ code
                  · by_cases q7 : code ≤ x1
                    · have hin : inG f code j := by unfold inG; rw [HX0.out, HX1.out]; exact ⟨q6, q7⟩
                      have hw8 := hw8 q6 q7
                      have hw9 := hw9 q6 q7
                      have HW1 : Hid (wantL true f code (j + 1) = x2 + (code - x0)) := by unfold Hid; rw [wantL, if_pos hin, valG, if_pos rfl, HX0.out, HX2.out]
                      clear hin hx0
                      go_wp2_with fail
                      go_roundw
                      case rel => exact ⟨j + 1, x1, x2 + (code - x0), HJN.out, rfl, by rw [hw9], by rw [HX7.out], HA1, HW1, HO1, HB2⟩
                      case measure => have := HJN.out; rw [HX7.out]; simp only [intOf]; omega
                    · have hin : ¬ inG f code j := by unfold inG; rw [HX0.out, HX1.out]; omega
                      have HW1 : Hid (wantL true f code (j + 1) = y) := by unfold Hid; rw [wantL, if_neg hin]; exact HY.out
                      clear hin hx0 hw8 hw9
                      go_wp2_with fail
                      go_roundw
                      case rel => exact ⟨j + 1, x1, y, HJN.out, rfl, rfl, by rw [HX7.out], HA1, HW1, HO1, HB2⟩
                      case measure => have := HJN.out; rw [HX7.out]; simp only [intOf]; omega
                  · have hin : ¬ inG f code j := by unfold inG; rw [HX0.out, HX1.out]; omega
                    have HW1 : Hid (wantL true f code (j + 1) = y) := by unfold Hid; rw [wantL, if_neg hin]; exact HY.out
                    clear hin hx0 hw8 hw9
                    go_wp2_with fail
                    go_roundw
                    case rel => exact ⟨j + 1, x1, y, HJN.out, rfl, rfl, by rw [HX7.out], HA1, HW1, HO1, HB2⟩
                    case measure => have := HJN.out; rw [HX7.out]; simp only [intOf]; omega
      · have hlt' : ¬ (j : Int) < (n : Int) := by omega
        obtain rfl : j = n := by omega
        have HOK := Lib.hid (grpOk_of HN.out HO.out)
        have HGW : Hid (glyphAns (grpAns true j f) 4096 code = belowI 4096 y) := by unfold Hid; rw [glyph_want HO.out, HY.out]
        obtain ⟨v, HV⟩ : ∃ v, Hid (belowI 4096 y = v) := ⟨_, rfl⟩
        have HZ1 : Hid ((form12B 12 j f (3 * j)).size = 16 + 12 * j) := by unfold Hid; rw [form12B_size]; omega
        by_cases hy : 4096 ≤ y
        · have HVE : Hid (belowI 4096 y = 0) := by unfold Hid belowI; rw [if_pos hy]
          go_wp2_with fail
          refine (form12_c 12 j cap f a wr (HG.out.below HB.out) HN.out HOK.out.b (by decide) (by decide)).mono ?_
          rintro e w2 ⟨g2, c2, rfl, ho2, hb2⟩
          have HB2 := Lib.hid (HB.out.trans (hb2.mono HB.out.size))
          have HI2 := Lib.hid (isB_of_owns ho2)
          clear ho2 hb2
          obtain ⟨S, hS⟩ : ∃ S, form12B 12 j f (3 * j) = S := ⟨_, rfl⟩
          rw [hS] at HI2 HZ1
          rw [hS]
          have HSS := Lib.hid hS
          clear hS
          go_wp2_with fail
          refine (table_c 0 4 (some ⟨g2, 0, none⟩) c2 S w2 HI2.out (by rw [HZ1.out]; have := HN.out; omega) (by decide) (by decide)).mono ?_
          rintro e w3 ⟨g3, c3, rfl, ho3, hb3⟩
          have HB3 := Lib.hid (HB2.out.trans (hb3.mono HB2.out.size))
          have HI3 := Lib.hid (isB_of_owns ho3)
          clear ho3 hb3
          have HT : Hid (tableB 0 4 S = tblB 0 4 12 j f) := by unfold Hid; rw [tblB, HSS.out]
          have HZ3 : Hid (((tableB 0 4 S).size : Int) ≤ 140737488355328) := by unfold Hid; rw [tableB_size, HZ1.out]; have := HN.out; omega
          obtain ⟨T, hT⟩ : ∃ T, tableB 0 4 S = T := ⟨_, rfl⟩
          rw [hT] at HI3 HT HZ3
          rw [hT]
          clear hT
          go_wp2_with fail
          refine (lawread_c (some ⟨g3, 0, none⟩) c3 T 4096 w3 HI3.out HZ3.out (HR.out.below HB3.out)).mono ?_
          intro e w4 hp
          rw [HT.out] at hp
          obtain ⟨gm, rfl, hm, hb4⟩ := table_read hp (.inl ⟨rfl, rfl⟩) (.inl rfl) HOK.out (by decide) (by decide)
          have HB4 := Lib.hid (HB3.out.trans (hb4.mono HB3.out.size))
          have HM4 : Hid (MapIs w4 gm 12 4096 (grpAns true j f)) := hm
          clear hp hm hb4
          go_wp2_with fail
          refine (glyph_c gm 12 4096 code _ w4 HM4.out).mono ?_
          rintro e w5 ⟨rfl, hb5⟩
          rw [HGW.out, HVE.out]
          have HB5 := Lib.hid (HB4.out.trans (hb5.mono HB4.out.size))
          clear hb5
          go_wp2_with fail
          go_ret
          exact ⟨rfl, HB5.out⟩
        · have HVE : Hid (belowI 4096 y = y) := by unfold Hid belowI; rw [if_neg hy]
          go_wp2_with fail
          refine (form12_c 12 j cap f a wr (HG.out.below HB.out) HN.out HOK.out.b (by decide) (by decide)).mono ?_
          rintro e w2 ⟨g2, c2, rfl, ho2, hb2⟩
          have HB2 := Lib.hid (HB.out.trans (hb2.mono HB.out.size))
          have HI2 := Lib.hid (isB_of_owns ho2)
          clear ho2 hb2
          obtain ⟨S, hS⟩ : ∃ S, form12B 12 j f (3 * j) = S := ⟨_, rfl⟩
          rw [hS] at HI2 HZ1
          rw [hS]
          have HSS := Lib.hid hS
          clear hS
          go_wp2_with fail
          refine (table_c 0 4 (some ⟨g2, 0, none⟩) c2 S w2 HI2.out (by rw [HZ1.out]; have := HN.out; omega) (by decide) (by decide)).mono ?_
          rintro e w3 ⟨g3, c3, rfl, ho3, hb3⟩
          have HB3 := Lib.hid (HB2.out.trans (hb3.mono HB2.out.size))
          have HI3 := Lib.hid (isB_of_owns ho3)
          clear ho3 hb3
          have HT : Hid (tableB 0 4 S = tblB 0 4 12 j f) := by unfold Hid; rw [tblB, HSS.out]
          have HZ3 : Hid (((tableB 0 4 S).size : Int) ≤ 140737488355328) := by unfold Hid; rw [tableB_size, HZ1.out]; have := HN.out; omega
          obtain ⟨T, hT⟩ : ∃ T, tableB 0 4 S = T := ⟨_, rfl⟩
          rw [hT] at HI3 HT HZ3
          rw [hT]
          clear hT
          go_wp2_with fail
          refine (lawread_c (some ⟨g3, 0, none⟩) c3 T 4096 w3 HI3.out HZ3.out (HR.out.below HB3.out)).mono ?_
          intro e w4 hp
          rw [HT.out] at hp
          obtain ⟨gm, rfl, hm, hb4⟩ := table_read hp (.inl ⟨rfl, rfl⟩) (.inl rfl) HOK.out (by decide) (by decide)
          have HB4 := Lib.hid (HB3.out.trans (hb4.mono HB3.out.size))
          have HM4 : Hid (MapIs w4 gm 12 4096 (grpAns true j f)) := hm
          clear hp hm hb4
          go_wp2_with fail
          refine (glyph_c gm 12 4096 code _ w4 HM4.out).mono ?_
          rintro e w5 ⟨rfl, hb5⟩
          rw [HGW.out, HVE.out]
          have HB5 := Lib.hid (HB4.out.trans (hb5.mono HB4.out.size))
          clear hb5
          go_wp2_with fail
          go_ret
          exact ⟨rfl, HB5.out⟩

set_option maxRecDepth 20000 in
set_option maxHeartbeats 4000000 in
theorem walkSame (a : Option Addr) (n cap : Nat) (f : Nat → Int) (code : Int) (w : World) (hG : IsG w a n f) (hc : (Lit.int .i64 code).wf = true) (hg : Rk w) :
    Calls Tryd.prog 4 #[.slice a n cap, .int .i64 code, .bool true] w fun e w' => e = .returned (.bool true) ∧ Below w.heap.size w w' := by
  have HG := Lib.hid hG
  have HR := Lib.hid hg
  clear hG hg hc
  by_cases hn : (4096 : Int) < (n : Int)
  · go_enter Tryd.func4, Tryd.ntmps4
    go_wp2_with fail
    refine (alive_c w HR.out).mono ?_
    rintro e w1 ⟨rfl, hb1⟩
    have HB1 := Lib.hid hb1
    clear hb1
    go_wp2_with fail
    go_ret
    exact ⟨rfl, HB1.out⟩
  · have HN : Hid (n ≤ 4096) := by unfold Hid; omega
    have hdn : decide ((4096 : Int) < (n : Int)) = false := by simpa using hn
    go_enter Tryd.func4, Tryd.ntmps4
    go_wp2_with fail
    refine (alive_c w HR.out).mono ?_
    rintro e w1 ⟨rfl, hb1⟩
    have HB1 := Lib.hid hb1
    clear hb1
    go_wp2_with fail
    clear hn hdn
    go_loopw [7, 9, 22] (fun l u i wr => ∃ j : Nat, ∃ x y : Int, j ≤ n ∧ l = .int .i64 x ∧ u = .int .i64 y ∧ i = .int .i64 j ∧ Hid (ahead f j = x) ∧ Hid (wantL false f code j = y) ∧ Hid (∀ i, i < j → rowG f i) ∧ Hid (Below w.heap.size w wr)) (fun _ _ i _ => n - (intOf i).toNat)
    case atStart => exact ⟨0, -1, 0, Nat.zero_le _, rfl, rfl, rfl, rfl, rfl, fun i hi => by omega, HB1⟩
    case round =>
      clear HB1
      obtain ⟨j, x, y, hj, rfl, rfl, rfl, HX, HY, HO, HB⟩ := hrel
      by_cases hlt : j < n
      · have hlt' : (j : Int) < (n : Int) := by omega
        obtain ⟨b, off, rfl, c0, c1, c2⟩ := (HG.out.below HB.out).cells hlt
        obtain ⟨x0, HX0⟩ : ∃ x0, Hid (f (3 * j) = x0) := ⟨_, rfl⟩
        obtain ⟨x1, HX1⟩ : ∃ x1, Hid (f (3 * j + 1) = x1) := ⟨_, rfl⟩
        obtain ⟨x2, HX2⟩ : ∃ x2, Hid (f (3 * j + 2) = x2) := ⟨_, rfl⟩
        rw [HX0.out] at c0
        rw [HX1.out] at c1
        rw [HX2.out] at c2
        have HB2 := Lib.hid (HB.out.alloc HB.out.size (.cells #[.int .i64 x0, .int .i64 x1, .int .i64 x2] 24))
        have HX7 : Hid (wrap64 ((j : Int) + 1) = ((j + 1 : Nat) : Int)) := by have := HN.out; unfold Hid wrap64; omega
        have HJN : Hid (j < n) := hlt
        clear hlt hj
        by_cases q1 : x0 ≤ x
        · go_wp2_with fail
          go_ret
          exact ⟨rfl, HB2.out⟩
        · have kq1 : ¬ x0 ≤ x := q1
          by_cases q2 : x1 < x0
          · go_wp2_with fail
            go_ret
            exact ⟨rfl, HB2.out⟩
          · have kq2 : ¬ x1 < x0 := q2
            by_cases q3 : 1114111 < x1
            · go_wp2_with fail
              go_ret
              exact ⟨rfl, HB2.out⟩
            · have kq3 : ¬ 1114111 < x1 := q3
              by_cases q4 : x2 < 0
              · go_wp2_with fail
                go_ret
                exact ⟨rfl, HB2.out⟩
              · have kq4 : ¬ x2 < 0 := q4
                by_cases q5 : 1048576 < x2
                · go_wp2_with fail
                  go_ret
                  exact ⟨rfl, HB2.out⟩
                · have kq5 : ¬ 1048576 < x2 := q5
                  have HRG : Hid (rowG f j) := by unfold Hid rowG; rw [HX.out, HX0.out, HX1.out, HX2.out]; omega
                  have HO1 : Hid (∀ i, i < j + 1 → rowG f i) := fun i hi => by
                    by_cases e : i = j
                    · subst e; exact HRG.out
                    · exact HO.out i (by omega)
                  have HA1 : Hid (ahead f (j + 1) = x1) := HX1.out
                  have hx0 : 0 ≤ x0 := by have h5 := ahead_ge HO.out j (Nat.le_refl _); rw [HX.out] at h5; omega
                  have hw8 : x0 ≤ code → code ≤ x1 → wrap64 (code - x0) = code - x0 := fun _ _ => by unfold wrap64; omega
                  have hw9 : x0 ≤ code → code ≤ x1 → wrap64 (x2 + (code - x0)) = x2 + (code - x0) := fun _ _ => by unfold wrap64; omega
                  clear kq1 kq2 kq3 kq4 kq5
                  by_cases q6 : x0 ≤ code
                  · by_cases q7 : code ≤ x1
                    · have hin : inG f code j := by unfold inG; rw [HX0.out, HX1.out]; exact ⟨q6, q7⟩
                      have HW1 : Hid (wantL false f code (j + 1) = x2) := by unfold Hid; rw [wantL, if_pos hin, valG, if_neg (by decide), HX2.out]
                      clear hin hx0
                      clear hw8 hw9
                      go_wp2_with fail
                      go_roundw
                      case rel => exact ⟨j + 1, x1, x2, HJN.out, rfl, rfl, by rw [HX7.out], HA1, HW1, HO1, HB2⟩
                      case measure => have := HJN.out; rw [HX7.out]; simp only [intOf]; omega
                    · have hin : ¬ inG f code j := by unfold inG; rw [HX0.out, HX1.out]; omega
                      have HW1 : Hid (wantL false f code (j + 1) = y) := by unfold Hid; rw [wantL, if_neg hin]; exact HY.out
                      clear hin hx0 hw8 hw9
                      go_wp2_with fail
                      go_roundw
                      case rel => exact ⟨j + 1, x1, y, HJN.out, rfl, rfl, by rw [HX7.out], HA1, HW1, HO1, HB2⟩
                      case measure => have := HJN.out; rw [HX7.out]; simp only [intOf]; omega
                  · have hin : ¬ inG f code j := by unfold inG; rw [HX0.out, HX1.out]; omega
                    have HW1 : Hid (wantL false f code (j + 1) = y) := by unfold Hid; rw [wantL, if_neg hin]; exact HY.out
                    clear hin hx0 hw8 hw9
                    go_wp2_with fail
                    go_roundw
                    case rel => exact ⟨j + 1, x1, y, HJN.out, rfl, rfl, by rw [HX7.out], HA1, HW1, HO1, HB2⟩
                    case measure => have := HJN.out; rw [HX7.out]; simp only [intOf]; omega
      · have hlt' : ¬ (j : Int) < (n : Int) := by omega
        obtain rfl : j = n := by omega
        have HOK := Lib.hid (grpOk_of HN.out HO.out)
        have HGW : Hid (glyphAns (grpAns false j f) 4096 code = belowI 4096 y) := by unfold Hid; rw [glyph_want HO.out, HY.out]
        obtain ⟨v, HV⟩ : ∃ v, Hid (belowI 4096 y = v) := ⟨_, rfl⟩
        have HZ1 : Hid ((form12B 13 j f (3 * j)).size = 16 + 12 * j) := by unfold Hid; rw [form12B_size]; omega
        by_cases hy : 4096 ≤ y
        · have HVE : Hid (belowI 4096 y = 0) := by unfold Hid belowI; rw [if_pos hy]
          go_wp2_with fail
          refine (form12_c 13 j cap f a wr (HG.out.below HB.out) HN.out HOK.out.b (by decide) (by decide)).mono ?_
          rintro e w2 ⟨g2, c2, rfl, ho2, hb2⟩
          have HB2 := Lib.hid (HB.out.trans (hb2.mono HB.out.size))
          have HI2 := Lib.hid (isB_of_owns ho2)
          clear ho2 hb2
          obtain ⟨S, hS⟩ : ∃ S, form12B 13 j f (3 * j) = S := ⟨_, rfl⟩
          rw [hS] at HI2 HZ1
          rw [hS]
          have HSS := Lib.hid hS
          clear hS
          go_wp2_with fail
          refine (table_c 0 4 (some ⟨g2, 0, none⟩) c2 S w2 HI2.out (by rw [HZ1.out]; have := HN.out; omega) (by decide) (by decide)).mono ?_
          rintro e w3 ⟨g3, c3, rfl, ho3, hb3⟩
          have HB3 := Lib.hid (HB2.out.trans (hb3.mono HB2.out.size))
          have HI3 := Lib.hid (isB_of_owns ho3)
          clear ho3 hb3
          have HT : Hid (tableB 0 4 S = tblB 0 4 13 j f) := by unfold Hid; rw [tblB, HSS.out]
          have HZ3 : Hid (((tableB 0 4 S).size : Int) ≤ 140737488355328) := by unfold Hid; rw [tableB_size, HZ1.out]; have := HN.out; omega
          obtain ⟨T, hT⟩ : ∃ T, tableB 0 4 S = T := ⟨_, rfl⟩
          rw [hT] at HI3 HT HZ3
          rw [hT]
          clear hT
          go_wp2_with fail
          refine (lawread_c (some ⟨g3, 0, none⟩) c3 T 4096 w3 HI3.out HZ3.out (HR.out.below HB3.out)).mono ?_
          intro e w4 hp
          rw [HT.out] at hp
          obtain ⟨gm, rfl, hm, hb4⟩ := table_read hp (.inl ⟨rfl, rfl⟩) (.inr rfl) HOK.out (by decide) (by decide)
          have HB4 := Lib.hid (HB3.out.trans (hb4.mono HB3.out.size))
          have HM4 : Hid (MapIs w4 gm 13 4096 (grpAns false j f)) := hm
          clear hp hm hb4
          go_wp2_with fail
          refine (glyph_c gm 13 4096 code _ w4 HM4.out).mono ?_
          rintro e w5 ⟨rfl, hb5⟩
          rw [HGW.out, HVE.out]
          have HB5 := Lib.hid (HB4.out.trans (hb5.mono HB4.out.size))
          clear hb5
          go_wp2_with fail
          go_ret
          exact ⟨rfl, HB5.out⟩
        · have HVE : Hid (belowI 4096 y = y) := by unfold Hid belowI; rw [if_neg hy]
          go_wp2_with fail
          refine (form12_c 13 j cap f a wr (HG.out.below HB.out) HN.out HOK.out.b (by decide) (by decide)).mono ?_
          rintro e w2 ⟨g2, c2, rfl, ho2, hb2⟩
          have HB2 := Lib.hid (HB.out.trans (hb2.mono HB.out.size))
          have HI2 := Lib.hid (isB_of_owns ho2)
          clear ho2 hb2
          obtain ⟨S, hS⟩ : ∃ S, form12B 13 j f (3 * j) = S := ⟨_, rfl⟩
          rw [hS] at HI2 HZ1
          rw [hS]
          have HSS := Lib.hid hS
          clear hS
          go_wp2_with fail
          refine (table_c 0 4 (some ⟨g2, 0, none⟩) c2 S w2 HI2.out (by rw [HZ1.out]; have := HN.out; omega) (by decide) (by decide)).mono ?_
          rintro e w3 ⟨g3, c3, rfl, ho3, hb3⟩
          have HB3 := Lib.hid (HB2.out.trans (hb3.mono HB2.out.size))
          have HI3 := Lib.hid (isB_of_owns ho3)
          clear ho3 hb3
          have HT : Hid (tableB 0 4 S = tblB 0 4 13 j f) := by unfold Hid; rw [tblB, HSS.out]
          have HZ3 : Hid (((tableB 0 4 S).size : Int) ≤ 140737488355328) := by unfold Hid; rw [tableB_size, HZ1.out]; have := HN.out; omega
          obtain ⟨T, hT⟩ : ∃ T, tableB 0 4 S = T := ⟨_, rfl⟩
          rw [hT] at HI3 HT HZ3
          rw [hT]
          clear hT
          go_wp2_with fail
          refine (lawread_c (some ⟨g3, 0, none⟩) c3 T 4096 w3 HI3.out HZ3.out (HR.out.below HB3.out)).mono ?_
          intro e w4 hp
          rw [HT.out] at hp
          obtain ⟨gm, rfl, hm, hb4⟩ := table_read hp (.inl ⟨rfl, rfl⟩) (.inr rfl) HOK.out (by decide) (by decide)
          have HB4 := Lib.hid (HB3.out.trans (hb4.mono HB3.out.size))
          have HM4 : Hid (MapIs w4 gm 13 4096 (grpAns false j f)) := hm
          clear hp hm hb4
          go_wp2_with fail
          refine (glyph_c gm 13 4096 code _ w4 HM4.out).mono ?_
          rintro e w5 ⟨rfl, hb5⟩
          rw [HGW.out, HVE.out]
          have HB5 := Lib.hid (HB4.out.trans (hb5.mono HB4.out.size))
          clear hb5
          go_wp2_with fail
          go_ret
          exact ⟨rfl, HB5.out⟩

theorem walk (a : Option Addr) (n cap : Nat) (f : Nat → Int) (code : Int) (same : Bool) (w : World) (hG : IsG w a n f) (hc : (Lit.int .i64 code).wf = true) (hg : Rk w) :
    Calls Tryd.prog 4 #[.slice a n cap, .int .i64 code, .bool same] w fun e w' => e = .returned (.bool true) ∧ Below w.heap.size w w' := by
  cases same
  · exact walkRise a n cap f code w hG hc hg
  · exact walkSame a n cap f code w hG hc hg
end Go.Proofs.YtfbgddigedgpfaaDoor.cmapGroups
