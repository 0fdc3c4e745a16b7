/-
  What leastBox of package path gives for knots: the least box of the knots' places. For outlines of any size that memory holds.
-/
import Derived.Test.YthjhekmlhmljlaaHlG
namespace Go.Proofs.Ythjhekmlhmljlaa
open Go.RowKit Go.PlainAid
set_option linter.unusedSimpArgs false
set_option linter.unusedVariables false

set_option maxRecDepth 20000 in
set_option maxHeartbeats 20000000 in
theorem leastK_c (a : Option Addr) (cap : Nat) (O : List (List Kn)) (w : World) (ho : IsO clK w a O) (hl : Long O) :
    Calls Try.prog 41 #[.slice a O.length cap, .func (.func 42) #[] #[]] w fun e w' => e = .returned (.tuple #[bxV (hullB (spotsL O)), .bool (anyS (spotsL O))]) ∧ Below w.heap.size w w' := by
  have HO := Lib.hid ho
  have HL := Lib.hid hl
  have HB0 : Hid (Below w.heap.size w ((w.alloc (.cells #[.int .i64 0, .int .i64 0, .int .i64 0, .int .i64 0] 50)).alloc (.cells #[.int .i64 0, .int .i64 0, .int .i64 0, .int .i64 0] 50))) := bel_alloc ((Below.refl _ _).alloc (Nat.le_refl _) _) _
  have HX0 : Hid (BoxAt ((w.alloc (.cells #[.int .i64 0, .int .i64 0, .int .i64 0, .int .i64 0] 50)).alloc (.cells #[.int .i64 0, .int .i64 0, .int .i64 0, .int .i64 0] 50)) (w.heap.size + 1) ⟨0, 0, 0, 0⟩) := by have h := boxAt_new (w.alloc (.cells #[.int .i64 0, .int .i64 0, .int .i64 0, .int .i64 0] 50)); rwa [show (w.alloc (.cells #[.int .i64 0, .int .i64 0, .int .i64 0, .int .i64 0] 50)).heap.size = w.heap.size + 1 by simp] at h
  have HR0 : Hid (BoxAt ((w.alloc (.cells #[.int .i64 0, .int .i64 0, .int .i64 0, .int .i64 0] 50)).alloc (.cells #[.int .i64 0, .int .i64 0, .int .i64 0, .int .i64 0] 50)) w.heap.size ⟨0, 0, 0, 0⟩) := (boxAt_new w).below ((Below.refl _ _).alloc (Nat.le_refl _) _)
  clear ho hl
  go_enter Try.func41, Try.ntmps41
  go_wp2_with fail
  go_loopg [7, 15] O.length (fun gi v x wr => ∃ i : Nat, Hid (gi + i = O.length) ∧ v = .bool (anyS (spotsL (O.take i))) ∧ x = .int .i64 i ∧ Hid (BoxAt wr (w.heap.size + 1) (hullB (spotsL (O.take i)))) ∧ Hid (BoxAt wr w.heap.size ⟨0, 0, 0, 0⟩) ∧ Hid (Below w.heap.size w wr))
  case atStart => exact ⟨0, Nat.add_zero _, rfl, rfl, HX0, HR0, HB0⟩
  case round =>
    clear HB0 HX0 HR0
    obtain ⟨i, HGI, rfl, rfl, HX, HR, HB⟩ := hrel
    obtain ⟨gi, rfl⟩ : ∃ g, g = gk := ⟨_, rfl⟩
    by_cases hlt : i < O.length
    · have hlt' : (i : Int) < (O.length : Int) := ltI hlt
      obtain ⟨d, hd⟩ := get_of hlt
      obtain ⟨b, off, ai, ci, rfl, c0w, hci, hr⟩ := HO.out.at hd
      have c0 := keepC HB.out c0w
      have HRW := Lib.hid (show IsR clK w ai d from hr)
      have HLT := Lib.hid hlt
      have HDL : Hid (d.length ≤ 5864062014805) := HL.out.2 d (List.mem_of_getElem? hd)
      have HX1 := Lib.hid (next64 (j := i) (Nat.le_trans (Nat.le_of_lt hlt) (Nat.le_trans HL.out.1 (by decide))))
      have HSS := Lib.hid (spotsL_succ hd)
      obtain ⟨S, HS⟩ : ∃ S, Hid (spotsL (O.take i) = S) := ⟨_, rfl⟩
      rw [HS.out] at HX HSS
      rw [HS.out]
      clear hd hr hlt hci c0w
      go_wp2_with fail
      clear c0
      go_loopg [7, 21] d.length (fun gj v x wq => ∃ j : Nat, Hid (gj + j = d.length) ∧ v = .bool (anyS (S ++ (d.take j).map Kn.sp)) ∧ x = .int .i64 j ∧ Hid (BoxAt wq (w.heap.size + 1) (hullB (S ++ (d.take j).map Kn.sp))) ∧ Hid (BoxAt wq w.heap.size ⟨0, 0, 0, 0⟩) ∧ Hid (Below w.heap.size w wq))
      case atStart => exact ⟨0, Nat.add_zero _, by simp, rfl, by simpa using HX, HR, HB⟩
      case round =>
        clear HX HR HB
        obtain ⟨j, HGJ, rfl, rfl, HX, HR, HB⟩ := hrel
        by_cases hjl : j < d.length
        · have hjl' : (j : Int) < (d.length : Int) := ltI hjl
          obtain ⟨k, hk⟩ := get_of hjl
          obtain ⟨kb, ko, rfl, k0, k1, k2⟩ := (HRW.out.below HB.out).knot hk
          have HK := Lib.hid hk
          have HJL := Lib.hid hjl
          have HXJ := Lib.hid (next64 (j := j) (Nat.le_trans (Nat.le_of_lt hjl) (Nat.le_trans HDL.out (by decide))))
          obtain ⟨T, HT⟩ : ∃ T, Hid (S ++ (d.take j).map Kn.sp = T) := ⟨_, rfl⟩
          have HTS : Hid (S ++ (d.take (j + 1)).map Kn.sp = T ++ [k.sp]) := by unfold Hid; rw [← HT.out, List.take_add_one, hk]; simp
          rw [HT.out] at HX
          rw [HT.out]
          obtain ⟨Bq, HBQ⟩ : ∃ Bq, Hid (hullB T = Bq) := ⟨_, rfl⟩
          rw [HBQ.out] at HX
          clear hk hjl
          cases hany : anyS T
          · go_wp2_with fail
            refine (placeOf_c k _).mono ?_
            rintro e w2 ⟨rfl, hb2⟩
            have HN2 := Lib.hid (((Below.refl wr.heap.size wr).alloc (Nat.le_refl _) (.cells #[.int .i64 k.x, .int .i64 k.y, .int .i64 k.k] 37)).trans (hb2.mono (by simp)))
            have HN3 : Hid (Below wr.heap.size wr (w2.alloc (.cells #[.int .i64 k.sp.x, .int .i64 k.sp.y] 47))) := HN2.out.alloc HN2.out.size _
            have HB3 : Hid (Below w.heap.size w (w2.alloc (.cells #[.int .i64 k.sp.x, .int .i64 k.sp.y] 47))) := bel_next HB.out HN3.out
            have HX3 := Lib.hid (HX.out.below HN3.out)
            have HR3 := Lib.hid (HR.out.below HN3.out)
            have HG : Hid (w.heap.size + 1 < w2.heap.size) := Nat.lt_of_lt_of_le HX.out.lt HN2.out.size
            have HS3 : Hid (SpotAt (w2.alloc (.cells #[.int .i64 k.sp.x, .int .i64 k.sp.y] 47)) w2.heap.size k.sp) := heap_alloc_new w2 _
            clear hb2 k0 k1 k2
            have HU : Hid (hullB (T ++ [k.sp]) = growB ⟨k.sp.x, k.sp.y, k.sp.x, k.sp.y⟩ k.sp) := hull_none hany k.sp
            obtain ⟨q0, q1, q2, q3⟩ := HX3.out.cells
            obtain ⟨s0, s1⟩ := HS3.out.cells
            have f0 := HX3.out.fr 0
            have f1 := HX3.out.fr 1
            have f2 := HX3.out.fr 2
            have f3 := HX3.out.fr 3
            unfold spV
            go_wp2_with fail
            clear q0 q1 q2 q3 f0 f1 f2 f3 s0 s1
            have HX4 : Hid (BoxAt (((((w2.alloc (.cells #[.int .i64 k.sp.x, .int .i64 k.sp.y] 47)).setCell ⟨w.heap.size + 1, 0, none⟩ (.int .i64 k.sp.x)).setCell ⟨w.heap.size + 1, 1, none⟩ (.int .i64 k.sp.y)).setCell ⟨w.heap.size + 1, 2, none⟩ (.int .i64 k.sp.x)).setCell ⟨w.heap.size + 1, 3, none⟩ (.int .i64 k.sp.y)) (w.heap.size + 1) ⟨k.sp.x, k.sp.y, k.sp.x, k.sp.y⟩) := (((HX3.out.set0 _).set1 _).set2 _).set3 _
            have HS4 : Hid (SpotAt (((((w2.alloc (.cells #[.int .i64 k.sp.x, .int .i64 k.sp.y] 47)).setCell ⟨w.heap.size + 1, 0, none⟩ (.int .i64 k.sp.x)).setCell ⟨w.heap.size + 1, 1, none⟩ (.int .i64 k.sp.y)).setCell ⟨w.heap.size + 1, 2, none⟩ (.int .i64 k.sp.x)).setCell ⟨w.heap.size + 1, 3, none⟩ (.int .i64 k.sp.y)) w2.heap.size k.sp) := (((HS3.out.dn HG.out).dn HG.out).dn HG.out).dn HG.out
            have HR4 : Hid (BoxAt (((((w2.alloc (.cells #[.int .i64 k.sp.x, .int .i64 k.sp.y] 47)).setCell ⟨w.heap.size + 1, 0, none⟩ (.int .i64 k.sp.x)).setCell ⟨w.heap.size + 1, 1, none⟩ (.int .i64 k.sp.y)).setCell ⟨w.heap.size + 1, 2, none⟩ (.int .i64 k.sp.x)).setCell ⟨w.heap.size + 1, 3, none⟩ (.int .i64 k.sp.y)) w.heap.size ⟨0, 0, 0, 0⟩) := HR3.out.up.up.up.up
            have HB4 : Hid (Below w.heap.size w (((((w2.alloc (.cells #[.int .i64 k.sp.x, .int .i64 k.sp.y] 47)).setCell ⟨w.heap.size + 1, 0, none⟩ (.int .i64 k.sp.x)).setCell ⟨w.heap.size + 1, 1, none⟩ (.int .i64 k.sp.y)).setCell ⟨w.heap.size + 1, 2, none⟩ (.int .i64 k.sp.x)).setCell ⟨w.heap.size + 1, 3, none⟩ (.int .i64 k.sp.y))) := bel_up (bel_up (bel_up (bel_up HB3.out)))
            clear HX3 HS3 HR3 HB3 HN3
            generalize hV : (((((w2.alloc (.cells #[.int .i64 k.sp.x, .int .i64 k.sp.y] 47)).setCell ⟨w.heap.size + 1, 0, none⟩ (.int .i64 k.sp.x)).setCell ⟨w.heap.size + 1, 1, none⟩ (.int .i64 k.sp.y)).setCell ⟨w.heap.size + 1, 2, none⟩ (.int .i64 k.sp.x)).setCell ⟨w.heap.size + 1, 3, none⟩ (.int .i64 k.sp.y)) = V
            rw [hV] at HX4 HS4 HR4 HB4
            clear hV
            obtain ⟨Bv, hBV⟩ : ∃ v, (⟨k.sp.x, k.sp.y, k.sp.x, k.sp.y⟩ : Bx) = v := ⟨_, rfl⟩
            rw [hBV] at HX4 HU
            clear hBV
            obtain ⟨q0, q1, q2, q3⟩ := HX4.out.cells
            obtain ⟨s0, s1⟩ := HS4.out.cells
            have f0 := HX4.out.fr 0
            have f1 := HX4.out.fr 1
            have HV5 : Hid (∀ X0 Y0 : Int, (if k.sp.x < Bv.x0 then k.sp.x else Bv.x0) = X0 → (if k.sp.y < Bv.y0 then k.sp.y else Bv.y0) = Y0 → Hid (BoxAt ((V.setCell ⟨w.heap.size + 1, 0, none⟩ (.int .i64 X0)).setCell ⟨w.heap.size + 1, 1, none⟩ (.int .i64 Y0)).drew (w.heap.size + 1) ⟨if k.sp.x < Bv.x0 then k.sp.x else Bv.x0, if k.sp.y < Bv.y0 then k.sp.y else Bv.y0, Bv.x1, Bv.y1⟩) ∧ Hid (SpotAt ((V.setCell ⟨w.heap.size + 1, 0, none⟩ (.int .i64 X0)).setCell ⟨w.heap.size + 1, 1, none⟩ (.int .i64 Y0)).drew w2.heap.size k.sp) ∧ Hid (BoxAt ((V.setCell ⟨w.heap.size + 1, 0, none⟩ (.int .i64 X0)).setCell ⟨w.heap.size + 1, 1, none⟩ (.int .i64 Y0)).drew w.heap.size ⟨0, 0, 0, 0⟩) ∧ Hid (Below w.heap.size w ((V.setCell ⟨w.heap.size + 1, 0, none⟩ (.int .i64 X0)).setCell ⟨w.heap.size + 1, 1, none⟩ (.int .i64 Y0)).drew)) := by
              intro X0 Y0 hX0 hY0
              rw [hX0, hY0]
              exact ⟨((HX4.out.set0 _).set1 _).drew, ((HS4.out.dn HG.out).dn HG.out).drew, HR4.out.up.up.drew, bel_drew (bel_up (bel_up HB4.out))⟩
            go_cut [21] from 21 to 63 (fun x wx => x = .int .i64 (j : Int) ∧ Hid (BoxAt wx (w.heap.size + 1) ⟨if k.sp.x < Bv.x0 then k.sp.x else Bv.x0, if k.sp.y < Bv.y0 then k.sp.y else Bv.y0, Bv.x1, Bv.y1⟩) ∧ Hid (SpotAt wx w2.heap.size k.sp) ∧ Hid (BoxAt wx w.heap.size ⟨0, 0, 0, 0⟩) ∧ Hid (Below w.heap.size w wx))
            case first =>
              have HV := Lib.hid (HV5.out _ _ rfl rfl)
              clear HX4 HS4 HR4 HB4 HU HG HN2 HBQ HT HRW HX HR HB HTS HV5
              rename_i J K' hJ hK
              go_region
              exact hK _ _ (Met.intro (hJ _ _ ⟨_, _, _, _, _, _, _, _, _, _, _, _, _, _, _, _, _, _, _, _, _, _, _, _, _, _, _, _, _, _, _, _, _, _, _, _, _, _, _, _, _, _, _, ⟨rfl, HV.out⟩, rfl⟩))
            case rest =>
              clear q0 q1 q2 q3 s0 s1 f0 f1 HX4 HS4 HR4 HB4 HV5
              obtain ⟨rfl, HX5, HS5, HR5, HB5⟩ := hcut
              obtain ⟨X0, hX0⟩ : ∃ v, (if k.sp.x < Bv.x0 then k.sp.x else Bv.x0) = v := ⟨_, rfl⟩
              obtain ⟨Y0, hY0⟩ : ∃ v, (if k.sp.y < Bv.y0 then k.sp.y else Bv.y0) = v := ⟨_, rfl⟩
              rw [hX0, hY0] at HX5
              have HGB : Hid (growB Bv k.sp = ⟨X0, Y0, if Bv.x1 < k.sp.x then k.sp.x else Bv.x1, if Bv.y1 < k.sp.y then k.sp.y else Bv.y1⟩) := by unfold Hid growB; rw [hX0, hY0]
              clear hX0 hY0
              obtain ⟨q0, q1, q2, q3⟩ := HX5.out.cells
              obtain ⟨s0, s1⟩ := HS5.out.cells
              have f2 := HX5.out.fr 2
              have f3 := HX5.out.fr 3
              have HMS : Hid (gk - 1 < gk) := rnd2 HGJ.out HJL.out
              have HREL : Hid (∀ X1 Y1 : Int, (if Bv.x1 < k.sp.x then k.sp.x else Bv.x1) = X1 → (if Bv.y1 < k.sp.y then k.sp.y else Bv.y1) = Y1 → ∃ j' : Nat, Hid (gk - 1 + j' = d.length) ∧ (.bool true : Value) = .bool (anyS (S ++ (d.take j').map Kn.sp)) ∧ (.int .i64 (wrap64 ((j : Int) + 1)) : Value) = .int .i64 j' ∧ Hid (BoxAt ((wc.setCell ⟨w.heap.size + 1, 2, none⟩ (.int .i64 X1)).setCell ⟨w.heap.size + 1, 3, none⟩ (.int .i64 Y1)).drew (w.heap.size + 1) (hullB (S ++ (d.take j').map Kn.sp))) ∧ Hid (BoxAt ((wc.setCell ⟨w.heap.size + 1, 2, none⟩ (.int .i64 X1)).setCell ⟨w.heap.size + 1, 3, none⟩ (.int .i64 Y1)).drew w.heap.size ⟨0, 0, 0, 0⟩) ∧ Hid (Below w.heap.size w ((wc.setCell ⟨w.heap.size + 1, 2, none⟩ (.int .i64 X1)).setCell ⟨w.heap.size + 1, 3, none⟩ (.int .i64 Y1)).drew)) := by
                intro X1 Y1 hX1 hY1
                rw [hX1, hY1] at HGB
                clear hX1 hY1
                exact ⟨j + 1, rnd1 HGJ.out HJL.out, by rw [HTS.out, anyS_snoc], by rw [HXJ.out], (by unfold Hid; rw [HTS.out, HU.out, HGB.out]; exact ((HX5.out.set2 _).set3 _).drew), HR5.out.up.up.drew, bel_drew (bel_up (bel_up HB5.out))⟩
              clear HX5 HS5 HR5 HB5 HGB HU HTS
              go_wp2_with fail
              go_region
              generalize hX1 : (if Bv.x1 < k.sp.x then k.sp.x else Bv.x1) = X1
              generalize hY1 : (if Bv.y1 < k.sp.y then k.sp.y else Bv.y1) = Y1
              have HRL := Lib.hid (HREL.out X1 Y1 hX1 hY1)
              clear hX1 hY1 HREL q0 q1 q2 q3 s0 s1 f2 f3
              repeat go_step
              go_roundg (gk - 1)
              case measure => exact HMS.out
              case rel => first | exact HRL.out | (rw [HXJ.out] at HRL; exact HRL.out)
          · go_wp2_with fail
            refine (placeOf_c k _).mono ?_
            rintro e w2 ⟨rfl, hb2⟩
            have HN2 := Lib.hid (((Below.refl wr.heap.size wr).alloc (Nat.le_refl _) (.cells #[.int .i64 k.x, .int .i64 k.y, .int .i64 k.k] 37)).trans (hb2.mono (by simp)))
            have HN3 : Hid (Below wr.heap.size wr (w2.alloc (.cells #[.int .i64 k.sp.x, .int .i64 k.sp.y] 47))) := HN2.out.alloc HN2.out.size _
            have HB3 : Hid (Below w.heap.size w (w2.alloc (.cells #[.int .i64 k.sp.x, .int .i64 k.sp.y] 47))) := bel_next HB.out HN3.out
            have HX3 := Lib.hid (HX.out.below HN3.out)
            have HR3 := Lib.hid (HR.out.below HN3.out)
            have HG : Hid (w.heap.size + 1 < w2.heap.size) := Nat.lt_of_lt_of_le HX.out.lt HN2.out.size
            have HS3 : Hid (SpotAt (w2.alloc (.cells #[.int .i64 k.sp.x, .int .i64 k.sp.y] 47)) w2.heap.size k.sp) := heap_alloc_new w2 _
            clear hb2 k0 k1 k2
            have HU : Hid (hullB (T ++ [k.sp]) = growB (hullB T) k.sp) := hull_any hany k.sp
            rw [HBQ.out] at HU
            obtain ⟨s0, s1⟩ := HS3.out.cells
            unfold spV
            go_wp2_with fail
            clear s0 s1
            have HX4 := HX3
            have HS4 := HS3
            have HR4 := HR3
            have HB4 := HB3
            clear HX3 HS3 HR3 HB3 HN3
            generalize hV : (w2.alloc (.cells #[.int .i64 k.sp.x, .int .i64 k.sp.y] 47)) = V
            rw [hV] at HX4 HS4 HR4 HB4
            clear hV
            obtain ⟨Bv, HBV⟩ : ∃ Bv, Bq = Bv := ⟨_, rfl⟩
            rw [HBV] at HX4 HU HBQ
            clear HBV
            obtain ⟨q0, q1, q2, q3⟩ := HX4.out.cells
            obtain ⟨s0, s1⟩ := HS4.out.cells
            have f0 := HX4.out.fr 0
            have f1 := HX4.out.fr 1
            have HV5 : Hid (∀ X0 Y0 : Int, (if k.sp.x < Bv.x0 then k.sp.x else Bv.x0) = X0 → (if k.sp.y < Bv.y0 then k.sp.y else Bv.y0) = Y0 → Hid (BoxAt ((V.setCell ⟨w.heap.size + 1, 0, none⟩ (.int .i64 X0)).setCell ⟨w.heap.size + 1, 1, none⟩ (.int .i64 Y0)).drew (w.heap.size + 1) ⟨if k.sp.x < Bv.x0 then k.sp.x else Bv.x0, if k.sp.y < Bv.y0 then k.sp.y else Bv.y0, Bv.x1, Bv.y1⟩) ∧ Hid (SpotAt ((V.setCell ⟨w.heap.size + 1, 0, none⟩ (.int .i64 X0)).setCell ⟨w.heap.size + 1, 1, none⟩ (.int .i64 Y0)).drew w2.heap.size k.sp) ∧ Hid (BoxAt ((V.setCell ⟨w.heap.size + 1, 0, none⟩ (.int .i64 X0)).setCell ⟨w.heap.size + 1, 1, none⟩ (.int .i64 Y0)).drew w.heap.size ⟨0, 0, 0, 0⟩) ∧ Hid (Below w.heap.size w ((V.setCell ⟨w.heap.size + 1, 0, none⟩ (.int .i64 X0)).setCell ⟨w.heap.size + 1, 1, none⟩ (.int .i64 Y0)).drew)) := by
              intro X0 Y0 hX0 hY0
              rw [hX0, hY0]
              exact ⟨((HX4.out.set0 _).set1 _).drew, ((HS4.out.dn HG.out).dn HG.out).drew, HR4.out.up.up.drew, bel_drew (bel_up (bel_up HB4.out))⟩
            go_cut [21] from 21 to 63 (fun x wx => x = .int .i64 (j : Int) ∧ Hid (BoxAt wx (w.heap.size + 1) ⟨if k.sp.x < Bv.x0 then k.sp.x else Bv.x0, if k.sp.y < Bv.y0 then k.sp.y else Bv.y0, Bv.x1, Bv.y1⟩) ∧ Hid (SpotAt wx w2.heap.size k.sp) ∧ Hid (BoxAt wx w.heap.size ⟨0, 0, 0, 0⟩) ∧ Hid (Below w.heap.size w wx))
            case first =>
              have HV := Lib.hid (HV5.out _ _ rfl rfl)
              clear HX4 HS4 HR4 HB4 HU HG HN2 HBQ HT HRW HX HR HB HTS HV5
              rename_i J K' hJ hK
              go_region
              exact hK _ _ (Met.intro (hJ _ _ ⟨_, _, _, _, _, _, _, _, _, _, _, _, _, _, _, _, _, _, _, _, _, _, _, _, _, _, _, _, _, _, _, _, _, _, _, _, _, _, _, _, _, _, _, ⟨rfl, HV.out⟩, rfl⟩))
            case rest =>
              clear q0 q1 q2 q3 s0 s1 f0 f1 HX4 HS4 HR4 HB4 HV5
              obtain ⟨rfl, HX5, HS5, HR5, HB5⟩ := hcut
              obtain ⟨X0, hX0⟩ : ∃ v, (if k.sp.x < Bv.x0 then k.sp.x else Bv.x0) = v := ⟨_, rfl⟩
              obtain ⟨Y0, hY0⟩ : ∃ v, (if k.sp.y < Bv.y0 then k.sp.y else Bv.y0) = v := ⟨_, rfl⟩
              rw [hX0, hY0] at HX5
              have HGB : Hid (growB Bv k.sp = ⟨X0, Y0, if Bv.x1 < k.sp.x then k.sp.x else Bv.x1, if Bv.y1 < k.sp.y then k.sp.y else Bv.y1⟩) := by unfold Hid growB; rw [hX0, hY0]
              clear hX0 hY0
              obtain ⟨q0, q1, q2, q3⟩ := HX5.out.cells
              obtain ⟨s0, s1⟩ := HS5.out.cells
              have f2 := HX5.out.fr 2
              have f3 := HX5.out.fr 3
              have HMS : Hid (gk - 1 < gk) := rnd2 HGJ.out HJL.out
              have HREL : Hid (∀ X1 Y1 : Int, (if Bv.x1 < k.sp.x then k.sp.x else Bv.x1) = X1 → (if Bv.y1 < k.sp.y then k.sp.y else Bv.y1) = Y1 → ∃ j' : Nat, Hid (gk - 1 + j' = d.length) ∧ (.bool true : Value) = .bool (anyS (S ++ (d.take j').map Kn.sp)) ∧ (.int .i64 (wrap64 ((j : Int) + 1)) : Value) = .int .i64 j' ∧ Hid (BoxAt ((wc.setCell ⟨w.heap.size + 1, 2, none⟩ (.int .i64 X1)).setCell ⟨w.heap.size + 1, 3, none⟩ (.int .i64 Y1)).drew (w.heap.size + 1) (hullB (S ++ (d.take j').map Kn.sp))) ∧ Hid (BoxAt ((wc.setCell ⟨w.heap.size + 1, 2, none⟩ (.int .i64 X1)).setCell ⟨w.heap.size + 1, 3, none⟩ (.int .i64 Y1)).drew w.heap.size ⟨0, 0, 0, 0⟩) ∧ Hid (Below w.heap.size w ((wc.setCell ⟨w.heap.size + 1, 2, none⟩ (.int .i64 X1)).setCell ⟨w.heap.size + 1, 3, none⟩ (.int .i64 Y1)).drew)) := by
                intro X1 Y1 hX1 hY1
                rw [hX1, hY1] at HGB
                clear hX1 hY1
                exact ⟨j + 1, rnd1 HGJ.out HJL.out, by rw [HTS.out, anyS_snoc], by rw [HXJ.out], (by unfold Hid; rw [HTS.out, HU.out, HGB.out]; exact ((HX5.out.set2 _).set3 _).drew), HR5.out.up.up.drew, bel_drew (bel_up (bel_up HB5.out))⟩
              clear HX5 HS5 HR5 HB5 HGB HU HTS
              go_wp2_with fail
              go_region
              generalize hX1 : (if Bv.x1 < k.sp.x then k.sp.x else Bv.x1) = X1
              generalize hY1 : (if Bv.y1 < k.sp.y then k.sp.y else Bv.y1) = Y1
              have HRL := Lib.hid (HREL.out X1 Y1 hX1 hY1)
              clear hX1 hY1 HREL q0 q1 q2 q3 s0 s1 f2 f3
              repeat go_step
              go_roundg (gk - 1)
              case measure => exact HMS.out
              case rel => first | exact HRL.out | (rw [HXJ.out] at HRL; exact HRL.out)
        · have hjl' : ¬ (j : Int) < (d.length : Int) := nltI hjl
          obtain rfl : j = d.length := end1 HGJ.out hjl
          rw [List.take_length] at HX
          rw [List.take_length]
          go_wp2_with fail
          go_roundg (gi - 1)
          case measure => exact rnd2 HGI.out HLT.out
          case rel => exact ⟨i + 1, rnd1 HGI.out HLT.out, by rw [HSS.out], by first | rw [HX1.out] | go_num, (by unfold Hid; rw [HSS.out]; exact HX.out), HR, HB⟩
    · have hlt' : ¬ (i : Int) < (O.length : Int) := nltI hlt
      obtain rfl : i = O.length := end1 HGI.out hlt
      rw [List.take_length] at HX
      rw [List.take_length]
      obtain ⟨Bq, HBQ⟩ : ∃ Bq, Hid (hullB (spotsL O) = Bq) := ⟨_, rfl⟩
      rw [HBQ.out] at HX
      obtain ⟨q0, q1, q2, q3⟩ := HX.out.cells
      obtain ⟨r0, r1, r2, r3⟩ := HR.out.cells
      have f0 := HR.out.fr 0
      have f1 := HR.out.fr 1
      have f2 := HR.out.fr 2
      have f3 := HR.out.fr 3
      go_wp2_with fail
      refine bodyPost_ret (v := .tuple #[.agg #[.int .i64 Bq.x0, .int .i64 Bq.y0, .int .i64 Bq.x1, .int .i64 Bq.y1], .bool (anyS (spotsL O))]) (by simp [results, Try.results41, go_sem, r0, r1, r2, r3]) rfl ⟨by rw [HBQ.out]; rfl, ?_⟩
      exact (bel_at (bel_at (bel_at (bel_at HB.out))))

end Go.Proofs.Ythjhekmlhmljlaa
