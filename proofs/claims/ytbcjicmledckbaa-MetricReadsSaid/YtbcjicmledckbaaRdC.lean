/-
  What the document's Read answers: the metrics, or the first error.
-/
import Derived.Test.YtbcjicmledckbaaRdB
import Derived.Deep.RegionLaw
import Derived.Deep.AppendLies
import Derived.Deep.DeepCutAuto
import Derived.Deep.CutBlock
import Derived.Deep.LoopGhost
namespace Go.Proofs.Ytbcjicmledckbaa
open Go.RowKit Go.PlainAid
set_option linter.unusedSimpArgs false
set_option linter.unusedVariables false

theorem rz_start {w : World} {kd : Int} {g c bf of cap : Nat} {l : List Row} {s : ByteArray} (hf : RFont w g c bf of cap l s) : RZ w kd g c bf of cap l s (((w.alloc (.cells #[.int .i64 kd, .slice (some ⟨g, 0, none⟩) l.length c, .slice (some ⟨bf, of, none⟩) s.size cap] 26)).alloc (.cells #[.int .i64 0, .int .i64 0, .int .i64 0, .int .i64 0, .int .i64 0, .int .i64 0, .slice none 0 0, .slice none 0 0, .slice none 0 0] 35)).alloc (.cells #[.int .i64 0, .int .i64 0, .int .i64 0, .int .i64 0, .int .i64 0, .int .i64 0, .slice none 0 0, .slice none 0 0, .slice none 0 0] 35)) := by
  have b0 : Below w.heap.size w (w.alloc (.cells #[.int .i64 kd, .slice (some ⟨g, 0, none⟩) l.length c, .slice (some ⟨bf, of, none⟩) s.size cap] 26)) := (Below.refl _ _).alloc (Nat.le_refl _) _
  have z0 : (w.alloc (.cells #[.int .i64 kd, .slice (some ⟨g, 0, none⟩) l.length c, .slice (some ⟨bf, of, none⟩) s.size cap] 26)).heap.size = w.heap.size + 1 := by simp [go_sem]
  have c0 : (w.alloc (.cells #[.int .i64 kd, .slice (some ⟨g, 0, none⟩) l.length c, .slice (some ⟨bf, of, none⟩) s.size cap] 26)).cell? ⟨w.heap.size, 0, none⟩ = some (.int .i64 kd) := by simp [go_sem]
  have c1 : (w.alloc (.cells #[.int .i64 kd, .slice (some ⟨g, 0, none⟩) l.length c, .slice (some ⟨bf, of, none⟩) s.size cap] 26)).cell? ⟨w.heap.size, 1, none⟩ = some (.slice (some ⟨g, 0, none⟩) l.length c) := by simp [go_sem]
  have c2 : (w.alloc (.cells #[.int .i64 kd, .slice (some ⟨g, 0, none⟩) l.length c, .slice (some ⟨bf, of, none⟩) s.size cap] 26)).cell? ⟨w.heap.size, 2, none⟩ = some (.slice (some ⟨bf, of, none⟩) s.size cap) := by simp [go_sem]
  generalize w.alloc (.cells #[.int .i64 kd, .slice (some ⟨g, 0, none⟩) l.length c, .slice (some ⟨bf, of, none⟩) s.size cap] 26) = w1 at *
  have b1 : Below w1.heap.size w1 (w1.alloc (.cells #[.int .i64 0, .int .i64 0, .int .i64 0, .int .i64 0, .int .i64 0, .int .i64 0, .slice none 0 0, .slice none 0 0, .slice none 0 0] 35)) := (Below.refl _ _).alloc (Nat.le_refl _) _
  have z1 : (w1.alloc (.cells #[.int .i64 0, .int .i64 0, .int .i64 0, .int .i64 0, .int .i64 0, .int .i64 0, .slice none 0 0, .slice none 0 0, .slice none 0 0] 35)).heap.size = w1.heap.size + 1 := by simp [go_sem]
  have k1 := blk_alloc w1 [.int .i64 0, .int .i64 0, .int .i64 0, .int .i64 0, .int .i64 0, .int .i64 0, .slice none 0 0, .slice none 0 0, .slice none 0 0] 35 rfl
  have e1 : w1.alloc (.cells ([.int .i64 0, .int .i64 0, .int .i64 0, .int .i64 0, .int .i64 0, .int .i64 0, .slice none 0 0, .slice none 0 0, .slice none 0 0] : List Value).toArray 35) = w1.alloc (.cells #[.int .i64 0, .int .i64 0, .int .i64 0, .int .i64 0, .int .i64 0, .int .i64 0, .slice none 0 0, .slice none 0 0, .slice none 0 0] 35) := rfl
  rw [e1] at k1
  generalize w1.alloc (.cells #[.int .i64 0, .int .i64 0, .int .i64 0, .int .i64 0, .int .i64 0, .int .i64 0, .slice none 0 0, .slice none 0 0, .slice none 0 0] 35) = w2 at *
  have b2 : Below w2.heap.size w2 (w2.alloc (.cells #[.int .i64 0, .int .i64 0, .int .i64 0, .int .i64 0, .int .i64 0, .int .i64 0, .slice none 0 0, .slice none 0 0, .slice none 0 0] 35)) := (Below.refl _ _).alloc (Nat.le_refl _) _
  have k2 := blk_alloc w2 [.int .i64 0, .int .i64 0, .int .i64 0, .int .i64 0, .int .i64 0, .int .i64 0, .slice none 0 0, .slice none 0 0, .slice none 0 0] 35 rfl
  have e2 : w2.alloc (.cells ([.int .i64 0, .int .i64 0, .int .i64 0, .int .i64 0, .int .i64 0, .int .i64 0, .slice none 0 0, .slice none 0 0, .slice none 0 0] : List Value).toArray 35) = w2.alloc (.cells #[.int .i64 0, .int .i64 0, .int .i64 0, .int .i64 0, .int .i64 0, .int .i64 0, .slice none 0 0, .slice none 0 0, .slice none 0 0] 35) := rfl
  rw [e2] at k2
  generalize w2.alloc (.cells #[.int .i64 0, .int .i64 0, .int .i64 0, .int .i64 0, .int .i64 0, .int .i64 0, .slice none 0 0, .slice none 0 0, .slice none 0 0] 35) = w3 at *
  rw [z1, z0] at k2
  rw [z0] at k1
  have b12 : Below w1.heap.size w1 w3 := b1.trans (b2.mono b1.size)
  exact ⟨b0.trans (b12.mono b0.size), keepC b12 c0, keepC b12 c1, keepC b12 c2, k1.below b2, k2, hf⟩
theorem tl_hmtx : (ByteArray.toList ⟨#[104, 109, 116, 120]⟩) = hmtxTg := by rw [ByteArray.toList_eq]; rfl
theorem tl_cff : (ByteArray.toList ⟨#[67, 70, 70, 32]⟩) = cffTg := by rw [ByteArray.toList_eq]; rfl
theorem tl_loca : (ByteArray.toList ⟨#[108, 111, 99, 97]⟩) = locaTg := by rw [ByteArray.toList_eq]; rfl
theorem tl_glyf : (ByteArray.toList ⟨#[103, 108, 121, 102]⟩) = glyfTg := by rw [ByteArray.toList_eq]; rfl
theorem rd_start {w : World} {kd : Int} {g c bf of cap : Nat} {l : List Row} {s : ByteArray} {wr : World} (u : Int) (n : Nat) (asc de gp : Int) (h : RZ w kd g c bf of cap l s wr) : RD w kd g c bf of cap l s wr.heap.size u n asc de gp (.slice none 0 0) [] (.slice none 0 0) [] (.slice none 0 0) [] (wr.alloc (.cells #[.int .i64 kd, .int .i64 u, .int .i64 (n : Int), .int .i64 asc, .int .i64 de, .int .i64 gp, .slice none 0 0, .slice none 0 0, .slice none 0 0] 35)) :=
  ⟨h.below ((Below.refl _ _).alloc (Nat.le_refl _) _), blk_alloc wr [.int .i64 kd, .int .i64 u, .int .i64 (n : Int), .int .i64 asc, .int .i64 de, .int .i64 gp, .slice none 0 0, .slice none 0 0, .slice none 0 0] 35 rfl, h.n.lt, ownI_nil _ _, ownI_nil _ _, ownI_nil _ _, (fun k hk => by cases hk), (fun k hk => by cases hk), (fun k hk => by cases hk)⟩

set_option maxHeartbeats 4000000 in
set_option maxRecDepth 20000 in
theorem dread_c (kd : Int) (g c bf of cap : Nat) (l : List Row) (s : ByteArray) (w : World) (hf : RFont w g c bf of cap l s) :
    Calls Try.prog 11 #[rfVal kd g c bf of cap l.length s.size] w (DReadPost w (readOf kd l s)) := by
  have HZ0 := Lib.hid (rz_start (kd := kd) hf)
  have HSZ := Lib.hid hf.size
  clear hf
  unfold rfVal
  go_enter Try.func11, Try.ntmps11
  go_wp2_with fail
  generalize (((w.alloc (.cells #[.int .i64 kd, .slice (some ⟨g, 0, none⟩) l.length c, .slice (some ⟨bf, of, none⟩) s.size cap] 26)).alloc (.cells #[.int .i64 0, .int .i64 0, .int .i64 0, .int .i64 0, .int .i64 0, .int .i64 0, .slice none 0 0, .slice none 0 0, .slice none 0 0] 35)).alloc (.cells #[.int .i64 0, .int .i64 0, .int .i64 0, .int .i64 0, .int .i64 0, .int .i64 0, .slice none 0 0, .slice none 0 0, .slice none 0 0] 35)) = w0 at *
  refine (rheads_c kd g c bf of cap l s w0 (HZ0.out.rf.below HZ0.out.bel)).mono ?_
  obtain ⟨f, o, HHO⟩ : ∃ f o, Hid (headsOf l s = (f, o)) := ⟨_, _, rfl⟩
  rw [HHO.out]
  cases o with
  | none =>
    rintro e w1 ⟨⟨a0, a1, a2, a3, a4, a5, rfl⟩, hb1⟩
    obtain ⟨hrd, hf0⟩ := read_heads_no (kd := kd) HHO.out
    have HE := Lib.hid hrd
    have hf0' : (f != 0) = true := by simpa using hf0
    clear hrd HHO
    have HZ1 := Lib.hid ((HZ0.out.below hb1).below ((Below.refl _ _).alloc (Nat.le_refl _) (.cells #[.int .i64 a0, .int .i64 a1, .int .i64 a2, .int .i64 a3, .int .i64 a4, .int .i64 a5, .slice none 0 0, .slice none 0 0, .slice none 0 0] 35)))
    clear hb1
    obtain ⟨r0, r1, r2, r3, r4, r5, r6, r7, r8⟩ := mvar_cells HZ1.out.r.c
    obtain ⟨f0, f1, f2, f3, f4, f5, f6, f7, f8⟩ := blk_frozen HZ1.out.r
    obtain ⟨n0, n1, n2, n3, n4, n5, n6, n7, n8⟩ := mvar_cells HZ1.out.n.c
    have HPUT := Lib.hid (blk_put HZ1.out.r (.int .i64 0) (.int .i64 0) (.int .i64 0) (.int .i64 0) (.int .i64 0) (.int .i64 0) (.slice none 0 0) (.slice none 0 0) (.slice none 0 0))
    go_wp2_with fail
    obtain ⟨q0, q1, q2, q3, q4, q5, q6, q7, q8⟩ := mvar_cells HPUT.out.1
    refine bodyPost_ret (v := .tuple #[.agg #[.int .i64 0, .int .i64 0, .int .i64 0, .int .i64 0, .int .i64 0, .int .i64 0, .slice none 0 0, .slice none 0 0, .slice none 0 0], .int .i64 f]) (by simp [results, Try.results11, go_sem, q0, q1, q2, q3, q4, q5, q6, q7, q8]; try rfl) rfl ?_
    exact dread_no HE.out (HPUT.out.2 _ _ (Nat.le_succ _) HZ1.out.bel)
  | some t =>
    obtain ⟨u, gn, asc, de, gp, fo, wd⟩ := t
    rintro e w1 ⟨rfl, hb1⟩
    obtain ⟨rfl, n, wn, rfl, rfl, hn1, hn2, hw1, hw2, hfo, hrd⟩ := read_heads_yes (kd := kd) HHO.out
    have HRD := Lib.hid hrd
    have HNW : Hid (1 ≤ n ∧ n ≤ 4096 ∧ 1 ≤ wn ∧ wn ≤ n) := Lib.hid ⟨hn1, hn2, hw1, hw2⟩
    have HFO := Lib.hid hfo
    clear hrd HHO hn1 hn2 hw1 hw2 hfo
    have HD1 := Lib.hid (rd_start u n asc de gp (HZ0.out.below hb1))
    clear hb1
    obtain ⟨m0, m1, m2, m3, m4, m5, m6, m7, m8⟩ := mvar_cells HD1.out.m.c
    have hb0 := HD1.out.z.b0
    have hb1 := HD1.out.z.b1
    have hb2 := HD1.out.z.b2
    have hw1 : wrap64 (2 * (n : Int)) = 2 * (n : Int) := by have := HNW.out; unfold wrap64; omega
    have hw2 : wrap64 (2 * (wn : Int)) = 2 * (wn : Int) := by have := HNW.out; unfold wrap64; omega
    have hw3 : wrap64 (2 * (n : Int) + 2 * (wn : Int)) = 2 * (n : Int) + 2 * (wn : Int) := by have := HNW.out; unfold wrap64; omega
    go_wp2_with fail
    generalize (w1.alloc (.cells #[.int .i64 kd, .int .i64 u, .int .i64 (n : Int), .int .i64 asc, .int .i64 de, .int .i64 gp, .slice none 0 0, .slice none 0 0, .slice none 0 0] 35)) = W1 at *
    generalize w1.heap.size = M at *
    clear m0 m1 m2 m3 m4 m5 m6 m7 m8 hb0 hb1 hb2 hw1 hw2 hw3 HZ0
    refine (rneed_c kd (2 * (n : Int) + 2 * (wn : Int)) g c bf of cap l s _ w W1 HD1.out.z.rf HD1.out.z.bel).mono ?_
    obtain ⟨v1, HV1⟩ : ∃ v, Hid (tabN l s hmtxTg (2 * (n : Int) + 2 * (wn : Int)) = v) := ⟨_, rfl⟩
    rw [tl_hmtx, HV1.out]
    cases v1 with
    | none =>
      rintro e w2 ⟨⟨aa, nn, cc, rfl⟩, hb1⟩
      have HE : Hid (readOf kd l s = (41, none)) := by unfold Hid; rw [HRD.out]; unfold readRest; rw [HV1.out]
      have HD2 := Lib.hid (HD1.out.below hb1)
      clear hb1 HD1
      obtain ⟨r0, r1, r2, r3, r4, r5, r6, r7, r8⟩ := mvar_cells HD2.out.z.r.c
      obtain ⟨f0, f1, f2, f3, f4, f5, f6, f7, f8⟩ := blk_frozen HD2.out.z.r
      obtain ⟨n0, n1, n2, n3, n4, n5, n6, n7, n8⟩ := mvar_cells HD2.out.z.n.c
      have HPUT := Lib.hid (blk_put HD2.out.z.r (.int .i64 0) (.int .i64 0) (.int .i64 0) (.int .i64 0) (.int .i64 0) (.int .i64 0) (.slice none 0 0) (.slice none 0 0) (.slice none 0 0))
      go_wp2_with fail
      obtain ⟨q0, q1, q2, q3, q4, q5, q6, q7, q8⟩ := mvar_cells HPUT.out.1
      refine bodyPost_ret (v := .tuple #[.agg #[.int .i64 0, .int .i64 0, .int .i64 0, .int .i64 0, .int .i64 0, .int .i64 0, .slice none 0 0, .slice none 0 0, .slice none 0 0], .int .i64 41]) (by simp [results, Try.results11, go_sem, q0, q1, q2, q3, q4, q5, q6, q7, q8]; try rfl) rfl ?_
      exact dread_no HE.out (HPUT.out.2 _ _ (Nat.le_succ _) HD2.out.z.bel)
    | some hm =>
      rintro e w2 ⟨a2, c2, rfl, hi1, hb1⟩
      have HI := Lib.hid hi1
      have HD2 := Lib.hid (HD1.out.below hb1)
      have HHM : Hid ((hm.size : Int) ≤ 1048576) := Lib.hid (tab_small HV1.out HSZ.out).1
      have HRE : Hid (readOf kd l s = if (rPlaces kd l s n fo).1 ≠ 0 then ((rPlaces kd l s n fo).1, none) else (0, some ⟨kd, u, n, asc, de, gp, advL hm wn n, bearL hm wn n, (rPlaces kd l s n fo).2⟩)) := by unfold Hid; rw [HRD.out]; unfold readRest; rw [HV1.out]
      clear hb1 hi1 HD1 HRD HV1
      go_wp2_with fail
      go_loopg [11] n (fun gk i wr => ∃ k : Nat, ∃ va vb : Value, ∃ La Lb : List Int, Hid (gk + k = n) ∧ i = .int .i64 k ∧ Hid (advL hm wn k = La ∧ bearL hm wn k = Lb) ∧ Hid (RD w kd g c bf of cap l s M u n asc de gp va La vb Lb (.slice none 0 0) [] wr))
      case atStart => exact ⟨0, .slice none 0 0, .slice none 0 0, [], [], Lib.hid (Nat.add_zero _), rfl, Lib.hid ⟨rfl, rfl⟩, HD2⟩
      case round =>
        clear HD2
        obtain ⟨k, va, vb, La, Lb, HK, rfl, HLL, HD⟩ := hrel
        by_cases hlt : k < n
        · have hlt' : (k : Int) < (n : Int) := Int.ofNat_lt.2 hlt
          have m2 := (mvar_cells HD.out.m.c).2.2.1
          have HKN : Hid (La.length = k ∧ Lb.length = k ∧ k ≤ 4096) := Lib.hid (rd_lens HLL.out HK.out HNW.out)
          have HLEA : Hid (La.length ≤ 1000000) := by have := HKN.out; unfold Hid; omega
          have HLEB : Hid (Lb.length ≤ 1000000) := by have := HKN.out; unfold Hid; omega
          have HH8 : Hid ((hm.size : Int) ≤ 140737488355328) := Lib.hid (Int.le_trans HHM.out (by decide))
          have HW7 : Hid (wrap64 ((k : Int) + 1) = ((k + 1 : Nat) : Int)) := by have := HKN.out; unfold Hid wrap64; omega
          by_cases hkw : k < wn
          · have hkw' : (k : Int) < (wn : Int) := Int.ofNat_lt.2 hkw
            obtain ⟨x, fx, HX⟩ := numOr_ex hm (4 * (k : Int)) 2
            obtain ⟨x2, fx2, HX2⟩ := numOr_ex hm (4 * (k : Int) + 2) 2
            obtain ⟨y, HY⟩ : ∃ y, Hid (sign16 x2 = y) := ⟨_, rfl⟩
            have hw4 : wrap64 (4 * (k : Int)) = 4 * (k : Int) := by have := HKN.out; unfold wrap64; omega
            have hi4 : IntKind.i64.wrap (4 * (k : Int)) = 4 * (k : Int) := by rw [IntWalk.i64_left]; exact hw4
            have hw5 : wrap64 (4 * (k : Int) + 2) = 4 * (k : Int) + 2 := by have := HKN.out; unfold wrap64; omega
            have hi5 : IntKind.i64.wrap (4 * (k : Int) + 2) = 4 * (k : Int) + 2 := by rw [IntWalk.i64_left]; exact hw5
            clear hw4 hw5
            have HAD : Hid (advL hm wn (k + 1) = La ++ [x]) := Lib.hid (adv_step HLL.out.1 (adv_lo hkw HX.out))
            have HBE : Hid (bearL hm wn (k + 1) = Lb ++ [y]) := Lib.hid (bear_step HLL.out.2 (bear_lo hkw HX2.out HY.out))
            have m6 := (mvar_cells HD.out.m.c).2.2.2.2.2.2.1
            have HDX : Hid (RD w kd g c bf of cap l s M u n asc de gp va (La) vb (Lb) (.slice none 0 0) [] (wr.drew.alloc (.cells #[.int .i64 x] 3))) := HD.out.below (bel_undr ((Below.refl _ _).alloc (Nat.le_refl _) _))
            have hx0 : (wr.drew.alloc (.cells #[.int .i64 x] 3)).cell? ⟨wr.heap.size, 0, none⟩ = some (.int .i64 x) := by simp [go_sem]
            have HDY : Hid (RD w kd g c bf of cap l s M u n asc de gp va (La) vb (Lb) (.slice none 0 0) [] (wr.alloc (.cells #[.int .i64 x] 3))) := HD.out.below ((Below.refl _ _).alloc (Nat.le_refl _) _)
            have mx6 := (mvar_cells HDY.out.m.c).2.2.2.2.2.2.1
            go_upto_region 12 with fail
            go_cut [] from 43 to 92 (fun wx => ∃ v', Hid (RD w kd g c bf of cap l s M u n asc de gp v' (La ++ [x]) vb (Lb) (.slice none 0 0) [] wx))
            case first =>
              go_region_law (first
                | (refine step_addI (by rfl) _ _ (by rfl) (wr.drew.alloc (.cells #[.int .i64 x] 3)) (M + 1) va (La) wr.heap.size x (by rfl) (by rfl) HDX.out.oa hx0 HLEA.out HDX.out.lt ?_; intro g' c' w' ho hg hat hlt2; have HDN := Lib.hid (HDX.out.addA ho hg hat); have k6 := (mvar_cells (HDX.out.growA hg).c).2.2.2.2.2.2.1; have kf := (HDX.out.growA hg).f 6 (by omega); clear ho hg hat hlt2)
                | (go_simp; go_at_call 24; refine (refu16_c a2 hm.size c2 hm (4 * (k : Int)) x fx wr.drew (HI.out.below (bel_dr HD.out.z.bel)) HH8.out HX).mono ?_; rintro e w9 ⟨rfl, rfl⟩))
              all_goals
                go_wp2_with fail
                go_meet
                exact ⟨_, HDN⟩
            case rest =>
              clear HDX HDY hx0 m6 mx6
              obtain ⟨va2, HD2⟩ := hcut
              clear HD
              generalize hwx : wc = wr2 at *
              clear hwx
              have m7 := (mvar_cells HD2.out.m.c).2.2.2.2.2.2.2.1
              have HDX : Hid (RD w kd g c bf of cap l s M u n asc de gp va2 (La ++ [x]) vb (Lb) (.slice none 0 0) [] (wr2.drew.alloc (.cells #[.int .i64 y] 3))) := HD2.out.below (bel_undr ((Below.refl _ _).alloc (Nat.le_refl _) _))
              have hx0 : (wr2.drew.alloc (.cells #[.int .i64 y] 3)).cell? ⟨wr2.heap.size, 0, none⟩ = some (.int .i64 y) := by simp [go_sem]
              have HDY : Hid (RD w kd g c bf of cap l s M u n asc de gp va2 (La ++ [x]) vb (Lb) (.slice none 0 0) [] (wr2.alloc (.cells #[.int .i64 y] 3))) := HD2.out.below ((Below.refl _ _).alloc (Nat.le_refl _) _)
              have mx7 := (mvar_cells HDY.out.m.c).2.2.2.2.2.2.2.1
              go_upto_region 13 with fail
              go_region_law (first
                | (refine step_addI (by rfl) _ _ (by rfl) (wr2.drew.alloc (.cells #[.int .i64 y] 3)) (M + 1) vb (Lb) wr2.heap.size y (by rfl) (by rfl) HDX.out.ob hx0 HLEB.out HDX.out.lt ?_; intro g' c' w' ho hg hat hlt2; have HDN := Lib.hid (HDX.out.addB ho hg hat); have k6 := (mvar_cells (HDX.out.growB hg).c).2.2.2.2.2.2.2.1; have kf := (HDX.out.growB hg).f 7 (by omega); clear ho hg hat hlt2)
                | (go_simp; go_at_call 33; refine (refi16_y a2 hm.size c2 hm (4 * (k : Int) + 2) x2 fx2 y wr2.drew (HI.out.below (bel_dr HD2.out.z.bel)) HH8.out HX2 HY).mono ?_; rintro e w9 ⟨rfl, rfl⟩))
              all_goals
                go_wp2_with fail
                go_roundg (gk - 1)
                case measure => exact (lps_1 HK.out hlt).2
                case rel => exact ⟨k + 1, va2, _, La ++ [x], Lb ++ [y], Lib.hid (lps_1 HK.out hlt).1, by first | rfl | rw [HW7.out], Lib.hid ⟨HAD.out, HBE.out⟩, HDN⟩
          · have hkw' : ¬ (k : Int) < (wn : Int) := by omega
            obtain ⟨x, fx, HX⟩ := numOr_ex hm (4 * (wn : Int) - 4) 2
            obtain ⟨x2, fx2, HX2⟩ := numOr_ex hm (2 * (wn : Int) + 2 * (k : Int)) 2
            obtain ⟨y, HY⟩ : ∃ y, Hid (sign16 x2 = y) := ⟨_, rfl⟩
            have hw4 : wrap64 (4 * (wn : Int)) = 4 * (wn : Int) := by have := HNW.out; unfold wrap64; omega
            have hi4 : IntKind.i64.wrap (4 * (wn : Int)) = 4 * (wn : Int) := by rw [IntWalk.i64_left]; exact hw4
            have hw5 : wrap64 (4 * (wn : Int) - 4) = 4 * (wn : Int) - 4 := by have := HNW.out; unfold wrap64; omega
            have hi5 : IntKind.i64.wrap (4 * (wn : Int) - 4) = 4 * (wn : Int) - 4 := by rw [IntWalk.i64_left]; exact hw5
            have hw6 : wrap64 (2 * (wn : Int)) = 2 * (wn : Int) := by have := HNW.out; unfold wrap64; omega
            have hi6 : IntKind.i64.wrap (2 * (wn : Int)) = 2 * (wn : Int) := by rw [IntWalk.i64_left]; exact hw6
            have hw7 : wrap64 (2 * (k : Int)) = 2 * (k : Int) := by have := HKN.out; unfold wrap64; omega
            have hi7 : IntKind.i64.wrap (2 * (k : Int)) = 2 * (k : Int) := by rw [IntWalk.i64_left]; exact hw7
            have hw8 : wrap64 (2 * (wn : Int) + 2 * (k : Int)) = 2 * (wn : Int) + 2 * (k : Int) := by have := HKN.out; have := HNW.out; unfold wrap64; omega
            have hi8 : IntKind.i64.wrap (2 * (wn : Int) + 2 * (k : Int)) = 2 * (wn : Int) + 2 * (k : Int) := by rw [IntWalk.i64_left]; exact hw8
            clear hw4 hw5 hw6 hw7 hw8
            have HAD : Hid (advL hm wn (k + 1) = La ++ [x]) := Lib.hid (adv_step HLL.out.1 (adv_hi hkw HX.out))
            have HBE : Hid (bearL hm wn (k + 1) = Lb ++ [y]) := Lib.hid (bear_step HLL.out.2 (bear_hi hkw HX2.out HY.out))
            have m6 := (mvar_cells HD.out.m.c).2.2.2.2.2.2.1
            have HDX : Hid (RD w kd g c bf of cap l s M u n asc de gp va (La) vb (Lb) (.slice none 0 0) [] (wr.drew.alloc (.cells #[.int .i64 x] 3))) := HD.out.below (bel_undr ((Below.refl _ _).alloc (Nat.le_refl _) _))
            have hx0 : (wr.drew.alloc (.cells #[.int .i64 x] 3)).cell? ⟨wr.heap.size, 0, none⟩ = some (.int .i64 x) := by simp [go_sem]
            have HDY : Hid (RD w kd g c bf of cap l s M u n asc de gp va (La) vb (Lb) (.slice none 0 0) [] (wr.alloc (.cells #[.int .i64 x] 3))) := HD.out.below ((Below.refl _ _).alloc (Nat.le_refl _) _)
            have mx6 := (mvar_cells HDY.out.m.c).2.2.2.2.2.2.1
            go_upto_region 14 with fail
            go_cut [] from 43 to 92 (fun wx => ∃ v', Hid (RD w kd g c bf of cap l s M u n asc de gp v' (La ++ [x]) vb (Lb) (.slice none 0 0) [] wx))
            case first =>
              go_region_law (first
                | (refine step_addI (by rfl) _ _ (by rfl) (wr.drew.alloc (.cells #[.int .i64 x] 3)) (M + 1) va (La) wr.heap.size x (by rfl) (by rfl) HDX.out.oa hx0 HLEA.out HDX.out.lt ?_; intro g' c' w' ho hg hat hlt2; have HDN := Lib.hid (HDX.out.addA ho hg hat); have k6 := (mvar_cells (HDX.out.growA hg).c).2.2.2.2.2.2.1; have kf := (HDX.out.growA hg).f 6 (by omega); clear ho hg hat hlt2)
                | (go_simp; go_at_call 24; refine (refu16_c a2 hm.size c2 hm (4 * (wn : Int) - 4) x fx wr.drew (HI.out.below (bel_dr HD.out.z.bel)) HH8.out HX).mono ?_; rintro e w9 ⟨rfl, rfl⟩))
              all_goals
                go_wp2_with fail
                go_meet
                exact ⟨_, HDN⟩
            case rest =>
              clear HDX HDY hx0 m6 mx6
              obtain ⟨va2, HD2⟩ := hcut
              clear HD
              generalize hwx : wc = wr2 at *
              clear hwx
              have m7 := (mvar_cells HD2.out.m.c).2.2.2.2.2.2.2.1
              have HDX : Hid (RD w kd g c bf of cap l s M u n asc de gp va2 (La ++ [x]) vb (Lb) (.slice none 0 0) [] (wr2.drew.alloc (.cells #[.int .i64 y] 3))) := HD2.out.below (bel_undr ((Below.refl _ _).alloc (Nat.le_refl _) _))
              have hx0 : (wr2.drew.alloc (.cells #[.int .i64 y] 3)).cell? ⟨wr2.heap.size, 0, none⟩ = some (.int .i64 y) := by simp [go_sem]
              have HDY : Hid (RD w kd g c bf of cap l s M u n asc de gp va2 (La ++ [x]) vb (Lb) (.slice none 0 0) [] (wr2.alloc (.cells #[.int .i64 y] 3))) := HD2.out.below ((Below.refl _ _).alloc (Nat.le_refl _) _)
              have mx7 := (mvar_cells HDY.out.m.c).2.2.2.2.2.2.2.1
              go_upto_region 15 with fail
              go_region_law (first
                | (refine step_addI (by rfl) _ _ (by rfl) (wr2.drew.alloc (.cells #[.int .i64 y] 3)) (M + 1) vb (Lb) wr2.heap.size y (by rfl) (by rfl) HDX.out.ob hx0 HLEB.out HDX.out.lt ?_; intro g' c' w' ho hg hat hlt2; have HDN := Lib.hid (HDX.out.addB ho hg hat); have k6 := (mvar_cells (HDX.out.growB hg).c).2.2.2.2.2.2.2.1; have kf := (HDX.out.growB hg).f 7 (by omega); clear ho hg hat hlt2)
                | (go_simp; go_at_call 33; refine (refi16_y a2 hm.size c2 hm (2 * (wn : Int) + 2 * (k : Int)) x2 fx2 y wr2.drew (HI.out.below (bel_dr HD2.out.z.bel)) HH8.out HX2 HY).mono ?_; rintro e w9 ⟨rfl, rfl⟩))
              all_goals
                go_wp2_with fail
                go_roundg (gk - 1)
                case measure => exact (lps_1 HK.out hlt).2
                case rel => exact ⟨k + 1, va2, _, La ++ [x], Lb ++ [y], Lib.hid (lps_1 HK.out hlt).1, by first | rfl | rw [HW7.out], Lib.hid ⟨HAD.out, HBE.out⟩, HDN⟩
        · have hlt' : ¬ (k : Int) < (n : Int) := by omega
          obtain rfl : n = k := by have := HK.out; omega
          have HLN : Hid (La.length ≤ 5000 ∧ Lb.length ≤ 5000) := by have h := rd_lens HLL.out HK.out HNW.out; unfold Hid; omega
          obtain ⟨rfl, rfl⟩ : advL hm wn n = La ∧ bearL hm wn n = Lb := HLL.out
          obtain ⟨La, HLa⟩ : ∃ L, Hid (advL hm wn n = L) := ⟨_, rfl⟩
          obtain ⟨Lb, HLb⟩ : ∃ L, Hid (bearL hm wn n = L) := ⟨_, rfl⟩
          rw [HLa.out, HLb.out] at HRE HD HLN
          have m0 := (mvar_cells HD.out.m.c).1
          have m2 := (mvar_cells HD.out.m.c).2.2.1
          have hb0 := HD.out.z.b0
          have hb1 := HD.out.z.b1
          have hb2 := HD.out.z.b2
          clear HLL HK hlt
          by_cases h2 : kd = 2
          · subst h2
            go_wp2_with fail
            clear m0 m2
            refine (rneed_c 2 0 g c bf of cap l s _ w wr HD.out.z.rf HD.out.z.bel).mono ?_
            obtain ⟨v2, HV2⟩ : ∃ v, Hid (tabN l s cffTg 0 = v) := ⟨_, rfl⟩
            rw [tl_cff, HV2.out]
            clear hb0 hb1 hb2
            cases v2 with
            | none =>
              rintro e w3 ⟨⟨ax, nx, cx, rfl⟩, hb1⟩
              have HE : Hid (readOf 2 l s = (41, none)) := Lib.hid (rest_err (m := fun ps => ⟨2, u, n, asc, de, gp, La, Lb, ps⟩) HRE.out (pl_cff_no HV2.out))
              have HD3 := Lib.hid (HD.out.below hb1)
              clear hb1 HD HRE
              obtain ⟨r0, r1, r2, r3, r4, r5, r6, r7, r8⟩ := mvar_cells HD3.out.z.r.c
              obtain ⟨f0, f1, f2, f3, f4, f5, f6, f7, f8⟩ := blk_frozen HD3.out.z.r
              obtain ⟨n0, n1, n2, n3, n4, n5, n6, n7, n8⟩ := mvar_cells HD3.out.z.n.c
              have HPUT := Lib.hid (blk_put HD3.out.z.r (.int .i64 0) (.int .i64 0) (.int .i64 0) (.int .i64 0) (.int .i64 0) (.int .i64 0) (.slice none 0 0) (.slice none 0 0) (.slice none 0 0))
              go_wp2_with fail
              obtain ⟨q0, q1, q2, q3, q4, q5, q6, q7, q8⟩ := mvar_cells HPUT.out.1
              refine bodyPost_ret (v := .tuple #[.agg #[.int .i64 0, .int .i64 0, .int .i64 0, .int .i64 0, .int .i64 0, .int .i64 0, .slice none 0 0, .slice none 0 0, .slice none 0 0], .int .i64 41]) (by simp [results, Try.results11, go_sem, q0, q1, q2, q3, q4, q5, q6, q7, q8]; try rfl) rfl ?_
              exact dread_no HE.out (HPUT.out.2 _ _ (Nat.le_succ _) HD3.out.z.bel)
            | some cf =>
              rintro e w3 ⟨ax, cx, rfl, hi3, hb1⟩
              have HE : Hid (readOf 2 l s = (0, some ⟨2, u, n, asc, de, gp, La, Lb, []⟩)) := Lib.hid (rest_ok (m := fun ps => ⟨2, u, n, asc, de, gp, La, Lb, ps⟩) HRE.out (pl_cff_yes HV2.out))
              have HD3 := Lib.hid (HD.out.below hb1)
              clear hb1 hi3 HD HRE
              obtain ⟨aa, ca, rfl, _⟩ := ownI_is HD3.out.oa
              obtain ⟨ab, cb, rfl, _⟩ := ownI_is HD3.out.ob
              obtain ⟨r0, r1, r2, r3, r4, r5, r6, r7, r8⟩ := mvar_cells HD3.out.z.r.c
              obtain ⟨f0, f1, f2, f3, f4, f5, f6, f7, f8⟩ := blk_frozen HD3.out.z.r
              obtain ⟨m0, m1, m2, m3, m4, m5, m6, m7, m8⟩ := mvar_cells HD3.out.m.c
              have HPUT := Lib.hid (blk_put HD3.out.z.r (.int .i64 2) (.int .i64 u) (.int .i64 (n : Int)) (.int .i64 asc) (.int .i64 de) (.int .i64 gp) (.slice aa La.length ca) (.slice ab Lb.length cb) (.slice none 0 0))
              go_wp2_with fail
              obtain ⟨q0, q1, q2, q3, q4, q5, q6, q7, q8⟩ := mvar_cells HPUT.out.1
              refine bodyPost_ret (v := .tuple #[.agg #[.int .i64 2, .int .i64 u, .int .i64 (n : Int), .int .i64 asc, .int .i64 de, .int .i64 gp, .slice aa La.length ca, .slice ab Lb.length cb, .slice none 0 0], .int .i64 0]) (by simp [results, Try.results11, go_sem, q0, q1, q2, q3, q4, q5, q6, q7, q8]; try rfl) rfl ?_
              exact dread_yes HE.out (HD3.out.isMet (fun k hk => put_other hk _ _ _ _ _ _ _ _ _) HLN.out.1 HLN.out.2 (by decide)) (HPUT.out.2 _ _ (Nat.le_succ _) HD3.out.z.bel)
          · have h2' : (kd == 2) = false := by simpa using h2
            have hw1 : wrap64 ((n : Int) + 1) = (n : Int) + 1 := by have := HNW.out; unfold wrap64; omega
            have hw2 : wrap64 (2 * fo) = 2 * fo := by rcases HFO.out with h | h <;> rw [h] <;> unfold wrap64 <;> omega
            have hw3 : wrap64 (2 + 2 * fo) = 2 + 2 * fo := by rcases HFO.out with h | h <;> rw [h] <;> unfold wrap64 <;> omega
            have hw4 : wrap64 (((n : Int) + 1) * (2 + 2 * fo)) = ((n : Int) + 1) * (2 + 2 * fo) := by have := HNW.out; rcases HFO.out with h | h <;> rw [h] <;> unfold wrap64 <;> omega
            go_wp2_with fail
            clear m0 m2 hw1 hw2 hw3 hw4 h2'
            refine (rneed_c kd (((n : Int) + 1) * (2 + 2 * fo)) g c bf of cap l s _ w wr HD.out.z.rf HD.out.z.bel).mono ?_
            obtain ⟨v2, HV2⟩ : ∃ v, Hid (tabN l s locaTg (((n : Int) + 1) * (2 + 2 * fo)) = v) := ⟨_, rfl⟩
            rw [tl_loca, HV2.out]
            clear hb0 hb1 hb2
            cases v2 with
            | none =>
              rintro e w3 ⟨⟨ax, nx, cx, rfl⟩, hb1⟩
              have HE : Hid (readOf kd l s = (41, none)) := Lib.hid (rest_err (m := fun ps => ⟨kd, u, n, asc, de, gp, La, Lb, ps⟩) HRE.out (pl_loca_no h2 HV2.out))
              have HD3 := Lib.hid (HD.out.below hb1)
              clear hb1 HD HRE
              have hb0 := HD3.out.z.b0
              have hb1 := HD3.out.z.b1
              have hb2 := HD3.out.z.b2
              go_wp2_with fail
              refine (rneed_c kd 0 g c bf of cap l s _ w w3 HD3.out.z.rf HD3.out.z.bel).mono ?_
              obtain ⟨v3, HV3⟩ : ∃ v, Hid (tabN l s glyfTg 0 = v) := ⟨_, rfl⟩
              rw [tl_glyf, HV3.out]
              clear hb0 hb1 hb2
              cases v3 with
              | none =>
                rintro e w4 ⟨⟨ay, ny, cy, rfl⟩, hb1⟩
                have HD4 := Lib.hid (HD3.out.below hb1)
                clear hb1 HD3
                obtain ⟨r0, r1, r2, r3, r4, r5, r6, r7, r8⟩ := mvar_cells HD4.out.z.r.c
                obtain ⟨f0, f1, f2, f3, f4, f5, f6, f7, f8⟩ := blk_frozen HD4.out.z.r
                obtain ⟨n0, n1, n2, n3, n4, n5, n6, n7, n8⟩ := mvar_cells HD4.out.z.n.c
                have HPUT := Lib.hid (blk_put HD4.out.z.r (.int .i64 0) (.int .i64 0) (.int .i64 0) (.int .i64 0) (.int .i64 0) (.int .i64 0) (.slice none 0 0) (.slice none 0 0) (.slice none 0 0))
                go_wp2_with fail
                obtain ⟨q0, q1, q2, q3, q4, q5, q6, q7, q8⟩ := mvar_cells HPUT.out.1
                refine bodyPost_ret (v := .tuple #[.agg #[.int .i64 0, .int .i64 0, .int .i64 0, .int .i64 0, .int .i64 0, .int .i64 0, .slice none 0 0, .slice none 0 0, .slice none 0 0], .int .i64 41]) (by simp [results, Try.results11, go_sem, q0, q1, q2, q3, q4, q5, q6, q7, q8]; try rfl) rfl ?_
                exact dread_no HE.out (HPUT.out.2 _ _ (Nat.le_succ _) HD4.out.z.bel)
              | some gl =>
                rintro e w4 ⟨ay, cy, rfl, _, hb1⟩
                have HD4 := Lib.hid (HD3.out.below hb1)
                clear hb1 HD3
                obtain ⟨r0, r1, r2, r3, r4, r5, r6, r7, r8⟩ := mvar_cells HD4.out.z.r.c
                obtain ⟨f0, f1, f2, f3, f4, f5, f6, f7, f8⟩ := blk_frozen HD4.out.z.r
                obtain ⟨n0, n1, n2, n3, n4, n5, n6, n7, n8⟩ := mvar_cells HD4.out.z.n.c
                have HPUT := Lib.hid (blk_put HD4.out.z.r (.int .i64 0) (.int .i64 0) (.int .i64 0) (.int .i64 0) (.int .i64 0) (.int .i64 0) (.slice none 0 0) (.slice none 0 0) (.slice none 0 0))
                go_wp2_with fail
                obtain ⟨q0, q1, q2, q3, q4, q5, q6, q7, q8⟩ := mvar_cells HPUT.out.1
                refine bodyPost_ret (v := .tuple #[.agg #[.int .i64 0, .int .i64 0, .int .i64 0, .int .i64 0, .int .i64 0, .int .i64 0, .slice none 0 0, .slice none 0 0, .slice none 0 0], .int .i64 41]) (by simp [results, Try.results11, go_sem, q0, q1, q2, q3, q4, q5, q6, q7, q8]; try rfl) rfl ?_
                exact dread_no HE.out (HPUT.out.2 _ _ (Nat.le_succ _) HD4.out.z.bel)
            | some lo =>
              rintro e w3 ⟨a3, c3, rfl, hi3, hb1⟩
              have HI3 := Lib.hid hi3
              have HLO : Hid ((lo.size : Int) ≤ 140737488355328) := Lib.hid (Int.le_trans (tab_small HV2.out HSZ.out).1 (by decide))
              have HD3 := Lib.hid (HD.out.below hb1)
              clear hb1 HD hi3
              have hb0 := HD3.out.z.b0
              have hb1 := HD3.out.z.b1
              have hb2 := HD3.out.z.b2
              go_wp2_with fail
              refine (rneed_c kd 0 g c bf of cap l s _ w w3 HD3.out.z.rf HD3.out.z.bel).mono ?_
              obtain ⟨v3, HV3⟩ : ∃ v, Hid (tabN l s glyfTg 0 = v) := ⟨_, rfl⟩
              rw [tl_glyf, HV3.out]
              clear hb0 hb1 hb2
              cases v3 with
              | none =>
                rintro e w4 ⟨⟨ay, ny, cy, rfl⟩, hb1⟩
                have HE : Hid (readOf kd l s = (41, none)) := Lib.hid (rest_err (m := fun ps => ⟨kd, u, n, asc, de, gp, La, Lb, ps⟩) HRE.out (pl_glyf_no h2 HV2.out HV3.out))
                have HD4 := Lib.hid (HD3.out.below hb1)
                clear hb1 HD3
                obtain ⟨r0, r1, r2, r3, r4, r5, r6, r7, r8⟩ := mvar_cells HD4.out.z.r.c
                obtain ⟨f0, f1, f2, f3, f4, f5, f6, f7, f8⟩ := blk_frozen HD4.out.z.r
                obtain ⟨n0, n1, n2, n3, n4, n5, n6, n7, n8⟩ := mvar_cells HD4.out.z.n.c
                have HPUT := Lib.hid (blk_put HD4.out.z.r (.int .i64 0) (.int .i64 0) (.int .i64 0) (.int .i64 0) (.int .i64 0) (.int .i64 0) (.slice none 0 0) (.slice none 0 0) (.slice none 0 0))
                go_wp2_with fail
                obtain ⟨q0, q1, q2, q3, q4, q5, q6, q7, q8⟩ := mvar_cells HPUT.out.1
                refine bodyPost_ret (v := .tuple #[.agg #[.int .i64 0, .int .i64 0, .int .i64 0, .int .i64 0, .int .i64 0, .int .i64 0, .slice none 0 0, .slice none 0 0, .slice none 0 0], .int .i64 41]) (by simp [results, Try.results11, go_sem, q0, q1, q2, q3, q4, q5, q6, q7, q8]; try rfl) rfl ?_
                exact dread_no HE.out (HPUT.out.2 _ _ (Nat.le_succ _) HD4.out.z.bel)
              | some gl =>
                rintro e w4 ⟨a4, c4, rfl, hi4, hb1⟩
                have HPL := Lib.hid (pl_all h2 HV2.out HV3.out)
                have HD4 := Lib.hid (HD3.out.below hb1)
                clear hb1 HD3 hi4 HV2 HV3
                go_wp2_with fail
                go_loopg [15] (n + 1) (fun gk i wr => ∃ k : Nat, ∃ vp : Value, ∃ Lp : List Int, Hid (gk + k = n + 1) ∧ i = .int .i64 k ∧ Hid (placeL lo fo gl.size k = some Lp) ∧ Hid (RD w kd g c bf of cap l s M u n asc de gp va La vb Lb vp Lp wr))
                case atStart => exact ⟨0, .slice none 0 0, [], Lib.hid (Nat.add_zero _), rfl, Lib.hid rfl, HD4⟩
                case round =>
                  clear HD4
                  obtain ⟨k, vp, Lp, HK, rfl, HP, HD⟩ := hrel
                  have HPN := Lib.hid (placeL_len HP.out)
                  have m2 := (mvar_cells HD.out.m.c).2.2.1
                  by_cases hlt : k < n + 1
                  · have hle : (k : Int) ≤ (n : Int) := by omega
                    have hw7 : wrap64 (2 * (k : Int)) = 2 * (k : Int) := by have := HNW.out; unfold wrap64; omega
                    have hw8 : wrap64 (4 * (k : Int)) = 4 * (k : Int) := by have := HNW.out; unfold wrap64; omega
                    have HW7 : Hid (wrap64 ((k : Int) + 1) = ((k + 1 : Nat) : Int)) := by have := HNW.out; unfold Hid wrap64; omega
                    have HPE : Hid (Lp.length ≤ 1000000) := by have := HPN.out; have := HNW.out; unfold Hid; omega
                    obtain ⟨x, fx, HX⟩ := numOr_ex lo (2 * (k : Int)) 2
                    have HXB := Lib.hid (num16_bound HX.out)
                    have hw9 : wrap64 (2 * x) = 2 * x := by have := HXB.out; unfold wrap64; omega
                    go_wp2_with fail
                    refine (refu16_c a3 lo.size c3 lo (2 * (k : Int)) x fx wr (HI3.out.below HD.out.z.bel) HLO.out HX).mono ?_
                    rintro e wq ⟨rfl, rfl⟩
                    rcases HFO.out with h0 | h0
                    · subst h0
                      have HPA : Hid (placeAt lo 0 k = 2 * x) := Lib.hid (place_0 HX.out)
                      obtain ⟨p, HPX⟩ : ∃ p, Hid (2 * x = p) := ⟨_, rfl⟩
                      rw [HPX.out] at hw9 HPA
                      obtain ⟨bad, HBAD⟩ : ∃ b : Bool, Hid (b = ((decide (0 < k) && decide (p < Lp.getD (k - 1) 0)) || decide ((gl.size : Int) < p))) := ⟨_, Lib.hid rfl⟩
                      have HPN2 := Lib.hid (pl_bad HP.out HPA.out HBAD.out)
                      go_upto_region 31 with fail
                      try rw [HPX.out]
                      try rw [hw9]
                      clear hw9
                      go_cut [163] from 129 to 170 (fun cc wx => cc = .bool bad ∧ wr = wx)
                      case first =>
                        rcases Nat.eq_zero_or_pos k with hk0 | hk1
                        · subst hk0
                          by_cases hgl : (gl.size : Int) < p
                          · have hgl' : decide ((gl.size : Int) < p) = true := decide_eq_true hgl
                            go_wp2_with fail
                            go_meet
                            exact ⟨congrArg Value.bool (by rw [HBAD.out]; simp [hgl]), rfl⟩
                          · have hgl' : decide ((gl.size : Int) < p) = false := decide_eq_false hgl
                            go_wp2_with fail
                            go_meet
                            exact ⟨congrArg Value.bool (by rw [HBAD.out]; simp [hgl]), rfl⟩
                        · obtain ⟨j, HKJ⟩ : ∃ j, Hid (k = j + 1) := ⟨k - 1, by unfold Hid; omega⟩
                          obtain ⟨g5, c5, hv, hcell⟩ := ownI_last HD.out.op (HPN.out.trans HKJ.out)
                          rw [← HKJ.out] at hv
                          subst hv
                          obtain ⟨q, HQ⟩ : ∃ q, Hid (Lp.getD j 0 = q) := ⟨_, Lib.hid rfl⟩
                          rw [HQ.out] at hcell
                          rw [show k - 1 = j by have := HKJ.out; omega, HQ.out] at HBAD
                          have m8 := (mvar_cells HD.out.m.c).2.2.2.2.2.2.2.2
                          have hg0 : (0 : Int) < (k : Int) := by omega
                          have hwj : wrap64 ((k : Int) - 1) = (j : Int) := by have := HNW.out; have := HKJ.out; unfold wrap64; omega
                          have hjk : (j : Int) < (k : Int) := by have := HKJ.out; omega
                          clear hle hw7 hw8 HW7
                          by_cases hpq : p < q
                          · have hpq' : decide (p < q) = true := decide_eq_true hpq
                            go_wp2_with fail
                            go_meet
                            exact ⟨congrArg Value.bool (by rw [HBAD.out]; simp [hk1, hpq]), rfl⟩
                          · have hpq' : decide (p < q) = false := decide_eq_false hpq
                            by_cases hgl : (gl.size : Int) < p
                            · have hgl' : decide ((gl.size : Int) < p) = true := decide_eq_true hgl
                              go_wp2_with fail
                              go_meet
                              exact ⟨congrArg Value.bool (by rw [HBAD.out]; simp [hpq, hgl]), rfl⟩
                            · have hgl' : decide ((gl.size : Int) < p) = false := decide_eq_false hgl
                              go_wp2_with fail
                              go_meet
                              exact ⟨congrArg Value.bool (by rw [HBAD.out]; simp [hpq, hgl]), rfl⟩
                      case rest =>
                        obtain ⟨rfl, rfl⟩ := hcut
                        cases bad
                        · have HDX : Hid (RD w kd g c bf of cap l s M u n asc de gp va La vb Lb vp Lp (wr.alloc (.cells #[.int .i64 p] 3))) := HD.out.below ((Below.refl _ _).alloc (Nat.le_refl _) _)
                          have hx0 : (wr.alloc (.cells #[.int .i64 p] 3)).cell? ⟨wr.heap.size, 0, none⟩ = some (.int .i64 p) := by simp [go_sem]
                          have m8 := (mvar_cells HD.out.m.c).2.2.2.2.2.2.2.2
                          go_wp2_with (at_builtin; refine wpList_addI rfl _ _ rfl (wr.alloc (.cells #[.int .i64 p] 3)) (M + 1) vp Lp wr.heap.size p rfl rfl HDX.out.op hx0 HPE.out HDX.out.lt ?_; intro g' c' w' ho hg hat hlt2; have HDN := Lib.hid (HDX.out.addP ho hg hat); have k8 := (mvar_cells (HDX.out.growP hg).c).2.2.2.2.2.2.2.2; have kf := (HDX.out.growP hg).f 8 (by omega); clear ho hg hat hlt2)
                          go_roundg (gk - 1)
                          case measure => exact (lps_1 HK.out hlt).2
                          case rel => exact ⟨k + 1, _, Lp ++ [p], Lib.hid (lps_1 HK.out hlt).1, by first | rfl | rw [HW7.out], Lib.hid (by rw [HPN2.out]; rfl), HDN⟩
                        · have HE : Hid (readOf kd l s = (41, none)) := Lib.hid (rest_err (m := fun ps => ⟨kd, u, n, asc, de, gp, La, Lb, ps⟩) HRE.out (by rw [HPL.out, placeL_stop (by rw [HPN2.out]; rfl) hlt]))
                          obtain ⟨r0, r1, r2, r3, r4, r5, r6, r7, r8⟩ := mvar_cells HD.out.z.r.c
                          obtain ⟨f0, f1, f2, f3, f4, f5, f6, f7, f8⟩ := blk_frozen HD.out.z.r
                          obtain ⟨n0, n1, n2, n3, n4, n5, n6, n7, n8⟩ := mvar_cells HD.out.z.n.c
                          have HPUT := Lib.hid (blk_put HD.out.z.r (.int .i64 0) (.int .i64 0) (.int .i64 0) (.int .i64 0) (.int .i64 0) (.int .i64 0) (.slice none 0 0) (.slice none 0 0) (.slice none 0 0))
                          go_wp2_with fail
                          obtain ⟨q0, q1, q2, q3, q4, q5, q6, q7, q8⟩ := mvar_cells HPUT.out.1
                          refine bodyPost_ret (v := .tuple #[.agg #[.int .i64 0, .int .i64 0, .int .i64 0, .int .i64 0, .int .i64 0, .int .i64 0, .slice none 0 0, .slice none 0 0, .slice none 0 0], .int .i64 41]) (by simp [results, Try.results11, go_sem, q0, q1, q2, q3, q4, q5, q6, q7, q8]; try rfl) rfl ?_
                          exact dread_no HE.out (HPUT.out.2 _ _ (Nat.le_succ _) HD.out.z.bel)
                    · subst h0
                      obtain ⟨p, fp, HPX⟩ := numOr_ex lo (4 * (k : Int)) 4
                      have HPA : Hid (placeAt lo 1 k = p) := Lib.hid (place_1 HPX.out)
                      go_wp2_with fail
                      refine (refu32_c a3 lo.size c3 lo (4 * (k : Int)) p fp wr (HI3.out.below HD.out.z.bel) HLO.out HPX).mono ?_
                      rintro e wq ⟨rfl, rfl⟩
                      obtain ⟨bad, HBAD⟩ : ∃ b : Bool, Hid (b = ((decide (0 < k) && decide (p < Lp.getD (k - 1) 0)) || decide ((gl.size : Int) < p))) := ⟨_, Lib.hid rfl⟩
                      have HPN2 := Lib.hid (pl_bad HP.out HPA.out HBAD.out)
                      go_upto_region 31 with fail
                      go_cut [163] from 129 to 170 (fun cc wx => cc = .bool bad ∧ wr = wx)
                      case first =>
                        rcases Nat.eq_zero_or_pos k with hk0 | hk1
                        · subst hk0
                          by_cases hgl : (gl.size : Int) < p
                          · have hgl' : decide ((gl.size : Int) < p) = true := decide_eq_true hgl
                            go_wp2_with fail
                            go_meet
                            exact ⟨congrArg Value.bool (by rw [HBAD.out]; simp [hgl]), rfl⟩
                          · have hgl' : decide ((gl.size : Int) < p) = false := decide_eq_false hgl
                            go_wp2_with fail
                            go_meet
                            exact ⟨congrArg Value.bool (by rw [HBAD.out]; simp [hgl]), rfl⟩
                        · obtain ⟨j, HKJ⟩ : ∃ j, Hid (k = j + 1) := ⟨k - 1, by unfold Hid; omega⟩
                          obtain ⟨g5, c5, hv, hcell⟩ := ownI_last HD.out.op (HPN.out.trans HKJ.out)
                          rw [← HKJ.out] at hv
                          subst hv
                          obtain ⟨q, HQ⟩ : ∃ q, Hid (Lp.getD j 0 = q) := ⟨_, Lib.hid rfl⟩
                          rw [HQ.out] at hcell
                          rw [show k - 1 = j by have := HKJ.out; omega, HQ.out] at HBAD
                          have m8 := (mvar_cells HD.out.m.c).2.2.2.2.2.2.2.2
                          have hg0 : (0 : Int) < (k : Int) := by omega
                          have hwj : wrap64 ((k : Int) - 1) = (j : Int) := by have := HNW.out; have := HKJ.out; unfold wrap64; omega
                          have hjk : (j : Int) < (k : Int) := by have := HKJ.out; omega
                          clear hle hw7 hw8 HW7
                          by_cases hpq : p < q
                          · have hpq' : decide (p < q) = true := decide_eq_true hpq
                            go_wp2_with fail
                            go_meet
                            exact ⟨congrArg Value.bool (by rw [HBAD.out]; simp [hk1, hpq]), rfl⟩
                          · have hpq' : decide (p < q) = false := decide_eq_false hpq
                            by_cases hgl : (gl.size : Int) < p
                            · have hgl' : decide ((gl.size : Int) < p) = true := decide_eq_true hgl
                              go_wp2_with fail
                              go_meet
                              exact ⟨congrArg Value.bool (by rw [HBAD.out]; simp [hpq, hgl]), rfl⟩
                            · have hgl' : decide ((gl.size : Int) < p) = false := decide_eq_false hgl
                              go_wp2_with fail
                              go_meet
                              exact ⟨congrArg Value.bool (by rw [HBAD.out]; simp [hpq, hgl]), rfl⟩
                      case rest =>
                        obtain ⟨rfl, rfl⟩ := hcut
                        cases bad
                        · have HDX : Hid (RD w kd g c bf of cap l s M u n asc de gp va La vb Lb vp Lp (wr.alloc (.cells #[.int .i64 p] 3))) := HD.out.below ((Below.refl _ _).alloc (Nat.le_refl _) _)
                          have hx0 : (wr.alloc (.cells #[.int .i64 p] 3)).cell? ⟨wr.heap.size, 0, none⟩ = some (.int .i64 p) := by simp [go_sem]
                          have m8 := (mvar_cells HD.out.m.c).2.2.2.2.2.2.2.2
                          go_wp2_with (at_builtin; refine wpList_addI rfl _ _ rfl (wr.alloc (.cells #[.int .i64 p] 3)) (M + 1) vp Lp wr.heap.size p rfl rfl HDX.out.op hx0 HPE.out HDX.out.lt ?_; intro g' c' w' ho hg hat hlt2; have HDN := Lib.hid (HDX.out.addP ho hg hat); have k8 := (mvar_cells (HDX.out.growP hg).c).2.2.2.2.2.2.2.2; have kf := (HDX.out.growP hg).f 8 (by omega); clear ho hg hat hlt2)
                          go_roundg (gk - 1)
                          case measure => exact (lps_1 HK.out hlt).2
                          case rel => exact ⟨k + 1, _, Lp ++ [p], Lib.hid (lps_1 HK.out hlt).1, by first | rfl | rw [HW7.out], Lib.hid (by rw [HPN2.out]; rfl), HDN⟩
                        · have HE : Hid (readOf kd l s = (41, none)) := Lib.hid (rest_err (m := fun ps => ⟨kd, u, n, asc, de, gp, La, Lb, ps⟩) HRE.out (by rw [HPL.out, placeL_stop (by rw [HPN2.out]; rfl) hlt]))
                          obtain ⟨r0, r1, r2, r3, r4, r5, r6, r7, r8⟩ := mvar_cells HD.out.z.r.c
                          obtain ⟨f0, f1, f2, f3, f4, f5, f6, f7, f8⟩ := blk_frozen HD.out.z.r
                          obtain ⟨n0, n1, n2, n3, n4, n5, n6, n7, n8⟩ := mvar_cells HD.out.z.n.c
                          have HPUT := Lib.hid (blk_put HD.out.z.r (.int .i64 0) (.int .i64 0) (.int .i64 0) (.int .i64 0) (.int .i64 0) (.int .i64 0) (.slice none 0 0) (.slice none 0 0) (.slice none 0 0))
                          go_wp2_with fail
                          obtain ⟨q0, q1, q2, q3, q4, q5, q6, q7, q8⟩ := mvar_cells HPUT.out.1
                          refine bodyPost_ret (v := .tuple #[.agg #[.int .i64 0, .int .i64 0, .int .i64 0, .int .i64 0, .int .i64 0, .int .i64 0, .slice none 0 0, .slice none 0 0, .slice none 0 0], .int .i64 41]) (by simp [results, Try.results11, go_sem, q0, q1, q2, q3, q4, q5, q6, q7, q8]; try rfl) rfl ?_
                          exact dread_no HE.out (HPUT.out.2 _ _ (Nat.le_succ _) HD.out.z.bel)
                  · have hle : ¬ (k : Int) ≤ (n : Int) := by omega
                    obtain rfl : k = n + 1 := by have := HK.out; omega
                    have HE : Hid (readOf kd l s = (0, some ⟨kd, u, n, asc, de, gp, La, Lb, Lp⟩)) := Lib.hid (rest_ok (m := fun ps => ⟨kd, u, n, asc, de, gp, La, Lb, ps⟩) HRE.out (by rw [HPL.out, HP.out]))
                    have HLP : Hid (Lp.length ≤ 5000) := by have := HPN.out; have := HNW.out; unfold Hid; omega
                    clear m2
                    obtain ⟨aa, ca, rfl, _⟩ := ownI_is HD.out.oa
                    obtain ⟨ab, cb, rfl, _⟩ := ownI_is HD.out.ob
                    obtain ⟨ap, cp, rfl, _⟩ := ownI_is HD.out.op
                    obtain ⟨r0, r1, r2, r3, r4, r5, r6, r7, r8⟩ := mvar_cells HD.out.z.r.c
                    obtain ⟨f0, f1, f2, f3, f4, f5, f6, f7, f8⟩ := blk_frozen HD.out.z.r
                    obtain ⟨m0, m1, m2, m3, m4, m5, m6, m7, m8⟩ := mvar_cells HD.out.m.c
                    have HPUT := Lib.hid (blk_put HD.out.z.r (.int .i64 kd) (.int .i64 u) (.int .i64 (n : Int)) (.int .i64 asc) (.int .i64 de) (.int .i64 gp) (.slice aa La.length ca) (.slice ab Lb.length cb) (.slice ap Lp.length cp))
                    go_wp2_with fail
                    obtain ⟨q0, q1, q2, q3, q4, q5, q6, q7, q8⟩ := mvar_cells HPUT.out.1
                    refine bodyPost_ret (v := .tuple #[.agg #[.int .i64 kd, .int .i64 u, .int .i64 (n : Int), .int .i64 asc, .int .i64 de, .int .i64 gp, .slice aa La.length ca, .slice ab Lb.length cb, .slice ap Lp.length cp], .int .i64 0]) (by simp [results, Try.results11, go_sem, q0, q1, q2, q3, q4, q5, q6, q7, q8]; try rfl) rfl ?_
                    exact dread_yes HE.out (HD.out.isMet (fun k hk => put_other hk _ _ _ _ _ _ _ _ _) HLN.out.1 HLN.out.2 HLP.out) (HPUT.out.2 _ _ (Nat.le_succ _) HD.out.z.bel)

end Go.Proofs.Ytbcjicmledckbaa
