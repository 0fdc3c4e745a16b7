import Derived.Test.YtklenppldblbdaaGreatK19
import Derived.Test.YtklenppldblbdaaGreatK17
set_option linter.unusedSimpArgs false
set_option linter.unusedVariables false
namespace Go.Proofs.YtklenppldblbdaaGreat
open Go.RowKit Go.PlainAid
theorem bel_al (w : World) (o : Obj) : Below w.heap.size w (w.alloc o) := (Below.refl _ _).alloc (Nat.le_refl _) _
theorem opds_new (w : World) (l : List Int) (cs : Array Value) (g : Nat) (hg : g = w.heap.size) (hc : cs.toList = l.map (Value.int .i64)) : Opds (w.alloc (.cells cs 3)) l (some ⟨g, 0, none⟩) := by
 subst hg
 refine .inr ⟨_, 0, cs, (0, 0), rfl, heap_alloc_new w _, fun i v hv => ?_⟩
 rw [Nat.zero_add, ← Array.getElem?_toList, hc, List.getElem?_map, hv]
 rfl
theorem bel_ad (w : World) (o : Obj) : Below w.heap.size w (w.alloc o).drew := ((Below.refl _ _).alloc (Nat.le_refl _) _).drew
theorem Opds.drew {w : World} {l : List Int} {a : Option Addr} (h : Opds w l a) : Opds w.drew l a := h.keep (keep_bel (Below.refl _ _).drew)
theorem sum_at (B M F : Nat) (L : Lay) (s : MS) (l : List Int) (g c n : Nat) (w : World) (h : Mach w B M F L s) (ho : Opds w l (some ⟨g, 0, none⟩)) (hn : l.length = n) (hl : n ≤ 1000) :
 Calls Tryz.prog 101 #[.pointer (some ⟨M, 0, none⟩), .slice (some ⟨g, 0, none⟩) n c] w (LPost B M F L { s with fault := (sumsF l 0 s.fault).2 } (.int .i64 (sumsF l 0 s.fault).1) w) := by
 subst hn
 exact sum_c B M F L s l g c w h ho hl
theorem sumsF_bound : ∀ (l : List Int) (t f : Int), -2147483647 ≤ t → t ≤ 2147483647 → -2147483647 ≤ (sumsF l t f).1 ∧ (sumsF l t f).1 ≤ 2147483647
 | [], t, f, h0, h1 => ⟨h0, h1⟩
 | d :: r, t, f, h0, h1 => sumsF_bound r _ _ (sumOr_bound t d).1 (sumOr_bound t d).2
set_option maxRecDepth 20000 in
set_option maxHeartbeats 4000000 in
theorem flex_1234 (B M F : Nat) (L : Lay) (s : MS) (x0 x1 x2 x3 x4 x5 x6 : Int) (a : Option Addr) (c : Nat) (w : World) (h : Mach w B M F L s) (hp : PenFit s) (ho : Opds w [x0, x1, x2, x3, x4, x5, x6] a) (hc : 7 ≤ c) (hb : -2147483648 ≤ x2 ∧ x2 ≤ 2147483648) :
 Calls Tryz.prog 95 #[.pointer (some ⟨M, 0, none⟩), .int .i64 1234, .slice a 7 c] w (PenPost B M F L ((s.curve x0 0 x1 x2 x3 0).curve x4 0 x5 (-x2) x6 0) (.tuple #[]) w) := by
 obtain ⟨g, off, rfl, hcell⟩ := ho.at (by simp)
 have H := Lib.hid h
 have HP := Lib.hid hp
 have HO := Lib.hid ho
 have k0 := hcell 0 x0 rfl
 have k1 := hcell 1 x1 rfl
 have k2 := hcell 2 x2 rfl
 have k3 := hcell 3 x3 rfl
 rw [Nat.add_zero] at k0
 obtain ⟨hb1, hb2⟩ := hb
 clear h hp ho hcell
 go_enter Tryz.func95, Tryz.ntmps95
 go_wp2_with fail
 refine wp_region_still_tail 13 (by kernel_rfl) (by kernel_rfl) ?_
 simp only [List.take_succ_cons, List.take_zero, List.drop_succ_cons, List.drop_zero]
 repeat still_step
 refine wpStill_nil ?_
 change wpList _ _ _ _ _ w.drew
 have HD := Lib.hid (H.out.below (Below.refl _ _).drew)
 have HKD := Lib.hid (keep_bel (Below.refl w.heap.size w).drew)
 go_wp2_with fail
 refine (curve_c B M F L s x0 0 x1 x2 x3 0 w.drew HD.out HP.out).mono ?_
 rintro e w2 ⟨rfl, ⟨oa2, oc2, vs2, hh2⟩, hb2', hk2⟩
 have H2 := Lib.hid hh2
 have HB2 := Lib.hid ((Below.refl B w).drew.trans hb2')
 have HK2 := Lib.hid (HKD.out.trans hk2)
 have HP2 : Hid (PenFit (s.curve x0 0 x1 x2 x3 0)) := HP.out.curve _ _ _ _ _ _
 clear hh2 hb2' hk2 HD HKD k0 k1 k2 k3
 generalize s.curve x0 0 x1 x2 x3 0 = s2 at *
 obtain ⟨g', off', hgo, hcell⟩ := (HO.out.keep HK2.out).at (by simp)
 cases hgo
 have k2 := hcell 2 x2 rfl
 have k4 := hcell 4 x4 rfl
 have k5 := hcell 5 x5 rfl
 have k6 := hcell 6 x6 rfl
 clear hcell
 go_wp2_with fail
 refine wp_region_still_tail 14 (by kernel_rfl) (by kernel_rfl) ?_
 simp only [List.take_succ_cons, List.take_zero, List.drop_succ_cons, List.drop_zero]
 repeat still_step
 refine wpStill_nil ?_
 change wpList _ _ _ _ _ w2.drew
 have HD := Lib.hid (H2.out.below (Below.refl _ _).drew)
 have HKD := Lib.hid (keep_bel (Below.refl w2.heap.size w2).drew)
 go_wp2_with fail
 refine (curve_c B M F _ s2 x4 0 x5 (-x2) x6 0 w2.drew HD.out HP2.out).mono ?_
 rintro e w3 ⟨rfl, ⟨oa3, oc3, vs3, hh3⟩, hb3, hk3⟩
 have H3 := Lib.hid hh3
 have HB3 := Lib.hid (HB2.out.trans ((Below.refl B w2).drew.trans hb3))
 have HK3 := Lib.hid (HK2.out.trans (HKD.out.trans hk3))
 clear hh3 hb3 hk3 HD HKD k2 k4 k5 k6
 go_wp2_with fail
 go_end0
 exact ⟨rfl, ⟨_, _, _, H3.out⟩, HB3.out, HK3.out⟩
set_option maxRecDepth 20000 in
set_option maxHeartbeats 2000000 in
theorem flex_1235 (B M F : Nat) (L : Lay) (s : MS) (l : List Int) (a : Option Addr) (c : Nat) (w : World) (h : Mach w B M F L s) (hp : PenFit s) (ho : Opds w l a) (hl : l.length = 13) (hc : 13 ≤ c) :
 Calls Tryz.prog 95 #[.pointer (some ⟨M, 0, none⟩), .int .i64 1235, .slice a 13 c] w (PenPost B M F L (MS.curves (l.take 12) s) (.tuple #[]) w) := by
 have HL : Hid ((l.take 12).length = 12) := by unfold Hid; rw [List.length_take, hl]; rfl
 have HK := Lib.hid (curves_c B M F L s (l.take 12) a c w h hp (ho.take 12) (by rw [HL.out]; omega) (by rw [HL.out]) (by rw [HL.out]; omega))
 rw [HL.out] at HK
 obtain ⟨g, off, rfl, _⟩ := ho.at (by omega)
 generalize MS.curves (l.take 12) s = s9 at *
 have h12 : (12 : Int) ≤ (c : Int) := by omega
 clear h hp ho hl
 go_enter Tryz.func95, Tryz.ntmps95
 go_wp2_with fail
 refine HK.out.mono ?_
 rintro e w1 ⟨rfl, hx⟩
 have HX := Lib.hid hx
 clear hx
 go_wp2_with fail
 go_end0
 exact ⟨rfl, HX.out⟩
set_option maxRecDepth 20000 in
set_option maxHeartbeats 4000000 in
theorem flex_1236 (B M F : Nat) (L : Lay) (s : MS) (x0 x1 x2 x3 x4 x5 x6 x7 x8 : Int) (a : Option Addr) (c : Nat) (w : World) (h : Mach w B M F L s) (hp : PenFit s) (ho : Opds w [x0, x1, x2, x3, x4, x5, x6, x7, x8] a) (hc : 9 ≤ c) :
 Calls Tryz.prog 95 #[.pointer (some ⟨M, 0, none⟩), .int .i64 1236, .slice a 9 c] w (PenPost B M F L ((({ s with fault := (sumsF [x1, x3, x7] 0 s.fault).2 } : MS).curve x0 x1 x2 x3 x4 0).curve x5 0 x6 x7 x8 (-(sumsF [x1, x3, x7] 0 s.fault).1)) (.tuple #[]) w) := by
 obtain ⟨g, off, rfl, hcell⟩ := ho.at (by simp)
 have H := Lib.hid h
 have HP := Lib.hid hp
 have HO := Lib.hid ho
 have HSA : Hid (∀ W, IntKeep w W → W.cell? ⟨g, off + 1, none⟩ = some (.int .i64 x1) ∧ W.cell? ⟨g, off + 3, none⟩ = some (.int .i64 x3) ∧ W.cell? ⟨g, off + 7, none⟩ = some (.int .i64 x7)) := by
  intro W hW
  obtain ⟨g', off', hgo, hcell2⟩ := (ho.keep hW).at (by simp)
  cases hgo
  exact ⟨hcell2 1 x1 rfl, hcell2 3 x3 rfl, hcell2 7 x7 rfl⟩
 have HUB := Lib.hid (sumsF_bound [x1, x3, x7] 0 s.fault (by omega) (by omega))
 obtain ⟨u, HU⟩ : ∃ u, Hid (sumsF [x1, x3, x7] 0 s.fault = u) := ⟨_, rfl⟩
 rw [HU.out] at HUB ⊢
 clear h hp ho hcell
 go_enter Tryz.func95, Tryz.ntmps95
 go_wp2_with fail
 have K0 := keep_bel (Below.refl w.heap.size w).drew
 go_region_held3 (fun W => W.cell? ⟨g, off + 1, none⟩ = some (.int .i64 x1) ∧ W.cell? ⟨g, off + 3, none⟩ = some (.int .i64 x3) ∧ W.cell? ⟨g, off + 7, none⟩ = some (.int .i64 x7)) (first | with_reducible exact HSA.out _ K0 | with_reducible exact HSA.out _ (keep_bel (bel_ad _ _)) | with_reducible exact HSA.out _ (keep_bel (bel_al _ _)) | with_reducible exact HSA.out _ K2)
  ((go_at_call 101; (with_reducible refine (sum_at B M F L s [x1, x3, x7] w.heap.size 3 3 _ (H.out.below (bel_ad w (.cells #[.int .i64 x1, .int .i64 x3, .int .i64 x7] 3))) (opds_new w [x1, x3, x7] #[.int .i64 x1, .int .i64 x3, .int .i64 x7] w.heap.size rfl rfl).drew rfl (by decide)).mono ?_); rintro e w2 ⟨rfl, hh2, hb2, hk2⟩; have K2 := (keep_bel (bel_ad _ _)).trans hk2))
 rw [HU.out] at hh2 ⊢
 have H2 := Lib.hid hh2
 have HB2 := Lib.hid (((bel_ad _ _).mono H.out.le).trans hb2)
 have HK2 := Lib.hid K2
 have HP2 : Hid (PenFit { s with fault := u.2 }) := HP.out
 clear hh2 hb2 hk2 K0 K2 HSA HU
 generalize ({ s with fault := u.2 } : MS) = s2 at *
 obtain ⟨g', off', hgo, hcell⟩ := (HO.out.keep HK2.out).at (by simp)
 cases hgo
 have k0 := hcell 0 x0 rfl
 have k1 := hcell 1 x1 rfl
 have k2 := hcell 2 x2 rfl
 have k3 := hcell 3 x3 rfl
 have k4 := hcell 4 x4 rfl
 rw [Nat.add_zero] at k0
 clear hcell
 have hu1 := HUB.out.1
 have hu2 := HUB.out.2
 clear HUB
 generalize u.1 = u1 at *
 go_wp2_with fail
 refine wp_region_still_tail 16 (by kernel_rfl) (by kernel_rfl) ?_
 simp only [List.take_succ_cons, List.take_zero, List.drop_succ_cons, List.drop_zero]
 repeat still_step
 refine wpStill_nil ?_
 change wpList _ _ _ _ _ w2.drew
 have HD := Lib.hid (H2.out.below (Below.refl _ _).drew)
 have HKD := Lib.hid (keep_bel (Below.refl w2.heap.size w2).drew)
 go_wp2_with fail
 refine (curve_c B M F _ s2 x0 x1 x2 x3 x4 0 w2.drew HD.out HP2.out).mono ?_
 rintro e w3 ⟨rfl, ⟨oa3, oc3, vs3, hh3⟩, hb3, hk3⟩
 have H3 := Lib.hid hh3
 have HB3 := Lib.hid (HB2.out.trans ((Below.refl B w2).drew.trans hb3))
 have HK3 := Lib.hid (HK2.out.trans (HKD.out.trans hk3))
 have HP3 : Hid (PenFit (s2.curve x0 x1 x2 x3 x4 0)) := HP2.out.curve _ _ _ _ _ _
 clear hh3 hb3 hk3 HD HKD k0 k1 k2 k3 k4 H2 HB2 HK2 HP2
 generalize s2.curve x0 x1 x2 x3 x4 0 = s3 at *
 obtain ⟨g', off', hgo, hcell⟩ := (HO.out.keep HK3.out).at (by simp)
 cases hgo
 have k5 := hcell 5 x5 rfl
 have k6 := hcell 6 x6 rfl
 have k7 := hcell 7 x7 rfl
 have k8 := hcell 8 x8 rfl
 clear hcell
 go_wp2_with fail
 refine wp_region_still_tail 15 (by kernel_rfl) (by kernel_rfl) ?_
 simp only [List.take_succ_cons, List.take_zero, List.drop_succ_cons, List.drop_zero]
 repeat still_step
 refine wpStill_nil ?_
 change wpList _ _ _ _ _ w3.drew
 have HD := Lib.hid (H3.out.below (Below.refl _ _).drew)
 have HKD := Lib.hid (keep_bel (Below.refl w3.heap.size w3).drew)
 go_wp2_with fail
 refine (curve_c B M F _ s3 x5 0 x6 x7 x8 (-u1) w3.drew HD.out HP3.out).mono ?_
 rintro e w4 ⟨rfl, ⟨oa4, oc4, vs4, hh4⟩, hb4, hk4⟩
 have H4 := Lib.hid hh4
 have HB4 := Lib.hid (HB3.out.trans ((Below.refl B w3).drew.trans hb4))
 have HK4 := Lib.hid (HK3.out.trans (HKD.out.trans hk4))
 clear hh4 hb4 hk4 HD HKD
 go_wp2_with fail
 go_end0
 exact ⟨rfl, ⟨_, _, _, H4.out⟩, HB4.out, HK4.out⟩
set_option maxRecDepth 20000 in
set_option maxHeartbeats 4000000 in
theorem flex_1237 (B M F : Nat) (L : Lay) (s : MS) (x0 x1 x2 x3 x4 x5 x6 x7 x8 x9 x10 : Int) (a : Option Addr) (c : Nat) (w : World) (h : Mach w B M F L s) (hp : PenFit s) (ho : Opds w [x0, x1, x2, x3, x4, x5, x6, x7, x8, x9, x10] a) (hc : 11 ≤ c) :
 Calls Tryz.prog 95 #[.pointer (some ⟨M, 0, none⟩), .int .i64 1237, .slice a 11 c] w (PenPost B M F L ((MS.curves [x0, x1, x2, x3, x4, x5] ({ s with fault := (sumsF [x1, x3, x5, x7, x9] 0 (sumsF [x0, x2, x4, x6, x8] 0 s.fault).2).2 } : MS)).curve x6 x7 x8 x9 (if max (sumsF [x1, x3, x5, x7, x9] 0 (sumsF [x0, x2, x4, x6, x8] 0 s.fault).2).1 (-(sumsF [x1, x3, x5, x7, x9] 0 (sumsF [x0, x2, x4, x6, x8] 0 s.fault).2).1) < max (sumsF [x0, x2, x4, x6, x8] 0 s.fault).1 (-(sumsF [x0, x2, x4, x6, x8] 0 s.fault).1) then x10 else -(sumsF [x0, x2, x4, x6, x8] 0 s.fault).1) (if max (sumsF [x1, x3, x5, x7, x9] 0 (sumsF [x0, x2, x4, x6, x8] 0 s.fault).2).1 (-(sumsF [x1, x3, x5, x7, x9] 0 (sumsF [x0, x2, x4, x6, x8] 0 s.fault).2).1) < max (sumsF [x0, x2, x4, x6, x8] 0 s.fault).1 (-(sumsF [x0, x2, x4, x6, x8] 0 s.fault).1) then -(sumsF [x1, x3, x5, x7, x9] 0 (sumsF [x0, x2, x4, x6, x8] 0 s.fault).2).1 else x10)) (.tuple #[]) w) := by
 obtain ⟨g, off, rfl, hcell⟩ := ho.at (by simp)
 have H := Lib.hid h
 have HP := Lib.hid hp
 have HO := Lib.hid ho
 have HUB := Lib.hid (sumsF_bound [x0, x2, x4, x6, x8] 0 s.fault (by omega) (by omega))
 have HVB := Lib.hid (sumsF_bound [x1, x3, x5, x7, x9] 0 (sumsF [x0, x2, x4, x6, x8] 0 s.fault).2 (by omega) (by omega))
 obtain ⟨u, HU⟩ : ∃ u, Hid (sumsF [x0, x2, x4, x6, x8] 0 s.fault = u) := ⟨_, rfl⟩
 rw [HU.out] at HUB HVB ⊢
 obtain ⟨v, HV⟩ : ∃ v, Hid (sumsF [x1, x3, x5, x7, x9] 0 u.2 = v) := ⟨_, rfl⟩
 rw [HV.out] at HVB ⊢
 have HSA : Hid (∀ W, IntKeep w W → (fun W => W.cell? ⟨g, off, none⟩ = some (.int .i64 x0) ∧ W.cell? ⟨g, off + 1, none⟩ = some (.int .i64 x1) ∧ W.cell? ⟨g, off + 2, none⟩ = some (.int .i64 x2) ∧ W.cell? ⟨g, off + 3, none⟩ = some (.int .i64 x3) ∧ W.cell? ⟨g, off + 4, none⟩ = some (.int .i64 x4) ∧ W.cell? ⟨g, off + 5, none⟩ = some (.int .i64 x5) ∧ W.cell? ⟨g, off + 6, none⟩ = some (.int .i64 x6) ∧ W.cell? ⟨g, off + 7, none⟩ = some (.int .i64 x7) ∧ W.cell? ⟨g, off + 8, none⟩ = some (.int .i64 x8) ∧ W.cell? ⟨g, off + 9, none⟩ = some (.int .i64 x9)) W) := by
  intro W hW
  obtain ⟨g', off', hgo, hcell2⟩ := (ho.keep hW).at (by simp)
  cases hgo
  exact ⟨hcell2 0 x0 rfl, hcell2 1 x1 rfl, hcell2 2 x2 rfl, hcell2 3 x3 rfl, hcell2 4 x4 rfl, hcell2 5 x5 rfl, hcell2 6 x6 rfl, hcell2 7 x7 rfl, hcell2 8 x8 rfl, hcell2 9 x9 rfl⟩
 clear h hp ho hcell
 go_enter Tryz.func95, Tryz.ntmps95
 go_upto_region 11 with (fail)
 go_cut [7, 8] (fun y z wx => y = .int .i64 u.1 ∧ z = .int .i64 v.1 ∧ Hid (Mach wx B M F L { s with fault := v.2 }) ∧ Hid (Below B w wx) ∧ Hid (IntKeep w wx))
 case first =>
  have K0 := keep_bel (Below.refl w.heap.size w).drew
  go_region_held3 (fun W => W.cell? ⟨g, off, none⟩ = some (.int .i64 x0) ∧ W.cell? ⟨g, off + 1, none⟩ = some (.int .i64 x1) ∧ W.cell? ⟨g, off + 2, none⟩ = some (.int .i64 x2) ∧ W.cell? ⟨g, off + 3, none⟩ = some (.int .i64 x3) ∧ W.cell? ⟨g, off + 4, none⟩ = some (.int .i64 x4) ∧ W.cell? ⟨g, off + 5, none⟩ = some (.int .i64 x5) ∧ W.cell? ⟨g, off + 6, none⟩ = some (.int .i64 x6) ∧ W.cell? ⟨g, off + 7, none⟩ = some (.int .i64 x7) ∧ W.cell? ⟨g, off + 8, none⟩ = some (.int .i64 x8) ∧ W.cell? ⟨g, off + 9, none⟩ = some (.int .i64 x9)) (first | with_reducible exact HSA.out _ K0 | with_reducible exact HSA.out _ (keep_bel (bel_ad _ _)) | with_reducible exact HSA.out _ (keep_bel (bel_al _ _)) | with_reducible exact HSA.out _ (keep_bel (bel_alloc (bel_al _ _) _)) | with_reducible exact HSA.out _ (keep_bel (bel_alloc (bel_al _ _) _).drew) | with_reducible exact HSA.out _ K2 | with_reducible exact HSA.out _ (K2.trans (keep_bel (bel_al _ _))) | with_reducible exact HSA.out _ K3)
   (first
    | (go_at_call 101; ((with_reducible refine (sum_at B M F L s [x0, x2, x4, x6, x8] w.heap.size 5 5 _ (H.out.below (bel_ad w (.cells #[.int .i64 x0, .int .i64 x2, .int .i64 x4, .int .i64 x6, .int .i64 x8] 3))) (opds_new w [x0, x2, x4, x6, x8] #[.int .i64 x0, .int .i64 x2, .int .i64 x4, .int .i64 x6, .int .i64 x8] w.heap.size rfl rfl).drew rfl (by decide)).mono ?_); rintro e w2 ⟨rfl, hh2, hb2, hk2⟩; have K2 := (keep_bel (bel_ad w (.cells #[.int .i64 x0, .int .i64 x2, .int .i64 x4, .int .i64 x6, .int .i64 x8] 3))).trans hk2; have HM2 := Lib.hid hh2; have HB2 := Lib.hid (((bel_ad w (.cells #[.int .i64 x0, .int .i64 x2, .int .i64 x4, .int .i64 x6, .int .i64 x8] 3)).mono H.out.le).trans hb2); have HOY := Lib.hid (opds_new w2 [x1, x3, x5, x7, x9] #[.int .i64 x1, .int .i64 x3, .int .i64 x5, .int .i64 x7, .int .i64 x9] w2.heap.size rfl rfl); have HMY := Lib.hid (hh2.below (bel_al w2 (.cells #[.int .i64 x1, .int .i64 x3, .int .i64 x5, .int .i64 x7, .int .i64 x9] 3))); have hx := hb2; clear hh2 hb2 hk2 hx; rw [HU.out]))
    | (go_at_call 101; ((with_reducible refine (sum_at B M F L s [x0, x2, x4, x6, x8] w.heap.size 5 5 _ (H.out.below (bel_alloc (bel_al w (.cells #[.int .i64 x0, .int .i64 x2, .int .i64 x4, .int .i64 x6, .int .i64 x8] 3)) (.cells #[.int .i64 x1, .int .i64 x3, .int .i64 x5, .int .i64 x7, .int .i64 x9] 3)).drew) ((opds_new w [x0, x2, x4, x6, x8] #[.int .i64 x0, .int .i64 x2, .int .i64 x4, .int .i64 x6, .int .i64 x8] w.heap.size rfl rfl).keep (keep_bel (bel_al _ (.cells #[.int .i64 x1, .int .i64 x3, .int .i64 x5, .int .i64 x7, .int .i64 x9] 3)))).drew rfl (by decide)).mono ?_); rintro e w2 ⟨rfl, hh2, hb2, hk2⟩; have K2 := (keep_bel (bel_alloc (bel_al w (.cells #[.int .i64 x0, .int .i64 x2, .int .i64 x4, .int .i64 x6, .int .i64 x8] 3)) (.cells #[.int .i64 x1, .int .i64 x3, .int .i64 x5, .int .i64 x7, .int .i64 x9] 3)).drew).trans hk2; have HM2 := Lib.hid hh2; have HB2 := Lib.hid (((bel_alloc (bel_al w (.cells #[.int .i64 x0, .int .i64 x2, .int .i64 x4, .int .i64 x6, .int .i64 x8] 3)) (.cells #[.int .i64 x1, .int .i64 x3, .int .i64 x5, .int .i64 x7, .int .i64 x9] 3)).drew.mono H.out.le).trans hb2); have HOY := Lib.hid ((opds_new (w.alloc (.cells #[.int .i64 x0, .int .i64 x2, .int .i64 x4, .int .i64 x6, .int .i64 x8] 3)) [x1, x3, x5, x7, x9] #[.int .i64 x1, .int .i64 x3, .int .i64 x5, .int .i64 x7, .int .i64 x9] (w.heap.size + 1) (by simp) rfl).drew.keep hk2); have HMY := HM2; have hx := hb2; clear hh2 hb2 hk2 hx; rw [HU.out]))
    | (go_at_call 101; ((with_reducible refine (sum_at B M F L s [x0, x2, x4, x6, x8] (w.heap.size + 1) 5 5 _ (H.out.below (bel_alloc (bel_al w (.cells #[.int .i64 x1, .int .i64 x3, .int .i64 x5, .int .i64 x7, .int .i64 x9] 3)) (.cells #[.int .i64 x0, .int .i64 x2, .int .i64 x4, .int .i64 x6, .int .i64 x8] 3)).drew) (opds_new (w.alloc (.cells #[.int .i64 x1, .int .i64 x3, .int .i64 x5, .int .i64 x7, .int .i64 x9] 3)) [x0, x2, x4, x6, x8] #[.int .i64 x0, .int .i64 x2, .int .i64 x4, .int .i64 x6, .int .i64 x8] (w.heap.size + 1) (by simp) rfl).drew rfl (by decide)).mono ?_); rintro e w2 ⟨rfl, hh2, hb2, hk2⟩; have K2 := (keep_bel (bel_alloc (bel_al w (.cells #[.int .i64 x1, .int .i64 x3, .int .i64 x5, .int .i64 x7, .int .i64 x9] 3)) (.cells #[.int .i64 x0, .int .i64 x2, .int .i64 x4, .int .i64 x6, .int .i64 x8] 3)).drew).trans hk2; have HM2 := Lib.hid hh2; have HB2 := Lib.hid (((bel_alloc (bel_al w (.cells #[.int .i64 x1, .int .i64 x3, .int .i64 x5, .int .i64 x7, .int .i64 x9] 3)) (.cells #[.int .i64 x0, .int .i64 x2, .int .i64 x4, .int .i64 x6, .int .i64 x8] 3)).drew.mono H.out.le).trans hb2); have HOY := Lib.hid (((opds_new w [x1, x3, x5, x7, x9] #[.int .i64 x1, .int .i64 x3, .int .i64 x5, .int .i64 x7, .int .i64 x9] w.heap.size rfl rfl).keep (keep_bel (bel_al _ (.cells #[.int .i64 x0, .int .i64 x2, .int .i64 x4, .int .i64 x6, .int .i64 x8] 3)))).drew.keep hk2); have HMY := HM2; have hx := hb2; clear hh2 hb2 hk2 hx; rw [HU.out]))
    | (go_at_call 101; ((with_reducible refine (sum_at B M F L _ [x1, x3, x5, x7, x9] _ 5 5 _ HMY.out HOY.out rfl (by decide)).mono ?_); rintro e w3 ⟨rfl, hh3, hb3, hk3⟩; simp only [HU.out, HV.out] at hh3 ⊢; have HM3 := Lib.hid hh3; first | (have K3 := K2.trans hk3; have HB3 := Lib.hid (HB2.out.trans hb3)) | (have K3 := (K2.trans (keep_bel (bel_al _ _))).trans hk3; have HB3 := Lib.hid ((HB2.out.trans ((bel_al _ _).mono HM2.out.le)).trans hb3)); clear hh3 hb3 hk3)))
  all_goals (
   go_wp2_with fail
   go_meet
   exact ⟨rfl, rfl, HM3, HB3, K3⟩)
 case rest =>
  obtain ⟨rfl, rfl, HMc, HBc, HKc⟩ := hcut
  have hu1 := HUB.out.1
  have hu2 := HUB.out.2
  have hv1 := HVB.out.1
  have hv2 := HVB.out.2
  have HPc : Hid (PenFit { s with fault := v.2 }) := HP.out
  clear HSA HUB HVB HU HV
  obtain ⟨u1, hU⟩ : ∃ u1, u.1 = u1 := ⟨_, rfl⟩
  obtain ⟨v1, hV⟩ : ∃ v1, v.1 = v1 := ⟨_, rfl⟩
  rw [hU] at hu1 hu2 ⊢
  rw [hV] at hv1 hv2 ⊢
  generalize ({ s with fault := v.2 } : MS) = sc at *
  obtain ⟨g', off', hgo, hcell⟩ := (HO.out.keep HKc.out).at (by simp)
  cases hgo
  have k10 := hcell 10 x10 rfl
  clear hcell
  go_wp2_with fail
  all_goals (
   go_quiet (fail)
   go_wp2_with fail
   all_goals (
    have HMq := Lib.hid (HMc.out.below (bel_drewN0 wc nq))
    have HKq := Lib.hid (HKc.out.trans (keep_bel (bel_drewN0 wc nq)))
    have HBq := Lib.hid (bel_drewN HBc.out nq)
    have HOq := Lib.hid ((HO.out.keep HKq.out).take 6)
    refine (curves_c B M F L sc [x0, x1, x2, x3, x4, x5] (some ⟨g, off, none⟩) c (wc.drewN nq) HMq.out HPc.out HOq.out (by simp; omega) (by simp) (by simp)).mono ?_
    rintro e w2 ⟨rfl, ⟨oa2, oc2, vs2, hh2⟩, hb2, hk2⟩
    have H2 := Lib.hid hh2
    have HB2 := Lib.hid (HBq.out.trans hb2)
    have HK2 := Lib.hid (HKq.out.trans hk2)
    have HP2 : Hid (PenFit (MS.curves [x0, x1, x2, x3, x4, x5] sc)) := PenFit.curves _ _ HPc.out
    clear hh2 hb2 hk2 k10
    obtain ⟨s2, HS2⟩ : ∃ s2, Hid (MS.curves [x0, x1, x2, x3, x4, x5] sc = s2) := ⟨_, rfl⟩
    rw [HS2.out] at H2 HP2
    obtain ⟨g', off', hgo, hcell⟩ := (HO.out.keep HK2.out).at (by simp)
    cases hgo
    have k6 := hcell 6 x6 rfl
    have k7 := hcell 7 x7 rfl
    have k8 := hcell 8 x8 rfl
    have k9 := hcell 9 x9 rfl
    clear hcell
    go_wp2_with fail
    refine wp_region_still_tail 15 (by kernel_rfl) (by kernel_rfl) ?_
    simp only [List.take_succ_cons, List.take_zero, List.drop_succ_cons, List.drop_zero]
    repeat still_step
    refine wpStill_nil ?_
    change wpList _ _ _ _ _ w2.drew
    have HD := Lib.hid (H2.out.below (Below.refl _ _).drew)
    have HKD := Lib.hid (keep_bel (Below.refl w2.heap.size w2).drew)
    go_wp2_with fail
    refine (curve_c B M F _ s2 x6 x7 x8 x9 _ _ w2.drew HD.out HP2.out).mono ?_
    rintro e w4 ⟨rfl, ⟨oa4, oc4, vs4, hh4⟩, hb4, hk4⟩
    have H4 := Lib.hid hh4
    have HB4 := Lib.hid (HB2.out.trans ((Below.refl B w2).drew.trans hb4))
    have HK4 := Lib.hid (HK2.out.trans (HKD.out.trans hk4))
    clear hh4 hb4 hk4 HD HKD
    go_wp2_with fail
    go_end0
    rw [HS2.out]
    exact ⟨rfl, ⟨_, _, _, H4.out⟩, HB4.out, HK4.out⟩))
end Go.Proofs.YtklenppldblbdaaGreat
namespace Go.Proofs.YtklenppldblbdaaGreat
open Go.RowKit Go.PlainAid
def FlexPost (r : List Stp × Int) (w : World) (e : Ending) (w' : World) : Prop :=
 (r.2 = 0 → (∃ g c, e = .returned (.tuple #[.slice (some ⟨g, 0, none⟩) r.1.length c, .int .i64 0]) ∧ PathAt w' w.heap.size g c r.1) ∧ Below w.heap.size w w') ∧ (r.2 ≠ 0 → (∃ a n c, e = .returned (.tuple #[.slice a n c, .int .i64 r.2])) ∧ Below w.heap.size w w')
theorem wp_gen {P : Program} {c : Code} {Q : Exit → Act → World → Prop} {a : Act} (W : World) (h : ∀ w1, w1 = W → c.wp P Q a w1) : c.wp P Q a W := h W rfl
theorem flexPost_ok {p : List Stp} {w w' : World} {g c B : Nat} (hp : PathAt w' B g c p) (hB : w.heap.size ≤ B) (hb : Below w.heap.size w w') : FlexPost (p, 0) w (.returned (.tuple #[.slice (some ⟨g, 0, none⟩) p.length c, .int .i64 0])) w' :=
 ⟨fun _ => ⟨⟨g, c, rfl, own_base hp hB⟩, hb⟩, fun h => absurd rfl h⟩
theorem flexPost_no {p : List Stp} {er : Int} {w w' : World} (h : er ≠ 0) (hb : Below w.heap.size w w') {a : Option Addr} {n c : Nat} : FlexPost (p, er) w (.returned (.tuple #[.slice a n c, .int .i64 er])) w' :=
 ⟨fun e => absurd e h, fun _ => ⟨⟨a, n, c, rfl⟩, hb⟩⟩
theorem totalD_bound : ∀ (l : List Int) (t : Int), -2147483647 ≤ t → t ≤ 2147483647 → -2147483647 ≤ (totalD l t).1 ∧ (totalD l t).1 ≤ 2147483647
 | [], t, h0, h1 => ⟨h0, h1⟩
 | d :: r, t, h0, h1 => by
   rw [totalD]
   split
   ·exact ⟨by decide, by decide⟩
   ·exact totalD_bound r _ (sumOr_bound t d).1 (sumOr_bound t d).2
theorem total_at (l : List Int) (a : Option Addr) (c n : Nat) (w : World) (ho : Opds w l a) (hn : l.length = n) (h1 : n ≤ 1000) (hl : n ≤ c) :
 Calls Tryz.prog 63 #[.slice a n c] w fun e w' => e = .returned (.tuple #[.int .i64 (totalD l 0).1, .int .i64 (totalD l 0).2]) ∧ Below w.heap.size w w' := by
 subst hn; exact total_d l a c w ho h1 hl
theorem ints_one (L : List Int) : ∀ u ∈ L.map (Value.int .i64), u.oneCell' = true := by
 intro u hu
 obtain ⟨v, _, rfl⟩ := List.mem_map.1 hu
 rfl
theorem sq_bound {x : Int} (h1 : -2147483647 ≤ x) (h2 : x ≤ 2147483647) : IntKind.i64.wrap (x * x) = x * x := by
 have e : x * x = ((x.natAbs * x.natAbs : Nat) : Int) := by rw [Int.natCast_mul]; exact (Int.natAbs_mul_self' x).symm
 have h : x.natAbs * x.natAbs ≤ 2147483647 * 2147483647 := Nat.mul_le_mul (by omega) (by omega)
 refine IntWalk.i64_in _ ?_
 rw [e]
 omega
theorem opds_own {w : World} {B g c n : Nat} {L : List Int} (h : w.ownsRow B 3 1 (.slice (some ⟨g, 0, none⟩) n c) n (L.map (Value.int .i64))) : Opds w L (some ⟨g, 0, none⟩) := by
 obtain ⟨cs, fr, hh⟩ := typ_own h g rfl
 have hl := own_lies h
 refine .inr ⟨g, 0, cs, fr, rfl, hh, fun i v hv => ?_⟩
 have := hl i (.int .i64 v) (by rw [List.getElem?_map, hv]; rfl)
 simp only [World.cell?, hh] at this
 exact this
theorem totalD_err : ∀ (l : List Int) (t : Int), (totalD l t).2 = 0 ∨ (totalD l t).2 = 84
 | [], t => .inl rfl
 | d :: r, t => by
   rw [totalD]
   split
   ·exact .inr rfl
   ·exact totalD_err r _
set_option maxRecDepth 20000 in
set_option maxHeartbeats 4000000 in
theorem flex_no (op : Int) (l : List Int) (a : Option Addr) (c m : Nat) (w : World) (hop : flexN op = some m) (hn : l.length ≠ m) (hl : l.length ≤ 1000) :
 Calls Tryz.prog 44 #[.int .i64 op, .slice a l.length c] w (FlexPost ([], 81) w) := by
 have hcase : (op = 1234 ∧ m = 7) ∨ (op = 1235 ∧ m = 13) ∨ (op = 1236 ∧ m = 9) ∨ (op = 1237 ∧ m = 11) := by
  unfold flexN at hop
  split at hop
  ·simp at hop; omega
  split at hop
  ·simp at hop; omega
  split at hop
  ·simp at hop; omega
  split at hop
  ·simp at hop; omega
  ·cases hop
 obtain ⟨n, HN⟩ : ∃ n, Hid (l.length = n) := ⟨_, rfl⟩
 rw [HN.out] at hn hl ⊢
 have HB : Hid (Below w.heap.size w (w.alloc (.cells #[.int .i64 7, .int .i64 13, .int .i64 9, .int .i64 11] 124))) := (Below.refl _ _).alloc (Nat.le_refl _) _
 clear hop
 rcases hcase with ⟨rfl, rfl⟩ | ⟨rfl, rfl⟩ | ⟨rfl, rfl⟩ | ⟨rfl, rfl⟩
 ·have z1 : ((n : Int) == 7) = false := by simp; omega
  clear hn hl
  go_enter Tryz.func44, Tryz.ntmps44
  go_wp2_with fail
  go_ret2
  exact flexPost_no (by decide) HB.out
 ·have z1 : ((n : Int) == 13) = false := by simp; omega
  clear hn hl
  go_enter Tryz.func44, Tryz.ntmps44
  go_wp2_with fail
  go_ret2
  exact flexPost_no (by decide) HB.out
 ·have z1 : ((n : Int) == 9) = false := by simp; omega
  clear hn hl
  go_enter Tryz.func44, Tryz.ntmps44
  go_wp2_with fail
  go_ret2
  exact flexPost_no (by decide) HB.out
 ·have z1 : ((n : Int) == 11) = false := by simp; omega
  clear hn hl
  go_enter Tryz.func44, Tryz.ntmps44
  go_wp2_with fail
  go_ret2
  exact flexPost_no (by decide) HB.out
set_option maxRecDepth 20000 in
set_option maxHeartbeats 4000000 in
theorem flex1234_d (x0 x1 x2 x3 x4 x5 x6 : Int) (a : Option Addr) (c : Nat) (w : World) (ho : Opds w [x0, x1, x2, x3, x4, x5, x6] a) (hc : 7 ≤ c) (hb : -2147483648 ≤ x2 ∧ x2 ≤ 2147483648) :
 Calls Tryz.prog 44 #[.int .i64 1234, .slice a 7 c] w (FlexPost (flexD 1234 [x0, x1, x2, x3, x4, x5, x6]) w) := by
 obtain ⟨q, off, rfl, hat⟩ := ho.at (by simp)
 have HO := Lib.hid ho
 have hcell : ∀ W, IntKeep w W → ∀ (i : Nat) (v : Int), [x0, x1, x2, x3, x4, x5, x6][i]? = some v → W.cell? ⟨q, off + i, none⟩ = some (.int .i64 v) := by
  intro W hW
  obtain ⟨g', off', hgo, hh⟩ := (ho.keep hW).at (by simp)
  cases hgo
  exact hh
 have HX := Lib.hid hcell
 obtain ⟨hx1, hx2⟩ := hb
 obtain ⟨fd, HF0⟩ : ∃ fd, Hid (flexD 1234 [x0, x1, x2, x3, x4, x5, x6] = fd) := ⟨_, rfl⟩
 rw [HF0.out]
 clear ho hat hcell
 go_enter Tryz.func44, Tryz.ntmps44
 go_wp2_with fail
 refine wp_gen _ fun w1 hw1 => ?_
 have hb1 : Below w.heap.size w w1 := by rw [hw1]; exact ((Below.refl _ _).alloc (Nat.le_refl _) _).alloc (by simp) _
 have HB1 := Lib.hid hb1
 have HS1 : Hid (w.heap.size ≤ w1.heap.size) := hb1.size
 have k0 := HX.out w1 (keep_bel hb1) 0 x0 rfl
 have k1 := HX.out w1 (keep_bel hb1) 1 x1 rfl
 have k2 := HX.out w1 (keep_bel hb1) 2 x2 rfl
 have k3 := HX.out w1 (keep_bel hb1) 3 x3 rfl
 have k4 := HX.out w1 (keep_bel hb1) 4 x4 rfl
 have k5 := HX.out w1 (keep_bel hb1) 5 x5 rfl
 have k6 := HX.out w1 (keep_bel hb1) 6 x6 rfl
 rw [Nat.add_zero] at k0
 clear hb1 hw1
 have HC := Lib.hid (steps8_d [x0, 0, x1, x2, x3, 0, x4, 0, x5, -x2, x6, 0] (some ⟨w1.heap.size, 0, none⟩) 12 (w1.drew.alloc (.cells #[.int .i64 x0, .int .i64 0, .int .i64 x1, .int .i64 x2, .int .i64 x3, .int .i64 0, .int .i64 x4, .int .i64 0, .int .i64 x5, .int .i64 (-x2), .int .i64 x6, .int .i64 0] 3)) (opds_new w1.drew [x0, 0, x1, x2, x3, 0, x4, 0, x5, -x2, x6, 0] #[.int .i64 x0, .int .i64 0, .int .i64 x1, .int .i64 x2, .int .i64 x3, .int .i64 0, .int .i64 x4, .int .i64 0, .int .i64 x5, .int .i64 (-x2), .int .i64 x6, .int .i64 0] w1.heap.size rfl rfl) (by simp) (by simp))
 have HB9 : Hid (Below w.heap.size w (w1.drew.alloc (.cells #[.int .i64 x0, .int .i64 0, .int .i64 x1, .int .i64 x2, .int .i64 x3, .int .i64 0, .int .i64 x4, .int .i64 0, .int .i64 x5, .int .i64 (-x2), .int .i64 x6, .int .i64 0] 3))) := HB1.out.drew.alloc (by have := HB1.out.size; exact this) _
 refine wp_region_still_tail 25 (by kernel_rfl) (by kernel_rfl) ?_
 simp only [List.take_succ_cons, List.take_zero, List.drop_succ_cons, List.drop_zero]
 repeat still_step
 refine wpStill_nil ?_
 change wpList _ _ _ _ _ w1.drew
 go_wp2_with fail
 refine HC.out.mono ?_
 rintro e w9 ⟨g, cc, rfl, hp, hbz⟩
 go_wp2_with fail
 go_ret2
 rw [← HF0.out]
 exact flexPost_ok hp (HB9.out.size) (bel_next HB9.out hbz)
set_option maxRecDepth 20000 in
set_option maxHeartbeats 4000000 in
theorem flex1235_d (x0 x1 x2 x3 x4 x5 x6 x7 x8 x9 x10 x11 x12 : Int) (a : Option Addr) (c : Nat) (w : World) (ho : Opds w [x0, x1, x2, x3, x4, x5, x6, x7, x8, x9, x10, x11, x12] a) (hc : 13 ≤ c) :
 Calls Tryz.prog 44 #[.int .i64 1235, .slice a 13 c] w (FlexPost (flexD 1235 [x0, x1, x2, x3, x4, x5, x6, x7, x8, x9, x10, x11, x12]) w) := by
 obtain ⟨q, off, rfl, hat⟩ := ho.at (by simp)
 have HO := Lib.hid ho
 have hcell : ∀ W, IntKeep w W → ∀ (i : Nat) (v : Int), [x0, x1, x2, x3, x4, x5, x6, x7, x8, x9, x10, x11, x12][i]? = some v → W.cell? ⟨q, off + i, none⟩ = some (.int .i64 v) := by
  intro W hW
  obtain ⟨g', off', hgo, hh⟩ := (ho.keep hW).at (by simp)
  cases hgo
  exact hh
 have HX := Lib.hid hcell
 obtain ⟨fd, HF0⟩ : ∃ fd, Hid (flexD 1235 [x0, x1, x2, x3, x4, x5, x6, x7, x8, x9, x10, x11, x12] = fd) := ⟨_, rfl⟩
 rw [HF0.out]
 clear ho hat hcell
 have HC0 : Hid (∀ W, Below w.heap.size w W → Calls Tryz.prog 43 #[.int .i64 8, .slice (some ⟨q, off, none⟩) 12 c] W (PathPost (curvD [x0, x1, x2, x3, x4, x5, x6, x7, x8, x9, x10, x11]) (stepsD 8 [x0, x1, x2, x3, x4, x5, x6, x7, x8, x9, x10, x11]).2 W)) := fun W hW => steps8_d [x0, x1, x2, x3, x4, x5, x6, x7, x8, x9, x10, x11] (some ⟨q, off, none⟩) c W ((HO.out.keep (keep_bel hW)).take 12) (by simp) (by simp; omega)
 have hc12 : (12 : Int) ≤ (c : Int) := by omega
 go_enter Tryz.func44, Tryz.ntmps44
 go_wp2_with fail
 refine (HC0.out _ (((Below.refl _ _).alloc (Nat.le_refl _) _).alloc (by simp) _)).mono ?_
 rintro e w9 ⟨g, cc, rfl, hp, hbz⟩
 have HB9 : Hid (Below w.heap.size w w9) := bel_next (((Below.refl _ _).alloc (Nat.le_refl _) _).alloc (by simp) _) hbz
 have hp2 := Lib.hid (own_base hp (show w.heap.size ≤ _ by simp; omega))
 clear hp hbz
 go_wp2_with fail
 go_ret2
 rw [← HF0.out]
 exact flexPost_ok hp2.out (Nat.le_refl _) HB9.out
set_option maxRecDepth 20000 in
set_option maxHeartbeats 4000000 in
theorem flex1236_d (x0 x1 x2 x3 x4 x5 x6 x7 x8 : Int) (a : Option Addr) (c : Nat) (w : World) (ho : Opds w [x0, x1, x2, x3, x4, x5, x6, x7, x8] a) (hc : 9 ≤ c) :
 Calls Tryz.prog 44 #[.int .i64 1236, .slice a 9 c] w (FlexPost (flexD 1236 [x0, x1, x2, x3, x4, x5, x6, x7, x8]) w) := by
 obtain ⟨q, off, rfl, hat⟩ := ho.at (by simp)
 have HO := Lib.hid ho
 have hcell : ∀ W, IntKeep w W → ∀ (i : Nat) (v : Int), [x0, x1, x2, x3, x4, x5, x6, x7, x8][i]? = some v → W.cell? ⟨q, off + i, none⟩ = some (.int .i64 v) := by
  intro W hW
  obtain ⟨g', off', hgo, hh⟩ := (ho.keep hW).at (by simp)
  cases hgo
  exact hh
 have HX := Lib.hid hcell
 obtain ⟨fd, HF0⟩ : ∃ fd, Hid (flexD 1236 [x0, x1, x2, x3, x4, x5, x6, x7, x8] = fd) := ⟨_, rfl⟩
 rw [HF0.out]
 clear ho hat hcell
 go_enter Tryz.func44, Tryz.ntmps44
 go_wp2_with fail
 refine wp_gen _ fun w1 hw1 => ?_
 have hb1 : Below w.heap.size w w1 := by rw [hw1]; exact ((Below.refl _ _).alloc (Nat.le_refl _) _).alloc (by simp) _
 have HB1 := Lib.hid hb1
 have HS1 : Hid (w.heap.size ≤ w1.heap.size) := hb1.size
 clear hb1 hw1
 have HSAt : Hid (∀ W, IntKeep w W → W.cell? ⟨q, off + 1, none⟩ = some (.int .i64 x1) ∧ W.cell? ⟨q, off + 3, none⟩ = some (.int .i64 x3) ∧ W.cell? ⟨q, off + 7, none⟩ = some (.int .i64 x7)) := fun W KK => ⟨HX.out _ (KK) 1 x1 rfl, HX.out _ (KK) 3 x3 rfl, HX.out _ (KK) 7 x7 rfl⟩
 have KAt := keep_bel HB1.out.drew
 have KBt := (keep_bel HB1.out).trans (keep_bel (bel_al w1 (.cells #[.int .i64 x1, .int .i64 x3, .int .i64 x7] 3)))
 have KCt := (keep_bel HB1.out).trans (keep_bel (bel_ad w1 (.cells #[.int .i64 x1, .int .i64 x3, .int .i64 x7] 3)))
 go_region_held3 (fun W => W.cell? ⟨q, off + 1, none⟩ = some (.int .i64 x1) ∧ W.cell? ⟨q, off + 3, none⟩ = some (.int .i64 x3) ∧ W.cell? ⟨q, off + 7, none⟩ = some (.int .i64 x7)) (first | with_reducible exact HSAt.out _ KAt | with_reducible exact HSAt.out _ KBt | with_reducible exact HSAt.out _ KCt | with_reducible exact HSAt.out _ Kt)
  ((go_at_call 63; (with_reducible refine (total_at [x1, x3, x7] (some ⟨w1.heap.size, 0, none⟩) 3 3 _ (opds_new w1 [x1, x3, x7] #[.int .i64 x1, .int .i64 x3, .int .i64 x7] w1.heap.size rfl rfl).drew rfl (by decide) (by decide)).mono ?_); rintro e w2 ⟨rfl, hht⟩; have Kt := KCt.trans (keep_bel hht)))
 have HSt : Hid (Below w1.heap.size w1 w2) := bel_next (bel_ad _ _) hht
 have HB2 : Hid (Below w.heap.size w w2) := bel_next HB1.out HSt.out
 clear KAt KBt KCt HSAt hht Kt
 have HTB := Lib.hid (totalD_bound [x1, x3, x7] 0 (by decide) (by decide))
 have HTE := Lib.hid (totalD_err [x1, x3, x7] 0)
 have HFD : Hid (fd = if (totalD [x1, x3, x7] 0).2 ≠ 0 then ([], 84) else (curvD [x0, x1, x2, x3, x4, 0, x5, 0, x6, x7, x8, -(totalD [x1, x3, x7] 0).1], 0)) := HF0.out.symm
 clear HF0
 generalize (totalD [x1, x3, x7] 0).1 = y at *
 generalize (totalD [x1, x3, x7] 0).2 = ey at *
 rcases HTE.out with rfl | rfl
 ·have hfd := HFD.out
  rw [if_neg (by decide)] at hfd
  have hy1 := HTB.out.1
  have hy2 := HTB.out.2
  have HFE := Lib.hid hfd
  clear hfd HFD
  have k0 := HX.out w2 (keep_bel HB2.out) 0 x0 rfl
  have k1 := HX.out w2 (keep_bel HB2.out) 1 x1 rfl
  have k2 := HX.out w2 (keep_bel HB2.out) 2 x2 rfl
  have k3 := HX.out w2 (keep_bel HB2.out) 3 x3 rfl
  have k4 := HX.out w2 (keep_bel HB2.out) 4 x4 rfl
  have k5 := HX.out w2 (keep_bel HB2.out) 5 x5 rfl
  have k6 := HX.out w2 (keep_bel HB2.out) 6 x6 rfl
  have k7 := HX.out w2 (keep_bel HB2.out) 7 x7 rfl
  have k8 := HX.out w2 (keep_bel HB2.out) 8 x8 rfl
  rw [Nat.add_zero] at k0
  have HC := Lib.hid (steps8_d [x0, x1, x2, x3, x4, 0, x5, 0, x6, x7, x8, -y] (some ⟨w2.heap.size, 0, none⟩) 12 (w2.drew.alloc (.cells #[.int .i64 x0, .int .i64 x1, .int .i64 x2, .int .i64 x3, .int .i64 x4, .int .i64 0, .int .i64 x5, .int .i64 0, .int .i64 x6, .int .i64 x7, .int .i64 x8, .int .i64 (-y)] 3)) (opds_new w2.drew [x0, x1, x2, x3, x4, 0, x5, 0, x6, x7, x8, -y] #[.int .i64 x0, .int .i64 x1, .int .i64 x2, .int .i64 x3, .int .i64 x4, .int .i64 0, .int .i64 x5, .int .i64 0, .int .i64 x6, .int .i64 x7, .int .i64 x8, .int .i64 (-y)] w2.heap.size rfl rfl) (by simp) (by simp))
  have HB9 : Hid (Below w.heap.size w (w2.drew.alloc (.cells #[.int .i64 x0, .int .i64 x1, .int .i64 x2, .int .i64 x3, .int .i64 x4, .int .i64 0, .int .i64 x5, .int .i64 0, .int .i64 x6, .int .i64 x7, .int .i64 x8, .int .i64 (-y)] 3))) := HB2.out.drew.alloc (by have := HB2.out.size; exact this) _
  go_wp2_with fail
  refine wp_region_still_tail 29 (by kernel_rfl) (by kernel_rfl) ?_
  simp only [List.take_succ_cons, List.take_zero, List.drop_succ_cons, List.drop_zero]
  repeat still_step
  refine wpStill_nil ?_
  change wpList _ _ _ _ _ w2.drew
  go_wp2_with fail
  refine HC.out.mono ?_
  rintro e w9 ⟨g, cc, rfl, hp, hbz⟩
  go_wp2_with fail
  go_ret2
  rw [HFE.out]
  exact flexPost_ok hp (HB9.out.size) (bel_next HB9.out hbz)
 ·have hfd := HFD.out
  rw [if_pos (by decide)] at hfd
  have HFE := Lib.hid hfd
  clear hfd HFD
  go_wp2_with fail
  go_ret2
  rw [HFE.out]
  exact flexPost_no (by decide) HB2.out
end Go.Proofs.YtklenppldblbdaaGreat
