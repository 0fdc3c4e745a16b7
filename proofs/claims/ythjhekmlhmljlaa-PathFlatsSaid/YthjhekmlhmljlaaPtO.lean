/-
  What begun of package path gives where no knot is on the curve.
-/
import Derived.Test.YthjhekmlhmljlaaPtN
import Derived.RegionTactic
namespace Go.Proofs.Ythjhekmlhmljlaa
open Go.RowKit Go.PlainAid
set_option linter.unusedSimpArgs false
set_option linter.unusedVariables false

theorem placeOf_any (x y z : Int) (w : World) : Calls Try.prog 42 #[.agg #[.int .i64 x, .int .i64 y, .int .i64 z]] w fun e w' => e = .returned (.agg #[.int .i64 x, .int .i64 y]) ∧ Below w.heap.size w w' := placeOf_c ⟨x, y, z⟩ w
/-- Two knots in boxes, and two cells for the start. -/
structure OffW (V : World) (gf gl g : Nat) (k l : Kn) : Prop where
  k0 : V.cell? ⟨gf, 0, none⟩ = some (.int .i64 k.x)
  k1 : V.cell? ⟨gf, 1, none⟩ = some (.int .i64 k.y)
  k2 : V.cell? ⟨gf, 2, none⟩ = some (.int .i64 k.k)
  l0 : V.cell? ⟨gl, 0, none⟩ = some (.int .i64 l.x)
  l1 : V.cell? ⟨gl, 1, none⟩ = some (.int .i64 l.y)
  l2 : V.cell? ⟨gl, 2, none⟩ = some (.int .i64 l.k)
  o0 : V.cell? ⟨g, 0, none⟩ = some (.int .i64 0)
  o1 : V.cell? ⟨g, 1, none⟩ = some (.int .i64 0)
  f0 : V.frozen? ⟨g, 0, none⟩ = false
  f1 : V.frozen? ⟨g, 1, none⟩ = false
theorem OffW.below {V V' : World} {gf gl g : Nat} {k l : Kn} (h : OffW V gf gl g k l) (hb : Below V.heap.size V V') : OffW V' gf gl g k l :=
  ⟨keepC hb h.k0, keepC hb h.k1, keepC hb h.k2, keepC hb h.l0, keepC hb h.l1, keepC hb h.l2, keepC hb h.o0, keepC hb h.o1, keepF hb h.o0 h.f0, keepF hb h.o1 h.f1⟩
theorem OffW.drew {V : World} {gf gl g : Nat} {k l : Kn} (h : OffW V gf gl g k l) : OffW V.drew gf gl g k l := ⟨h.k0, h.k1, h.k2, h.l0, h.l1, h.l2, h.o0, h.o1, h.f0, h.f1⟩

set_option maxRecDepth 20000 in
set_option maxHeartbeats 2000000 in
theorem begun_off (a : Option Addr) (cap : Nat) (c : List Kn) (k l : Kn) (w : World) (hr : IsR clK w a c) (hn : c.length ≤ 4096) (hcap : c.length ≤ cap) (hi : firstOn c = none) (hk : c[0]? = some k) (hl : c[c.length - 1]? = some l) (hkf : FixS k.sp) (hlf : FixS l.sp) (h3 : ¬ k.k = 3) :
    Calls Try.prog 60 #[.slice a c.length cap] w (BegunPost w (mid l.sp k.sp) c) := by
  have hlt : 0 < c.length := (List.getElem?_eq_some_iff.1 hk).1
  have HR := Lib.hid hr
  have HB0 : Hid (Below w.heap.size w (w.alloc (.cells #[.int .i64 0, .int .i64 0] 47))) := (Below.refl _ _).alloc (Nat.le_refl _) _
  have HIC := Lib.hid (indexFunc_c a cap c (w.alloc (.cells #[.int .i64 0, .int .i64 0] 47)) (hr.below HB0.out) hn)
  have HIX : Hid (idxI c = -1) := by unfold Hid idxI; rw [hi]
  rw [HIX.out] at HIC
  obtain ⟨b, off, rfl, k0, k1, k2⟩ := hr.knot hk
  obtain ⟨b', off', hbb, l0, l1, l2⟩ := hr.knot hl
  simp only [Option.some.injEq, Addr.mk.injEq] at hbb
  obtain ⟨rfl, rfl, _⟩ := hbb
  have HK := Lib.hid (And.intro k0 (And.intro k1 k2))
  have HLL := Lib.hid (And.intro l0 (And.intro l1 l2))
  have HF1 := Lib.hid hkf
  have HF2 := Lib.hid hlf
  have o0 : (w.alloc (.cells #[.int .i64 0, .int .i64 0] 47)).cell? ⟨w.heap.size, 0, none⟩ = some (.int .i64 0) := by simp [go_sem]
  have o1 : (w.alloc (.cells #[.int .i64 0, .int .i64 0] 47)).cell? ⟨w.heap.size, 1, none⟩ = some (.int .i64 0) := by simp [go_sem]
  have f0 : (w.alloc (.cells #[.int .i64 0, .int .i64 0] 47)).frozen? ⟨w.heap.size, 0, none⟩ = false := by simp [go_sem]
  have f1 : (w.alloc (.cells #[.int .i64 0, .int .i64 0] 47)).frozen? ⟨w.heap.size, 1, none⟩ = false := by simp [go_sem]
  have HO := Lib.hid (And.intro o0 (And.intro o1 (And.intro f0 f1)))
  have HCC := Lib.hid hcap
  obtain ⟨n, HNN⟩ : ∃ n, Hid (c.length = n) := ⟨_, rfl⟩
  rw [HNN.out] at hlt hn hcap HIC HLL
  rw [HNN.out]
  have q1 : (0 : Int) < (n : Int) := by omega
  have q5 : (n : Int) ≤ 4096 := by omega
  have q6 : (n : Int) - 1 < (n : Int) := by omega
  have q7 : (0 : Int) ≤ (n : Int) - 1 := by omega
  have e3 : (k.k == 3) = false := by simpa using h3
  clear hr hk hl hi k0 k1 k2 l0 l1 l2 o0 o1 f0 f1 hcap hkf hlf h3
  go_enter Try.func60, Try.ntmps60
  go_wp2_with fail
  refine HIC.out.mono ?_
  rintro e w1 ⟨rfl, hb1⟩
  have HB1 := Lib.hid (bel_next HB0.out hb1)
  have HO1 := Lib.hid (And.intro (keepC hb1 HO.out.1) (And.intro (keepC hb1 HO.out.2.1) (And.intro (keepF hb1 HO.out.1 HO.out.2.2.1) (keepF hb1 HO.out.2.1 HO.out.2.2.2))))
  have k0 : w1.cell? ⟨b, off, none⟩ = some (.int .i64 k.x) := by have := keepC HB1.out HK.out.1; simpa using this
  have k1 : w1.cell? ⟨b, off + 1, none⟩ = some (.int .i64 k.y) := by have := keepC HB1.out HK.out.2.1; simpa using this
  have k2 : w1.cell? ⟨b, off + 2, none⟩ = some (.int .i64 k.k) := by have := keepC HB1.out HK.out.2.2; simpa using this
  have l0 := keepC HB1.out HLL.out.1
  have l1 := keepC HB1.out HLL.out.2.1
  have l2 := keepC HB1.out HLL.out.2.2
  clear hb1 HIC HO HB0
  have hbl : b < w1.heap.size := World.block_lt_of_cell? w1 _ k0
  have hbn : ¬ b = w1.heap.size := by omega
  have hbn2 : ¬ b = w1.heap.size + 1 := by omega
  have hbn3 : ¬ w1.heap.size = b := by omega
  have hbn4 : ¬ w1.heap.size + 1 = b := by omega
  have q8 : (1 : Int) ≤ (n : Int) := by omega
  have t1 : ((n : Int) - 1).toNat = n - 1 := by omega
  have t2 : IntKind.i64.wrap ((n : Int) - 1) = (n : Int) - 1 := IntWalk.i64_in _ (by omega)
  go_wp2_with fail
  go_region
  · go_wp2_with fail
    have HB2 : Hid (Below w.heap.size w ((w1.alloc (.cells #[.int .i64 k.x, .int .i64 k.y, .int .i64 k.k] 37)).alloc (.cells #[.int .i64 l.x, .int .i64 l.y, .int .i64 l.k] 37)).drew) := (bel_alloc (bel_alloc HB1.out _) _).drew
    have HV : Hid (OffW ((w1.alloc (.cells #[.int .i64 k.x, .int .i64 k.y, .int .i64 k.k] 37)).alloc (.cells #[.int .i64 l.x, .int .i64 l.y, .int .i64 l.k] 37)).drew w1.heap.size (w1.heap.size + 1) w.heap.size k l) := by
      have a0 := HO1.out.1
      have a1 := HO1.out.2.1
      have a2 := HO1.out.2.2.1
      have a3 := HO1.out.2.2.2
      refine OffW.drew ⟨by simp [go_sem], by simp [go_sem], by simp [go_sem], by simp [go_sem], by simp [go_sem], by simp [go_sem], keepA (keepA a0 _) _, keepA (keepA a1 _) _, keepAF (keepA a0 _) (keepAF a0 a2 _) _, keepAF (keepA a1 _) (keepAF a1 a3 _) _⟩
    have HSZ : Hid (w.heap.size < w1.heap.size) := World.block_lt_of_cell? w1 _ HO1.out.1
    have HNF : Hid (w.heap.size ≠ w1.heap.size) := by have := HSZ.out; unfold Hid; omega
    have HNL : Hid (w.heap.size ≠ w1.heap.size + 1) := by have := HSZ.out; unfold Hid; omega
    have HRR : Hid (IsR clK ((w1.alloc (.cells #[.int .i64 k.x, .int .i64 k.y, .int .i64 k.k] 37)).alloc (.cells #[.int .i64 l.x, .int .i64 l.y, .int .i64 l.k] 37)).drew (some ⟨b, off, none⟩) c) := HR.out.below HB2.out
    have HNB : Hid (w.heap.size ≠ b) := by have := World.block_lt_of_cell? w _ HK.out.1; unfold Hid; simp at this; omega
    clear HO1 k0 k1 k2 l0 l1 l2 hbl hbn hbn2 hbn3 hbn4 HB1 HSZ
    generalize ((w1.alloc (.cells #[.int .i64 k.x, .int .i64 k.y, .int .i64 k.k] 37)).alloc (.cells #[.int .i64 l.x, .int .i64 l.y, .int .i64 l.k] 37)).drew = W at *
    generalize w1.heap.size + 1 = g2 at *
    generalize w1.heap.size = g1 at *
    replace HV := Lib.hid HV.out.drew
    replace HB2 := Lib.hid HB2.out.drew
    go_region_held3 (fun V => V.cell? ⟨g1, 0, none⟩ = some (.int .i64 k.x) ∧ V.cell? ⟨g1, 1, none⟩ = some (.int .i64 k.y) ∧ V.cell? ⟨g1, 2, none⟩ = some (.int .i64 k.k) ∧ V.cell? ⟨g2, 0, none⟩ = some (.int .i64 l.x) ∧ V.cell? ⟨g2, 1, none⟩ = some (.int .i64 l.y) ∧ V.cell? ⟨g2, 2, none⟩ = some (.int .i64 l.k)) (first | with_reducible exact ⟨HV.out.k0, HV.out.k1, HV.out.k2, HV.out.l0, HV.out.l1, HV.out.l2⟩ | with_reducible exact ⟨HV6.out.k0, HV6.out.k1, HV6.out.k2, HV6.out.l0, HV6.out.l1, HV6.out.l2⟩ | with_reducible exact ⟨((keepS HNF.out).trans (keepS HNF.out)).trans HV6.out.k0, ((keepS HNF.out).trans (keepS HNF.out)).trans HV6.out.k1, ((keepS HNF.out).trans (keepS HNF.out)).trans HV6.out.k2, ((keepS HNL.out).trans (keepS HNL.out)).trans HV6.out.l0, ((keepS HNL.out).trans (keepS HNL.out)).trans HV6.out.l1, ((keepS HNL.out).trans (keepS HNL.out)).trans HV6.out.l2⟩)
      (first | (go_at_call 42; ((with_reducible refine (placeOf_any _ _ _ _).mono ?_); rintro e w6 ⟨rfl, hb6⟩; (first | (have HV6 := Lib.hid (HV.out.below hb6); have HB6 := Lib.hid (bel_next HB2.out hb6)) | (replace HV6 := Lib.hid (HV6.out.below hb6); replace HB6 := Lib.hid (bel_next HB6.out hb6))); clear hb6)) | (go_at_call 74; refine (middle_c l.sp k.sp w6 HF2.out HF1.out).mono ?_; rintro e w7 ⟨rfl, hb7⟩; replace HV6 := Lib.hid (HV6.out.below hb7); replace HB6 := Lib.hid (bel_next HB6.out hb7); have o0 := HV6.out.o0; have o1 := HV6.out.o1; have f0 := HV6.out.f0; have f1 := HV6.out.f1; clear hb7; unfold spV))
    go_wp2_with fail
    have HRE : Hid (IsR clK w7 (some ⟨b, off, none⟩) c) := HR.out.below HB6.out
    refine bodyPost_ret (v := .tuple #[.agg #[.int .i64 (mid l.sp k.sp).x, .int .i64 (mid l.sp k.sp).y], .slice (some ⟨b, off, none⟩) n cap, .int .i64 0]) (by simp [results, Try.results60, go_sem, o0, o1]) rfl ⟨some ⟨b, off, none⟩, cap, by rw [HNN.out]; rfl, HCC.out, (HRE.out.set w.heap.size 0 _ (fun b' off' s h => by cases h; exact HNB.out)).set w.heap.size 1 _ (fun b' off' s h => by cases h; exact HNB.out), ?_⟩
    refine bel_set (bel_set HB6.out ?_ _) ?_ _ <;> omega
  · go_wp2_with fail
    have HB2 : Hid (Below w.heap.size w ((w1.alloc (.cells #[.int .i64 l.x, .int .i64 l.y, .int .i64 l.k] 37)).alloc (.cells #[.int .i64 k.x, .int .i64 k.y, .int .i64 k.k] 37)).drew) := (bel_alloc (bel_alloc HB1.out _) _).drew
    have HV : Hid (OffW ((w1.alloc (.cells #[.int .i64 l.x, .int .i64 l.y, .int .i64 l.k] 37)).alloc (.cells #[.int .i64 k.x, .int .i64 k.y, .int .i64 k.k] 37)).drew (w1.heap.size + 1) w1.heap.size w.heap.size k l) := by
      have a0 := HO1.out.1
      have a1 := HO1.out.2.1
      have a2 := HO1.out.2.2.1
      have a3 := HO1.out.2.2.2
      refine OffW.drew ⟨by simp [go_sem], by simp [go_sem], by simp [go_sem], by simp [go_sem], by simp [go_sem], by simp [go_sem], keepA (keepA a0 _) _, keepA (keepA a1 _) _, keepAF (keepA a0 _) (keepAF a0 a2 _) _, keepAF (keepA a1 _) (keepAF a1 a3 _) _⟩
    have HSZ : Hid (w.heap.size < w1.heap.size) := World.block_lt_of_cell? w1 _ HO1.out.1
    have HNF : Hid (w.heap.size ≠ w1.heap.size + 1) := by have := HSZ.out; unfold Hid; omega
    have HNL : Hid (w.heap.size ≠ w1.heap.size) := by have := HSZ.out; unfold Hid; omega
    have HRR : Hid (IsR clK ((w1.alloc (.cells #[.int .i64 l.x, .int .i64 l.y, .int .i64 l.k] 37)).alloc (.cells #[.int .i64 k.x, .int .i64 k.y, .int .i64 k.k] 37)).drew (some ⟨b, off, none⟩) c) := HR.out.below HB2.out
    have HNB : Hid (w.heap.size ≠ b) := by have := World.block_lt_of_cell? w _ HK.out.1; unfold Hid; simp at this; omega
    clear HO1 k0 k1 k2 l0 l1 l2 hbl hbn hbn2 hbn3 hbn4 HB1 HSZ
    generalize ((w1.alloc (.cells #[.int .i64 l.x, .int .i64 l.y, .int .i64 l.k] 37)).alloc (.cells #[.int .i64 k.x, .int .i64 k.y, .int .i64 k.k] 37)).drew = W at *
    generalize w1.heap.size + 1 = g2 at *
    generalize w1.heap.size = g1 at *
    replace HV := Lib.hid HV.out.drew
    replace HB2 := Lib.hid HB2.out.drew
    go_region_held3 (fun V => V.cell? ⟨g2, 0, none⟩ = some (.int .i64 k.x) ∧ V.cell? ⟨g2, 1, none⟩ = some (.int .i64 k.y) ∧ V.cell? ⟨g2, 2, none⟩ = some (.int .i64 k.k) ∧ V.cell? ⟨g1, 0, none⟩ = some (.int .i64 l.x) ∧ V.cell? ⟨g1, 1, none⟩ = some (.int .i64 l.y) ∧ V.cell? ⟨g1, 2, none⟩ = some (.int .i64 l.k)) (first | with_reducible exact ⟨HV.out.k0, HV.out.k1, HV.out.k2, HV.out.l0, HV.out.l1, HV.out.l2⟩ | with_reducible exact ⟨HV6.out.k0, HV6.out.k1, HV6.out.k2, HV6.out.l0, HV6.out.l1, HV6.out.l2⟩ | with_reducible exact ⟨((keepS HNF.out).trans (keepS HNF.out)).trans HV6.out.k0, ((keepS HNF.out).trans (keepS HNF.out)).trans HV6.out.k1, ((keepS HNF.out).trans (keepS HNF.out)).trans HV6.out.k2, ((keepS HNL.out).trans (keepS HNL.out)).trans HV6.out.l0, ((keepS HNL.out).trans (keepS HNL.out)).trans HV6.out.l1, ((keepS HNL.out).trans (keepS HNL.out)).trans HV6.out.l2⟩)
      (first | (go_at_call 42; ((with_reducible refine (placeOf_any _ _ _ _).mono ?_); rintro e w6 ⟨rfl, hb6⟩; (first | (have HV6 := Lib.hid (HV.out.below hb6); have HB6 := Lib.hid (bel_next HB2.out hb6)) | (replace HV6 := Lib.hid (HV6.out.below hb6); replace HB6 := Lib.hid (bel_next HB6.out hb6))); clear hb6)) | (go_at_call 74; refine (middle_c l.sp k.sp w6 HF2.out HF1.out).mono ?_; rintro e w7 ⟨rfl, hb7⟩; replace HV6 := Lib.hid (HV6.out.below hb7); replace HB6 := Lib.hid (bel_next HB6.out hb7); have o0 := HV6.out.o0; have o1 := HV6.out.o1; have f0 := HV6.out.f0; have f1 := HV6.out.f1; clear hb7; unfold spV))
    go_wp2_with fail
    have HRE : Hid (IsR clK w7 (some ⟨b, off, none⟩) c) := HR.out.below HB6.out
    refine bodyPost_ret (v := .tuple #[.agg #[.int .i64 (mid l.sp k.sp).x, .int .i64 (mid l.sp k.sp).y], .slice (some ⟨b, off, none⟩) n cap, .int .i64 0]) (by simp [results, Try.results60, go_sem, o0, o1]) rfl ⟨some ⟨b, off, none⟩, cap, by rw [HNN.out]; rfl, HCC.out, (HRE.out.set w.heap.size 0 _ (fun b' off' s h => by cases h; exact HNB.out)).set w.heap.size 1 _ (fun b' off' s h => by cases h; exact HNB.out), ?_⟩
    refine bel_set (bel_set HB6.out ?_ _) ?_ _ <;> omega

end Go.Proofs.Ythjhekmlhmljlaa
