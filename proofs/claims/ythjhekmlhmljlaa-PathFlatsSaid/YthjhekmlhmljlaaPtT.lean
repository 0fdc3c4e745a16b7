/-
  What quad of package path gives where the next knot is quad too, and where the knots make no curve.
-/
import Derived.Test.YthjhekmlhmljlaaPtS
namespace Go.Proofs.Ythjhekmlhmljlaa
open Go.RowKit Go.PlainAid
set_option linter.unusedSimpArgs false
set_option linter.unusedVariables false

set_option maxRecDepth 20000 in
set_option maxHeartbeats 4000000 in
theorem quad_mid (w0 : World) (W : Nat) (st : Sp) (ca : Option Addr) (cc : Nat) (k : Kn) (r : List Kn) (g pc : Nat) (P : List Sp) (p : Sp) (c : Bool) (w : World) (h : Wk w0 W st ca cc (k :: r) g pc P c w) (hp : P.length ≤ 1000000) (hl : P[P.length - 1]? = some p) (hpos : 0 < P.length) (d : Kn) (r2 : List Kn) (hr : r = d :: r2) (hd : d.k = 2) (hf1 : FixS k.sp) (hf2 : FixS d.sp) (hf3 : FixS p) :
    Calls Try.prog 75 #[.pointer (some ⟨W, 0, none⟩)] w (StepPost w0 W st r (P ++ quadPts p k.sp (mid k.sp d.sp)) c) := by
  obtain ⟨b, off, rfl, k0, k1, k2⟩ := h.read.knot (i := 0) (k := k) rfl
  simp only [Nat.zero_mul, Nat.add_zero] at k0 k1 k2
  have hlc := h.lc
  have hlt := h.lt
  have hbW : b < w0.heap.size := World.block_lt_of_cell? w0 _ (by have := h.com.knot (i := 0) (k := k) rfl; obtain ⟨b', o', e, q0, _⟩ := this; cases e; exact q0)
  obtain ⟨pb, po, hpe, p0, p1⟩ := (own_isR rfl h.own).spot hl
  simp only [Option.some.injEq, Addr.mk.injEq] at hpe
  obtain ⟨rfl, rfl, _⟩ := hpe
  simp only [Nat.zero_add] at p0 p1
  have HW := Lib.hid h
  have c2 := h.cs.c2
  have c3 := h.cs.c3
  obtain ⟨n, HN⟩ : ∃ n, Hid (r.length = n) := ⟨_, rfl⟩
  obtain ⟨m, HM⟩ : ∃ m, Hid (P.length = m) := ⟨_, rfl⟩
  simp only [List.length_cons] at c2 hlc
  rw [HN.out] at c2 hlc
  rw [HM.out] at c3 p0 p1 hpos
  have HP := Lib.hid hp
  have HLC := Lib.hid hlc
  have q1 : (0 : Int) < ((n + 1 : Nat) : Int) := by omega
  have q4 : (0 : Int) ≤ (m : Int) - 1 := by omega
  have q5 : (m : Int) - 1 < (m : Int) := by omega
  have q6 : (1 : Int) ≤ (m : Int) := by omega
  have t1 : ((m : Int) - 1).toNat = m - 1 := by omega
  have t2 : IntKind.i64.wrap ((m : Int) - 1) = (m : Int) - 1 := IntWalk.i64_in _ (by have := HP.out; have := HM.out; omega)
  have q7 : (m : Int) ≤ 1000000 := by have := HP.out; have := HM.out; omega
  have HBW := Lib.hid (And.intro hbW h.hW)
  have HQ0 := Lib.hid (And.intro c2 (And.intro c3 (And.intro p0 p1)))
  have HRE := Lib.hid hr
  have HF1 := Lib.hid hf1
  have HF2 := Lib.hid hf2
  have HF3 := Lib.hid hf3
  have HFM : Hid (FixS (mid k.sp d.sp)) := mid_in hf1 hf2
  have HR1 : Hid (IsR clK w0 (some ⟨b, off + 3, none⟩) (d :: r2)) := by have := h.com.drop clK_length 1; simp only [List.drop_succ_cons, List.drop_zero] at this; rw [hr] at this; exact this
  have HNP : Hid (1 ≤ n) := by have := HN.out; rw [hr] at this; simp only [List.length_cons] at this; unfold Hid; omega
  have HDK := Lib.hid hd
  clear hf1 hf2 hf3 hr hd
  clear h hp hl hbW hlc
  go_enter Try.func75, Try.ntmps75
  go_wp2_with fail
  refine (placeOf_h k w).mono ?_
  rintro e w1 ⟨rfl, hb1⟩
  have HW1 := Lib.hid (HW.out.below hb1)
  have HQ1 : Hid (QBx (w1.alloc (.cells #[.int .i64 k.x, .int .i64 k.y] 47)) w1.heap.size w1.heap.size k.sp k.sp) := by constructor <;> simp [go_sem, Kn.sp]
  have HWa := Lib.hid (HW1.out.below ((Below.refl _ _).alloc (Nat.le_refl _) (.cells #[.int .i64 k.x, .int .i64 k.y] 47)))
  have a2 := keepA (keepC hb1 HQ0.out.1) (.cells #[.int .i64 k.x, .int .i64 k.y] 47)
  have a3 := keepA (keepC hb1 HQ0.out.2.1) (.cells #[.int .i64 k.x, .int .i64 k.y] 47)
  have ap0 := keepA (keepC hb1 HQ0.out.2.2.1) (.cells #[.int .i64 k.x, .int .i64 k.y] 47)
  have ap1 := keepA (keepC hb1 HQ0.out.2.2.2) (.cells #[.int .i64 k.x, .int .i64 k.y] 47)
  clear hb1 c2 c3 k0 k1 k2 p0 p1 hlt
  go_wp2_with fail
  generalize (w1.alloc (.cells #[.int .i64 k.x, .int .i64 k.y] 47)) = w2 at *
  have HGC : Hid (w1.heap.size ≠ W ∧ w1.heap.size ≠ g ∧ w0.heap.size ≤ w1.heap.size) := by have h1 := HW1.out.lt; have h2 := (ownsRow_cap HW1.out.own).2.2; have h3 := HW1.out.bel.size; exact ⟨by omega, by omega, h3⟩
  generalize w1.heap.size = gc at *
  have hl1 : W < w2.heap.size := HWa.out.lt
  have hl2 : g < w2.heap.size := (ownsRow_cap HWa.out.own).2.2
  go_region
  have HWb : Hid (Wk w0 W st (some ⟨b, off, none⟩) cc (k :: r) g pc P c (w2.alloc (.cells #[.int .i64 p.x, .int .i64 p.y] 47)).drew) := HWa.out.below ((Below.refl _ _).alloc (Nat.le_refl _) _).drew
  have HQb : Hid (QBx (w2.alloc (.cells #[.int .i64 p.x, .int .i64 p.y] 47)).drew gc w2.heap.size k.sp p) := ⟨keepA HQ1.out.c0 _, keepA HQ1.out.c1 _, by simp [go_sem], by simp [go_sem]⟩
  have HGL : Hid (gc < w2.heap.size ∧ w0.heap.size ≤ w2.heap.size) := ⟨World.block_lt_of_cell? w2 _ HQ1.out.c0, HWa.out.bel.size⟩
  generalize (w2.alloc (.cells #[.int .i64 p.x, .int .i64 p.y] 47)).drew = V at *
  generalize w2.heap.size = gf at *
  obtain ⟨b2, o2, e2, d0, d1, d2⟩ := (HR1.out.below HWb.out.bel).knot (i := 0) (k := d) rfl
  simp only [Option.some.injEq, Addr.mk.injEq] at e2
  obtain ⟨rfl, rfl, _⟩ := e2
  simp only [Nat.zero_mul, Nat.add_zero] at d0 d1 d2
  have v2 : V.cell? ⟨W, 2, none⟩ = some (.slice (some ⟨b, off, none⟩) (n + 1) cc) := by have := HWb.out.cs.c2; simp only [List.length_cons] at this; rw [HN.out] at this; exact this
  have vf2 := HWb.out.cs.f2
  have hd' : (d.k == 2) = true := by have := HDK.out; simpa using this
  have q8 : (1 : Int) < ((n + 1 : Nat) : Int) := by have := HNP.out; omega
  have q9 : ¬ cc = 1 := by have := HNP.out; have := HLC.out; omega
  have q10 : (1 : Int) ≤ (cc : Int) := by have := HLC.out; omega
  have q12 : (1 : Int) ≤ ((n + 1 : Nat) : Int) := by omega
  have HWc := Lib.hid (HWb.out.setC (a' := some ⟨b, off + 3, none⟩) (n' := n) (c' := cc - 1) (L' := r) (by rw [HRE.out]; exact HR1.out) HN.out (by have := HLC.out; omega))
  have HNE : Hid (W ≠ gc ∧ W ≠ gf ∧ W ≠ b) := by have h1 := HGC.out; have h2 := HBW.out; have h3 := hl1; exact ⟨fun e => h1.1 e.symm, by omega, by omega⟩
  have HQc : Hid (QBx (V.setCell ⟨W, 2, none⟩ (.slice (some ⟨b, off + 3, none⟩) n (cc - 1))) gc gf k.sp p) := HQb.out.set HNE.out.1 HNE.out.2.1
  have HDc : Hid ((V.setCell ⟨W, 2, none⟩ (.slice (some ⟨b, off + 3, none⟩) n (cc - 1))).cell? ⟨b, off + 3, none⟩ = some (.int .i64 d.x) ∧ (V.setCell ⟨W, 2, none⟩ (.slice (some ⟨b, off + 3, none⟩) n (cc - 1))).cell? ⟨b, off + 3 + 1, none⟩ = some (.int .i64 d.y) ∧ (V.setCell ⟨W, 2, none⟩ (.slice (some ⟨b, off + 3, none⟩) n (cc - 1))).cell? ⟨b, off + 3 + 2, none⟩ = some (.int .i64 d.k)) := ⟨(keepS HNE.out.2.2).trans d0, (keepS HNE.out.2.2).trans d1, (keepS HNE.out.2.2).trans d2⟩
  clear HWa HQ1 a2 a3 ap0 ap1
  go_wp2_with fail
  generalize (V.setCell ⟨W, 2, none⟩ (.slice (some ⟨b, off + 3, none⟩) n (cc - 1))) = U at *
  clear v2 vf2 d0 d1 d2 HQb HWb hd'
  have HWd : Hid (Wk w0 W st (some ⟨b, off + 3, none⟩) (cc - 1) r g pc P c U.drew) := HWc.out.below (Below.refl _ _).drew
  have u2 : U.cell? ⟨W, 2, none⟩ = some (.slice (some ⟨b, off + 3, none⟩) n (cc - 1)) := by have := HWc.out.cs.c2; rw [HN.out] at this; exact this
  have u3 : U.cell? ⟨W, 3, none⟩ = some (.slice (some ⟨g, 0, none⟩) m pc) := by have := HWc.out.cs.c3; rw [HM.out] at this; exact this
  have q13 : (0 : Int) < (n : Int) := by have := HNP.out; omega
  have HNG : Hid (W ≠ g ∧ gc ≠ g ∧ gf ≠ g ∧ b ≠ g) := ⟨Ne.symm HWc.out.ne, HGC.out.2.1, by have := hl2; omega, by have h1 := HBW.out.1; have h2 := (ownsRow_cap HWc.out.own).2.1; omega⟩
  refine wp_region_upto (fun V => V.cell? ⟨W, 3, none⟩ = some (.slice (some ⟨g, 0, none⟩) m pc) ∧ V.cell? ⟨gc, 0, none⟩ = some (.int .i64 k.x) ∧ V.cell? ⟨gc, 1, none⟩ = some (.int .i64 k.y) ∧ V.cell? ⟨gf, 0, none⟩ = some (.int .i64 p.x) ∧ V.cell? ⟨gf, 1, none⟩ = some (.int .i64 p.y) ∧ V.cell? ⟨W, 2, none⟩ = some (.slice (some ⟨b, off + 3, none⟩) n (cc - 1)) ∧ V.cell? ⟨b, off + 3, none⟩ = some (.int .i64 d.x) ∧ V.cell? ⟨b, off + 3 + 1, none⟩ = some (.int .i64 d.y) ∧ V.cell? ⟨b, off + 3 + 2, none⟩ = some (.int .i64 d.k)) 19 (by kernel_rfl) ⟨u3, HQc.out.c0, HQc.out.c1, HQc.out.f0, HQc.out.f1, u2, HDc.out.1, HDc.out.2.1, HDc.out.2.2⟩ (fun hH => ?_)
  refine wpUpto_take (i := 0) (v := (.pointer (some ⟨W, 0, none⟩))) rfl (by kernel_rfl) (by kernel_rfl) (by kernel_rfl) (by kernel_rfl) (fun _ _ _ h => h) (Or.inl ⟨by rfl, fun V hV => by go_simp⟩) hH ?_
  try simp only [Act.put, List.setIfInBounds_toArray, List.set_cons_zero, List.set_cons_succ]
  refine wpUpto_take (i := 1) (v := (.pointer (some ⟨W, 0, none⟩))) rfl (by kernel_rfl) (by kernel_rfl) (by kernel_rfl) (by kernel_rfl) (fun _ _ _ h => h) (Or.inl ⟨by rfl, fun V hV => by go_simp⟩) hH ?_
  try simp only [Act.put, List.setIfInBounds_toArray, List.set_cons_zero, List.set_cons_succ]
  refine wpUpto_take (i := 2) (v := (.pointer (some ⟨W, 0, none⟩))) rfl (by kernel_rfl) (by kernel_rfl) (by kernel_rfl) (by kernel_rfl) (fun _ _ _ h => h) (Or.inl ⟨by rfl, fun V hV => by go_simp⟩) hH ?_
  try simp only [Act.put, List.setIfInBounds_toArray, List.set_cons_zero, List.set_cons_succ]
  refine wpUpto_take (i := 3) (v := (.pointer (some ⟨W, 3, none⟩))) rfl (by kernel_rfl) (by kernel_rfl) (by kernel_rfl) (by kernel_rfl) (fun _ _ _ h => h) (Or.inl ⟨by rfl, fun V hV => by go_simp⟩) hH ?_
  try simp only [Act.put, List.setIfInBounds_toArray, List.set_cons_zero, List.set_cons_succ]
  refine wpUpto_take (i := 4) (v := (.slice (some ⟨g, 0, none⟩) m pc)) rfl (by kernel_rfl) (by kernel_rfl) (by kernel_rfl) (by kernel_rfl) (fun _ _ _ h => h) (Or.inl ⟨by rfl, fun V hV => by obtain ⟨h0, h1, h2, h3, h4, h5, h6, h7, h8⟩ := hV; go_simp⟩) hH ?_
  try simp only [Act.put, List.setIfInBounds_toArray, List.set_cons_zero, List.set_cons_succ]
  refine wpUpto_take (i := 5) (v := (.agg #[.int .i64 p.x, .int .i64 p.y])) rfl (by kernel_rfl) (by kernel_rfl) (by kernel_rfl) (by kernel_rfl) (fun _ _ _ h => h) (Or.inl ⟨by rfl, fun V hV => by obtain ⟨h0, h1, h2, h3, h4, h5, h6, h7, h8⟩ := hV; go_simp⟩) hH ?_
  try simp only [Act.put, List.setIfInBounds_toArray, List.set_cons_zero, List.set_cons_succ]
  refine wpUpto_take (i := 6) (v := (.agg #[.int .i64 k.x, .int .i64 k.y])) rfl (by kernel_rfl) (by kernel_rfl) (by kernel_rfl) (by kernel_rfl) (fun _ _ _ h => h) (Or.inl ⟨by rfl, fun V hV => by obtain ⟨h0, h1, h2, h3, h4, h5, h6, h7, h8⟩ := hV; go_simp⟩) hH ?_
  try simp only [Act.put, List.setIfInBounds_toArray, List.set_cons_zero, List.set_cons_succ]
  refine wpUpto_take (i := 7) (v := (.agg #[.int .i64 k.x, .int .i64 k.y])) rfl (by kernel_rfl) (by kernel_rfl) (by kernel_rfl) (by kernel_rfl) (fun _ _ _ h => h) (Or.inl ⟨by rfl, fun V hV => by obtain ⟨h0, h1, h2, h3, h4, h5, h6, h7, h8⟩ := hV; go_simp⟩) hH ?_
  try simp only [Act.put, List.setIfInBounds_toArray, List.set_cons_zero, List.set_cons_succ]
  refine wpUpto_take (i := 8) (v := (.pointer (some ⟨W, 0, none⟩))) rfl (by kernel_rfl) (by kernel_rfl) (by kernel_rfl) (by kernel_rfl) (fun _ _ _ h => h) (Or.inl ⟨by rfl, fun V hV => by go_simp⟩) hH ?_
  try simp only [Act.put, List.setIfInBounds_toArray, List.set_cons_zero, List.set_cons_succ]
  refine wpUpto_take (i := 9) (v := (.pointer (some ⟨W, 0, none⟩))) rfl (by kernel_rfl) (by kernel_rfl) (by kernel_rfl) (by kernel_rfl) (fun _ _ _ h => h) (Or.inl ⟨by rfl, fun V hV => by go_simp⟩) hH ?_
  try simp only [Act.put, List.setIfInBounds_toArray, List.set_cons_zero, List.set_cons_succ]
  refine wpUpto_take (i := 10) (v := (.pointer (some ⟨W, 2, none⟩))) rfl (by kernel_rfl) (by kernel_rfl) (by kernel_rfl) (by kernel_rfl) (fun _ _ _ h => h) (Or.inl ⟨by rfl, fun V hV => by go_simp⟩) hH ?_
  try simp only [Act.put, List.setIfInBounds_toArray, List.set_cons_zero, List.set_cons_succ]
  refine wpUpto_take (i := 11) (v := (.slice (some ⟨b, off + 3, none⟩) n (cc - 1))) rfl (by kernel_rfl) (by kernel_rfl) (by kernel_rfl) (by kernel_rfl) (fun _ _ _ h => h) (Or.inl ⟨by rfl, fun V hV => by obtain ⟨h0, h1, h2, h3, h4, h5, h6, h7, h8⟩ := hV; go_simp⟩) hH ?_
  try simp only [Act.put, List.setIfInBounds_toArray, List.set_cons_zero, List.set_cons_succ]
  refine wpUpto_take (i := 12) (v := (.pointer (some ⟨b, off + 3, none⟩))) rfl (by kernel_rfl) (by kernel_rfl) (by kernel_rfl) (by kernel_rfl) (fun _ _ _ h => h) (Or.inl ⟨by rfl, fun V hV => by (go_simp; intro h0; have := HNP.out; omega)⟩) hH ?_
  try simp only [Act.put, List.setIfInBounds_toArray, List.set_cons_zero, List.set_cons_succ]
  refine wpUpto_take (i := 13) (v := (.agg #[.int .i64 d.x, .int .i64 d.y, .int .i64 d.k])) rfl (by kernel_rfl) (by kernel_rfl) (by kernel_rfl) (by kernel_rfl) (fun _ _ _ h => h) (Or.inl ⟨by rfl, fun V hV => by obtain ⟨h0, h1, h2, h3, h4, h5, h6, h7, h8⟩ := hV; go_simp⟩) hH ?_
  try simp only [Act.put, List.setIfInBounds_toArray, List.set_cons_zero, List.set_cons_succ]
  refine wpUpto_one (i := 14) (by kernel_rfl) rfl (fun K hK => ?_)
  go_simp
  refine (placeOf_xyz d.x d.y _ U.drew).mono ?_
  rintro e w6 ⟨rfl, hb6⟩
  have HW6 := Lib.hid (HWd.out.below hb6)
  have hH6 := (show w6.cell? ⟨W, 3, none⟩ = some (.slice (some ⟨g, 0, none⟩) m pc) ∧ w6.cell? ⟨gc, 0, none⟩ = some (.int .i64 k.x) ∧ w6.cell? ⟨gc, 1, none⟩ = some (.int .i64 k.y) ∧ w6.cell? ⟨gf, 0, none⟩ = some (.int .i64 p.x) ∧ w6.cell? ⟨gf, 1, none⟩ = some (.int .i64 p.y) ∧ w6.cell? ⟨W, 2, none⟩ = some (.slice (some ⟨b, off + 3, none⟩) n (cc - 1)) ∧ w6.cell? ⟨b, off + 3, none⟩ = some (.int .i64 d.x) ∧ w6.cell? ⟨b, off + 3 + 1, none⟩ = some (.int .i64 d.y) ∧ w6.cell? ⟨b, off + 3 + 2, none⟩ = some (.int .i64 d.k) from ⟨keepC hb6 hH.1, keepC hb6 hH.2.1, keepC hb6 hH.2.2.1, keepC hb6 hH.2.2.2.1, keepC hb6 hH.2.2.2.2.1, keepC hb6 hH.2.2.2.2.2.1, keepC hb6 hH.2.2.2.2.2.2.1, keepC hb6 hH.2.2.2.2.2.2.2.1, keepC hb6 hH.2.2.2.2.2.2.2.2⟩)
  refine hK.out _ _ (fun _ => hH6) ?_
  clear hK K hH hb6
  try simp only [Act.put, List.setIfInBounds_toArray, List.set_cons_zero, List.set_cons_succ]
  refine wpUpto_one (i := 15) (by kernel_rfl) rfl (fun K hK => ?_)
  go_simp
  refine (middle_c k.sp d.sp w6 HF1.out HF2.out).mono ?_
  rintro e w7 ⟨rfl, hb7⟩
  have HW7 := Lib.hid (HW6.out.below hb7)
  have hH7 := (show w7.cell? ⟨W, 3, none⟩ = some (.slice (some ⟨g, 0, none⟩) m pc) ∧ w7.cell? ⟨gc, 0, none⟩ = some (.int .i64 k.x) ∧ w7.cell? ⟨gc, 1, none⟩ = some (.int .i64 k.y) ∧ w7.cell? ⟨gf, 0, none⟩ = some (.int .i64 p.x) ∧ w7.cell? ⟨gf, 1, none⟩ = some (.int .i64 p.y) ∧ w7.cell? ⟨W, 2, none⟩ = some (.slice (some ⟨b, off + 3, none⟩) n (cc - 1)) ∧ w7.cell? ⟨b, off + 3, none⟩ = some (.int .i64 d.x) ∧ w7.cell? ⟨b, off + 3 + 1, none⟩ = some (.int .i64 d.y) ∧ w7.cell? ⟨b, off + 3 + 2, none⟩ = some (.int .i64 d.k) from ⟨keepC hb7 hH6.1, keepC hb7 hH6.2.1, keepC hb7 hH6.2.2.1, keepC hb7 hH6.2.2.2.1, keepC hb7 hH6.2.2.2.2.1, keepC hb7 hH6.2.2.2.2.2.1, keepC hb7 hH6.2.2.2.2.2.2.1, keepC hb7 hH6.2.2.2.2.2.2.2.1, keepC hb7 hH6.2.2.2.2.2.2.2.2⟩)
  refine hK.out _ _ (fun _ => hH7) ?_
  clear hK K hH6 hb7
  try simp only [Act.put, List.setIfInBounds_toArray, List.set_cons_zero, List.set_cons_succ]
  refine wpUpto_one (i := 16) (by kernel_rfl) rfl (fun K hK => ?_)
  go_simp
  refine (appendQuad_h P m g pc w0.heap.size p k.sp (mid k.sp d.sp) w7 HM.out HW7.out.own HW7.out.bel.size HP.out HF3.out HF1.out HFM.out).mono ?_
  rintro e w8 ⟨g8, c8, rfl, ho8, hg8, hat8⟩
  have HG3 := HW7.out.grown3 hg8
  have u38 := HG3.1
  rw [HM.out] at u38
  have uf8 := HG3.2
  clear HG3
  have hH8 := (show w8.cell? ⟨W, 3, none⟩ = some (.slice (some ⟨g, 0, none⟩) m pc) ∧ w8.cell? ⟨gc, 0, none⟩ = some (.int .i64 k.x) ∧ w8.cell? ⟨gc, 1, none⟩ = some (.int .i64 k.y) ∧ w8.cell? ⟨gf, 0, none⟩ = some (.int .i64 p.x) ∧ w8.cell? ⟨gf, 1, none⟩ = some (.int .i64 p.y) ∧ w8.cell? ⟨W, 2, none⟩ = some (.slice (some ⟨b, off + 3, none⟩) n (cc - 1)) ∧ w8.cell? ⟨b, off + 3, none⟩ = some (.int .i64 d.x) ∧ w8.cell? ⟨b, off + 3 + 1, none⟩ = some (.int .i64 d.y) ∧ w8.cell? ⟨b, off + 3 + 2, none⟩ = some (.int .i64 d.k) from ⟨grown_cell hg8 hH7.1 HNG.out.1, grown_cell hg8 hH7.2.1 HNG.out.2.1, grown_cell hg8 hH7.2.2.1 HNG.out.2.1, grown_cell hg8 hH7.2.2.2.1 HNG.out.2.2.1, grown_cell hg8 hH7.2.2.2.2.1 HNG.out.2.2.1, grown_cell hg8 hH7.2.2.2.2.2.1 HNG.out.1, grown_cell hg8 hH7.2.2.2.2.2.2.1 HNG.out.2.2.2, grown_cell hg8 hH7.2.2.2.2.2.2.2.1 HNG.out.2.2.2, grown_cell hg8 hH7.2.2.2.2.2.2.2.2 HNG.out.2.2.2⟩)
  refine hK.out _ _ (fun _ => hH8) ?_
  clear hK K hH7
  have HW9 := Lib.hid (HW7.out.setP (m := P.length + (quadPts p k.sp (mid k.sp d.sp)).length) List.length_append ho8 hg8 hat8)
  clear ho8 hg8 hat8
  try simp only [Act.put, List.setIfInBounds_toArray, List.set_cons_zero, List.set_cons_succ]
  refine wpUpto_one (i := 17) (by kernel_rfl) rfl (fun K hK => ?_)
  go_simp
  refine hK.out _ _ (fun _ => hH8) ?_
  clear hK K
  try simp only [Act.put, List.setIfInBounds_toArray, List.set_cons_zero, List.set_cons_succ]
  refine wpUpto_one (i := 18) (by kernel_rfl) rfl (fun K hK => ?_)
  go_simp
  refine hK.out _ _ (fun _ => hH8) ?_
  clear hK K hH8
  try simp only [Act.put, List.setIfInBounds_toArray, List.set_cons_zero, List.set_cons_succ]
  refine wpUpto_one (i := 19) (by kernel_rfl) rfl (fun K hK => ?_)
  go_simp
  refine hK.out _ _ (fun h => absurd rfl h) ?_
  clear hK K
  try simp only [Act.put, List.setIfInBounds_toArray, List.set_cons_zero, List.set_cons_succ]
  refine wpUpto_done (by kernel_rfl) ?_ _
  go_wp2_with fail
  go_ret
  exact ⟨rfl, _, _, _, _, HW9.out⟩

set_option maxRecDepth 20000 in
set_option maxHeartbeats 2000000 in
theorem quad_bad (w0 : World) (W : Nat) (st : Sp) (ca : Option Addr) (cc : Nat) (k : Kn) (r : List Kn) (g pc : Nat) (P : List Sp) (p : Sp) (c : Bool) (w : World) (h : Wk w0 W st ca cc (k :: r) g pc P c w) (hp : P.length ≤ 1000000) (hl : P[P.length - 1]? = some p) (hpos : 0 < P.length) (d : Kn) (r2 : List Kn) (hr : r = d :: r2) (hd : ¬ d.k = 2) (hd1 : ¬ d.k = 1) :
    Calls Try.prog 75 #[.pointer (some ⟨W, 0, none⟩)] w fun e w' => e = .returned (.int .i64 61) ∧ Below w0.heap.size w0 w' := by
  obtain ⟨b, off, rfl, k0, k1, k2⟩ := h.read.knot (i := 0) (k := k) rfl
  simp only [Nat.zero_mul, Nat.add_zero] at k0 k1 k2
  have hlc := h.lc
  have hlt := h.lt
  have hbW : b < w0.heap.size := World.block_lt_of_cell? w0 _ (by have := h.com.knot (i := 0) (k := k) rfl; obtain ⟨b', o', e, q0, _⟩ := this; cases e; exact q0)
  obtain ⟨pb, po, hpe, p0, p1⟩ := (own_isR rfl h.own).spot hl
  simp only [Option.some.injEq, Addr.mk.injEq] at hpe
  obtain ⟨rfl, rfl, _⟩ := hpe
  simp only [Nat.zero_add] at p0 p1
  have HW := Lib.hid h
  have c2 := h.cs.c2
  have c3 := h.cs.c3
  obtain ⟨n, HN⟩ : ∃ n, Hid (r.length = n) := ⟨_, rfl⟩
  obtain ⟨m, HM⟩ : ∃ m, Hid (P.length = m) := ⟨_, rfl⟩
  simp only [List.length_cons] at c2 hlc
  rw [HN.out] at c2 hlc
  rw [HM.out] at c3 p0 p1 hpos
  have HP := Lib.hid hp
  have HLC := Lib.hid hlc
  have q1 : (0 : Int) < ((n + 1 : Nat) : Int) := by omega
  have q4 : (0 : Int) ≤ (m : Int) - 1 := by omega
  have q5 : (m : Int) - 1 < (m : Int) := by omega
  have q6 : (1 : Int) ≤ (m : Int) := by omega
  have t1 : ((m : Int) - 1).toNat = m - 1 := by omega
  have t2 : IntKind.i64.wrap ((m : Int) - 1) = (m : Int) - 1 := IntWalk.i64_in _ (by have := HP.out; have := HM.out; omega)
  have q7 : (m : Int) ≤ 1000000 := by have := HP.out; have := HM.out; omega
  have HBW := Lib.hid (And.intro hbW h.hW)
  have HQ0 := Lib.hid (And.intro c2 (And.intro c3 (And.intro p0 p1)))
  have HRE := Lib.hid hr
  have HD1 := Lib.hid hd1
  have HR1 : Hid (IsR clK w0 (some ⟨b, off + 3, none⟩) (d :: r2)) := by have := h.com.drop clK_length 1; simp only [List.drop_succ_cons, List.drop_zero] at this; rw [hr] at this; exact this
  have HNP : Hid (1 ≤ n) := by have := HN.out; rw [hr] at this; simp only [List.length_cons] at this; unfold Hid; omega
  clear hr hd1
  clear h hp hl hbW hlc
  go_enter Try.func75, Try.ntmps75
  go_wp2_with fail
  refine (placeOf_h k w).mono ?_
  rintro e w1 ⟨rfl, hb1⟩
  have HW1 := Lib.hid (HW.out.below hb1)
  have HQ1 : Hid (QBx (w1.alloc (.cells #[.int .i64 k.x, .int .i64 k.y] 47)) w1.heap.size w1.heap.size k.sp k.sp) := by constructor <;> simp [go_sem, Kn.sp]
  have HWa := Lib.hid (HW1.out.below ((Below.refl _ _).alloc (Nat.le_refl _) (.cells #[.int .i64 k.x, .int .i64 k.y] 47)))
  have a2 := keepA (keepC hb1 HQ0.out.1) (.cells #[.int .i64 k.x, .int .i64 k.y] 47)
  have a3 := keepA (keepC hb1 HQ0.out.2.1) (.cells #[.int .i64 k.x, .int .i64 k.y] 47)
  have ap0 := keepA (keepC hb1 HQ0.out.2.2.1) (.cells #[.int .i64 k.x, .int .i64 k.y] 47)
  have ap1 := keepA (keepC hb1 HQ0.out.2.2.2) (.cells #[.int .i64 k.x, .int .i64 k.y] 47)
  clear hb1 c2 c3 k0 k1 k2 p0 p1 hlt
  go_wp2_with fail
  generalize (w1.alloc (.cells #[.int .i64 k.x, .int .i64 k.y] 47)) = w2 at *
  have HGC : Hid (w1.heap.size ≠ W ∧ w1.heap.size ≠ g ∧ w0.heap.size ≤ w1.heap.size) := by have h1 := HW1.out.lt; have h2 := (ownsRow_cap HW1.out.own).2.2; have h3 := HW1.out.bel.size; exact ⟨by omega, by omega, h3⟩
  generalize w1.heap.size = gc at *
  have hl1 : W < w2.heap.size := HWa.out.lt
  have hl2 : g < w2.heap.size := (ownsRow_cap HWa.out.own).2.2
  go_region
  have HWb : Hid (Wk w0 W st (some ⟨b, off, none⟩) cc (k :: r) g pc P c (w2.alloc (.cells #[.int .i64 p.x, .int .i64 p.y] 47)).drew) := HWa.out.below ((Below.refl _ _).alloc (Nat.le_refl _) _).drew
  have HQb : Hid (QBx (w2.alloc (.cells #[.int .i64 p.x, .int .i64 p.y] 47)).drew gc w2.heap.size k.sp p) := ⟨keepA HQ1.out.c0 _, keepA HQ1.out.c1 _, by simp [go_sem], by simp [go_sem]⟩
  have HGL : Hid (gc < w2.heap.size ∧ w0.heap.size ≤ w2.heap.size) := ⟨World.block_lt_of_cell? w2 _ HQ1.out.c0, HWa.out.bel.size⟩
  generalize (w2.alloc (.cells #[.int .i64 p.x, .int .i64 p.y] 47)).drew = V at *
  generalize w2.heap.size = gf at *
  obtain ⟨b2, o2, e2, d0, d1, d2⟩ := (HR1.out.below HWb.out.bel).knot (i := 0) (k := d) rfl
  simp only [Option.some.injEq, Addr.mk.injEq] at e2
  obtain ⟨rfl, rfl, _⟩ := e2
  simp only [Nat.zero_mul, Nat.add_zero] at d0 d1 d2
  have hd' : (d.k == 2) = false := by simpa using hd
  have q8 : (1 : Int) < ((n + 1 : Nat) : Int) := by have := HNP.out; omega
  have v2 : V.cell? ⟨W, 2, none⟩ = some (.slice (some ⟨b, off, none⟩) (n + 1) cc) := by have := HWb.out.cs.c2; simp only [List.length_cons] at this; rw [HN.out] at this; exact this
  clear HWa HQ1 a2 a3 ap0 ap1
  go_wp2_with fail
  refine (curveEnd_bad1 w0 W st _ cc (k :: r) g pc P c V d HWb.out (by rw [HRE.out]; rfl) HD1.out).mono ?_
  rintro e w3 ⟨rfl, hb3⟩
  have HB3 := Lib.hid hb3
  clear hb3 d0 d1 d2 v2 hd'
  go_wp2_with fail
  go_ret
  exact ⟨rfl, HB3.out.alloc HB3.out.size _⟩

end Go.Proofs.Ythjhekmlhmljlaa
