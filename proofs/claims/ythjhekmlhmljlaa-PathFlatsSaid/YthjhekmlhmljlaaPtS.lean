/-
  What quad of package path gives: goes along a curve with one control.
-/
import Derived.Test.YthjhekmlhmljlaaPtR
import Derived.Test.YthjhekmlhmljlaaReg
namespace Go.Proofs.Ythjhekmlhmljlaa
open Go.RowKit Go.PlainAid
set_option linter.unusedSimpArgs false
set_option linter.unusedVariables false

theorem placeOf_xyz (x y z : Int) (w : World) : Calls Try.prog 42 #[.agg #[.int .i64 x, .int .i64 y, .int .i64 z]] w fun e w' => e = .returned (.agg #[.int .i64 x, .int .i64 y]) ∧ Below w.heap.size w w' := placeOf_c ⟨x, y, z⟩ w
theorem appendQuad_h (P : List Sp) (m g pc B : Nat) (a c b : Sp) (w : World) (hm : P.length = m) (hP : w.ownsRow B 47 2 (.slice (some ⟨g, 0, none⟩) P.length pc) P.length (P.flatMap clS)) (hB : B ≤ w.heap.size) (hl : P.length ≤ 1000000) (ha : FixS a) (hc : FixS c) (hb : FixS b) :
    Calls Try.prog 81 #[.slice (some ⟨g, 0, none⟩) m pc, spV a, spV c, spV b] w (PtsPost w B g (P ++ quadPts a c b)) := by
  subst hm
  exact appendQuad_c P g pc B a c b w hP hB hl ha hc hb
/-- The cell of the points, kept where their row grows. -/
theorem Wk.grown3 {w0 w w1 : World} {W cc g pc : Nat} {st : Sp} {ca : Option Addr} {L : List Kn} {P : List Sp} {c : Bool} (h : Wk w0 W st ca cc L g pc P c w) (hg : w.grownBy w1 (some g)) : w1.cell? ⟨W, 3, none⟩ = some (.slice (some ⟨g, 0, none⟩) P.length pc) ∧ w1.frozen? ⟨W, 3, none⟩ = false := by
  refine ⟨grown_cell hg h.cs.c3 (Ne.symm h.ne), ?_⟩
  rw [World.frozen?_of_block (a := ⟨W, 3, none⟩) (hg.block W h.lt (fun e => h.ne (by cases e; rfl)))]
  exact h.cs.f3
/-- Two points in two blocks. -/
structure QBx (V : World) (gc gf : Nat) (c f : Sp) : Prop where
  c0 : V.cell? ⟨gc, 0, none⟩ = some (.int .i64 c.x)
  c1 : V.cell? ⟨gc, 1, none⟩ = some (.int .i64 c.y)
  f0 : V.cell? ⟨gf, 0, none⟩ = some (.int .i64 f.x)
  f1 : V.cell? ⟨gf, 1, none⟩ = some (.int .i64 f.y)
theorem QBx.below {V V' : World} {gc gf : Nat} {c f : Sp} (h : QBx V gc gf c f) (hb : Below V.heap.size V V') : QBx V' gc gf c f := ⟨keepC hb h.c0, keepC hb h.c1, keepC hb h.f0, keepC hb h.f1⟩
theorem QBx.drew {V : World} {gc gf : Nat} {c f : Sp} (h : QBx V gc gf c f) : QBx V.drew gc gf c f := ⟨h.c0, h.c1, h.f0, h.f1⟩
theorem QBx.set {V : World} {gc gf : Nat} {c f : Sp} (h : QBx V gc gf c f) {b o : Nat} {u : Value} (h1 : b ≠ gc) (h2 : b ≠ gf) : QBx (V.setCell ⟨b, o, none⟩ u) gc gf c f := ⟨(keepS h1).trans h.c0, (keepS h1).trans h.c1, (keepS h2).trans h.f0, (keepS h2).trans h.f1⟩

theorem QBx.heap {V V' : World} {gc gf : Nat} {c f : Sp} (h : QBx V gc gf c f) (h1 : V'.heap[gc]? = V.heap[gc]?) (h2 : V'.heap[gf]? = V.heap[gf]?) : QBx V' gc gf c f :=
  ⟨(World.cell?_of_block (a := ⟨gc, 0, none⟩) h1).trans h.c0, (World.cell?_of_block (a := ⟨gc, 1, none⟩) h1).trans h.c1, (World.cell?_of_block (a := ⟨gf, 0, none⟩) h2).trans h.f0, (World.cell?_of_block (a := ⟨gf, 1, none⟩) h2).trans h.f1⟩


set_option maxRecDepth 20000 in
set_option maxHeartbeats 2000000 in
theorem quad_endA (w0 : World) (W : Nat) (st : Sp) (ca : Option Addr) (cc : Nat) (k : Kn) (r : List Kn) (g pc : Nat) (P : List Sp) (p : Sp) (c : Bool) (w : World) (h : Wk w0 W st ca cc (k :: r) g pc P c w) (hp : P.length ≤ 1000000) (hl : P[P.length - 1]? = some p) (hpos : 0 < P.length) (hr : r = []) (s : Sp) (L' : List Kn) (c' : Bool) (hce : ∀ V, Wk w0 W st ca cc (k :: r) g pc P c V → Calls Try.prog 82 #[.pointer (some ⟨W, 0, none⟩), .int .i64 1] V (EndPost w0 W st g pc P s L' c' V)) (hf1 : FixS k.sp) (hf2 : FixS s) (hf3 : FixS p) :
    Calls Try.prog 75 #[.pointer (some ⟨W, 0, none⟩)] w (StepPost w0 W st L' (P ++ quadPts p k.sp s) c') := by
  obtain ⟨b, off, rfl, k0, k1, k2⟩ := h.read.knot (i := 0) (k := k) rfl
  simp only [Nat.zero_mul, Nat.add_zero] at k0 k1 k2
  have hlc := h.lc
  have hlt := h.lt
  have hbW : b < w0.heap.size := World.block_lt_of_cell? w0 _ (by have := h.com.knot (i := 0) (k := k) rfl; obtain ⟨b', o', e, q0, _⟩ := this; cases e; exact q0)
  obtain ⟨pb, po, hpe, p0, p1⟩ := (own_isR rfl h.own).spot hl
  simp only [Option.some.injEq, Addr.mk.injEq] at hpe
  obtain ⟨rfl, rfl, _⟩ := hpe
  simp only [Nat.zero_add] at p0 p1
  have HW := Lib.hid h
  have c2 := h.cs.c2
  have c3 := h.cs.c3
  obtain ⟨n, HN⟩ : ∃ n, Hid (r.length = n) := ⟨_, rfl⟩
  obtain ⟨m, HM⟩ : ∃ m, Hid (P.length = m) := ⟨_, rfl⟩
  simp only [List.length_cons] at c2 hlc
  rw [HN.out] at c2 hlc
  rw [HM.out] at c3 p0 p1 hpos
  have HP := Lib.hid hp
  have HLC := Lib.hid hlc
  have q1 : (0 : Int) < ((n + 1 : Nat) : Int) := by omega
  have q4 : (0 : Int) ≤ (m : Int) - 1 := by omega
  have q5 : (m : Int) - 1 < (m : Int) := by omega
  have q6 : (1 : Int) ≤ (m : Int) := by omega
  have t1 : ((m : Int) - 1).toNat = m - 1 := by omega
  have t2 : IntKind.i64.wrap ((m : Int) - 1) = (m : Int) - 1 := IntWalk.i64_in _ (by have := HP.out; have := HM.out; omega)
  have q7 : (m : Int) ≤ 1000000 := by have := HP.out; have := HM.out; omega
  have HBW := Lib.hid (And.intro hbW h.hW)
  have HQ0 := Lib.hid (And.intro c2 (And.intro c3 (And.intro p0 p1)))
  have HF1 := Lib.hid hf1
  have HF2 := Lib.hid hf2
  have HF3 := Lib.hid hf3
  have HCE := Lib.hid hce
  have HN0 : Hid (n = 0) := by unfold Hid; rw [← HN.out, hr]; rfl
  have q8 : ¬ (1 : Int) < ((n + 1 : Nat) : Int) := by have := HN0.out; omega
  clear hf1 hf2 hf3 hce
  clear h hp hl hbW hlc
  go_enter Try.func75, Try.ntmps75
  go_wp2_with fail
  refine (placeOf_h k w).mono ?_
  rintro e w1 ⟨rfl, hb1⟩
  have HW1 := Lib.hid (HW.out.below hb1)
  have HQ1 : Hid (QBx (w1.alloc (.cells #[.int .i64 k.x, .int .i64 k.y] 47)) w1.heap.size w1.heap.size k.sp k.sp) := by constructor <;> simp [go_sem, Kn.sp]
  have HWa := Lib.hid (HW1.out.below ((Below.refl _ _).alloc (Nat.le_refl _) (.cells #[.int .i64 k.x, .int .i64 k.y] 47)))
  have a2 := keepA (keepC hb1 HQ0.out.1) (.cells #[.int .i64 k.x, .int .i64 k.y] 47)
  have a3 := keepA (keepC hb1 HQ0.out.2.1) (.cells #[.int .i64 k.x, .int .i64 k.y] 47)
  have ap0 := keepA (keepC hb1 HQ0.out.2.2.1) (.cells #[.int .i64 k.x, .int .i64 k.y] 47)
  have ap1 := keepA (keepC hb1 HQ0.out.2.2.2) (.cells #[.int .i64 k.x, .int .i64 k.y] 47)
  clear hb1 c2 c3 k0 k1 k2 p0 p1 hlt
  go_wp2_with fail
  generalize (w1.alloc (.cells #[.int .i64 k.x, .int .i64 k.y] 47)) = w2 at *
  have HGC : Hid (w1.heap.size ≠ W ∧ w1.heap.size ≠ g ∧ w0.heap.size ≤ w1.heap.size) := by have h1 := HW1.out.lt; have h2 := (ownsRow_cap HW1.out.own).2.2; have h3 := HW1.out.bel.size; exact ⟨by omega, by omega, h3⟩
  generalize w1.heap.size = gc at *
  have hl1 : W < w2.heap.size := HWa.out.lt
  have hl2 : g < w2.heap.size := (ownsRow_cap HWa.out.own).2.2
  go_region
  have HWb : Hid (Wk w0 W st (some ⟨b, off, none⟩) cc (k :: r) g pc P c (w2.alloc (.cells #[.int .i64 p.x, .int .i64 p.y] 47)).drew) := HWa.out.below ((Below.refl _ _).alloc (Nat.le_refl _) _).drew
  have HQb : Hid (QBx (w2.alloc (.cells #[.int .i64 p.x, .int .i64 p.y] 47)).drew gc w2.heap.size k.sp p) := ⟨keepA HQ1.out.c0 _, keepA HQ1.out.c1 _, by simp [go_sem], by simp [go_sem]⟩
  have HGL : Hid (gc < w2.heap.size ∧ w0.heap.size ≤ w2.heap.size) := ⟨World.block_lt_of_cell? w2 _ HQ1.out.c0, HWa.out.bel.size⟩
  generalize (w2.alloc (.cells #[.int .i64 p.x, .int .i64 p.y] 47)).drew = V at *
  have HSV : Hid (gc < V.heap.size ∧ w2.heap.size < V.heap.size) := ⟨World.block_lt_of_cell? V _ HQb.out.c0, World.block_lt_of_cell? V _ HQb.out.f0⟩
  generalize w2.heap.size = gf at *
  have v2 : V.cell? ⟨W, 2, none⟩ = some (.slice (some ⟨b, off, none⟩) (n + 1) cc) := by have := HWb.out.cs.c2; simp only [List.length_cons] at this; rw [HN.out] at this; exact this
  have HNE : Hid (gf ≠ W) := by have h3 := hl1; unfold Hid; omega
  clear HWa HQ1 a2 a3 ap0 ap1
  go_wp2_with fail
  refine (HCE.out V HWb.out).mono ?_
  rintro e w3 ⟨rfl, hsz, ca', cc', hwk, hkeep⟩
  have HW3 := Lib.hid (hwk.below ((Below.refl _ _).alloc (Nat.le_refl _) (.cells #[.int .i64 s.x, .int .i64 s.y] 47)))
  have HQ3 : Hid (QBx (w3.alloc (.cells #[.int .i64 s.x, .int .i64 s.y] 47)) gc gf k.sp p) := (HQb.out.heap (hkeep gc HSV.out.1 HGC.out.1) (hkeep gf HSV.out.2 HNE.out)).below ((Below.refl _ _).alloc (Nat.le_refl _) _)
  have HE3 : Hid (QBx (w3.alloc (.cells #[.int .i64 s.x, .int .i64 s.y] 47)) w3.heap.size w3.heap.size s s) := by constructor <;> simp [go_sem]
  have HWK := Lib.hid hwk
  clear hsz hwk hkeep v2 
  go_wp2_with fail
  generalize (w3.alloc (.cells #[.int .i64 s.x, .int .i64 s.y] 47)) = w4 at *
  have HGE : Hid (g < w3.heap.size) := (ownsRow_cap HWK.out.own).2.2
  generalize w3.heap.size = ge at *
  have u3 : w4.cell? ⟨W, 3, none⟩ = some (.slice (some ⟨g, 0, none⟩) m pc) := by have := HW3.out.cs.c3; rw [HM.out] at this; exact this
  have x0 := HQ3.out.c0
  have x1 := HQ3.out.c1
  have x2 := HQ3.out.f0
  have x3 := HQ3.out.f1
  have x4 := HE3.out.c0
  have x5 := HE3.out.c1
  have HNG : Hid (gc ≠ g ∧ gf ≠ g ∧ ge ≠ g) := ⟨HGC.out.2.1, by have := hl2; omega, by have := HGE.out; omega⟩
  have HW5 : Hid (Wk w0 W st ca' cc' L' g pc P c' w4.drew) := HW3.out.below (Below.refl _ _).drew
  refine wp_region_upto (fun V => V.cell? ⟨W, 3, none⟩ = some (.slice (some ⟨g, 0, none⟩) m pc) ∧ V.cell? ⟨gc, 0, none⟩ = some (.int .i64 k.x) ∧ V.cell? ⟨gc, 1, none⟩ = some (.int .i64 k.y) ∧ V.cell? ⟨gf, 0, none⟩ = some (.int .i64 p.x) ∧ V.cell? ⟨gf, 1, none⟩ = some (.int .i64 p.y) ∧ V.cell? ⟨ge, 0, none⟩ = some (.int .i64 s.x) ∧ V.cell? ⟨ge, 1, none⟩ = some (.int .i64 s.y)) 11 (by kernel_rfl) ⟨u3, x0, x1, x2, x3, x4, x5⟩ (fun hH => ?_)
  refine wpUpto_take (i := 0) (v := (.pointer (some ⟨W, 0, none⟩))) rfl (by kernel_rfl) (by kernel_rfl) (by kernel_rfl) (by kernel_rfl) (fun _ _ _ h => h) (Or.inl ⟨by rfl, fun V hV => by go_simp⟩) hH ?_
  try simp only [Act.put, List.setIfInBounds_toArray, List.set_cons_zero, List.set_cons_succ]
  refine wpUpto_take (i := 1) (v := (.pointer (some ⟨W, 0, none⟩))) rfl (by kernel_rfl) (by kernel_rfl) (by kernel_rfl) (by kernel_rfl) (fun _ _ _ h => h) (Or.inl ⟨by rfl, fun V hV => by go_simp⟩) hH ?_
  try simp only [Act.put, List.setIfInBounds_toArray, List.set_cons_zero, List.set_cons_succ]
  refine wpUpto_take (i := 2) (v := (.pointer (some ⟨W, 0, none⟩))) rfl (by kernel_rfl) (by kernel_rfl) (by kernel_rfl) (by kernel_rfl) (fun _ _ _ h => h) (Or.inl ⟨by rfl, fun V hV => by go_simp⟩) hH ?_
  try simp only [Act.put, List.setIfInBounds_toArray, List.set_cons_zero, List.set_cons_succ]
  refine wpUpto_take (i := 3) (v := (.pointer (some ⟨W, 3, none⟩))) rfl (by kernel_rfl) (by kernel_rfl) (by kernel_rfl) (by kernel_rfl) (fun _ _ _ h => h) (Or.inl ⟨by rfl, fun V hV => by go_simp⟩) hH ?_
  try simp only [Act.put, List.setIfInBounds_toArray, List.set_cons_zero, List.set_cons_succ]
  refine wpUpto_take (i := 4) (v := (.slice (some ⟨g, 0, none⟩) m pc)) rfl (by kernel_rfl) (by kernel_rfl) (by kernel_rfl) (by kernel_rfl) (fun _ _ _ h => h) (Or.inl ⟨by rfl, fun V hV => by obtain ⟨h0, h1, h2, h3, h4, h5, h6⟩ := hV; go_simp⟩) hH ?_
  try simp only [Act.put, List.setIfInBounds_toArray, List.set_cons_zero, List.set_cons_succ]
  refine wpUpto_take (i := 5) (v := (.agg #[.int .i64 p.x, .int .i64 p.y])) rfl (by kernel_rfl) (by kernel_rfl) (by kernel_rfl) (by kernel_rfl) (fun _ _ _ h => h) (Or.inl ⟨by rfl, fun V hV => by obtain ⟨h0, h1, h2, h3, h4, h5, h6⟩ := hV; go_simp⟩) hH ?_
  try simp only [Act.put, List.setIfInBounds_toArray, List.set_cons_zero, List.set_cons_succ]
  refine wpUpto_take (i := 6) (v := (.agg #[.int .i64 k.x, .int .i64 k.y])) rfl (by kernel_rfl) (by kernel_rfl) (by kernel_rfl) (by kernel_rfl) (fun _ _ _ h => h) (Or.inl ⟨by rfl, fun V hV => by obtain ⟨h0, h1, h2, h3, h4, h5, h6⟩ := hV; go_simp⟩) hH ?_
  try simp only [Act.put, List.setIfInBounds_toArray, List.set_cons_zero, List.set_cons_succ]
  refine wpUpto_take (i := 7) (v := (.agg #[.int .i64 s.x, .int .i64 s.y])) rfl (by kernel_rfl) (by kernel_rfl) (by kernel_rfl) (by kernel_rfl) (fun _ _ _ h => h) (Or.inl ⟨by rfl, fun V hV => by obtain ⟨h0, h1, h2, h3, h4, h5, h6⟩ := hV; go_simp⟩) hH ?_
  try simp only [Act.put, List.setIfInBounds_toArray, List.set_cons_zero, List.set_cons_succ]
  refine wpUpto_one (i := 8) (by kernel_rfl) rfl (fun K hK => ?_)
  go_simp
  refine (appendQuad_h P m g pc w0.heap.size p k.sp s w4.drew HM.out HW5.out.own HW5.out.bel.size HP.out HF3.out HF1.out HF2.out).mono ?_
  rintro e w8 ⟨g8, c8, rfl, ho8, hg8, hat8⟩
  have HG3 := HW5.out.grown3 hg8
  have u38 := HG3.1
  rw [HM.out] at u38
  have uf8 := HG3.2
  clear HG3
  refine hK.out _ _ (fun _ => ⟨u38, grown_cell hg8 hH.2.1 HNG.out.1, grown_cell hg8 hH.2.2.1 HNG.out.1, grown_cell hg8 hH.2.2.2.1 HNG.out.2.1, grown_cell hg8 hH.2.2.2.2.1 HNG.out.2.1, grown_cell hg8 hH.2.2.2.2.2.1 HNG.out.2.2, grown_cell hg8 hH.2.2.2.2.2.2 HNG.out.2.2⟩) ?_
  clear hK K hH
  try simp only [Act.put, List.setIfInBounds_toArray, List.set_cons_zero, List.set_cons_succ]
  have hH : w8.cell? ⟨W, 3, none⟩ = some (.slice (some ⟨g, 0, none⟩) m pc) ∧ w8.cell? ⟨gc, 0, none⟩ = some (.int .i64 k.x) ∧ w8.cell? ⟨gc, 1, none⟩ = some (.int .i64 k.y) ∧ w8.cell? ⟨gf, 0, none⟩ = some (.int .i64 p.x) ∧ w8.cell? ⟨gf, 1, none⟩ = some (.int .i64 p.y) ∧ w8.cell? ⟨ge, 0, none⟩ = some (.int .i64 s.x) ∧ w8.cell? ⟨ge, 1, none⟩ = some (.int .i64 s.y) := ⟨u38, grown_cell hg8 x0 HNG.out.1, grown_cell hg8 x1 HNG.out.1, grown_cell hg8 x2 HNG.out.2.1, grown_cell hg8 x3 HNG.out.2.1, grown_cell hg8 x4 HNG.out.2.2, grown_cell hg8 x5 HNG.out.2.2⟩
  refine wpUpto_one (i := 9) (by kernel_rfl) rfl (fun K hK => ?_)
  go_simp
  refine hK.out _ _ (fun _ => hH) ?_
  clear hK K
  try simp only [Act.put, List.setIfInBounds_toArray, List.set_cons_zero, List.set_cons_succ]
  refine wpUpto_one (i := 10) (by kernel_rfl) rfl (fun K hK => ?_)
  go_simp
  refine hK.out _ _ (fun _ => hH) ?_
  clear hK K
  try simp only [Act.put, List.setIfInBounds_toArray, List.set_cons_zero, List.set_cons_succ]
  have HW9 := Lib.hid (HW5.out.setP (m := P.length + (quadPts p k.sp s).length) List.length_append ho8 hg8 hat8)
  clear ho8 hg8 hat8 hH
  refine wpUpto_one (i := 11) (by kernel_rfl) rfl (fun K hK => ?_)
  go_simp
  refine hK.out _ _ (fun h => absurd rfl h) ?_
  clear hK K
  try simp only [Act.put, List.setIfInBounds_toArray, List.set_cons_zero, List.set_cons_succ]
  refine wpUpto_done (by kernel_rfl) ?_ _
  go_wp2_with fail
  go_ret
  exact ⟨rfl, _, _, _, _, HW9.out⟩

set_option maxRecDepth 20000 in
set_option maxHeartbeats 2000000 in
theorem quad_endB (w0 : World) (W : Nat) (st : Sp) (ca : Option Addr) (cc : Nat) (k : Kn) (r : List Kn) (g pc : Nat) (P : List Sp) (p : Sp) (c : Bool) (w : World) (h : Wk w0 W st ca cc (k :: r) g pc P c w) (hp : P.length ≤ 1000000) (hl : P[P.length - 1]? = some p) (hpos : 0 < P.length) (d : Kn) (r2 : List Kn) (hr : r = d :: r2) (hd : ¬ d.k = 2) (s : Sp) (L' : List Kn) (c' : Bool) (hce : ∀ V, Wk w0 W st ca cc (k :: r) g pc P c V → Calls Try.prog 82 #[.pointer (some ⟨W, 0, none⟩), .int .i64 1] V (EndPost w0 W st g pc P s L' c' V)) (hf1 : FixS k.sp) (hf2 : FixS s) (hf3 : FixS p) :
    Calls Try.prog 75 #[.pointer (some ⟨W, 0, none⟩)] w (StepPost w0 W st L' (P ++ quadPts p k.sp s) c') := by
  obtain ⟨b, off, rfl, k0, k1, k2⟩ := h.read.knot (i := 0) (k := k) rfl
  simp only [Nat.zero_mul, Nat.add_zero] at k0 k1 k2
  have hlc := h.lc
  have hlt := h.lt
  have hbW : b < w0.heap.size := World.block_lt_of_cell? w0 _ (by have := h.com.knot (i := 0) (k := k) rfl; obtain ⟨b', o', e, q0, _⟩ := this; cases e; exact q0)
  obtain ⟨pb, po, hpe, p0, p1⟩ := (own_isR rfl h.own).spot hl
  simp only [Option.some.injEq, Addr.mk.injEq] at hpe
  obtain ⟨rfl, rfl, _⟩ := hpe
  simp only [Nat.zero_add] at p0 p1
  have HW := Lib.hid h
  have c2 := h.cs.c2
  have c3 := h.cs.c3
  obtain ⟨n, HN⟩ : ∃ n, Hid (r.length = n) := ⟨_, rfl⟩
  obtain ⟨m, HM⟩ : ∃ m, Hid (P.length = m) := ⟨_, rfl⟩
  simp only [List.length_cons] at c2 hlc
  rw [HN.out] at c2 hlc
  rw [HM.out] at c3 p0 p1 hpos
  have HP := Lib.hid hp
  have HLC := Lib.hid hlc
  have q1 : (0 : Int) < ((n + 1 : Nat) : Int) := by omega
  have q4 : (0 : Int) ≤ (m : Int) - 1 := by omega
  have q5 : (m : Int) - 1 < (m : Int) := by omega
  have q6 : (1 : Int) ≤ (m : Int) := by omega
  have t1 : ((m : Int) - 1).toNat = m - 1 := by omega
  have t2 : IntKind.i64.wrap ((m : Int) - 1) = (m : Int) - 1 := IntWalk.i64_in _ (by have := HP.out; have := HM.out; omega)
  have q7 : (m : Int) ≤ 1000000 := by have := HP.out; have := HM.out; omega
  have HBW := Lib.hid (And.intro hbW h.hW)
  have HQ0 := Lib.hid (And.intro c2 (And.intro c3 (And.intro p0 p1)))
  have HF1 := Lib.hid hf1
  have HF2 := Lib.hid hf2
  have HF3 := Lib.hid hf3
  have HCE := Lib.hid hce
  have HR1 : Hid (IsR clK w0 (some ⟨b, off + 3, none⟩) (d :: r2)) := by have := h.com.drop clK_length 1; simp only [List.drop_succ_cons, List.drop_zero] at this; rw [hr] at this; exact this
  have HNP : Hid (1 ≤ n) := by have := HN.out; rw [hr] at this; simp only [List.length_cons] at this; unfold Hid; omega
  clear hf1 hf2 hf3 hce
  clear h hp hl hbW hlc
  go_enter Try.func75, Try.ntmps75
  go_wp2_with fail
  refine (placeOf_h k w).mono ?_
  rintro e w1 ⟨rfl, hb1⟩
  have HW1 := Lib.hid (HW.out.below hb1)
  have HQ1 : Hid (QBx (w1.alloc (.cells #[.int .i64 k.x, .int .i64 k.y] 47)) w1.heap.size w1.heap.size k.sp k.sp) := by constructor <;> simp [go_sem, Kn.sp]
  have HWa := Lib.hid (HW1.out.below ((Below.refl _ _).alloc (Nat.le_refl _) (.cells #[.int .i64 k.x, .int .i64 k.y] 47)))
  have a2 := keepA (keepC hb1 HQ0.out.1) (.cells #[.int .i64 k.x, .int .i64 k.y] 47)
  have a3 := keepA (keepC hb1 HQ0.out.2.1) (.cells #[.int .i64 k.x, .int .i64 k.y] 47)
  have ap0 := keepA (keepC hb1 HQ0.out.2.2.1) (.cells #[.int .i64 k.x, .int .i64 k.y] 47)
  have ap1 := keepA (keepC hb1 HQ0.out.2.2.2) (.cells #[.int .i64 k.x, .int .i64 k.y] 47)
  clear hb1 c2 c3 k0 k1 k2 p0 p1 hlt
  go_wp2_with fail
  generalize (w1.alloc (.cells #[.int .i64 k.x, .int .i64 k.y] 47)) = w2 at *
  have HGC : Hid (w1.heap.size ≠ W ∧ w1.heap.size ≠ g ∧ w0.heap.size ≤ w1.heap.size) := by have h1 := HW1.out.lt; have h2 := (ownsRow_cap HW1.out.own).2.2; have h3 := HW1.out.bel.size; exact ⟨by omega, by omega, h3⟩
  generalize w1.heap.size = gc at *
  have hl1 : W < w2.heap.size := HWa.out.lt
  have hl2 : g < w2.heap.size := (ownsRow_cap HWa.out.own).2.2
  go_region
  have HWb : Hid (Wk w0 W st (some ⟨b, off, none⟩) cc (k :: r) g pc P c (w2.alloc (.cells #[.int .i64 p.x, .int .i64 p.y] 47)).drew) := HWa.out.below ((Below.refl _ _).alloc (Nat.le_refl _) _).drew
  have HQb : Hid (QBx (w2.alloc (.cells #[.int .i64 p.x, .int .i64 p.y] 47)).drew gc w2.heap.size k.sp p) := ⟨keepA HQ1.out.c0 _, keepA HQ1.out.c1 _, by simp [go_sem], by simp [go_sem]⟩
  have HGL : Hid (gc < w2.heap.size ∧ w0.heap.size ≤ w2.heap.size) := ⟨World.block_lt_of_cell? w2 _ HQ1.out.c0, HWa.out.bel.size⟩
  generalize (w2.alloc (.cells #[.int .i64 p.x, .int .i64 p.y] 47)).drew = V at *
  have HSV : Hid (gc < V.heap.size ∧ w2.heap.size < V.heap.size) := ⟨World.block_lt_of_cell? V _ HQb.out.c0, World.block_lt_of_cell? V _ HQb.out.f0⟩
  generalize w2.heap.size = gf at *
  obtain ⟨b2, o2, e2, d0, d1, d2⟩ := (HR1.out.below HWb.out.bel).knot (i := 0) (k := d) rfl
  simp only [Option.some.injEq, Addr.mk.injEq] at e2
  obtain ⟨rfl, rfl, _⟩ := e2
  simp only [Nat.zero_mul, Nat.add_zero] at d0 d1 d2
  have hd' : (d.k == 2) = false := by simpa using hd
  have q8 : (1 : Int) < ((n + 1 : Nat) : Int) := by have := HNP.out; omega
  have v2 : V.cell? ⟨W, 2, none⟩ = some (.slice (some ⟨b, off, none⟩) (n + 1) cc) := by have := HWb.out.cs.c2; simp only [List.length_cons] at this; rw [HN.out] at this; exact this
  have HNE : Hid (gf ≠ W) := by have h3 := hl1; unfold Hid; omega
  clear HWa HQ1 a2 a3 ap0 ap1
  go_wp2_with fail
  refine (HCE.out V HWb.out).mono ?_
  rintro e w3 ⟨rfl, hsz, ca', cc', hwk, hkeep⟩
  have HW3 := Lib.hid (hwk.below ((Below.refl _ _).alloc (Nat.le_refl _) (.cells #[.int .i64 s.x, .int .i64 s.y] 47)))
  have HQ3 : Hid (QBx (w3.alloc (.cells #[.int .i64 s.x, .int .i64 s.y] 47)) gc gf k.sp p) := (HQb.out.heap (hkeep gc HSV.out.1 HGC.out.1) (hkeep gf HSV.out.2 HNE.out)).below ((Below.refl _ _).alloc (Nat.le_refl _) _)
  have HE3 : Hid (QBx (w3.alloc (.cells #[.int .i64 s.x, .int .i64 s.y] 47)) w3.heap.size w3.heap.size s s) := by constructor <;> simp [go_sem]
  have HWK := Lib.hid hwk
  clear hsz hwk hkeep v2 d0 d1 d2 hd'
  go_wp2_with fail
  generalize (w3.alloc (.cells #[.int .i64 s.x, .int .i64 s.y] 47)) = w4 at *
  have HGE : Hid (g < w3.heap.size) := (ownsRow_cap HWK.out.own).2.2
  generalize w3.heap.size = ge at *
  have u3 : w4.cell? ⟨W, 3, none⟩ = some (.slice (some ⟨g, 0, none⟩) m pc) := by have := HW3.out.cs.c3; rw [HM.out] at this; exact this
  have x0 := HQ3.out.c0
  have x1 := HQ3.out.c1
  have x2 := HQ3.out.f0
  have x3 := HQ3.out.f1
  have x4 := HE3.out.c0
  have x5 := HE3.out.c1
  have HNG : Hid (gc ≠ g ∧ gf ≠ g ∧ ge ≠ g) := ⟨HGC.out.2.1, by have := hl2; omega, by have := HGE.out; omega⟩
  have HW5 : Hid (Wk w0 W st ca' cc' L' g pc P c' w4.drew) := HW3.out.below (Below.refl _ _).drew
  refine wp_region_upto (fun V => V.cell? ⟨W, 3, none⟩ = some (.slice (some ⟨g, 0, none⟩) m pc) ∧ V.cell? ⟨gc, 0, none⟩ = some (.int .i64 k.x) ∧ V.cell? ⟨gc, 1, none⟩ = some (.int .i64 k.y) ∧ V.cell? ⟨gf, 0, none⟩ = some (.int .i64 p.x) ∧ V.cell? ⟨gf, 1, none⟩ = some (.int .i64 p.y) ∧ V.cell? ⟨ge, 0, none⟩ = some (.int .i64 s.x) ∧ V.cell? ⟨ge, 1, none⟩ = some (.int .i64 s.y)) 11 (by kernel_rfl) ⟨u3, x0, x1, x2, x3, x4, x5⟩ (fun hH => ?_)
  refine wpUpto_take (i := 0) (v := (.pointer (some ⟨W, 0, none⟩))) rfl (by kernel_rfl) (by kernel_rfl) (by kernel_rfl) (by kernel_rfl) (fun _ _ _ h => h) (Or.inl ⟨by rfl, fun V hV => by go_simp⟩) hH ?_
  try simp only [Act.put, List.setIfInBounds_toArray, List.set_cons_zero, List.set_cons_succ]
  refine wpUpto_take (i := 1) (v := (.pointer (some ⟨W, 0, none⟩))) rfl (by kernel_rfl) (by kernel_rfl) (by kernel_rfl) (by kernel_rfl) (fun _ _ _ h => h) (Or.inl ⟨by rfl, fun V hV => by go_simp⟩) hH ?_
  try simp only [Act.put, List.setIfInBounds_toArray, List.set_cons_zero, List.set_cons_succ]
  refine wpUpto_take (i := 2) (v := (.pointer (some ⟨W, 0, none⟩))) rfl (by kernel_rfl) (by kernel_rfl) (by kernel_rfl) (by kernel_rfl) (fun _ _ _ h => h) (Or.inl ⟨by rfl, fun V hV => by go_simp⟩) hH ?_
  try simp only [Act.put, List.setIfInBounds_toArray, List.set_cons_zero, List.set_cons_succ]
  refine wpUpto_take (i := 3) (v := (.pointer (some ⟨W, 3, none⟩))) rfl (by kernel_rfl) (by kernel_rfl) (by kernel_rfl) (by kernel_rfl) (fun _ _ _ h => h) (Or.inl ⟨by rfl, fun V hV => by go_simp⟩) hH ?_
  try simp only [Act.put, List.setIfInBounds_toArray, List.set_cons_zero, List.set_cons_succ]
  refine wpUpto_take (i := 4) (v := (.slice (some ⟨g, 0, none⟩) m pc)) rfl (by kernel_rfl) (by kernel_rfl) (by kernel_rfl) (by kernel_rfl) (fun _ _ _ h => h) (Or.inl ⟨by rfl, fun V hV => by obtain ⟨h0, h1, h2, h3, h4, h5, h6⟩ := hV; go_simp⟩) hH ?_
  try simp only [Act.put, List.setIfInBounds_toArray, List.set_cons_zero, List.set_cons_succ]
  refine wpUpto_take (i := 5) (v := (.agg #[.int .i64 p.x, .int .i64 p.y])) rfl (by kernel_rfl) (by kernel_rfl) (by kernel_rfl) (by kernel_rfl) (fun _ _ _ h => h) (Or.inl ⟨by rfl, fun V hV => by obtain ⟨h0, h1, h2, h3, h4, h5, h6⟩ := hV; go_simp⟩) hH ?_
  try simp only [Act.put, List.setIfInBounds_toArray, List.set_cons_zero, List.set_cons_succ]
  refine wpUpto_take (i := 6) (v := (.agg #[.int .i64 k.x, .int .i64 k.y])) rfl (by kernel_rfl) (by kernel_rfl) (by kernel_rfl) (by kernel_rfl) (fun _ _ _ h => h) (Or.inl ⟨by rfl, fun V hV => by obtain ⟨h0, h1, h2, h3, h4, h5, h6⟩ := hV; go_simp⟩) hH ?_
  try simp only [Act.put, List.setIfInBounds_toArray, List.set_cons_zero, List.set_cons_succ]
  refine wpUpto_take (i := 7) (v := (.agg #[.int .i64 s.x, .int .i64 s.y])) rfl (by kernel_rfl) (by kernel_rfl) (by kernel_rfl) (by kernel_rfl) (fun _ _ _ h => h) (Or.inl ⟨by rfl, fun V hV => by obtain ⟨h0, h1, h2, h3, h4, h5, h6⟩ := hV; go_simp⟩) hH ?_
  try simp only [Act.put, List.setIfInBounds_toArray, List.set_cons_zero, List.set_cons_succ]
  refine wpUpto_one (i := 8) (by kernel_rfl) rfl (fun K hK => ?_)
  go_simp
  refine (appendQuad_h P m g pc w0.heap.size p k.sp s w4.drew HM.out HW5.out.own HW5.out.bel.size HP.out HF3.out HF1.out HF2.out).mono ?_
  rintro e w8 ⟨g8, c8, rfl, ho8, hg8, hat8⟩
  have HG3 := HW5.out.grown3 hg8
  have u38 := HG3.1
  rw [HM.out] at u38
  have uf8 := HG3.2
  clear HG3
  refine hK.out _ _ (fun _ => ⟨u38, grown_cell hg8 hH.2.1 HNG.out.1, grown_cell hg8 hH.2.2.1 HNG.out.1, grown_cell hg8 hH.2.2.2.1 HNG.out.2.1, grown_cell hg8 hH.2.2.2.2.1 HNG.out.2.1, grown_cell hg8 hH.2.2.2.2.2.1 HNG.out.2.2, grown_cell hg8 hH.2.2.2.2.2.2 HNG.out.2.2⟩) ?_
  clear hK K hH
  try simp only [Act.put, List.setIfInBounds_toArray, List.set_cons_zero, List.set_cons_succ]
  have hH : w8.cell? ⟨W, 3, none⟩ = some (.slice (some ⟨g, 0, none⟩) m pc) ∧ w8.cell? ⟨gc, 0, none⟩ = some (.int .i64 k.x) ∧ w8.cell? ⟨gc, 1, none⟩ = some (.int .i64 k.y) ∧ w8.cell? ⟨gf, 0, none⟩ = some (.int .i64 p.x) ∧ w8.cell? ⟨gf, 1, none⟩ = some (.int .i64 p.y) ∧ w8.cell? ⟨ge, 0, none⟩ = some (.int .i64 s.x) ∧ w8.cell? ⟨ge, 1, none⟩ = some (.int .i64 s.y) := ⟨u38, grown_cell hg8 x0 HNG.out.1, grown_cell hg8 x1 HNG.out.1, grown_cell hg8 x2 HNG.out.2.1, grown_cell hg8 x3 HNG.out.2.1, grown_cell hg8 x4 HNG.out.2.2, grown_cell hg8 x5 HNG.out.2.2⟩
  refine wpUpto_one (i := 9) (by kernel_rfl) rfl (fun K hK => ?_)
  go_simp
  refine hK.out _ _ (fun _ => hH) ?_
  clear hK K
  try simp only [Act.put, List.setIfInBounds_toArray, List.set_cons_zero, List.set_cons_succ]
  refine wpUpto_one (i := 10) (by kernel_rfl) rfl (fun K hK => ?_)
  go_simp
  refine hK.out _ _ (fun _ => hH) ?_
  clear hK K
  try simp only [Act.put, List.setIfInBounds_toArray, List.set_cons_zero, List.set_cons_succ]
  have HW9 := Lib.hid (HW5.out.setP (m := P.length + (quadPts p k.sp s).length) List.length_append ho8 hg8 hat8)
  clear ho8 hg8 hat8 hH
  refine wpUpto_one (i := 11) (by kernel_rfl) rfl (fun K hK => ?_)
  go_simp
  refine hK.out _ _ (fun h => absurd rfl h) ?_
  clear hK K
  try simp only [Act.put, List.setIfInBounds_toArray, List.set_cons_zero, List.set_cons_succ]
  refine wpUpto_done (by kernel_rfl) ?_ _
  go_wp2_with fail
  go_ret
  exact ⟨rfl, _, _, _, _, HW9.out⟩

end Go.Proofs.Ythjhekmlhmljlaa
