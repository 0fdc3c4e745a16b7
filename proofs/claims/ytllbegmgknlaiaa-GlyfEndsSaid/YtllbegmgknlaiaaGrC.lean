/-
  Glyphs that hold glyphs, and no others: what placed, putTogether, outline and glyph answer for a table all of whose glyphs are put together of parts, whose first part is again one of them: refused as too many, at whatever depth one begins.
-/
import Derived.Test.YtllbegmgknlaiaaGrB
import Derived.BigQuiet
namespace Go.Proofs.Ytllbegmgknlaiaa
open Go.RowKit Go.PlainAid
set_option linter.unusedSimpArgs false
set_option linter.unusedVariables false

/-- The decoder D: its view V of the bytes s, its places L, k parts so far. -/
structure Dcd (w : World) (D V P c : Nat) (s : ByteArray) (L : List Int) (k : Int) : Prop where
  tab : w.cell? ⟨D, 0, none⟩ = some (.pointer (some ⟨V, 0, none⟩))
  pl : w.cell? ⟨D, 1, none⟩ = some (.slice (some ⟨P, 0, none⟩) L.length c)
  cnt : w.cell? ⟨D, 2, none⟩ = some (.int .i64 k)
  free : w.frozen? ⟨D, 2, none⟩ = false
  text : w.cell? ⟨V, 0, none⟩ = some (.string s)
  rows : ∀ (i : Nat) (x : Int), L[i]? = some x → w.cell? ⟨P, i, none⟩ = some (.int .i64 x)
  vD : V < D
  pD : P < D
theorem Dcd.lt {w : World} {D V P c : Nat} {s : ByteArray} {L : List Int} {k : Int} (h : Dcd w D V P c s L k) : D < w.heap.size := World.block_lt_of_cell? w _ h.tab
theorem Dcd.below {w w' : World} {D V P c : Nat} {s : ByteArray} {L : List Int} {k : Int} (h : Dcd w D V P c s L k) (hb : Below w.heap.size w w') : Dcd w' D V P c s L k where
  tab := keepC hb h.tab
  pl := keepC hb h.pl
  cnt := keepC hb h.cnt
  free := keepF hb h.cnt h.free
  text := keepC hb h.text
  rows := fun i x hx => keepC hb (h.rows i x hx)
  vD := h.vD
  pD := h.pD
theorem Dcd.alloc {w : World} {D V P c : Nat} {s : ByteArray} {L : List Int} {k : Int} (h : Dcd w D V P c s L k) (o : Obj) : Dcd (w.alloc o) D V P c s L k := h.below ((Below.refl _ _).alloc (Nat.le_refl _) _)
theorem Dcd.grown {w w' : World} {D V P c R : Nat} {s : ByteArray} {L : List Int} {k : Int} (h : Dcd w D V P c s L k) (hg : w.grownBy w' (some R)) (hR : D < R) : Dcd w' D V P c s L k where
  tab := grown_cell hg (by omega) h.tab
  pl := grown_cell hg (by omega) h.pl
  cnt := grown_cell hg (by omega) h.cnt
  free := grown_frozen hg (by omega) h.cnt h.free
  text := grown_cell hg (by have := h.vD; omega) h.text
  rows := fun i x hx => grown_cell hg (by have := h.pD; omega) (h.rows i x hx)
  vD := h.vD
  pD := h.pD
theorem Dcd.more {w : World} {D V P c : Nat} {s : ByteArray} {L : List Int} {k : Int} (h : Dcd w D V P c s L k) (q : Int) : Dcd (w.setCell ⟨D, 2, none⟩ (.int .i64 q)) D V P c s L q where
  tab := (World.cell?_setCell_other w _ _ _ (fun e => by cases e)).trans h.tab
  pl := (World.cell?_setCell_other w _ _ _ (fun e => by cases e)).trans h.pl
  cnt := World.cell?_setCell_same w _ _ h.cnt
  free := by simpa using h.free
  text := (World.cell?_setCell_other w _ _ _ (fun e => by cases e)).trans h.text
  rows := fun i x hx => (World.cell?_setCell_other w _ _ _ (fun e => by cases e; exact absurd h.pD (Nat.lt_irrefl _))).trans (h.rows i x hx)
  vD := h.vD
  pD := h.pD

/-- The bytes of a glyph whose first part is one of n glyphs less one. -/
structure GlyT (t : ByteArray) (n fl h a b c d dx dy : Int) : Prop where
  small : (t.size : Int) ≤ 1000000
  sign : numOr t 0 2 = (65535, 0)
  box0 : numOr t 2 2 = (a, 0)
  box1 : numOr t 4 2 = (b, 0)
  box2 : numOr t 6 2 = (c, 0)
  box3 : numOr t 8 2 = (d, 0)
  flag : numOr t 10 2 = (fl, 0)
  glyph : numOr t 12 2 = (h, 0)
  sx : numOr t 14 2 = (dx, 0)
  sy : numOr t 16 2 = (dy, 0)
  plain : Plain fl
  lo : 0 ≤ h
  hi : h + 1 < n
/-- A table all of whose glyphs are of this make. -/
def Tbl (s : ByteArray) (L : List Int) : Prop := (s.size : Int) ≤ 1000000 ∧ (L.length : Int) ≤ 1000000 ∧ ∀ g : Nat, g + 1 < L.length → ∃ p q : Nat, L[g]? = some (p : Int) ∧ L[g + 1]? = some (q : Int) ∧ p ≤ q ∧ q ≤ s.size ∧ ∃ fl h a b c d dx dy, GlyT (s.extract p q) L.length fl h a b c d dx dy

/-- All blocks that were there are as they were, but for those of S. -/
structure Kb (S : Nat → Prop) (w w' : World) : Prop where
  os : w'.os = w.os
  tape : w'.tape = w.tape
  output : w'.output = w.output
  size : w.heap.size ≤ w'.heap.size
  block : ∀ b, b < w.heap.size → ¬ S b → w'.heap[b]? = w.heap[b]?
theorem Kb.trans {S T : Nat → Prop} {a b c : World} (h : Kb S a b) (k : Kb T b c) (hT : ∀ i, i < a.heap.size → T i → S i) : Kb S a c :=
  ⟨k.os.trans h.os, k.tape.trans h.tape, k.output.trans h.output, Nat.le_trans h.size k.size, fun i hi hs => (k.block i (Nat.lt_of_lt_of_le hi h.size) (fun ht => hs (hT i hi ht))).trans (h.block i hi hs)⟩
theorem kb_bel {S : Nat → Prop} {a b : World} (h : Below a.heap.size a b) : Kb S a b := ⟨h.os, h.tape, h.output, h.size, fun i hi _ => h.block i hi⟩
theorem kb_grown {a b : World} {R : Nat} (h : a.grownBy b (some R)) : Kb (fun i => i = R) a b := ⟨h.os, h.tape, h.output, h.size, fun i hi hs => h.block i hi (fun e => hs (by cases e; rfl))⟩
theorem Kb.set {S : Nat → Prop} {a b : World} (h : Kb S a b) {A o : Nat} {u : Value} (hA : S A ∨ a.heap.size ≤ A) : Kb S a (b.setCell ⟨A, o, none⟩ u) :=
  ⟨h.os, h.tape, h.output, by simpa using h.size, fun i hi hs => (Below.heap_setCell b _ u i (by rintro rfl; rcases hA with hA | hA; exact hs hA; exact absurd hi (Nat.not_lt.2 hA))).trans (h.block i hi hs)⟩
theorem Kb.alloc {S : Nat → Prop} {a b : World} (h : Kb S a b) (o : Obj) : Kb S a (b.alloc o) := h.trans (T := fun _ => False) (kb_bel ((Below.refl _ _).alloc (Nat.le_refl _) _)) (fun _ _ h => h.elim)
theorem Kb.blk {S : Nat → Prop} {a b : World} (h : Kb S a b) {A : Nat} {o : Obj} (hA : ¬ S A) (hc : a.heap[A]? = some o) : b.heap[A]? = some o := (h.block A (Array.getElem?_eq_some_iff.1 hc).1 hA).trans hc
theorem Kb.below {S : Nat → Prop} {a b : World} (h : Kb S a b) {B : Nat} (hB : ∀ i, S i → B ≤ i) (hz : B ≤ a.heap.size) : Below B a b := ⟨h.os, h.tape, h.output, h.size, fun i hi => h.block i (by omega) (fun hs => by have := hB i hs; omega)⟩

/-- A glyph of the table, so deep, is refused. -/
def Bad (s : ByteArray) (L : List Int) (dep : Int) : Prop := ∀ (w : World) (D V P c g : Nat) (k : Int), Dcd w D V P c s L k → 0 ≤ k → k + (9 - dep) ≤ 250 → g + 1 < L.length →
  Calls Try.prog 25 #[.pointer (some ⟨D, 0, none⟩), .int .i64 g, .int .i64 dep] w fun e w' => e = .returned (.tuple #[.agg #[.slice none 0 0, .slice none 0 0], .int .i64 73]) ∧ Kb (fun i => i = D) w w'

set_option maxHeartbeats 1000000 in
theorem placed_b (s : ByteArray) (L : List Int) (dep : Int) (hB : Bad s L dep) (w : World) (D V P c g : Nat) (k fl dx dy : Int) (hd : Dcd w D V P c s L k) (hk : 0 ≤ k) (hk2 : k + (9 - dep) ≤ 250) (hg : g + 1 < L.length) :
    Calls Try.prog 47 #[.pointer (some ⟨D, 0, none⟩), .agg #[.int .i64 fl, .int .i64 g, .int .i64 dx, .int .i64 dy, .int .i64 16384, .int .i64 0, .int .i64 0, .int .i64 16384], .int .i64 dep] w fun e w' => e = .returned (.tuple #[.slice none 0 0, .int .i64 73]) ∧ Kb (fun i => i = D) w w' := by
  have HB := Lib.hid (hB _ D V P c g k (hd.alloc (.cells #[.int .i64 fl, .int .i64 g, .int .i64 dx, .int .i64 dy, .int .i64 16384, .int .i64 0, .int .i64 0, .int .i64 16384] 82)) hk hk2 hg)
  have HD := Lib.hid hd.lt
  clear hB hd hk hk2 hg
  go_enter Try.func47, Try.ntmps47
  go_wp2_with fail
  refine HB.out.mono ?_
  rintro e w1 ⟨rfl, hb⟩
  have HB1 : Hid (Kb (fun i => i = D) w w1) := (kb_bel ((Below.refl _ _).alloc (Nat.le_refl _) _)).trans hb (fun _ _ h => h)
  clear hb
  go_wp2_with fail
  go_ret2
  exact ⟨rfl, HB1.out.alloc _⟩

set_option maxHeartbeats 1000000 in
theorem together_b (s : ByteArray) (L : List Int) (dep dep1 : Int) (hB : Bad s L dep1) (w : World) (D V P c R U g : Nat) (k p fl dx dy : Int) (t : ByteArray) (hd : Dcd w D V P c s L k) (hr : Rdr w R U t p) (hDR : D < R) (hUD : D < U) (ht : (t.size : Int) ≤ 1000000)
    (hk : 0 ≤ k) (hk2 : k + (9 - dep) ≤ 250) (hdep : 0 ≤ dep) (hdep2 : dep ≤ 9) (h1 : dep1 = dep + 1) (hg : g + 1 < L.length) (hpl : Plain fl)
    (X0 : Hid (numOr t p 2 = (fl, 0))) (X1 : Hid (numOr t (p + 2) 2 = ((g : Int), 0))) (X2 : Hid (numOr t (p + 4) 2 = (dx, 0))) (X3 : Hid (numOr t (p + 6) 2 = (dy, 0))) :
    Calls Try.prog 36 #[.pointer (some ⟨D, 0, none⟩), .pointer (some ⟨R, 0, none⟩), .int .i64 dep] w fun e w' => e = .returned (.tuple #[.slice none 0 0, .int .i64 73]) ∧ Kb (fun i => i = D ∨ i = R) w w' := by
  have HD := Lib.hid hd
  have HR := Lib.hid hr
  have c2 := hd.cnt
  have f2 := hd.free
  have hk3 : ¬ k = 256 := by omega
  have hw : wrap64 (k + 1) = k + 1 := by unfold wrap64; omega
  have hw2 : wrap64 (dep + 1) = dep1 := by unfold wrap64; omega
  have HK := Lib.hid (And.intro hk hk2)
  have HDR := Lib.hid hDR
  have HUD := Lib.hid hUD
  have HT := Lib.hid ht
  have HG := Lib.hid hg
  have HPL := Lib.hid hpl
  have H1 := Lib.hid h1
  have HB := Lib.hid hB
  have HD1 := Lib.hid (hd.more (k + 1))
  have HR1 := Lib.hid (hr.other (A := D) (o := 2) (.int .i64 (k + 1)) (by omega) (by omega))
  have HW1 : Hid (Kb (fun i => i = D ∨ i = R) w (w.setCell ⟨D, 2, none⟩ (.int .i64 (k + 1)))) := (kb_bel (Below.refl _ _)).set (.inl (.inl rfl))
  clear hd hr hDR hUD ht hk hk2 hdep hdep2 h1 hg hpl hB
  go_enter Try.func36, Try.ntmps36
  go_wp2_with fail
  refine wp_loop_rounds 1 ?_
  rw [rounds_succ]
  go_wp2_with fail
  refine (part_r R U t p fl g dx dy (p + 8) _ HR1.out HT.out HPL.out X0 X1 X2 X3 rfl).mono ?_
  rintro e w1 ⟨rfl, h1, g1⟩
  have HD2 := Lib.hid ((HD1.out.grown g1 HDR.out).alloc (.cells #[.int .i64 fl, .int .i64 g, .int .i64 (sign16 dx), .int .i64 (sign16 dy), .int .i64 16384, .int .i64 0, .int .i64 0, .int .i64 16384] 82))
  have c3 := (h1.alloc (.cells #[.int .i64 fl, .int .i64 g, .int .i64 (sign16 dx), .int .i64 (sign16 dy), .int .i64 16384, .int .i64 0, .int .i64 0, .int .i64 16384] 82)).fault
  have HW2 : Hid (Kb (fun i => i = D ∨ i = R) w (w1.alloc (.cells #[.int .i64 fl, .int .i64 g, .int .i64 (sign16 dx), .int .i64 (sign16 dy), .int .i64 16384, .int .i64 0, .int .i64 0, .int .i64 16384] 82))) := (HW1.out.trans (kb_grown g1) (fun _ _ h => .inr h)).alloc _
  clear h1 g1 c2 f2
  go_wp2_with fail
  refine (placed_b s L dep1 HB.out _ D V P c g (k + 1) fl (sign16 dx) (sign16 dy) HD2.out (by have := HK.out; omega) (by have := HK.out; have := H1.out; omega) HG.out).mono ?_
  rintro e w2 ⟨rfl, hb2⟩
  have HW3 := Lib.hid (HW2.out.trans hb2 (fun _ _ h => .inl h))
  clear hb2
  go_wp2_with fail
  go_ret2
  exact ⟨rfl, HW3.out⟩

set_option maxHeartbeats 1000000 in
theorem outline_b (s : ByteArray) (L : List Int) (dep : Int) (hB : Bad s L (dep + 1)) (w : World) (D V P c R U : Nat) (k : Int) (t : ByteArray) (fl h a b c' d dx dy : Int) (hd : Dcd w D V P c s L k) (hr : Rdr w R U t 0) (hDR : D < R) (hUD : D < U)
    (hk : 0 ≤ k) (hk2 : k + (9 - dep) ≤ 250) (hdep : 0 ≤ dep) (hdep2 : dep ≤ 9) (ht : GlyT t L.length fl h a b c' d dx dy) :
    Calls Try.prog 31 #[.pointer (some ⟨D, 0, none⟩), .pointer (some ⟨R, 0, none⟩), .int .i64 dep] w fun e w' => e = .returned (.tuple #[.agg #[.slice none 0 0, .slice none 0 0], .int .i64 73]) ∧ Kb (fun i => i = D ∨ i = R) w w' := by
  have HD := Lib.hid hd
  have HK := Lib.hid (And.intro hk hk2)
  have HE := Lib.hid (And.intro hdep hdep2)
  have HDR := Lib.hid hDR
  have HUD := Lib.hid hUD
  have HT := Lib.hid ht
  have HB := Lib.hid hB
  have HR1 := Lib.hid (hr.alloc (.cells #[.slice none 0 0, .slice none 0 0] 29))
  have HL : Hid (R < w.heap.size ∧ D < w.heap.size) := ⟨hr.lt.1, hd.lt⟩
  clear hd hr hDR hUD hk hk2 hdep hdep2 ht hB
  go_enter Try.func31, Try.ntmps31
  go_wp2_with fail
  have HA0 : Hid ((w.alloc (.cells #[.slice none 0 0, .slice none 0 0] 29)).heap[w.heap.size]? = some (.cells #[.slice none 0 0, .slice none 0 0] 29 (0, 0))) := heap_alloc_new w _
  have e16 : sign16 65535 = -1 := rfl
  refine (signed_r R U t 0 65535 2 _ HR1.out HT.out.small (Lib.hid HT.out.sign) rfl).mono ?_
  rintro e w1 ⟨rfl, h1, g1⟩
  have HX1 := Lib.hid h1
  have HG1 := Lib.hid g1
  clear h1 g1
  rw [e16]
  go_wp2_with fail
  refine wp_loop_rounds 5 ?_
  rw [rounds_succ]
  go_wp2_with fail
  refine (number_r R U t 2 a 4 _ HX1.out HT.out.small (Lib.hid HT.out.box0) rfl).mono ?_
  rintro e w2 ⟨rfl, h1, g1⟩
  have HX2 := Lib.hid h1
  have HG2 := Lib.hid (grown_trans HG1.out g1)
  clear h1 g1
  go_wp2_with fail
  rw [rounds_succ]
  go_wp2_with fail
  refine (number_r R U t 4 b 6 _ HX2.out HT.out.small (Lib.hid HT.out.box1) rfl).mono ?_
  rintro e w3 ⟨rfl, h1, g1⟩
  have HX3 := Lib.hid h1
  have HG3 := Lib.hid (grown_trans HG2.out g1)
  clear h1 g1
  go_wp2_with fail
  rw [rounds_succ]
  go_wp2_with fail
  refine (number_r R U t 6 c' 8 _ HX3.out HT.out.small (Lib.hid HT.out.box2) rfl).mono ?_
  rintro e w4 ⟨rfl, h1, g1⟩
  have HX4 := Lib.hid h1
  have HG4 := Lib.hid (grown_trans HG3.out g1)
  clear h1 g1
  go_wp2_with fail
  rw [rounds_succ]
  go_wp2_with fail
  refine (number_r R U t 8 d 10 _ HX4.out HT.out.small (Lib.hid HT.out.box3) rfl).mono ?_
  rintro e w5 ⟨rfl, h1, g1⟩
  have HX5 := Lib.hid h1
  have HG5 := Lib.hid (grown_trans HG4.out g1)
  clear h1 g1
  go_wp2_with fail
  rw [rounds_succ]
  have c5 := HX5.out.fault
  have HD5 := Lib.hid ((HD.out.alloc (.cells #[.slice none 0 0, .slice none 0 0] 29)).grown HG5.out HDR.out)
  have HK5 : Hid (Kb (fun i => i = D ∨ i = R) w w5) := (kb_bel ((Below.refl _ _).alloc (Nat.le_refl _) _)).trans (kb_grown HG5.out) (fun _ _ h => .inr h)
  have HA5 := Lib.hid (grown_blk HG5.out (by have := HL.out; omega) HA0.out)
  obtain ⟨hn, hhn⟩ := Int.eq_ofNat_of_zero_le HT.out.lo
  subst hhn
  go_wp2_with fail
  refine (together_b s L dep (dep + 1) HB.out w5 D V P c R U hn k 10 fl dx dy t HD5.out HX5.out HDR.out HUD.out HT.out.small HK.out.1 HK.out.2 HE.out.1 HE.out.2 rfl (by have := HT.out.hi; omega) HT.out.plain (Lib.hid HT.out.flag) (Lib.hid HT.out.glyph) (Lib.hid HT.out.sx) (Lib.hid HT.out.sy)).mono ?_
  rintro e w6 ⟨rfl, hk6⟩
  have hA6 := hk6.blk (A := w.heap.size) (by have := HL.out; omega) HA5.out
  have a0 := blk_cell hA6 0 (.slice none 0 0) rfl
  have a1 := blk_cell hA6 1 (.slice none 0 0) rfl
  have a2 := blk_free hA6
  have HK6 := Lib.hid (HK5.out.trans hk6 (fun _ _ h => h))
  clear hk6 hA6 c5
  go_wp2_with fail
  refine bodyPost_ret (v := .tuple #[.agg #[.slice none 0 0, .slice none 0 0], .int .i64 73]) (by simp [results, Try.results31, go_sem, a0, a1]) rfl ⟨rfl, ?_⟩
  exact (HK6.out.set (.inr (Nat.le_refl _))).set (.inr (Nat.le_refl _))

theorem rdr_new (w : World) (t : ByteArray) : Rdr ((w.alloc (.cells #[.string t] 53)).alloc (.cells #[.pointer (some ⟨w.heap.size, 0, none⟩), .int .i64 0, .int .i64 0] 67)) (w.heap.size + 1) w.heap.size t 0 := by
  have hz : (w.alloc (.cells #[.string t] 53)).heap.size = w.heap.size + 1 := by simp
  have hr := heap_alloc_new (w.alloc (.cells #[.string t] 53)) (.cells #[.pointer (some ⟨w.heap.size, 0, none⟩), .int .i64 0, .int .i64 0] 67)
  rw [hz] at hr
  have hv := (Below.heap_alloc (w.alloc (.cells #[.string t] 53)) (.cells #[.pointer (some ⟨w.heap.size, 0, none⟩), .int .i64 0, .int .i64 0] 67) w.heap.size (by rw [hz]; omega)).trans (heap_alloc_new w (.cells #[.string t] 53))
  exact ⟨by omega, blk_cell hr 0 _ rfl, blk_cell hr 1 _ rfl, blk_cell hr 2 _ rfl, blk_free hr 1, blk_cell hv 0 _ rfl⟩

set_option maxHeartbeats 1000000 in
theorem bad_deep (s : ByteArray) (L : List Int) (hT : Tbl s L) : Bad s L 9 := by
  intro w D V P c g k hd hk hk2 hg
  have c1 := hd.pl
  have c1' := (hd.alloc (.cells #[.slice none 0 0, .slice none 0 0] 29)).pl
  obtain ⟨n, HN⟩ : ∃ n, Hid (L.length = n) := ⟨_, rfl⟩
  have hbig := hT.2.1
  rw [HN.out] at c1 c1' hg hbig
  have h0 : ¬ ((g : Int) < 0) := by omega
  have hw : wrap64 ((n : Int) - 1) = (n : Int) - 1 := by unfold wrap64; omega
  have hge : ¬ ((n : Int) - 1 ≤ (g : Int)) := by omega
  clear hd hk hk2 hg hbig hT
  go_enter Try.func25, Try.ntmps25
  go_wp2_with fail
  refine bodyPost_ret (v := .tuple #[.agg #[.slice none 0 0, .slice none 0 0], .int .i64 73]) (by simp [results, Try.results25, go_sem]) rfl ⟨rfl, ?_⟩
  exact kb_bel ((Below.refl _ _).alloc (Nat.le_refl _) _)

set_option maxHeartbeats 1000000 in
theorem bad_step (s : ByteArray) (L : List Int) (hT : Tbl s L) (dep : Int) (h1 : 1 ≤ dep) (h8 : dep ≤ 8) (hB : Bad s L (dep + 1)) : Bad s L dep := by
  intro w D V P c g k hd hk hk2 hg
  obtain ⟨hs, hL, hAll⟩ := hT
  obtain ⟨p, q, hp, hq, hpq, hqs, fl, h, a, b, c', d, dx, dy, hG⟩ := hAll g hg
  have HG := Lib.hid hG
  have HSZ := Lib.hid hs
  have HPQ := Lib.hid (And.intro hpq hqs)
  have hd0 := hd.alloc (.cells #[.slice none 0 0, .slice none 0 0] 29)
  have HD0 := Lib.hid hd0
  have HD := Lib.hid hd
  have c0 := hd0.tab
  have c1 := hd0.pl
  have c2 := hd0.rows g _ hp
  have c3 := hd0.rows (g + 1) _ hq
  have HL := Lib.hid hd.lt
  have HK := Lib.hid (And.intro hk hk2)
  have H18 := Lib.hid (And.intro h1 h8)
  have HB := Lib.hid hB
  obtain ⟨n, HN⟩ : ∃ n, Hid (L.length = n) := ⟨_, rfl⟩
  rw [HN.out] at c1 hg hL
  have h0 : ¬ ((g : Int) < 0) := by omega
  have hw : wrap64 ((n : Int) - 1) = (n : Int) - 1 := by unfold wrap64; omega
  have hge : ¬ ((n : Int) - 1 ≤ (g : Int)) := by omega
  have hw2 : wrap64 ((g : Int) + 1) = ((g + 1 : Nat) : Int) := by unfold wrap64; omega
  have hw3 : wrap64 ((q : Int) - (p : Int)) = ((q - p : Nat) : Int) := by unfold wrap64; omega
  have hi1 : (g : Int) < (n : Int) := by omega
  have hi2 : ((g + 1 : Nat) : Int) < (n : Int) := by omega
  have hi3 : (0 : Int) ≤ ((g + 1 : Nat) : Int) := by omega
  have hpq' : ¬ ((q : Int) < (p : Int)) := by omega
  have hd8 : ¬ (8 < dep) := by omega
  clear hd hd0 hk hk2 hg hL hs hAll hG hp hq hpq hqs h1 h8 hB
  go_enter Try.func25, Try.ntmps25
  go_wp2_with fail
  go_quiet (fail)
  have HBa : Hid (Below w.heap.size w ((w.alloc (.cells #[.slice none 0 0, .slice none 0 0] 29)).drewN nq)) := bel_drewN ((Below.refl _ _).alloc (Nat.le_refl _) _) _
  have HDa : Hid (Dcd ((w.alloc (.cells #[.slice none 0 0, .slice none 0 0] 29)).drewN nq) D V P c s L k) := HD0.out.below (bel_drewN (Below.refl _ _) _)
  have HAa : Hid (((w.alloc (.cells #[.slice none 0 0, .slice none 0 0] 29)).drewN nq).heap[w.heap.size]? = some (.cells #[.slice none 0 0, .slice none 0 0] 29 (0, 0))) := heap_alloc_new w _
  clear c0 c1 c2 c3
  generalize ((w.alloc (.cells #[.slice none 0 0, .slice none 0 0] 29)).drewN nq) = wa at *
  have c0 := HDa.out.tab
  have HE : Hid (p + (q - p) = q) := by have := HPQ.out; unfold Hid; omega
  obtain ⟨t, HTX⟩ : ∃ t, Hid (s.extract p q = t) := ⟨_, rfl⟩
  have HG1 : Hid (GlyT t L.length fl h a b c' d dx dy) := by have := HG.out; rwa [HTX.out] at this
  have hz : ¬ ((t.size : Int) = 0) := by have := num_small HG1.out.sy; omega
  go_wp2_with fail
  refine (cut_at V p (q - p) _ (by first | rfl | exact hw3) s wa HDa.out.text (by have := HSZ.out; omega) (by have := HPQ.out; omega)).mono ?_
  rw [HE.out, HTX.out]
  rintro e w1 ⟨rfl, rfl⟩
  go_wp2_with fail
  refine (len_c wa.heap.size t _ (blk_cell (heap_alloc_new wa (.cells #[.string t] 53)) 0 _ rfl)).mono ?_
  rintro e w1 ⟨rfl, rfl⟩
  go_wp2_with fail
  have HLa : Hid (D < wa.heap.size ∧ w.heap.size < wa.heap.size) := ⟨HDa.out.lt, (Array.getElem?_eq_some_iff.1 HAa.out).1⟩
  refine (outline_b s L dep HB.out _ D V P c (wa.heap.size + 1) wa.heap.size k t fl h a b c' d dx dy ((HDa.out.alloc _).alloc _) (rdr_new wa t) (by have := HLa.out; omega) HLa.out.1 HK.out.1 HK.out.2 (by have := H18.out; omega) (by have := H18.out; omega) HG1.out).mono ?_
  rintro e w2 ⟨rfl, hk2⟩
  have HK2 : Hid (Kb (fun i => i = D ∨ i = wa.heap.size + 1) wa w2) := ((kb_bel (Below.refl _ _)).alloc _ |>.alloc _).trans hk2 (fun _ _ h => h)
  have hA := HK2.out.blk (A := w.heap.size) (by have := HLa.out; have := HL.out; omega) HAa.out
  have a0 := blk_cell hA 0 (.slice none 0 0) rfl
  have a1 := blk_cell hA 1 (.slice none 0 0) rfl
  have a2 := blk_free hA
  have HK3 : Hid (Kb (fun i => i = D) w w2) := (kb_bel HBa.out).trans HK2.out (fun i hi h => by rcases h with h | h; exact h; have := HLa.out; omega)
  clear hk2 hA
  go_wp2_with fail
  refine bodyPost_ret (v := .tuple #[.agg #[.slice none 0 0, .slice none 0 0], .int .i64 73]) (by simp [results, Try.results25, go_sem, a0, a1]) rfl ⟨rfl, ?_⟩
  exact (HK3.out.set (.inr (Nat.le_refl _))).set (.inr (Nat.le_refl _))

theorem bad_all (s : ByteArray) (L : List Int) (hT : Tbl s L) : ∀ k : Nat, k ≤ 8 → Bad s L (9 - (k : Int))
  | 0, _ => bad_deep s L hT
  | k + 1, h => by
    have := bad_all s L hT k (by omega)
    have e : (9 - ((k + 1 : Nat) : Int)) + 1 = 9 - (k : Int) := by omega
    exact bad_step s L hT _ (by omega) (by omega) (by rw [e]; exact this)

theorem bad_one (s : ByteArray) (L : List Int) (hT : Tbl s L) : Bad s L 1 := bad_all s L hT 8 (Nat.le_refl _)

set_option maxHeartbeats 1000000 in
theorem decode_b (s : ByteArray) (L : List Int) (hT : Tbl s L) (w : World) (V P c g : Nat) (ht : w.cell? ⟨V, 0, none⟩ = some (.string s)) (hP : P < w.heap.size) (hrow : ∀ (i : Nat) (x : Int), L[i]? = some x → w.cell? ⟨P, i, none⟩ = some (.int .i64 x)) (hg : g + 1 < L.length) :
    Calls Try.prog 14 #[.pointer (some ⟨V, 0, none⟩), .slice (some ⟨P, 0, none⟩) L.length c, .int .i64 g] w fun e w' => e = .returned (.tuple #[.agg #[.slice none 0 0, .slice none 0 0], .int .i64 73]) ∧ Below w.heap.size w w' := by
  have HT := Lib.hid hT
  have HG := Lib.hid hg
  obtain ⟨n, HN⟩ : ∃ n, Hid (L.length = n) := ⟨_, rfl⟩
  have HV := Lib.hid ht
  have HP := Lib.hid hP
  have HROW := Lib.hid hrow
  rw [HN.out]
  clear hT hg ht hP hrow
  go_enter Try.func14, Try.ntmps14
  go_wp2_with fail
  have hb : Below w.heap.size w ((w.alloc (.cells #[.slice none 0 0, .slice none 0 0] 29)).alloc (.cells #[.pointer (some ⟨V, 0, none⟩), .slice (some ⟨P, 0, none⟩) n c, .int .i64 0] 55)) := bel_alloc ((Below.refl _ _).alloc (Nat.le_refl _) _) _
  have hz : (w.alloc (.cells #[.slice none 0 0, .slice none 0 0] 29)).heap.size = w.heap.size + 1 := by simp
  have hx := heap_alloc_new (w.alloc (.cells #[.slice none 0 0, .slice none 0 0] 29)) (.cells #[.pointer (some ⟨V, 0, none⟩), .slice (some ⟨P, 0, none⟩) n c, .int .i64 0] 55)
  rw [hz] at hx
  have hy := (Below.heap_alloc (w.alloc (.cells #[.slice none 0 0, .slice none 0 0] 29)) (.cells #[.pointer (some ⟨V, 0, none⟩), .slice (some ⟨P, 0, none⟩) n c, .int .i64 0] 55) w.heap.size (by rw [hz]; omega)).trans (heap_alloc_new w (.cells #[.slice none 0 0, .slice none 0 0] 29))
  have HD : Hid (Dcd ((w.alloc (.cells #[.slice none 0 0, .slice none 0 0] 29)).alloc (.cells #[.pointer (some ⟨V, 0, none⟩), .slice (some ⟨P, 0, none⟩) n c, .int .i64 0] 55)) (w.heap.size + 1) V P c s L 0) :=
    ⟨blk_cell hx 0 _ rfl, by rw [HN.out]; exact blk_cell hx 1 _ rfl, blk_cell hx 2 _ rfl, blk_free hx 2, keepC hb HV.out, fun i x h => keepC hb (HROW.out i x h), by have := World.block_lt_of_cell? w _ HV.out; simp at this; omega, by have := HP.out; omega⟩
  have HY := Lib.hid hy
  have HB := Lib.hid hb
  clear hb hz hx hy
  generalize ((w.alloc (.cells #[.slice none 0 0, .slice none 0 0] 29)).alloc (.cells #[.pointer (some ⟨V, 0, none⟩), .slice (some ⟨P, 0, none⟩) n c, .int .i64 0] 55)) = wa at *
  refine (bad_one s L HT.out wa (w.heap.size + 1) V P c g 0 HD.out (by omega) (by omega) HG.out).mono ?_
  rintro e w2 ⟨rfl, hk2⟩
  have hA := hk2.blk (A := w.heap.size) (by omega) HY.out
  have a0 := blk_cell hA 0 (.slice none 0 0) rfl
  have a1 := blk_cell hA 1 (.slice none 0 0) rfl
  have a2 := blk_free hA
  have HK2 : Hid (Below w.heap.size w w2) := HB.out.trans (hk2.below (fun i hi => by omega) HB.out.size)
  clear hk2 hA
  go_wp2_with fail
  refine bodyPost_ret (v := .tuple #[.agg #[.slice none 0 0, .slice none 0 0], .int .i64 73]) (by simp [results, Try.results14, go_sem, a0, a1]) rfl ⟨rfl, ?_⟩
  exact bel_set (bel_set HK2.out (Nat.le_refl _) _) (Nat.le_refl _) _

end Go.Proofs.Ytllbegmgknlaiaa
