/-
  What a map answers: Form, Glyph, Variant.
-/
import Derived.Test.YtfbgddigedgpfaaDoorCmM
namespace Go.Proofs.YtfbgddigedgpfaaDoor
open Go.RowKit Go.PlainAid Go.Maps
set_option linter.unusedSimpArgs false
set_option linter.unusedVariables false

set_option maxHeartbeats 400000 in
theorem form_c (gm : Nat) (form glyphs : Int) (ans : Int → Int) (w : World) (h : MapIs w gm form glyphs ans) :
    Calls Tryd.prog 12 #[.pointer (some ⟨gm, 0, none⟩)] w fun e w' => e = .returned (.int .i64 form) ∧ w = w' := by
  obtain ⟨⟨N, v, sel, _, hm, _, _⟩, _, _⟩ := h
  have c0 := hm.cells.1
  clear hm
  go_enter Tryd.func12, Tryd.ntmps12
  go_wp2_with fail
  go_ret
  exact ⟨rfl, rfl⟩

/-- The glyph, if the font has so many. -/
def belowI (glyphs x : Int) : Int := if glyphs ≤ x then 0 else x

set_option maxHeartbeats 400000 in
theorem below_c (gm : Nat) (form glyphs x : Int) (ans : Int → Int) (w : World) (h : MapIs w gm form glyphs ans) :
    Calls Tryd.prog 17 #[.pointer (some ⟨gm, 0, none⟩), .int .i64 x] w fun e w' => e = .returned (.int .i64 (belowI glyphs x)) ∧ w = w' := by
  obtain ⟨⟨N, v, sel, _, hm, _, _⟩, _, _⟩ := h
  have c1 := hm.cells.2.1
  clear hm
  by_cases hx : glyphs ≤ x
  · have HE : Hid (belowI glyphs x = 0) := by unfold Hid belowI; rw [if_pos hx]
    go_enter Tryd.func17, Tryd.ntmps17
    go_wp2_with fail
    go_ret
    rw [HE.out]
    exact ⟨rfl, rfl⟩
  · have HE : Hid (belowI glyphs x = x) := by unfold Hid belowI; rw [if_neg hx]
    go_enter Tryd.func17, Tryd.ntmps17
    go_wp2_with fail
    go_ret
    rw [HE.out]
    exact ⟨rfl, rfl⟩

/-- The glyph that a map answers. -/
def glyphAns (ans : Int → Int) (glyphs code : Int) : Int := if code < 0 then 0 else if 1114111 < code then 0 else belowI glyphs (ans code)

set_option maxHeartbeats 1000000 in
theorem glyph_c (gm : Nat) (form glyphs code : Int) (ans : Int → Int) (w : World) (h : MapIs w gm form glyphs ans) :
    Calls Tryd.prog 10 #[.pointer (some ⟨gm, 0, none⟩), .int .i64 code] w fun e w' => e = .returned (.int .i64 (glyphAns ans glyphs code)) ∧ Below w.heap.size w w' := by
  have HM := Lib.hid h
  by_cases h1 : code < 0
  · have HE : Hid (glyphAns ans glyphs code = 0) := by unfold Hid glyphAns; rw [if_pos h1]
    clear h
    go_enter Tryd.func10, Tryd.ntmps10
    go_wp2_with fail
    go_ret
    rw [HE.out]
    exact ⟨rfl, Below.refl _ _⟩
  · by_cases h2 : 1114111 < code
    · have HE : Hid (glyphAns ans glyphs code = 0) := by unfold Hid glyphAns; rw [if_neg h1, if_pos h2]
      clear h
      go_enter Tryd.func10, Tryd.ntmps10
      go_wp2_with fail
      go_ret
      rw [HE.out]
      exact ⟨rfl, Below.refl _ _⟩
    · have HE : Hid (glyphAns ans glyphs code = belowI glyphs (ans code)) := by unfold Hid glyphAns; rw [if_neg h1, if_neg h2]
      obtain ⟨⟨N, v, sel, hN, hm, ⟨F, caps, rfl, hen, hca⟩, _⟩, _, _⟩ := h
      have c2 := hm.cells.2.2.1
      have HCA := Lib.hid (hca w (keeps_below N (Below.refl _ _)) code (by omega) (by omega)).2
      have hen' : ∀ (args : Array Value) (w : World), (callFunc F args).run Tryd.prog w = .ok (.enter F args) w := hen
      clear hm hca hen hN
      go_enter Tryd.func10, Tryd.ntmps10
      go_wp2_with fail
      refine HCA.out.mono ?_
      rintro e w1 ⟨rfl, hb1⟩
      have HB1 := Lib.hid hb1
      have HM1 := Lib.hid (HM.out.below hb1)
      clear hb1 hen'
      go_wp2_with fail
      refine (below_c gm form glyphs (ans code) ans w1 HM1.out).mono ?_
      rintro e w2 ⟨rfl, rfl⟩
      go_wp2_with fail
      go_ret
      rw [HE.out]
      exact ⟨rfl, HB1.out⟩

theorem belowI_in {glyphs x : Int} (hx : 0 ≤ x) (hg : 1 ≤ glyphs) : 0 ≤ belowI glyphs x ∧ belowI glyphs x < glyphs := by unfold belowI; split <;> omega
theorem MapIs.glyph_in {w : World} {gm : Nat} {form glyphs : Int} {ans : Int → Int} (h : MapIs w gm form glyphs ans) (code : Int) : 0 ≤ glyphAns ans glyphs code ∧ glyphAns ans glyphs code < glyphs := by
  have hg := h.g1
  unfold glyphAns
  split
  · omega
  · split
    · omega
    · obtain ⟨⟨N, v, sel, hN, hm, ⟨F, caps, rfl, hen, hca⟩, _⟩, _, _⟩ := h
      exact belowI_in (hca w (keeps_below N (Below.refl _ _)) code (by omega) (by omega)).1 hg
theorem zeroVariants (w : World) : (zeroValue 50).run Tryd.prog w = .ok (.agg #[.slice none 0 0, .slice none 0 0]) w := by kernel_rfl
theorem goodV_zero (w : World) : GoodV w (.agg #[.slice none 0 0, .slice none 0 0]) := ⟨none, 0, none, 0, rfl, goodS_nil _ _ _ (by decide), goodS_nil _ _ _ (by decide)⟩
/-- What a look-up answers. -/
theorem look_sel {w : World} {v : Value} (h : v = .map none ∨ ∃ B n, v = .map (some B) ∧ SelMap w B n) (x : Int) (hx : (Lit.int .i64 x).wf = true) :
    ∃ a k b l, (Instr.lookup 45 v (.int .i64 x) false).run Tryd.prog w = .ok (.agg #[.slice a k k, .slice b l l]) w ∧ GoodS w a k 4096 ∧ GoodS w b l 4096 := by
  have hkey : keyOf Tryd.prog 3 (.int .i64 x) = some (.int .i64 x) := keyOf_int_mk Tryd.underlying3 hx
  rcases h with rfl | ⟨B, n, rfl, D, hown⟩
  · have := Maps.look_nil (P := Tryd.prog) (w := w) false intKey Tryd.underlying45 (zeroVariants w) hkey
    exact ⟨none, 0, none, 0, by simpa using this, goodS_nil _ _ _ (by decide), goodS_nil _ _ _ (by decide)⟩
  · obtain ⟨v, ps, hrun, hr⟩ := hown.lookup intKey Tryd.underlying45 (zeroVariants w) (goodR_mk (goodV_zero w)) hkey
    obtain ⟨⟨a, k, b, l, rfl, h2, h3⟩, _⟩ := goodR_inv hr
    exact ⟨a, k, b, l, hrun, h2, h3⟩

/-- What Variant answers. -/
def VarPost (ans : Int → Int) (glyphs code : Int) (w : World) (e : Ending) (w' : World) : Prop :=
  ∃ v k : Int, e = .returned (.tuple #[.int .i64 v, .int .i64 k]) ∧ (0 ≤ v ∧ v < glyphs) ∧ (k = 0 ∨ k = 1 ∨ k = 2) ∧ (k = 1 → v = glyphAns ans glyphs code) ∧ Below w.heap.size w w'

set_option maxRecDepth 20000 in
set_option maxHeartbeats 1000000 in
theorem variant_c (gm : Nat) (form glyphs code sel : Int) (ans : Int → Int) (w : World) (h : MapIs w gm form glyphs ans) (hsel : (Lit.int .i64 sel).wf = true) :
    Calls Tryd.prog 11 #[.pointer (some ⟨gm, 0, none⟩), .int .i64 code, .int .i64 sel] w (VarPost ans glyphs code w) := by
  have HM := Lib.hid h
  have HGI := Lib.hid (h.glyph_in code)
  have HG1 := Lib.hid h.g1
  obtain ⟨⟨N, v, sv, hN, hm, _, hs⟩, _, _⟩ := h
  have c3 := hm.cells.2.2.2
  obtain ⟨a, k, b, l, hlook, hga, hgb⟩ := look_sel hs sel hsel
  have hb0 := (Below.refl w.heap.size w).alloc (Nat.le_refl _) (.cells #[.slice a k k, .slice b l l] 50)
  have HB0 := Lib.hid hb0
  have HGA := Lib.hid (hga.below hb0)
  have HGB := Lib.hid (hgb.below hb0)
  have HM0 := Lib.hid (HM.out.below hb0)
  have n0 : (w.alloc (.cells #[.slice a k k, .slice b l l] 50)).cell? ⟨w.heap.size, 0, none⟩ = some (.slice a k k) := by simp [go_sem]
  have n1 : (w.alloc (.cells #[.slice a k k, .slice b l l] 50)).cell? ⟨w.heap.size, 1, none⟩ = some (.slice b l l) := by simp [go_sem]
  have HN0 := Lib.hid n0
  have HN1 := Lib.hid n1
  obtain ⟨hl, fb, hsb, hrb, hbb⟩ := HGB.out
  have HSB := Lib.hid (spanOf_c b l fb code _ hsb (by omega) hrb)
  have HSBB := Lib.hid hsb
  have HBB := Lib.hid hbb
  obtain ⟨r, rfl⟩ : ∃ r, sv = .map r := by
    rcases hs with h | ⟨B, n, h, _⟩
    · exact ⟨_, h⟩
    · exact ⟨_, h⟩
  clear hm hs hga hgb hb0 hsb hrb hbb hl n0 n1
  · have hskip : True := trivial
    go_enter Tryd.func11, Tryd.ntmps11
    go_wp2_with fail
    clear hlook c3
    generalize (w.alloc (.cells #[.slice a k k, .slice b l l] 50)) = w0 at *
    refine HSB.out.mono ?_
    rintro e w1 ⟨i, rfl, _, hb1⟩
    have n0 := keepC hb1 HN0.out
    have n1 := keepC hb1 HN1.out
    have HB1 := Lib.hid (HB0.out.trans (hb1.mono HB0.out.size))
    have HM1 := Lib.hid (HM0.out.below hb1)
    cases hin : inSp l fb code i
    · have HGA1 := Lib.hid (HGA.out.below hb1)
      obtain ⟨hl, fa, hsa, hra, _⟩ := HGA1.out
      have HSA := Lib.hid (spanOf_c a k fa code _ hsa (by omega) hra)
      clear hb1 hl hsa hra
      go_wp2_with fail
      refine HSA.out.mono ?_
      rintro e w2 ⟨i2, rfl, _, hb2⟩
      have HB2 := Lib.hid (HB1.out.trans (hb2.mono HB1.out.size))
      have HM2 := Lib.hid (HM1.out.below hb2)
      clear hb2 HSA
      cases hin2 : inSp k fa code i2
      · go_wp2_with fail
        go_ret2
        exact ⟨0, 0, rfl, ⟨by decide, by have := HG1.out; omega⟩, .inl rfl, fun h => absurd h (by decide), HB2.out⟩
      · go_wp2_with fail
        refine (glyph_c gm form glyphs code ans w2 HM2.out).mono ?_
        rintro e w3 ⟨rfl, hb3⟩
        have HB3 := Lib.hid (HB2.out.trans (hb3.mono HB2.out.size))
        clear hb3
        go_wp2_with fail
        go_ret2
        exact ⟨_, 1, rfl, HGI.out, .inr (.inl rfl), fun _ => rfl, HB3.out⟩
    · have hik : i < l := by have h' : i < l ∧ fb (3 * i) ≤ code := by simpa [inSp] using hin
                             exact h'.1
      obtain ⟨g2, rfl, k0, k1, k2⟩ := (HSBB.out.below hb1).cells hik
      have hik' : (i : Int) < (l : Int) := by omega
      have hi0 : (0 : Int) ≤ (i : Int) := by omega
      obtain ⟨x, HX⟩ : ∃ x, Hid (fb (3 * i + 2) = x) := ⟨_, rfl⟩
      rw [HX.out] at k2
      have HXB : Hid (0 ≤ x) := by have := HBB.out (3 * i + 2); rw [HX.out] at this; exact this.1
      clear hb1 k0 k1 hik
      go_wp2_with fail
      refine (below_c gm form glyphs x ans w1 HM1.out).mono ?_
      rintro e w2 ⟨rfl, rfl⟩
      go_wp2_with fail
      go_ret2
      exact ⟨_, 2, rfl, belowI_in HXB.out HG1.out, .inr (.inr rfl), fun h => absurd h (by decide), HB1.out⟩

end Go.Proofs.YtfbgddigedgpfaaDoor
