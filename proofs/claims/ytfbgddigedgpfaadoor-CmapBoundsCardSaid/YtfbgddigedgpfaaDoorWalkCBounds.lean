/-
  The walk of CmapBounds: it answers true of whatever bytes, number of glyphs, code and selector, and changes nothing that was there.
-/
import Derived.Test.YtfbgddigedgpfaaDoorCmS
namespace Go.Proofs.YtfbgddigedgpfaaDoor.cmapBounds
open Go.RowKit Go.PlainAid
set_option linter.unusedSimpArgs false
set_option linter.unusedVariables false

set_option maxRecDepth 20000 in
set_option maxHeartbeats 2000000 in
theorem walk (a : Option Addr) (cap : Nat) (s : ByteArray) (glyphs x y : Int) (w : World) (hB : IsB w a s.size cap s) (hs : (s.size : Int) ≤ 140737488351232) (hgw : (Lit.int .i64 glyphs).wf = true) (hxy : (Lit.int .i64 x).wf = true ∧ (Lit.int .i64 y).wf = true) (hg : Rk w) :
    Calls Tryd.prog 5 #[.slice a s.size cap, .int .i64 glyphs, .agg #[.int .i64 x, .int .i64 y]] w fun e w' => e = .returned (.bool true) ∧ Below w.heap.size w w' := by
  have hb0 := (Below.refl w.heap.size w).alloc (Nat.le_refl _) (.cells #[.int .i64 x, .int .i64 y] 34)
  have HB0 := Lib.hid hb0
  have HI0 := Lib.hid (hB.below hb0)
  have HS : Hid ((s.size : Int) ≤ 140737488355328) := by unfold Hid; omega
  have HG0 := Lib.hid (hg.below hb0)
  have HXY := Lib.hid hxy
  have HN0 : Hid ((w.alloc (.cells #[.int .i64 x, .int .i64 y] 34)).cell? ⟨w.heap.size, 0, none⟩ = some (.int .i64 x) ∧ (w.alloc (.cells #[.int .i64 x, .int .i64 y] 34)).cell? ⟨w.heap.size, 1, none⟩ = some (.int .i64 y)) := by unfold Hid; simp [go_sem]
  clear hb0 hB hs hg hxy hgw
  go_enter Tryd.func5, Tryd.ntmps5
  go_wp2_with fail
  generalize (w.alloc (.cells #[.int .i64 x, .int .i64 y] 34)) = w0 at *
  refine (alive_c w0 HG0.out).mono ?_
  rintro e w1 ⟨rfl, hb1⟩
  have HB1 := Lib.hid (HB0.out.trans (hb1.mono HB0.out.size))
  have HI1 := Lib.hid (HI0.out.below hb1)
  have HG1 := Lib.hid (HG0.out.below hb1)
  have HN1 : Hid (w1.cell? ⟨w.heap.size, 0, none⟩ = some (.int .i64 x) ∧ w1.cell? ⟨w.heap.size, 1, none⟩ = some (.int .i64 y)) := ⟨keepC hb1 HN0.out.1, keepC hb1 HN0.out.2⟩
  clear hb1 HB0 HI0 HG0 HN0
  go_wp2_with fail
  refine (lawread_c a cap s glyphs w1 HI1.out HS.out HG1.out).mono ?_
  rintro e w2 ⟨hb2, ⟨z, hz, rfl, _⟩ | ⟨gm, form, ans, rfl, hm, _⟩⟩
  · have HB2 := Lib.hid (HB1.out.trans (hb2.mono HB1.out.size))
    have hzb : (z != 0) = true := by simpa using hz
    clear hb2 hz
    go_wp2_with fail
    go_ret
    exact ⟨rfl, HB2.out⟩
  · have HB2 := Lib.hid (HB1.out.trans (hb2.mono HB1.out.size))
    have n0 := keepC hb2 HN1.out.1
    have n1 := keepC hb2 HN1.out.2
    have HN2 := Lib.hid (And.intro n0 n1)
    have HM2 := Lib.hid hm
    clear hb2 hm
    go_wp2_with fail
    refine (glyph_c gm form glyphs x ans w2 HM2.out).mono ?_
    rintro e w3 ⟨rfl, hb3⟩
    have HB3 := Lib.hid (HB2.out.trans (hb3.mono HB2.out.size))
    have m0 := keepC hb3 HN2.out.1
    have m1 := keepC hb3 HN2.out.2
    have HM3 := Lib.hid (HM2.out.below hb3)
    obtain ⟨u, hu⟩ : ∃ u, glyphAns ans glyphs x = u := ⟨_, rfl⟩
    have hub := HM2.out.glyph_in x
    rw [hu] at hub ⊢
    have HU := Lib.hid hu
    clear hb3 n0 n1 hu
    go_wp2_with fail
    refine (variant_c gm form glyphs x y ans w3 HM3.out HXY.out.2).mono ?_
    rintro e w4 ⟨v, k, rfl, hv, hk, hk1, hb4⟩
    have HB4 := Lib.hid (HB3.out.trans (hb4.mono HB3.out.size))
    rw [HU.out] at hk1
    obtain ⟨u0, u1⟩ := hub
    obtain ⟨v0, v1⟩ := hv
    clear hb4 m0 m1
    rcases hk with rfl | rfl | rfl
    · clear hk1
      go_wp2_with fail
      go_ret
      exact ⟨rfl, HB4.out⟩
    · have hvu : v = u := hk1 rfl
      subst hvu
      clear hk1
      go_wp2_with fail
      go_ret
      exact ⟨rfl, HB4.out⟩
    · clear hk1
      go_wp2_with fail
      go_ret
      exact ⟨rfl, HB4.out⟩
end Go.Proofs.YtfbgddigedgpfaaDoor.cmapBounds
