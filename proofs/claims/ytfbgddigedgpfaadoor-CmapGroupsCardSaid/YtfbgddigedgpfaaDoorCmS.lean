/-
  The map of two letters that every statement of layer 5 asks first: cmapAlive answers true, in every world whose list of kinds is laid.
-/
import Derived.Test.YtfbgddigedgpfaaDoorCmR
namespace Go.Proofs.YtfbgddigedgpfaaDoor
open Go.RowKit Go.PlainAid
set_option linter.unusedSimpArgs false
set_option linter.unusedVariables false

/-- One group: the letters 97 and 98 have the glyphs 5 and 6. -/
def f3 (m : Nat) : Int := if m = 0 then 97 else if m = 1 then 98 else 5
theorem f3_ok : GrpOk 1 f3 := by
  refine ⟨by decide, fun m hm => ?_, fun j hj => ?_⟩
  · unfold f3; split
    · omega
    · split <;> omega
  · obtain rfl : j = 0 := by omega
    decide
theorem f3_98 : glyphAns (grpAns true 1 f3) 10 98 = 6 := by decide
theorem f3_99 : glyphAns (grpAns true 1 f3) 10 99 = 0 := by decide

/-- Read of a table of groups, as the statements ask it. -/
theorem table_read {p q form glyphs : Int} {n : Nat} {f : Nat → Int} {w w' : World} {e : Ending} (h : MapPost (tblB p q form n f) glyphs w e w') (hpq : (p = 0 ∧ q = 4) ∨ (p = 3 ∧ q = 10)) (hform : form = 12 ∨ form = 13) (hok : GrpOk n f) (hg1 : 1 ≤ glyphs) (hg2 : glyphs ≤ 4096) :
    ∃ gm, e = .returned (.tuple #[.pointer (some ⟨gm, 0, none⟩), .int .i64 0]) ∧ MapIs w' gm form glyphs (grpAns (decide (form = 12)) n f) ∧ Below w.heap.size w w' := by
  obtain ⟨hr, hfo, hgo⟩ := tbl_reads hpq hform hok hg1 hg2
  obtain ⟨hb, ⟨x, _, _, hno⟩ | ⟨gm, form', ans, he, hm, hall⟩⟩ := h
  · exact absurd hr (hno 12)
  · obtain ⟨h1, h2⟩ := hall 12 hr
    subst h1 h2
    rw [hfo, hgo] at hm
    exact ⟨gm, he, hm, hb⟩

set_option maxRecDepth 20000 in
set_option maxHeartbeats 2000000 in
theorem alive_c (w : World) (hg : Rk w) : Calls Tryd.prog 6 #[] w fun e w' => e = .returned (.bool true) ∧ Below w.heap.size w w' := by
  have HG := Lib.hid hg
  have hb0 := (Below.refl w.heap.size w).alloc (Nat.le_refl _) (.cells #[.int .i64 97, .int .i64 98, .int .i64 5] 24)
  have HB0 := Lib.hid hb0
  have HI0 : Hid (IsG (w.alloc (.cells #[.int .i64 97, .int .i64 98, .int .i64 5] 24)) (some ⟨w.heap.size, 0, none⟩) 1 f3) := by
    refine .inr ⟨w.heap.size, 0, rfl, fun m hm => ?_⟩
    have h3 : m = 0 ∨ m = 1 ∨ m = 2 := by omega
    rcases h3 with rfl | rfl | rfl <;> simp [go_sem, f3]
  clear hg hb0
  go_enter Tryd.func6, Tryd.ntmps6
  go_wp2_with fail
  generalize (w.alloc (.cells #[.int .i64 97, .int .i64 98, .int .i64 5] 24)) = w0 at *
  refine (form12_c 12 1 1 f3 (some ⟨w.heap.size, 0, none⟩) w0 HI0.out (by decide) f3_ok.b (by decide) (by decide)).mono ?_
  rintro e w1 ⟨g1, c1, rfl, ho1, hb1⟩
  have HB1 := Lib.hid (HB0.out.trans (hb1.mono HB0.out.size))
  have HI1 := Lib.hid (isB_of_owns ho1)
  clear ho1 hb1 HB0 HI0
  have HZ1 : Hid ((form12B 12 1 f3 (3 * 1)).size = 28) := by unfold Hid; rw [form12B_size]
  obtain ⟨S, hS⟩ : ∃ S, form12B 12 1 f3 (3 * 1) = S := ⟨_, rfl⟩
  rw [hS] at HI1 HZ1
  rw [hS]
  have HSS := Lib.hid hS
  clear hS
  go_wp2_with fail
  refine (table_c 3 10 (some ⟨g1, 0, none⟩) c1 S w1 HI1.out (by rw [HZ1.out]; decide) (by decide) (by decide)).mono ?_
  rintro e w2 ⟨g2, c2, rfl, ho2, hb2⟩
  have HB2 := Lib.hid (HB1.out.trans (hb2.mono HB1.out.size))
  have HI2 := Lib.hid (isB_of_owns ho2)
  clear ho2 hb2 HB1 HI1
  have HT : Hid (tableB 3 10 S = tblB 3 10 12 1 f3) := by unfold Hid; rw [tblB, HSS.out]
  have HZ2 : Hid (((tableB 3 10 S).size : Int) ≤ 140737488355328) := by unfold Hid; rw [tableB_size, HZ1.out]; decide
  obtain ⟨T, hT⟩ : ∃ T, tableB 3 10 S = T := ⟨_, rfl⟩
  rw [hT] at HI2 HT HZ2
  rw [hT]
  clear hT
  go_wp2_with fail
  refine (lawread_c (some ⟨g2, 0, none⟩) c2 T 10 w2 HI2.out HZ2.out (HG.out.below HB2.out)).mono ?_
  intro e w3 hp
  rw [HT.out] at hp
  obtain ⟨gm, rfl, hm, hb3⟩ := table_read hp (.inr ⟨rfl, rfl⟩) (.inl rfl) f3_ok (by decide) (by decide)
  have HB3 := Lib.hid (HB2.out.trans (hb3.mono HB2.out.size))
  have HM3 : Hid (MapIs w3 gm 12 10 (grpAns true 1 f3)) := hm
  clear hp hm hb3 HB2 HI2
  go_wp2_with fail
  refine (form_c gm 12 10 _ w3 HM3.out).mono ?_
  rintro e w4 ⟨rfl, rfl⟩
  go_wp2_with fail
  refine (glyph_c gm 12 10 98 _ w3 HM3.out).mono ?_
  rintro e w4 ⟨rfl, hb4⟩
  rw [f3_98]
  have HB4 := Lib.hid (HB3.out.trans (hb4.mono HB3.out.size))
  have HM4 := Lib.hid (HM3.out.below hb4)
  clear hb4
  go_wp2_with fail
  refine (glyph_c gm 12 10 99 _ w4 HM4.out).mono ?_
  rintro e w5 ⟨rfl, hb5⟩
  rw [f3_99]
  have HB5 := Lib.hid (HB4.out.trans (hb5.mono HB4.out.size))
  clear hb5
  go_wp2_with fail
  go_ret
  exact ⟨rfl, HB5.out⟩

end Go.Proofs.YtfbgddigedgpfaaDoor
