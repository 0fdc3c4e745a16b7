/-
  The chapter's example, which every statement of layer 8 asks first: type2Alive answers true, in every world; nothing that was there is changed.
-/
import Derived.Test.YtklenppldblbdaaQz
import Derived.Test.YtklenppldblbdaaXs
namespace Go.Proofs.Ytklenppldblbdaa
open Go.RowKit Go.PlainAid Go.Maps
set_option linter.unusedSimpArgs false
set_option linter.unusedVariables false

def exB : ByteArray := ⟨#[139, 139, 21, 149, 6, 14]⟩
def exF : FS := { glyphs := [exB], locals := [], globals := [], w0 := 7, w1 := 0 }
def exK : List Kn := [⟨0, 0, 1⟩, ⟨10, 0, 1⟩]
theorem exB_cells : (#[.int .u8 139, .int .u8 139, .int .u8 21, .int .u8 149, .int .u8 6, .int .u8 14] : Array Value).toList = cellsOfStr exB := by kernel_rfl
theorem ex_ok : FOk exF := ⟨by decide, by decide, by decide, by decide, by decide⟩
theorem ex_runs : glyphM exF 0 = ([exK], 7, 0) := by kernel_rfl

theorem exK_long : LongA [exK] := ⟨by decide, fun c hc => by simp at hc; subst hc; decide⟩

/-- The example's arguments as they are laid. -/
theorem ex_arg (w : World) : FArg ((w.alloc (.cells #[.int .u8 139, .int .u8 139, .int .u8 21, .int .u8 149, .int .u8 6, .int .u8 14] 5)).alloc (.cells #[.slice (some ⟨w.heap.size, 0, none⟩) 6 6] 23)) exF (some ⟨w.heap.size + 1, 0, none⟩) 1 none 0 none 0 := by
  have h1 := lit_isB (w := w) (0, 0) exB_cells
  have h2 := isL_one h1 23
  have hz : (w.alloc (.cells #[.int .u8 139, .int .u8 139, .int .u8 21, .int .u8 149, .int .u8 6, .int .u8 14] 5)).heap.size = w.heap.size + 1 := by simp
  rw [hz] at h2
  exact ⟨h2, .inl rfl, .inl rfl, by decide, by decide, by decide, by decide⟩

set_option maxRecDepth 20000 in
set_option maxHeartbeats 2000000 in
theorem type2Alive_c (w : World) : Calls Try.prog 7 #[] w fun e w' => e = .returned (.bool true) ∧ Below w.heap.size w w' := by
  have HA := Lib.hid (ex_arg w)
  have HB : Hid (Below w.heap.size w ((w.alloc (.cells #[.int .u8 139, .int .u8 139, .int .u8 21, .int .u8 149, .int .u8 6, .int .u8 14] 5)).alloc (.cells #[.slice (some ⟨w.heap.size, 0, none⟩) 6 6] 23))) := bel_alloc ((Below.refl _ _).alloc (Nat.le_refl _) _) _
  go_enter Try.func7, Try.ntmps7
  go_wp2_with fail
  generalize ((w.alloc (.cells #[.int .u8 139, .int .u8 139, .int .u8 21, .int .u8 149, .int .u8 6, .int .u8 14] 5)).alloc (.cells #[.slice (some ⟨w.heap.size, 0, none⟩) 6 6] 23)) = w0 at *
  refine (pack_c exF _ _ _ _ _ _ w0 HA.out).mono ?_
  rintro e w1 ⟨g, c, rfl, ho, hb1⟩
  have HI1 := Lib.hid (isB_of_owns ho)
  have HB1 := Lib.hid (bel_next HB.out hb1)
  clear ho hb1
  go_wp2_with fail
  refine (lawOpen_c exF ex_ok (some ⟨g, 0, none⟩) c w1 HI1.out).mono ?_
  rintro e w2 ⟨F, fl, rfl, hF, hb2⟩
  have HF2 := Lib.hid hF
  have HB2 := Lib.hid (bel_next HB1.out hb2)
  clear hF hb2
  go_wp2_with fail
  refine (fcount_c w2 F fl exF HF2.out).mono ?_
  rintro e w3 ⟨rfl, hb3⟩
  have HF3 := Lib.hid (HF2.out.below hb3)
  have HB3 := Lib.hid (bel_next HB2.out hb3)
  clear hb3
  rw [show exF.glyphs.length = 1 from rfl]
  go_wp2_with fail
  have hgl := glyph_c w3 F fl exF 0 (by decide) HF3.out
  rw [ex_runs] at hgl
  refine hgl.mono ?_
  rintro e w4 ⟨a, c4, vs, rfl, how, hb4⟩
  have HO4 := Lib.hid how.isO
  have HB4 := Lib.hid (bel_next HB3.out hb4)
  clear how hb4 hgl
  go_wp2_with fail
  have hl := isO_lit clK_length w4 exK 38 35 #[.int .i64 0, .int .i64 0, .int .i64 1, .int .i64 10, .int .i64 0, .int .i64 1] rfl
  have hb5 : Below w4.heap.size w4 ((w4.alloc (.cells #[.int .i64 0, .int .i64 0, .int .i64 1, .int .i64 10, .int .i64 0, .int .i64 1] 38)).alloc (.cells #[.slice (some ⟨w4.heap.size, 0, none⟩) 2 2] 35)) := bel_alloc ((Below.refl _ _).alloc (Nat.le_refl _) _) _
  refine (sameOutline_c a _ c4 1 [exK] _ (HO4.out.below hb5) hl exK_long).mono ?_
  rintro e w6 ⟨rfl, hb6⟩
  have HB6 := Lib.hid (bel_next HB4.out (bel_next hb5 hb6))
  clear hl hb5 hb6
  go_wp2_with fail
  go_ret
  exact ⟨rfl, HB6.out⟩

end Go.Proofs.Ytklenppldblbdaa
