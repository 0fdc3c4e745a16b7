/-
  What the statements' own read answers: Read of a copy of the bytes.
-/
import Derived.Test.YtfbgddigedgpfaaDoorCmN
namespace Go.Proofs.YtfbgddigedgpfaaDoor
open Go.RowKit Go.PlainAid Go.Maps
set_option linter.unusedSimpArgs false
set_option linter.unusedVariables false

theorem MapPost.from {s : ByteArray} {glyphs : Int} {w w1 w' : World} {e : Ending} (h : MapPost s glyphs w1 e w') (hb : Below w.heap.size w w1) : MapPost s glyphs w e w' :=
  ⟨hb.trans (h.1.mono hb.size), h.2⟩

set_option maxHeartbeats 1000000 in
theorem lawread_c (a : Option Addr) (cap : Nat) (s : ByteArray) (glyphs : Int) (w : World) (hB : IsB w a s.size cap s) (hs : (s.size : Int) ≤ 140737488355328) (hg : Rk w) :
    Calls Tryd.prog 7 #[.slice a s.size cap, .int .i64 glyphs] w (MapPost s glyphs w) := by
  have HB := Lib.hid hB
  have HS := Lib.hid hs
  have HG := Lib.hid hg
  clear hB hs hg
  go_enter Tryd.func7, Tryd.ntmps7
  go_wp2_with (at_builtin; refine wpList_copy rfl _ _ rfl w a s.size cap s rfl rfl HB.out (by have := HS.out; omega) ?_; intro go co w2 hown hb2; have HOW := Lib.hid (isB_of_owns hown); have HB2 := Lib.hid hb2; clear hown hb2)
  refine (new_c (some ⟨go, 0, none⟩) s.size co s w2 HOW.out).mono ?_
  rintro e w3 ⟨rfl, hw3⟩
  have hb3 : Below w2.heap.size w2 w3 := by rw [hw3]; exact (Below.refl _ _).alloc (Nat.le_refl _) _
  have HV : Hid (w3.cell? ⟨w2.heap.size, 0, none⟩ = some (.string s)) := by unfold Hid; rw [hw3]; simp [go_sem]
  have HB3 := Lib.hid (HB2.out.trans (hb3.mono HB2.out.size))
  clear hb3 hw3
  generalize w2.heap.size = gv at *
  go_wp2_with fail
  refine (read_c gv s glyphs w3 HV.out HS.out (HG.out.below HB3.out)).mono ?_
  intro e w4 hp
  have HP := Lib.hid (hp.from HB3.out)
  obtain ⟨_, ⟨x, _, rfl, _⟩ | ⟨gm, form, ans, rfl, _, _⟩⟩ := hp
  · go_wp2_with fail
    go_ret2
    exact HP.out
  · go_wp2_with fail
    go_ret2
    exact HP.out

end Go.Proofs.YtfbgddigedgpfaaDoor
