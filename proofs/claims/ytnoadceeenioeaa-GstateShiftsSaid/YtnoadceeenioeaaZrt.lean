/-
  What the document's Sound, Set answer.
-/
import Derived.Test.YtnoadceeenioeaaZrs
namespace Go.Proofs.Ytnoadceeenioeaa
open Go.RowKit Go.PlainAid
set_option linter.unusedSimpArgs false
set_option linter.unusedVariables false

set_option maxRecDepth 20000 in
set_option maxHeartbeats 2000000 in
theorem refsound_c (Z : Zn) (a0 a1 a2 a3 a4 : Option Addr) (c0 c1 c2 c3 c4 : Nat) (w : World) (hz : ZIn w Z a0 a1 a2 a3 a4) (hl : ZLong Z) :
    Calls Try.prog 19 #[.agg #[.slice a0 Z.org.length c0, .slice a1 Z.cur.length c1, .slice a2 Z.tx.length c2, .slice a3 Z.ty.length c3, .slice a4 Z.ends.length c4]] w fun e w' => e = .returned (.bool (soundB Z)) ∧ Below w.heap.size w w' := by
  by_cases h1 : Z.org.length ≤ 4096
  · by_cases h2 : Z.cur.length = Z.org.length
    · by_cases h3 : Z.tx.length = Z.org.length
      · by_cases h4 : Z.ty.length = Z.org.length
        · have HS : (riseB Z.org.length (-1) Z.ends && Z.org.all fixP && Z.cur.all fixP) = soundB Z := by simp [soundB, h1, h2, h3, h4]
          have := refsound_main Z a0 a1 a2 a3 a4 c0 c1 c2 c3 c4 Z.org.length w hz hl rfl h2 h1
          rw [HS] at this
          rwa [h2, h3, h4]
        · obtain ⟨Zo, Zc, Zx, Zy, Ze⟩ := Z
          dsimp only at *
          have HB : Hid (Below w.heap.size w (w.alloc (.cells #[.slice a0 Zo.length c0, .slice a1 Zc.length c1, .slice a2 Zx.length c2, .slice a3 Zy.length c3, .slice a4 Ze.length c4] 31))) := bel_alloc (Below.refl _ _) _
          have HS : Hid (soundB ⟨Zo, Zc, Zx, Zy, Ze⟩ = false) := by simp [Hid, soundB, h1, h2, h3, h4]
          have h1' : ¬ ((4096 : Int) < (Zo.length : Int)) := by omega
          have h4' : ¬ ((Zy.length : Int) = (Zo.length : Int)) := by omega
          rw [h2, h3] at HB ⊢
          clear h1 h2 h3 hz hl
          go_enter Try.func19, Try.ntmps19
          go_wp2_with fail
          go_ret
          exact ⟨by rw [HS.out]; rfl, HB.out⟩
      · obtain ⟨Zo, Zc, Zx, Zy, Ze⟩ := Z
        dsimp only at *
        have HB : Hid (Below w.heap.size w (w.alloc (.cells #[.slice a0 Zo.length c0, .slice a1 Zc.length c1, .slice a2 Zx.length c2, .slice a3 Zy.length c3, .slice a4 Ze.length c4] 31))) := bel_alloc (Below.refl _ _) _
        have HS : Hid (soundB ⟨Zo, Zc, Zx, Zy, Ze⟩ = false) := by simp [Hid, soundB, h1, h2, h3]
        have h1' : ¬ ((4096 : Int) < (Zo.length : Int)) := by omega
        have h3' : ¬ ((Zx.length : Int) = (Zo.length : Int)) := by omega
        rw [h2] at HB ⊢
        clear h1 h2 hz hl
        go_enter Try.func19, Try.ntmps19
        go_wp2_with fail
        go_ret
        exact ⟨by rw [HS.out]; rfl, HB.out⟩
    · obtain ⟨Zo, Zc, Zx, Zy, Ze⟩ := Z
      dsimp only at *
      have HB : Hid (Below w.heap.size w (w.alloc (.cells #[.slice a0 Zo.length c0, .slice a1 Zc.length c1, .slice a2 Zx.length c2, .slice a3 Zy.length c3, .slice a4 Ze.length c4] 31))) := bel_alloc (Below.refl _ _) _
      have HS : Hid (soundB ⟨Zo, Zc, Zx, Zy, Ze⟩ = false) := by simp [Hid, soundB, h1, h2]
      have h1' : ¬ ((4096 : Int) < (Zo.length : Int)) := by omega
      have h2' : ¬ ((Zc.length : Int) = (Zo.length : Int)) := by omega
      clear h1 hz hl
      go_enter Try.func19, Try.ntmps19
      go_wp2_with fail
      go_ret
      exact ⟨by rw [HS.out]; rfl, HB.out⟩
  · obtain ⟨Zo, Zc, Zx, Zy, Ze⟩ := Z
    dsimp only at *
    have HB : Hid (Below w.heap.size w (w.alloc (.cells #[.slice a0 Zo.length c0, .slice a1 Zc.length c1, .slice a2 Zx.length c2, .slice a3 Zy.length c3, .slice a4 Ze.length c4] 31))) := bel_alloc (Below.refl _ _) _
    have HS : Hid (soundB ⟨Zo, Zc, Zx, Zy, Ze⟩ = false) := by simp [Hid, soundB, h1]
    have h1' : ((4096 : Int) < (Zo.length : Int)) := by omega
    clear h1 hz hl
    go_enter Try.func19, Try.ntmps19
    go_wp2_with fail
    go_ret
    exact ⟨by rw [HS.out]; rfl, HB.out⟩

set_option maxRecDepth 20000 in
theorem refset_c (p : Sp) (axis q : Int) (w : World) : Calls Try.prog 37 #[.agg #[.int .i64 p.x, .int .i64 p.y], .int .i64 axis, .int .i64 q] w fun e w' => e = .returned (.agg #[.int .i64 (axS axis p q).x, .int .i64 (axS axis p q).y]) ∧ Below w.heap.size w w' := by
  by_cases h : axis = 0
  · subst h
    have HB : Hid (Below w.heap.size w ((w.alloc (.cells #[.int .i64 q, .int .i64 p.y] 38)).alloc (.cells #[.int .i64 q, .int .i64 p.y] 38))) := bel_alloc (bel_alloc (Below.refl _ _) _) _
    go_enter Try.func37, Try.ntmps37
    go_wp2
    refine bodyPost_ret (v := .agg #[.int .i64 q, .int .i64 p.y]) (by simp [results, Try.results37, go_sem]) rfl ⟨rfl, ?_⟩
    first
      | exact HB.out
      | (trace_state; sorry)
  · have HF : Hid (axS axis p q = ⟨p.x, q⟩) := if_neg h
    have HB : Hid (Below w.heap.size w ((w.alloc (.cells #[.int .i64 p.x, .int .i64 q] 38)).alloc (.cells #[.int .i64 p.x, .int .i64 q] 38))) := bel_alloc (bel_alloc (Below.refl _ _) _) _
    rw [HF.out]
    go_enter Try.func37, Try.ntmps37
    go_wp2
    refine bodyPost_ret (v := .agg #[.int .i64 p.x, .int .i64 q]) (by simp [results, Try.results37, go_sem]) rfl ⟨rfl, ?_⟩
    exact HB.out

end Go.Proofs.Ytnoadceeenioeaa
