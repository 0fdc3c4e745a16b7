/-
  What draw of the pen answers.
-/
import Derived.Test.YtklenppldblbdaaTl
namespace Go.Proofs.Ytklenppldblbdaa
open Go.RowKit Go.PlainAid
set_option linter.unusedSimpArgs false
set_option linter.unusedVariables false

/-- The numbers are of 32 bits or one more. -/
def Smalls (l : List Int) : Prop := ∀ v ∈ l, -2147483648 ≤ v ∧ v ≤ 2147483648

theorem list7 {l : List Int} (h : l.length = 7) : ∃ a b c d e f g, l = [a, b, c, d, e, f, g] := by
  match l, h with
  | [a, b, c, d, e, f, g], _ => exact ⟨a, b, c, d, e, f, g, rfl⟩
theorem list9 {l : List Int} (h : l.length = 9) : ∃ a b c d e f g i j, l = [a, b, c, d, e, f, g, i, j] := by
  match l, h with
  | [a, b, c, d, e, f, g, i, j], _ => exact ⟨a, b, c, d, e, f, g, i, j, rfl⟩
theorem list11 {l : List Int} (h : l.length = 11) : ∃ a b c d e f g i j k m, l = [a, b, c, d, e, f, g, i, j, k, m] := by
  match l, h with
  | [a, b, c, d, e, f, g, i, j, k, m], _ => exact ⟨a, b, c, d, e, f, g, i, j, k, m, rfl⟩

theorem flex_c (B M F : Nat) (L : Lay) (s : MS) (op : Int) (l : List Int) (a : Option Addr) (c : Nat) (w : World) (h : Mach w B M F L s) (hp : PenFit s) (ho : Opds w l a) (hc : l.length ≤ c) (hs : Smalls l) (hk : (takesN op l.length).1 = true) (hop : 1200 ≤ op) :
    Calls Try.prog 73 #[.pointer (some ⟨M, 0, none⟩), .int .i64 op, .slice a l.length c] w (PenPost B M F L (MS.flex op l s) (.tuple #[]) w) := by
  rcases takes_cases hk with h1 | h1 | h1 | h1 | h1 | h1 | h1 | h1 | h1 | h1 | ⟨rfl, hn⟩ | ⟨rfl, hn⟩ | ⟨rfl, hn⟩ | ⟨rfl, hn⟩
  iterate 10 (exfalso; omega)
  · obtain ⟨x0, x1, x2, x3, x4, x5, x6, rfl⟩ := list7 hn
    exact flex_1234 B M F L s x0 x1 x2 x3 x4 x5 x6 a c w h hp ho hc (hs x2 (by simp))
  · rw [hn] at hc ⊢
    exact flex_1235 B M F L s l a c w h hp ho hn hc
  · obtain ⟨x0, x1, x2, x3, x4, x5, x6, x7, x8, rfl⟩ := list9 hn
    exact flex_1236 B M F L s x0 x1 x2 x3 x4 x5 x6 x7 x8 a c w h hp ho hc
  · obtain ⟨x0, x1, x2, x3, x4, x5, x6, x7, x8, x9, x10, rfl⟩ := list11 hn
    exact flex_1237 B M F L s x0 x1 x2 x3 x4 x5 x6 x7 x8 x9 x10 a c w h hp ho hc

theorem strokes_c (B M F : Nat) (L : Lay) (s : MS) (op : Int) (l : List Int) (a : Option Addr) (c : Nat) (w : World) (h : Mach w B M F L s) (hp : PenFit s) (ho : Opds w l a) (hc : l.length ≤ c) (hl : l.length ≤ 1000) (hk : (takesN op l.length).1 = true) (hop : op < 1200) :
    Calls Try.prog 74 #[.pointer (some ⟨M, 0, none⟩), .int .i64 op, .slice a l.length c] w (PenPost B M F L (MS.strokes op l s) (.tuple #[]) w) := by
  rcases takes_cases hk with ⟨rfl, hq⟩ | rfl | rfl | ⟨rfl, hq⟩ | ⟨rfl, h8, hq⟩ | ⟨rfl, h8, hq⟩ | ⟨rfl, hq⟩ | ⟨rfl, hq⟩ | rfl | rfl | h1 | h1 | h1 | h1
  · exact strokes_5 B M F L s l a c w h hp ho hc hl hq
  · exact strokes_6 B M F L s l a c w h hp ho hc hl
  · exact strokes_7 B M F L s l a c w h hp ho hc hl
  · exact strokes_8 B M F L s l a c w h hp ho hc hl hq
  · exact strokes_24 B M F L s l a c w h hp ho hc hl h8 hq
  · exact strokes_25 B M F L s l a c w h hp ho hc hl h8 hq
  · exact strokes_26 B M F L s l a c w h hp ho hc hl hq
  · exact strokes_27 B M F L s l a c w h hp ho hc hl hq
  · exact strokes_30 B M F L s l a c w h hp ho hc hl
  · exact strokes_31 B M F L s l a c w h hp ho hc hl
  iterate 4 (exfalso; omega)

set_option maxRecDepth 20000 in
set_option maxHeartbeats 2000000 in
theorem draw_c (B M F : Nat) (L : Lay) (s : MS) (op : Int) (l : List Int) (a : Option Addr) (c : Nat) (w : World) (h : Mach w B M F L s) (hp : PenFit s) (ho : Opds w l a) (hc : l.length ≤ c) (hl : l.length ≤ 1000) (hs : Smalls l) :
    Calls Try.prog 67 #[.pointer (some ⟨M, 0, none⟩), .int .i64 op, .slice a l.length c] w (PenPost B M F L (MS.draw op l s) (.tuple #[]) w) := by
  obtain ⟨x, hx⟩ : ∃ x, (takesN op l.length).1 = x := ⟨_, rfl⟩
  obtain ⟨y, hy⟩ : ∃ y, (takesN op l.length).2 = y := ⟨_, rfl⟩
  have HT := Lib.hid (takes_c op l.length x y w (by unfold Hid; rw [← hx, ← hy]) hl)
  have HE : Hid (MS.draw op l s = if y = false then s.refuse 82 else if x = false then s.refuse 81 else if 1200 ≤ op then s.flex op l else s.strokes op l) := by unfold Hid MS.draw; rw [hx, hy]
  rw [HE.out]
  have H := Lib.hid h
  cases y
  · have HK := Lib.hid (refuse_c B M F L s 82 w h)
    obtain ⟨n, HN⟩ : ∃ n, Hid (l.length = n) := ⟨_, rfl⟩
    rw [HN.out] at HT ⊢
    clear h hp ho hc hl hs HE hx hy
    go_enter Try.func67, Try.ntmps67
    go_wp2_with fail
    refine HT.out.mono ?_
    rintro e w1 ⟨rfl, rfl⟩
    go_wp2_with fail
    refine HK.out.mono ?_
    rintro e w1 ⟨rfl, h1, hb1, hk1⟩
    have HX := Lib.hid (And.intro h1 (And.intro hb1 hk1))
    clear h1 hb1 hk1
    go_wp2_with fail
    go_end0
    exact ⟨rfl, ⟨_, _, _, HX.out.1⟩, HX.out.2⟩
  · cases x
    · have HK := Lib.hid (refuse_c B M F L s 81 w h)
      obtain ⟨n, HN⟩ : ∃ n, Hid (l.length = n) := ⟨_, rfl⟩
      rw [HN.out] at HT ⊢
      clear h hp ho hc hl hs HE hx hy
      go_enter Try.func67, Try.ntmps67
      go_wp2_with fail
      refine HT.out.mono ?_
      rintro e w1 ⟨rfl, rfl⟩
      go_wp2_with fail
      refine HK.out.mono ?_
      rintro e w1 ⟨rfl, h1, hb1, hk1⟩
      have HX := Lib.hid (And.intro h1 (And.intro hb1 hk1))
      clear h1 hb1 hk1
      go_wp2_with fail
      go_end0
      exact ⟨rfl, ⟨_, _, _, HX.out.1⟩, HX.out.2⟩
    · by_cases hop : 1200 ≤ op
      · have HK := Lib.hid (flex_c B M F L s op l a c w h hp ho hc hs hx hop)
        have HE2 : Hid ((if true = false then s.refuse 82 else if true = false then s.refuse 81 else if 1200 ≤ op then s.flex op l else s.strokes op l) = s.flex op l) := by unfold Hid; rw [if_neg (by simp), if_neg (by simp), if_pos hop]
        rw [HE2.out]
        generalize MS.flex op l s = s9 at *
        obtain ⟨n, HN⟩ : ∃ n, Hid (l.length = n) := ⟨_, rfl⟩
        rw [HN.out] at HT HK ⊢
        clear h hp ho hc hl hs HE hx hy HE2
        go_enter Try.func67, Try.ntmps67
        go_wp2_with fail
        refine HT.out.mono ?_
        rintro e w1 ⟨rfl, rfl⟩
        go_wp2_with fail
        refine HK.out.mono ?_
        rintro e w1 ⟨rfl, hz⟩
        have HX := Lib.hid hz
        clear hz
        go_wp2_with fail
        go_end0
        exact ⟨rfl, HX.out⟩
      · have HK := Lib.hid (strokes_c B M F L s op l a c w h hp ho hc hl hx (by omega))
        have HE2 : Hid ((if true = false then s.refuse 82 else if true = false then s.refuse 81 else if 1200 ≤ op then s.flex op l else s.strokes op l) = s.strokes op l) := by unfold Hid; rw [if_neg (by simp), if_neg (by simp), if_neg hop]
        rw [HE2.out]
        generalize MS.strokes op l s = s9 at *
        obtain ⟨n, HN⟩ : ∃ n, Hid (l.length = n) := ⟨_, rfl⟩
        rw [HN.out] at HT HK ⊢
        clear h hp ho hc hl hs HE hx hy HE2
        go_enter Try.func67, Try.ntmps67
        go_wp2_with fail
        refine HT.out.mono ?_
        rintro e w1 ⟨rfl, rfl⟩
        go_wp2_with fail
        refine HK.out.mono ?_
        rintro e w1 ⟨rfl, hz⟩
        have HX := Lib.hid hz
        clear hz
        go_wp2_with fail
        go_end0
        exact ⟨rfl, HX.out⟩

theorem PenFit.strokes {s : MS} (h : PenFit s) (op : Int) (l : List Int) : PenFit (MS.strokes op l s) := by
  unfold MS.strokes MS.waves
  split
  · exact PenFit.lines _ _ h
  split
  · exact PenFit.steps _ _ _ h
  split
  · exact PenFit.curves _ _ h
  split
  · exact PenFit.lines _ _ (PenFit.curves _ _ h)
  split
  · exact PenFit.curves _ _ (PenFit.lines _ _ h)
  split
  · split <;> exact PenFit.wavesFrom _ _ _ _ h
  split
  · exact PenFit.turns _ _ _ h
  · exact h

theorem PenFit.fault {s : MS} (h : PenFit s) (f : Int) : PenFit { s with fault := f } := h

theorem PenFit.flex {s : MS} (h : PenFit s) (op : Int) (l : List Int) : PenFit (MS.flex op l s) := by
  unfold MS.flex
  simp only
  split
  · exact (h.curve _ _ _ _ _ _).curve _ _ _ _ _ _
  split
  · exact PenFit.curves _ _ h
  split
  · exact ((h.fault _).curve _ _ _ _ _ _).curve _ _ _ _ _ _
  split
  · exact (PenFit.curves _ _ (h.fault _)).curve _ _ _ _ _ _
  · exact h

theorem PenFit.draw {s : MS} (h : PenFit s) (op : Int) (l : List Int) : PenFit (MS.draw op l s) := by
  unfold MS.draw
  split
  · exact h.refuse _
  split
  · exact h.refuse _
  split
  · exact h.flex _ _
  · exact h.strokes _ _

end Go.Proofs.Ytklenppldblbdaa
