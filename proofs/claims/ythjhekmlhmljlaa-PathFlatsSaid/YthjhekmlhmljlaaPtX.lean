/-
  What step of package path gives: one arc more, or refused. For knots of the three kinds whose coordinates are FIX.
-/
import Derived.Test.YthjhekmlhmljlaaPtV
namespace Go.Proofs.Ythjhekmlhmljlaa
open Go.RowKit Go.PlainAid
set_option linter.unusedSimpArgs false
set_option linter.unusedVariables false

set_option maxRecDepth 20000 in
set_option maxHeartbeats 2000000 in
theorem step_quad (w0 : World) (W : Nat) (st : Sp) (ca : Option Addr) (cc : Nat) (k : Kn) (r : List Kn) (g pc : Nat) (P : List Sp) (c : Bool) (w : World) (h : Wk w0 W st ca cc (k :: r) g pc P c w) (h2 : k.k = 2) (Q : Ending → World → Prop) (hq : Calls Try.prog 75 #[.pointer (some ⟨W, 0, none⟩)] w fun e w' => ∃ n, e = .returned (.int .i64 n) ∧ Q e w') :
    Calls Try.prog 61 #[.pointer (some ⟨W, 0, none⟩)] w Q := by
  obtain ⟨b, off, rfl, k0, k1, k2⟩ := h.read.knot (i := 0) (k := k) rfl
  simp only [Nat.zero_mul, Nat.add_zero] at k0 k1 k2
  have c2 := h.cs.c2
  obtain ⟨nn, HNN⟩ : ∃ nn, Hid ((k :: r).length = nn) := ⟨_, rfl⟩
  rw [HNN.out] at c2
  have q1 : (0 : Int) < (nn : Int) := by have := HNN.out; simp only [List.length_cons] at this; omega
  have e1 : (k.k == 2) = true := by simpa using h2
  have HQ := Lib.hid hq
  clear h h2 hq
  go_enter Try.func61, Try.ntmps61
  go_wp2_with fail
  refine HQ.out.mono ?_
  rintro e w1 ⟨n, rfl, hQ⟩
  have HQ1 := Lib.hid hQ
  clear hQ HQ c2 k0 k1 k2
  go_wp2_with fail
  exact HQ1.out
set_option maxRecDepth 20000 in
set_option maxHeartbeats 2000000 in
theorem step_cubic (w0 : World) (W : Nat) (st : Sp) (ca : Option Addr) (cc : Nat) (k : Kn) (r : List Kn) (g pc : Nat) (P : List Sp) (c : Bool) (w : World) (h : Wk w0 W st ca cc (k :: r) g pc P c w) (h2 : k.k = 3) (Q : Ending → World → Prop) (hq : Calls Try.prog 76 #[.pointer (some ⟨W, 0, none⟩)] w fun e w' => ∃ n, e = .returned (.int .i64 n) ∧ Q e w') :
    Calls Try.prog 61 #[.pointer (some ⟨W, 0, none⟩)] w Q := by
  obtain ⟨b, off, rfl, k0, k1, k2⟩ := h.read.knot (i := 0) (k := k) rfl
  simp only [Nat.zero_mul, Nat.add_zero] at k0 k1 k2
  have c2 := h.cs.c2
  obtain ⟨nn, HNN⟩ : ∃ nn, Hid ((k :: r).length = nn) := ⟨_, rfl⟩
  rw [HNN.out] at c2
  have q1 : (0 : Int) < (nn : Int) := by have := HNN.out; simp only [List.length_cons] at this; omega
  rw [h2] at k2
  have HQ := Lib.hid hq
  clear h h2 hq
  go_enter Try.func61, Try.ntmps61
  go_wp2_with fail
  refine HQ.out.mono ?_
  rintro e w1 ⟨n, rfl, hQ⟩
  have HQ1 := Lib.hid hQ
  clear hQ HQ c2 k0 k1 k2
  go_wp2_with fail
  exact HQ1.out

/-- All knots are of the three kinds, and FIX. -/
def GoodK (L : List Kn) : Prop := ∀ k ∈ L, (k.k = 1 ∨ k.k = 2 ∨ k.k = 3) ∧ FixS k.sp
theorem stepPost_n {w0 : World} {W : Nat} {st : Sp} {L : List Kn} {P : List Sp} {c : Bool} {e : Ending} {w' : World} (h : StepPost w0 W st L P c e w') : ∃ n, e = .returned (.int .i64 n) ∧ StepPost w0 W st L P c e w' := ⟨0, h.1, h⟩
/-- What is refused. -/
def BadPost (w0 : World) (e : Ending) (w' : World) : Prop := e = .returned (.int .i64 61) ∧ Below w0.heap.size w0 w'

theorem step_some (w0 : World) (W : Nat) (st : Sp) (ca : Option Addr) (cc : Nat) (L : List Kn) (g pc : Nat) (P : List Sp) (p : Sp) (c : Bool) (w : World) (a : Arc) (L' : List Kn) (cl : Bool) (h : Wk w0 W st ca cc L g pc P c w) (hp : P.length ≤ 1000000) (hl : P[P.length - 1]? = some p) (hpos : 0 < P.length) (hst : FixS st) (hpf : FixS p) (hg : GoodK L) (ha : arc1 st L = some (a, L', cl)) :
    Calls Try.prog 61 #[.pointer (some ⟨W, 0, none⟩)] w (StepPost w0 W st L' (P ++ arcPts p a) (c || cl)) := by
  cases L with
  | nil => simp [arc1] at ha
  | cons k r =>
    have gk := hg k (by simp)
    rcases gk.1 with h1 | h2 | h3
    · simp only [arc1, h1, if_true] at ha
      cases ha
      rw [Bool.or_false]
      exact step_line w0 W st ca cc k L' g pc P c w h hp h1
    · refine step_quad w0 W st ca cc k r g pc P c w h h2 _ (Calls.mono ?_ fun e w' hh => stepPost_n hh)
      simp only [arc1, h2] at ha
      cases r with
      | nil =>
        simp at ha
        obtain ⟨rfl, rfl, rfl⟩ := ha
        rw [Bool.or_true]
        exact quad_endA w0 W st ca cc k [] g pc P p c w h hp hl hpos rfl st [] true (fun V hV => curveEnd_none1 w0 W st ca cc [k] g pc P c V hV rfl) gk.2 hst hpf
      | cons d r2 =>
        have gd := hg d (by simp)
        by_cases hd1 : d.k = 1
        · simp [hd1] at ha
          obtain ⟨rfl, rfl, rfl⟩ := ha
          rw [Bool.or_false]
          exact quad_endB w0 W st ca cc k (d :: r2) g pc P p c w h hp hl hpos d r2 rfl (by omega) d.sp r2 c (fun V hV => curveEnd_on1 w0 W st ca cc (k :: d :: r2) g pc P c V d hV rfl hd1) gk.2 gd.2 hpf
        · by_cases hd2 : d.k = 2
          · simp [hd2] at ha
            obtain ⟨rfl, rfl, rfl⟩ := ha
            rw [Bool.or_false]
            exact quad_mid w0 W st ca cc k (d :: r2) g pc P p c w h hp hl hpos d r2 rfl hd2 gk.2 gd.2 hpf
          · simp [hd1, hd2] at ha
    · refine step_cubic w0 W st ca cc k r g pc P c w h h3 _ (Calls.mono ?_ fun e w' hh => stepPost_n hh)
      simp only [arc1, h3] at ha
      cases r with
      | nil => simp at ha
      | cons d r2 =>
        have gd := hg d (by simp)
        by_cases hd3 : d.k = 3
        · cases r2 with
          | nil =>
            simp [hd3] at ha
            obtain ⟨rfl, rfl, rfl⟩ := ha
            rw [Bool.or_true]
            exact cubic_end w0 W st ca cc k d [] g pc P p c w h hp hl hpos h3 hd3 st [] true (fun V hV => curveEnd_none2 w0 W st ca cc [k, d] g pc P c V hV rfl) gk.2 gd.2 hpf hst
          | cons e r3 =>
            have ge := hg e (by simp)
            by_cases he1 : e.k = 1
            · simp [hd3, he1] at ha
              obtain ⟨rfl, rfl, rfl⟩ := ha
              rw [Bool.or_false]
              exact cubic_end w0 W st ca cc k d (e :: r3) g pc P p c w h hp hl hpos h3 hd3 e.sp r3 c (fun V hV => curveEnd_on2 w0 W st ca cc (k :: d :: e :: r3) g pc P c V e hV rfl he1) gk.2 gd.2 hpf ge.2
            · simp [hd3, he1] at ha
        · simp [hd3] at ha
theorem step_none (w0 : World) (W : Nat) (st : Sp) (ca : Option Addr) (cc : Nat) (L : List Kn) (g pc : Nat) (P : List Sp) (p : Sp) (c : Bool) (w : World) (h : Wk w0 W st ca cc L g pc P c w) (hp : P.length ≤ 1000000) (hl : P[P.length - 1]? = some p) (hpos : 0 < P.length) (hL : L ≠ []) (hg : GoodK L) (ha : arc1 st L = none) :
    Calls Try.prog 61 #[.pointer (some ⟨W, 0, none⟩)] w (BadPost w0) := by
  cases L with
  | nil => exact absurd rfl hL
  | cons k r =>
    have gk := hg k (by simp)
    rcases gk.1 with h1 | h2 | h3
    · simp [arc1, h1] at ha
    · refine step_quad w0 W st ca cc k r g pc P c w h h2 _ (Calls.mono ?_ fun e w' hh => ⟨61, hh.1, hh⟩)
      simp only [arc1, h2] at ha
      cases r with
      | nil => simp at ha
      | cons d r2 =>
        by_cases hd1 : d.k = 1
        · simp [hd1] at ha
        · by_cases hd2 : d.k = 2
          · simp [hd2] at ha
          · exact quad_bad w0 W st ca cc k (d :: r2) g pc P p c w h hp hl hpos d r2 rfl hd2 hd1
    · refine step_cubic w0 W st ca cc k r g pc P c w h h3 _ (Calls.mono ?_ fun e w' hh => ⟨61, hh.1, hh⟩)
      simp only [arc1, h3] at ha
      cases r with
      | nil => exact cubic_short w0 W st ca cc k g pc P c w h
      | cons d r2 =>
        by_cases hd3 : d.k = 3
        · cases r2 with
          | nil => simp [hd3] at ha
          | cons e r3 =>
            by_cases he1 : e.k = 1
            · simp [hd3, he1] at ha
            · exact cubic_bad w0 W st ca cc k d (e :: r3) g pc P p c w h hp hl hpos h3 hd3 (fun V hV => curveEnd_bad2 w0 W st ca cc (k :: d :: e :: r3) g pc P c V e hV rfl he1)
        · exact cubic_other w0 W st ca cc k d r2 g pc P c w h hd3

end Go.Proofs.Ythjhekmlhmljlaa
