/-
  What step of package path gives at a knot on the curve: a line to it.
-/
import Derived.Test.YthjhekmlhmljlaaPtQ
import Derived.Deep.RegionLaw
namespace Go.Proofs.Ythjhekmlhmljlaa
open Go.RowKit Go.PlainAid
set_option linter.unusedSimpArgs false
set_option linter.unusedVariables false

/-- What a step answers: one arc more, the knots behind it to come. -/
def StepPost (w0 : World) (W : Nat) (st : Sp) (L : List Kn) (P : List Sp) (c : Bool) (e : Ending) (w' : World) : Prop :=
  e = .returned (.int .i64 0) ∧ ∃ ca cc g pc, Wk w0 W st ca cc L g pc P c w'

set_option maxRecDepth 20000 in
set_option maxHeartbeats 2000000 in
theorem step_line (w0 : World) (W : Nat) (st : Sp) (ca : Option Addr) (cc : Nat) (k : Kn) (r : List Kn) (g pc : Nat) (P : List Sp) (c : Bool) (w : World) (h : Wk w0 W st ca cc (k :: r) g pc P c w) (hp : P.length ≤ 1000000) (h1 : k.k = 1) :
    Calls Try.prog 61 #[.pointer (some ⟨W, 0, none⟩)] w (StepPost w0 W st r (P ++ [k.sp]) c) := by
  obtain ⟨b, off, rfl, k0, k1, k2⟩ := h.read.knot (i := 0) (k := k) rfl
  simp only [Nat.zero_mul, Nat.add_zero] at k0 k1 k2
  have hlc := h.lc
  have hlt := h.lt
  have HW := Lib.hid h
  have HR : Hid (IsR clK w0 (some ⟨b, off + 3, none⟩) r) := h.com.drop clK_length 1
  have HCS := Lib.hid h.cs
  have c2 := h.cs.c2
  have c3 := h.cs.c3
  have f3 := h.cs.f3
  have f2 := h.cs.f2
  have hbW : b < w0.heap.size := World.block_lt_of_cell? w0 _ (by have := h.com.knot (i := 0) (k := k) rfl; obtain ⟨b', o', e, q0, _⟩ := this; cases e; exact q0)
  obtain ⟨n, HN⟩ : ∃ n, Hid (r.length = n) := ⟨_, rfl⟩
  obtain ⟨m, HM⟩ : ∃ m, Hid (P.length = m) := ⟨_, rfl⟩
  simp only [List.length_cons] at c2 hlc
  rw [HN.out] at c2 hlc
  rw [HM.out] at c3
  have HP := Lib.hid hp
  have HLC := Lib.hid hlc
  have q1 : (0 : Int) < ((n + 1 : Nat) : Int) := by omega
  have q2 : (1 : Int) ≤ ((n + 1 : Nat) : Int) := by omega
  have q3 : (1 : Int) ≤ (cc : Int) := by omega
  obtain ⟨x, y, z⟩ := k
  simp only at h1 k0 k1 k2
  subst h1
  have HKn := Lib.hid (And.intro k0 (And.intro k1 k2))
  clear h hp hlc hbW
  go_enter Try.func61, Try.ntmps61
  go_wp2_with fail
  have HWd : Hid (Wk w0 W st (some ⟨b, off, none⟩) cc (⟨x, y, 1⟩ :: r) g pc P c w.drew) := HW.out.below (Below.refl _ _).drew
  go_region_law (first
    | (refine step_app elS rfl _ _ rfl (w6.alloc (.cells #[.int .i64 x, .int .i64 y] 47)) w0.heap.size g pc m (P.flatMap clS) (some ⟨w6.heap.size, 0, none⟩) 1 1 [.int .i64 x, .int .i64 y] rfl rfl (by have := HW6.out.own.alloc (.cells #[.int .i64 x, .int .i64 y] 47); rwa [HM.out] at this) rfl (.inr ⟨_, 0, rfl, lies_new⟩) (by simp [Value.oneCell']) (by have := HP.out; have := HM.out; omega) (by have := HP.out; have := HM.out; omega) (by have := HW6.out.bel.size; simp; omega) ?_; intro g8 c8 w8 ho8 hg8 hat8; have d3 : w8.cell? ⟨W, 3, none⟩ = some (.slice (some ⟨g, 0, none⟩) m pc) := grown_cell hg8 (keepA c36 _) (Ne.symm HW6.out.ne); have e3 : w8.frozen? ⟨W, 3, none⟩ = false := by (rw [World.frozen?_of_block (a := ⟨W, 3, none⟩) (hg8.block W (by have := HW6.out.lt; simp; omega) (fun e => HW6.out.ne (by cases e; rfl)))]; exact keepAF c36 f36 _))
    | (go_simp; go_at_call 42; refine (placeOf_h ⟨x, y, 1⟩ w.drew).mono ?_; rintro e w6 ⟨rfl, hb6⟩; have HW6 := Lib.hid (HWd.out.below hb6); have c36 := HW6.out.cs.c3; rw [HM.out] at c36; have f36 := HW6.out.cs.f3; have c37 := keepA c36 (.cells #[.int .i64 x, .int .i64 y] 47)))
  all_goals
    have HW9 : Hid (Wk w0 W st (some ⟨b, off, none⟩) cc (⟨x, y, 1⟩ :: r) g8 c8 (P ++ [⟨x, y⟩]) c (w8.setCell ⟨W, 3, none⟩ (.slice (some ⟨g8, 0, none⟩) (m + 1) c8))) := by
      refine (HW6.out.below ((Below.refl _ _).alloc (Nat.le_refl _) (.cells #[.int .i64 x, .int .i64 y] 47))).setP (by rw [List.length_append, HM.out]; rfl) ?_ hg8 ?_
      · rw [List.length_append, HM.out, List.flatMap_append]; exact ho8
      · rcases hat8 with e | e
        · exact .inl e
        · exact .inr (by omega)
    clear ho8 hg8 hat8 d3 e3 c36 f36 c37 HW6 HWd c2 c3 f2 f3 HCS
    generalize (w8.setCell ⟨W, 3, none⟩ (.slice (some ⟨g8, 0, none⟩) (m + 1) c8)) = w9 at *
    have c2 : w9.cell? ⟨W, 2, none⟩ = some (.slice (some ⟨b, off, none⟩) (n + 1) cc) := by have := HW9.out.cs.c2; simp only [List.length_cons] at this; rw [HN.out] at this; exact this
    have f2 := HW9.out.cs.f2
    by_cases hcc : cc = 1
    · subst hcc
      obtain rfl : n = 0 := by have := HLC.out; omega
      have HW10 := Lib.hid (HW9.out.setC (a' := some ⟨b, off, none⟩) (n' := 0) (c' := 0) (L' := r) (.inl (List.eq_nil_of_length_eq_zero HN.out)) HN.out (Nat.le_refl _))
      go_wp2_with fail
      go_ret
      exact ⟨rfl, _, _, _, _, HW10.out⟩
    · have HW10 := Lib.hid (HW9.out.setC (a' := some ⟨b, off + 3, none⟩) (n' := n) (c' := cc - 1) (L' := r) HR.out HN.out (by have := HLC.out; omega))
      go_wp2_with fail
      go_ret
      exact ⟨rfl, _, _, _, _, HW10.out⟩

end Go.Proofs.Ythjhekmlhmljlaa
