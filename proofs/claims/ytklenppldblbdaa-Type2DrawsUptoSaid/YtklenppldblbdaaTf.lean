/-
  What refuse, add and nearest of the pen answer.
-/
import Derived.Test.YtklenppldblbdaaTc
namespace Go.Proofs.Ytklenppldblbdaa
open Go.RowKit Go.PlainAid
set_option linter.unusedSimpArgs false
set_option linter.unusedVariables false

/-- Rows of numbers are kept. -/
def IntKeep (w w' : World) : Prop := ∀ (b : Nat) (cs : Array Value) (fr : Nat × Nat), w.heap[b]? = some (.cells cs 3 fr) → w'.heap[b]? = some (.cells cs 3 fr)

theorem IntKeep.refl (w : World) : IntKeep w w := fun _ _ _ h => h
theorem IntKeep.trans {a b c : World} (h : IntKeep a b) (k : IntKeep b c) : IntKeep a c := fun x cs fr hx => k x cs fr (h x cs fr hx)
theorem keep_chg {w w' : World} {r : Option Nat} {T : TypeId} (hg : w.grownBy w' r) (ht : TypAt w r T) (h : T ≠ 3) : IntKeep w w' := fun _ _ _ hx => blk_chg hx hg ht (Ne.symm h)
theorem keep_bel {w w' : World} (hb : Below w.heap.size w w') : IntKeep w w' := fun _ _ _ hx => blk_below hx hb
theorem keep_set {w : World} {D : Nat} {cs : Array Value} {T : TypeId} {fr : Nat × Nat} (h : w.heap[D]? = some (.cells cs T fr)) (hT : T ≠ 3) (j : Nat) (v : Value) : IntKeep w (w.setCell ⟨D, j, none⟩ v) := keep_chg (grown_set w D j v) (typ_blk h) hT

/-- Behind a call the machine lies where it lay, in this state. -/
def LPost (B M F : Nat) (L : Lay) (s' : MS) (v : Value) (w : World) (e : Ending) (w' : World) : Prop := e = .returned v ∧ Mach w' B M F L s' ∧ Below B w w' ∧ IntKeep w w'

/-- Behind a call the machine lies where it lay but for its outline, in this state. -/
def PenPost (B M F : Nat) (L : Lay) (s' : MS) (v : Value) (w : World) (e : Ending) (w' : World) : Prop := e = .returned v ∧ (∃ oa oc vs, Mach w' B M F { L with oa := oa, oc := oc, vs := vs } s') ∧ Below B w w' ∧ IntKeep w w'

theorem LPost.pen {B M F : Nat} {L : Lay} {s' : MS} {v : Value} {w : World} {e : Ending} {w' : World} (h : LPost B M F L s' v w e w') : PenPost B M F L s' v w e w' := ⟨h.1, ⟨_, _, _, h.2.1⟩, h.2.2⟩

theorem Mach.lt {w : World} {B M F : Nat} {L : Lay} {s : MS} (h : Mach w B M F L s) : M < w.heap.size := blk_lt h.mem
theorem Mach.le {w : World} {B M F : Nat} {L : Lay} {s : MS} (h : Mach w B M F L s) : B ≤ w.heap.size := Nat.le_trans h.mB (Nat.le_of_lt h.lt)

theorem bel_mset {B : Nat} (w : World) {M : Nat} (h : B ≤ M) (j : Nat) (v : Value) : Below B w (w.setCell ⟨M, j, none⟩ v) := (Below.refl B w).setCell h v

theorem Mach.bset {w : World} {B M F : Nat} {L : Lay} {s : MS} (h : Mach w B M F L s) (j : Nat) (v : Value) : Below B w (w.setCell ⟨M, j, none⟩ v) ∧ IntKeep w (w.setCell ⟨M, j, none⟩ v) := ⟨bel_mset w h.mB j v, keep_set h.mem (by decide) j v⟩

set_option maxHeartbeats 400000 in
theorem refuse_c (B M F : Nat) (L : Lay) (s : MS) (e0 : Int) (w : World) (h : Mach w B M F L s) :
    Calls Try.prog 37 #[.pointer (some ⟨M, 0, none⟩), .int .i64 e0] w (LPost B M F L (s.refuse e0) (.tuple #[]) w) := by
  have H := Lib.hid h
  have h4 := h.c4
  have f4 := h.f 4
  clear h
  by_cases hf : s.fault = 0
  · have HE : Hid (s.refuse e0 = { s with fault := e0 }) := by unfold Hid MS.refuse; rw [if_pos hf]
    rw [HE.out]
    rw [hf] at h4
    clear hf HE
    go_enter Try.func37, Try.ntmps37
    go_wp2_with fail
    go_end0
    exact ⟨rfl, H.out.setFault e0, H.out.bset 4 _⟩
  · have HE : Hid (s.refuse e0 = s) := by unfold Hid MS.refuse; rw [if_neg hf]
    rw [HE.out]
    clear HE
    go_enter Try.func37, Try.ntmps37
    go_wp2_with fail
    go_end0
    exact ⟨rfl, H.out, Below.refl _ _, IntKeep.refl _⟩

theorem sumOr_f (a b : Int) : (sumOr a b).2 = 0 ∨ (sumOr a b).2 = 14 := by unfold sumOr; split <;> simp

set_option maxHeartbeats 400000 in
theorem add_c (B M F : Nat) (L : Lay) (s : MS) (a b : Int) (w : World) (h : Mach w B M F L s) :
    Calls Try.prog 85 #[.pointer (some ⟨M, 0, none⟩), .int .i64 a, .int .i64 b] w (LPost B M F L { s with fault := addF s.fault a b } (.int .i64 (sumOr a b).1) w) := by
  have H := Lib.hid h
  obtain ⟨x, HX⟩ : ∃ x, Hid ((sumOr a b).1 = x) := ⟨_, rfl⟩
  obtain ⟨f, HF⟩ : ∃ f, Hid ((sumOr a b).2 = f) := ⟨_, rfl⟩
  have HS : Hid (sumOr a b = (x, f)) := by unfold Hid; rw [← HX.out, ← HF.out]
  have HZ := Lib.hid (sumOr_f a b)
  rw [HF.out] at HZ
  rw [HX.out]
  clear h
  rcases HZ.out with hz | hz
  · have HE : Hid (({ s with fault := addF s.fault a b } : MS) = s) := by unfold Hid addF; rw [HF.out, hz]; simp
    rw [HE.out]
    subst hz
    go_enter Try.func85, Try.ntmps85
    go_wp2_with fail
    refine (add_any a b x 0 _ HS).mono ?_
    rintro e w1 ⟨rfl, hb1⟩
    go_wp2_with fail
    go_ret
    exact ⟨rfl, H.out.below hb1, hb1.mono H.out.le, keep_bel hb1⟩
  · have HE : Hid (({ s with fault := addF s.fault a b } : MS) = s.refuse 84) := by
      unfold Hid addF MS.refuse; rw [HF.out, hz]
      by_cases h0 : s.fault = 0 <;> simp [h0]
    rw [HE.out]
    subst hz
    go_enter Try.func85, Try.ntmps85
    go_wp2_with fail
    refine (add_any a b x 14 _ HS).mono ?_
    rintro e w1 ⟨rfl, hb1⟩
    have H1 := Lib.hid (H.out.below hb1)
    have HB1 := Lib.hid (hb1.mono H.out.le)
    have HK1 := Lib.hid (keep_bel hb1)
    clear hb1
    go_wp2_with fail
    refine (refuse_c B M F L s 84 _ H1.out).mono ?_
    rintro e w2 ⟨rfl, h2, hb2, hk2⟩
    go_wp2_with fail
    go_ret
    exact ⟨rfl, h2, HB1.out.trans hb2, HK1.out.trans hk2⟩

set_option maxHeartbeats 400000 in
theorem nearest_c (n : Int) (w : World) (h0 : -2147483648 ≤ n) (h1 : n ≤ 2147483648) :
    Calls Try.prog 75 #[.int .i64 n] w fun e w' => e = .returned (.int .i64 (nearM n)) ∧ Below w.heap.size w w' := by
  have HM := Lib.hid (muldiv_low n 1 65536 w (by omega) (by omega) (by omega) (by omega) (by omega) (by omega) (by rw [show Int.natAbs 1 = 1 from rfl]; omega))
  clear h0 h1
  go_enter Try.func75, Try.ntmps75
  go_wp2_with fail
  refine HM.out.mono ?_
  rintro e w1 ⟨rfl, hb1⟩
  have HB := Lib.hid hb1
  clear hb1
  generalize hq : (mulDiv n 1 65536).1 = q at *
  generalize (mulDiv n 1 65536).2 = q2 at *
  have HQ := Lib.hid hq
  clear hq
  go_wp2_with fail
  go_ret
  exact ⟨by rw [nearM, HQ.out]; rfl, HB.out⟩

end Go.Proofs.Ytklenppldblbdaa
