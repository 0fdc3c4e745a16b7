/-
  What push, leave, behindWidth and addStems of the machine answer.
-/
import Derived.Test.YtklenppldblbdaaTn
import Derived.Test.YtklenppldblbdaaTi
import Derived.Deep.RegionHeld3
namespace Go.Proofs.Ytklenppldblbdaa
open Go.RowKit Go.PlainAid
set_option linter.unusedSimpArgs false
set_option linter.unusedVariables false

/-- Behind a call the machine lies somewhere from B on, in this state. -/
def MPost (B M F : Nat) (s' : MS) (v : Value) (w : World) (e : Ending) (w' : World) : Prop := e = .returned v ∧ (∃ L', Mach w' B M F L' s') ∧ Below B w w'

theorem LPost.m {B M F : Nat} {L : Lay} {s' : MS} {v : Value} {w : World} {e : Ending} {w' : World} (h : LPost B M F L s' v w e w') : MPost B M F s' v w e w' := ⟨h.1, ⟨_, h.2.1⟩, h.2.2.1⟩
theorem PenPost.m {B M F : Nat} {L : Lay} {s' : MS} {v : Value} {w : World} {e : Ending} {w' : World} (h : PenPost B M F L s' v w e w') : MPost B M F s' v w e w' := by
  obtain ⟨h1, ⟨oa, oc, vs, h2⟩, h3, _⟩ := h
  exact ⟨h1, ⟨_, h2⟩, h3⟩

theorem bel_own {B : Nat} {w w' : World} {e : TypeId} {s n : Nat} {v : Value} {xs : List Value} (h : w.ownsRow B e s v n xs) (hg : w.grownBy w' v.ownBlock) (hB : B ≤ w.heap.size) : Below B w w' :=
  ⟨hg.os, hg.tape, hg.output, hg.size, fun j hj => hg.block j (Nat.lt_of_lt_of_le hj hB) (fun e => by have := (h.lt j e.symm).1; omega)⟩

set_option maxRecDepth 20000 in
set_option maxHeartbeats 1000000 in
theorem push_c (B M F : Nat) (L : Lay) (s : MS) (n : Int) (w : World) (h : Mach w B M F L s) (hl : s.stack.length ≤ 48) :
    Calls Try.prog 41 #[.pointer (some ⟨M, 0, none⟩), .int .i64 n] w (MPost B M F (s.push n) (.tuple #[]) w) := by
  have H := Lib.hid h
  have c7 := h.c7
  have f7 := h.f 7
  by_cases h48 : s.stack.length = 48
  · have HE : Hid (s.push n = s.refuse 83) := by unfold Hid MS.push; rw [if_pos h48]
    rw [HE.out]
    rw [h48] at c7
    clear h hl HE h48
    go_enter Try.func41, Try.ntmps41
    go_wp2_with fail
    refine (refuse_c B M F L s 83 _ H.out).mono ?_
    rintro e w2 ⟨rfl, h2, hb2, hk2⟩
    have H2 := Lib.hid h2
    have HB2 := Lib.hid hb2
    clear h2 hb2 hk2
    go_wp2_with fail
    go_end0
    exact ⟨rfl, ⟨_, H2.out⟩, HB2.out⟩
  · have HE : Hid (s.push n = { s with stack := s.stack ++ [n] }) := by unfold Hid MS.push; rw [if_neg h48]
    rw [HE.out]
    obtain ⟨m, HM⟩ : ∃ m, Hid (s.stack.length = m) := ⟨_, rfl⟩
    rw [HM.out] at c7 h48 hl
    have hm : m ≤ 47 := by omega
    have z1 : ((m : Int) == 48) = false := by simp; omega
    have HML := Lib.hid hm
    have HB0 : Hid (Below w.heap.size w (w.alloc (.cells #[.int .i64 n] 3))) := (Below.refl _ _).alloc (Nat.le_refl _) _
    have H0 := Lib.hid (h.below HB0.out)
    have HOW : Hid ((w.alloc (.cells #[.int .i64 n] 3)).ownsRow B 3 1 (.slice L.sa m L.sc) m (s.stack.map (Value.int .i64))) := by
      have := H0.out.stack
      rw [HM.out] at this
      exact this
    clear h hl HE h48
    go_enter Try.func41, Try.ntmps41
    go_wp2_with (at_builtin; refine wpList_appA elI rfl _ _ rfl (w.alloc (.cells #[.int .i64 n] 3)) B L.sa m L.sc (s.stack.map (Value.int .i64)) w.heap.size 1 1 [.int .i64 n] rfl rfl HOW.out rfl lies_new (by simp [Value.oneCell']) (by decide) (by have := HML.out; omega) (by have := HML.out; omega) H0.out.le ?_; intro g9 c9 w9 ho9 hg9 hat9; have ht9 := typ_own HOW.out; have hm9 := blk_chg H0.out.mem hg9 ht9 (by decide); have hz9 := blk_cell hm9 7 (.slice L.sa s.stack.length L.sc) rfl; rw [HM.out] at hz9; have hf9 := blk_free hm9 7)
    have H10 := Lib.hid (Mach.pushed (n := n) H0.out (by rw [HM.out]; exact ho9) (by rw [HM.out]; exact hg9))
    rw [HM.out] at H10
    have HB9 : Hid (Below B w (w9.setCell ⟨M, 7, none⟩ (.slice (some ⟨g9, 0, none⟩) (m + 1) c9))) := bel_set (Below.trans (HB0.out.mono H.out.le) (bel_own HOW.out hg9 H0.out.le)) H.out.mB _
    clear ho9 hg9 hat9 ht9 hm9
    go_wp2_with fail
    go_end0
    exact ⟨rfl, ⟨_, H10.out⟩, HB9.out⟩

set_option maxRecDepth 20000 in
set_option maxHeartbeats 1000000 in
theorem leave_c (B M F : Nat) (L : Lay) (s : MS) (r : Rw) (rest : List Rw) (w : World) (h : Mach w B M F L s) (hr : s.rows = r :: rest) (hl : s.rows.length ≤ 100) :
    Calls Try.prog 54 #[.pointer (some ⟨M, 0, none⟩)] w (MPost B M F s.leave (.tuple #[]) w) := by
  have H := Lib.hid h
  have c6 := h.c6
  have f6 := h.f 6
  cases rest with
  | nil =>
    have HE : Hid (s.leave = s.refuse 81) := by unfold Hid MS.leave; rw [if_pos (by rw [hr]; rfl)]
    rw [HE.out]
    rw [show s.rows.length = 1 by rw [hr]; rfl] at c6
    clear h hl HE hr
    go_enter Try.func54, Try.ntmps54
    go_wp2_with fail
    refine (refuse_c B M F L s 81 _ H.out).mono ?_
    rintro e w2 ⟨rfl, h2, hb2, hk2⟩
    have H2 := Lib.hid h2
    have HB2 := Lib.hid hb2
    clear h2 hb2 hk2
    go_wp2_with fail
    go_end0
    exact ⟨rfl, ⟨_, H2.out⟩, HB2.out⟩
  | cons r2 rest2 =>
    have HE : Hid (s.leave = { s with rows := r2 :: rest2 }) := by unfold Hid MS.leave; rw [if_neg (by rw [hr]; simp)]; rw [hr]; rfl
    rw [HE.out]
    obtain ⟨m, HM⟩ : ∃ m, Hid ((r2 :: rest2).length = m) := ⟨_, rfl⟩
    have hlm : s.rows.length = m + 1 := by rw [hr]; have := HM.out; simp at *; omega
    rw [hlm] at c6 hl
    have hm : m ≤ 100 := by omega
    have hm1 : 1 ≤ m := by have := HM.out; simp at this; omega
    have z1 : (((m + 1 : Nat) : Int) == 1) = false := by simp; omega
    have z2 : ((m : Int) + 1 == 1) = false := by simp; omega
    have hcap := (ownsRow_cap h.rows.own).1
    rw [hlm] at hcap
    have z3 : (m : Int) ≤ (L.pc : Int) := by omega
    obtain ⟨q, rb, hb⟩ : ∃ q rb, L.rb = q :: rb := by
      have := h.rows.len
      rw [hr] at this
      cases hx : L.rb with
      | nil => rw [hx] at this; simp at this
      | cons q rb => exact ⟨q, rb, rfl⟩
    have HX := Lib.hid (h.below (Below.refl _ _).drew)
    have HL := Lib.hid (HX.out.left hb hr HM.out)
    have HB9 : Hid (Below B w (w.drew.setCell ⟨M, 6, none⟩ (.slice (some ⟨L.pg, 0, none⟩) m L.pc))) := bel_set (Below.refl B w).drew h.mB _
    have HMB := Lib.hid h.mB
    clear h hl HE hr hcap hb
    go_enter Try.func54, Try.ntmps54
    go_wp2_with fail
    go_region
    all_goals (
      go_wp2_with fail
      go_end0
      exact ⟨rfl, ⟨_, HL.out⟩, HB9.out⟩)

theorem nearM_bound (n : Int) : -2147483647 ≤ nearM n ∧ nearM n ≤ 2147483647 := by
  unfold nearM mulDiv
  split <;> (try split) <;> simp_all <;> (try omega)

end Go.Proofs.Ytklenppldblbdaa
