/-
  What behindWidth and addStems of the machine answer.
-/
import Derived.Test.YtklenppldblbdaaTo
namespace Go.Proofs.Ytklenppldblbdaa
open Go.RowKit Go.PlainAid
set_option linter.unusedSimpArgs false
set_option linter.unusedVariables false

/-- What behindWidth leaves: the operands, and the machine. -/
def BPost (B M F : Nat) (L : Lay) (q : List Int × MS) (w : World) (e : Ending) (w' : World) : Prop := ∃ a c, e = .returned (.slice a q.1.length c) ∧ Opds w' q.1 a ∧ q.1.length ≤ c ∧ Mach w' B M F L q.2 ∧ Below B w w' ∧ IntKeep w w'

set_option maxRecDepth 20000 in
set_option maxHeartbeats 2000000 in
theorem behind_c (B M F : Nat) (L : Lay) (s : MS) (l : List Int) (a : Option Addr) (c : Nat) (many : Bool) (w1 : Int) (w : World) (h : Mach w B M F L s) (ho : Opds w l a) (hc : l.length ≤ c) (hl : l.length ≤ 1000) (hm : many = true → 0 < l.length) (hx : ∀ v ∈ l, -2147483648 ≤ v ∧ v ≤ 2147483648)
    (hF : w.cell? ⟨F, 7, none⟩ = some (.int .i64 w1)) (hFB : F < B) (hw1 : -4294967296 ≤ w1 ∧ w1 ≤ 4294967296) :
    Calls Try.prog 69 #[.pointer (some ⟨M, 0, none⟩), .slice a l.length c, .bool many] w (BPost B M F L (s.behind w1 l many) w) := by
  have H := Lib.hid h
  have HO := Lib.hid ho
  have c11 := h.c11
  have f11 := h.f 11
  have HA := Lib.hid (h.setAsked true)
  have HBA := Lib.hid (h.bset 11 (.bool true))
  by_cases hd : s.asked = false ∧ many = true
  · obtain ⟨ha, rfl⟩ := hd
    have HE : Hid (s.behind w1 l true = (l.tail, { s with asked := true, width := nearM (l.headD 0) + w1 })) := by unfold Hid MS.behind; rw [if_pos ⟨ha, rfl⟩]
    rw [HE.out]
    rw [ha] at c11
    obtain ⟨x, t, rfl⟩ : ∃ x t, l = x :: t := by
      cases l with
      | nil => exact absurd (hm rfl) (by simp)
      | cons x t => exact ⟨x, t, rfl⟩
    obtain ⟨n, HN⟩ : ∃ n, Hid (t.length = n) := ⟨_, rfl⟩
    obtain ⟨g, off, rfl, _⟩ := ho.at (by simp)
    have hxb := hx x (by simp)
    have hcn : n + 1 ≤ c := by have := HN.out; simp at hc; omega
    have hn : n ≤ 1000 := by have := HN.out; simp at hl; omega
    have HWB := Lib.hid hw1
    have hMF : M ≠ F := by have := h.mB; omega
    have HNE := Lib.hid hMF
    rw [show (x :: t).length = n + 1 by have := HN.out; simp; omega]
    have HCC := Lib.hid hc
    -- the world behind the store of asked
    obtain ⟨wa, HWA⟩ : ∃ wa, Hid (w.setCell ⟨M, 11, none⟩ (.bool true) = wa) := ⟨_, rfl⟩
    rw [HWA.out] at HA HBA
    obtain ⟨g', off', hgo, hcell⟩ := (HO.out.keep HBA.out.2).at (by simp)
    cases hgo
    have k0 := hcell 0 x rfl
    rw [Nat.add_zero] at k0
    have k5 := HA.out.c5
    have kf : wa.cell? ⟨F, 7, none⟩ = some (.int .i64 w1) := by rw [← HWA.out, keepS hMF]; exact hF
    have b0 : (0 : Int) < (n : Int) + 1 := by omega
    have b1 : (1 : Int) ≤ (n : Int) + 1 := by omega
    have HXB := Lib.hid hxb
    have HAd := Lib.hid (HA.out.below (Below.refl _ _).drew)
    clear h ho hc hl hm hx hF hw1 ha HE hcell hMF hxb
    go_enter Try.func69, Try.ntmps69
    go_wp2_with fail
    rw [HWA.out]
    have HGM : Hid (M ≠ g) := by
      intro e
      have h1 := HO.out.keep HBA.out.2
      rcases h1 with h1 | ⟨g', off', cs, fr, e1, e2, _⟩
      · cases h1
      · cases e1
        rw [← e, HA.out.mem] at e2
        exact absurd e2 (by simp)
    have es : IntKind.i64.wrap (nearM x + w1) = nearM x + w1 := IntWalk.i64_in _ (by have h1 := nearM_bound x; have h2 := HWB.out; omega)
    have k0d : wa.drew.cell? ⟨g, off, none⟩ = some (.int .i64 x) := k0
    have k5d : wa.drew.cell? ⟨M, 5, none⟩ = some (.pointer (some ⟨F, 0, none⟩)) := k5
    have kfd : wa.drew.cell? ⟨F, 7, none⟩ = some (.int .i64 w1) := kf
    have q10 := HAd.out.c10
    have p10 := HAd.out.f 10
    go_region_held3 (fun W => W.cell? ⟨g, off, none⟩ = some (.int .i64 x) ∧ W.cell? ⟨M, 5, none⟩ = some (.pointer (some ⟨F, 0, none⟩)) ∧ W.cell? ⟨F, 7, none⟩ = some (.int .i64 w1)) (first | with_reducible exact ⟨k0d, k5d, kfd⟩ | with_reducible exact ⟨j0, j5, jf⟩ | with_reducible exact ⟨(keepS HGM.out).trans j0, (World.cell?_setCell_other _ _ _ _ (by simp)).trans j5, (keepS HNE.out).trans jf⟩)
      ((go_at_call 75; (with_reducible refine (nearest_c x _ HXB.out.1 HXB.out.2).mono ?_); rintro e w2 ⟨rfl, hb2⟩; have j0 := keepC hb2 k0d; have j5 := keepC hb2 k5d; have jf := keepC hb2 kfd; have j10 := keepC hb2 q10; have i10 := keepF hb2 q10 p10; have HB2 := Lib.hid hb2; have hn1 := (nearM_bound x).1; have hn2 := (nearM_bound x).2; have hw2 := HWB.out.1; have hw3 := HWB.out.2; clear hb2))
    have HW2 := Lib.hid ((HAd.out.below HB2.out).setWidth (nearM x + w1))
    have HBF : Hid (Below B w (w2.setCell ⟨M, 10, none⟩ (.int .i64 (nearM x + w1)))) := bel_set ((HBA.out.1.drew.trans (HB2.out.mono HAd.out.le))) H.out.mB _
    have HKF : Hid (IntKeep w (w2.setCell ⟨M, 10, none⟩ (.int .i64 (nearM x + w1)))) := (HBA.out.2.trans ((keep_bel (Below.refl wa.heap.size wa).drew).trans (keep_bel HB2.out))).trans ((HAd.out.below HB2.out).bset 10 _).2
    have HOF := Lib.hid ((HO.out.keep HKF.out).rest (c := c) 1 (r := t) rfl HCC.out)
    clear j0 j5 jf j10 i10 q10 p10 es
    go_wp2_with fail
    all_goals (
      go_ret
      refine ⟨_, _, by show _ = Ending.returned (.slice _ t.length _); rw [HN.out]; rfl, ?_, by show t.length ≤ _; have h2 := HN.out; omega, HW2.out, HBF.out, HKF.out⟩
      have h1 := HOF.out
      first
        | exact h1
        | (rw [if_pos (by assumption)] at h1; exact h1)
        | (rw [if_neg (by assumption)] at h1; exact h1))
  · have HE : Hid (s.behind w1 l many = (l, { s with asked := true })) := by unfold Hid MS.behind; rw [if_neg hd]
    rw [HE.out]
    have HC := Lib.hid hc
    obtain ⟨n, HN⟩ : ∃ n, Hid (l.length = n) := ⟨_, rfl⟩
    rw [HN.out]
    clear h ho hc hl hm hx hF hw1 HE
    cases ha : s.asked
    · rw [ha] at c11
      have hmf : many = false := by cases many; { rfl }; { exact absurd ⟨ha, rfl⟩ hd }
      subst hmf
      clear ha hd
      go_enter Try.func69, Try.ntmps69
      go_wp2_with fail
      go_ret
      exact ⟨_, c, by rw [HN.out]; rfl, HO.out.keep HBA.out.2, HC.out, HA.out, HBA.out.1, HBA.out.2⟩
    · rw [ha] at c11
      clear ha hd
      go_enter Try.func69, Try.ntmps69
      go_wp2_with fail
      go_ret
      exact ⟨_, c, by rw [HN.out]; rfl, HO.out.keep HBA.out.2, HC.out, HA.out, HBA.out.1, HBA.out.2⟩

end Go.Proofs.Ytklenppldblbdaa
