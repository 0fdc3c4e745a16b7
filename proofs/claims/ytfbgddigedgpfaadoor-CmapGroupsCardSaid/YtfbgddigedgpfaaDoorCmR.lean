/-
  A table of right groups is read as its groups: which answer each code has.
-/
import Derived.Test.YtfbgddigedgpfaaDoorCmQ
namespace Go.Proofs.YtfbgddigedgpfaaDoor
open Go.RowKit Go.PlainAid
set_option linter.unusedSimpArgs false
set_option linter.unusedVariables false

/-- The groups are right. -/
structure GrpOk (n : Nat) (f : Nat → Int) : Prop where
  le : n ≤ 4096
  b : ∀ m, m < 3 * n → 0 ≤ f m ∧ f m ≤ 4294967295
  r : ∀ j, j < n → ahead f j < f (3 * j) ∧ f (3 * j) ≤ f (3 * j + 1) ∧ f (3 * j + 1) ≤ 1114111

theorem tellG_at {form : Int} {n : Nat} {f : Nat → Int} (h : GrpOk n f) {j : Nat} (hj : j < n) : tellG (spR (form12B form n f (3 * n)) 16 12 j) = ⟨f (3 * j), f (3 * j + 1), f (3 * j + 2), true⟩ := by
  have hz := form12B_size form n f (3 * n)
  have hr := h.r j hj
  have e0 : numOr (spR (form12B form n f (3 * n)) 16 12 j) 0 4 = (f (3 * j), 0) := by
    have := numOr_cut (form12B form n f (3 * n)) (16 + 12 * j) (16 + 12 * j + 12) 0 4 (by omega) (by omega)
    rw [show 16 + 12 * j + 0 = 16 + 4 * (3 * j) by omega] at this
    rw [show ((4 : Nat) : Int) = 4 from rfl, num_grp form n f (3 * n) (3 * j) (by omega) (h.b _ (by omega)).1 (h.b _ (by omega)).2] at this
    exact this
  have e1 : numOr (spR (form12B form n f (3 * n)) 16 12 j) 4 4 = (f (3 * j + 1), 0) := by
    have := numOr_cut (form12B form n f (3 * n)) (16 + 12 * j) (16 + 12 * j + 12) 4 4 (by omega) (by omega)
    rw [show 16 + 12 * j + 4 = 16 + 4 * (3 * j + 1) by omega] at this
    rw [show ((4 : Nat) : Int) = 4 from rfl, num_grp form n f (3 * n) (3 * j + 1) (by omega) (h.b _ (by omega)).1 (h.b _ (by omega)).2] at this
    exact this
  have e2 : numOr (spR (form12B form n f (3 * n)) 16 12 j) 8 4 = (f (3 * j + 2), 0) := by
    have := numOr_cut (form12B form n f (3 * n)) (16 + 12 * j) (16 + 12 * j + 12) 8 4 (by omega) (by omega)
    rw [show 16 + 12 * j + 8 = 16 + 4 * (3 * j + 2) by omega] at this
    rw [show ((4 : Nat) : Int) = 4 from rfl, num_grp form n f (3 * n) (3 * j + 2) (by omega) (h.b _ (by omega)).1 (h.b _ (by omega)).2] at this
    exact this
  unfold tellG
  rw [e0, e1, e2]
  simp [hr.2.1, hr.2.2]
theorem spF_at {form : Int} {n : Nat} {f : Nat → Int} (h : GrpOk n f) {m : Nat} (hm : m < 3 * n) : spF (form12B form n f (3 * n)) 16 12 tellG m = f m := by
  have ht := tellG_at (form := form) h (j := m / 3) (by omega)
  unfold spF
  rw [ht]
  have h3 : m % 3 = 0 ∨ m % 3 = 1 ∨ m % 3 = 2 := by omega
  rcases h3 with h3 | h3 | h3
  · rw [if_pos h3]; show f (3 * (m / 3)) = f m; congr 1; omega
  · rw [if_neg (by omega), if_pos h3]; show f (3 * (m / 3) + 1) = f m; congr 1; omega
  · rw [if_neg (by omega), if_neg (by omega)]; show f (3 * (m / 3) + 2) = f m; congr 1; omega
theorem grpGood_at {form : Int} {n : Nat} {f : Nat → Int} (h : GrpOk n f) : grpGood (form12B form n f (3 * n)) ∧ (numOr (form12B form n f (3 * n)) 12 4).1.toNat = n := by
  have hn : numOr (form12B form n f (3 * n)) 12 4 = ((n : Int), 0) := num_big4 (p := 12) (head_seg form n f (3 * n)).2.1 (by omega) (by have := h.le; omega)
  have hz := form12B_size form n f (3 * n)
  refine ⟨⟨by rw [hn], by rw [hn]; have := h.le; show (n : Int) ≤ 4096; omega, ?_⟩, by rw [hn]; simp⟩
  rw [hn]
  intro j hj
  have hj' : j < n := by simpa using hj
  have hr := h.r j hj'
  refine ⟨by omega, by rw [tellG_at h hj'], ?_⟩
  rw [tellG_at h hj']
  cases j with
  | zero => exact hr.1
  | succ i =>
    show spF _ _ _ _ (3 * i + 1) < _
    rw [spF_at h (by omega)]
    exact hr.1

theorem endIx_congr {f f' : Nat → Int} {code : Int} : ∀ n j, (∀ i, j ≤ i → i < j + n → f (3 * i + 1) = f' (3 * i + 1)) → endIx f code n j = endIx f' code n j
  | 0, j, _ => rfl
  | n + 1, j, h => by rw [endIx, endIx, h j (Nat.le_refl _) (by omega), endIx_congr n (j + 1) (fun i h1 h2 => h i (by omega) (by omega))]
theorem grpAns_congr {rise : Bool} {k : Nat} {f f' : Nat → Int} {code : Int} (h : ∀ m, m < 3 * k → f m = f' m) : grpAns rise k f code = grpAns rise k f' code := by
  have e : endIx f code k 0 = endIx f' code k 0 := endIx_congr k 0 (fun i _ hi => h _ (by omega))
  unfold grpAns
  rw [e]
  by_cases hk : endIx f' code k 0 < k
  · have e2 : inSp k f code (endIx f' code k 0) = inSp k f' code (endIx f' code k 0) := by unfold inSp; rw [h (3 * endIx f' code k 0) (by omega)]
    rw [e2, h (3 * endIx f' code k 0) (by omega), h (3 * endIx f' code k 0 + 2) (by omega)]
  · have e2 : inSp k f code (endIx f' code k 0) = false := by unfold inSp; simp [hk]
    have e3 : inSp k f' code (endIx f' code k 0) = false := by unfold inSp; simp [hk]
    rw [e2, e3]; rfl

/-- A table of groups. -/
def tblB (p q form : Int) (n : Nat) (f : Nat → Int) : ByteArray := tableB p q (form12B form n f (3 * n))
theorem tblB_size (p q form : Int) (n : Nat) (f : Nat → Int) : (tblB p q form n f).size = 28 + 12 * n := by rw [tblB, tableB_size, form12B_size]; omega

theorem tbl_reads {p q form : Int} {n : Nat} {f : Nat → Int} (hpq : (p = 0 ∧ q = 4) ∨ (p = 3 ∧ q = 10)) (hform : form = 12 ∨ form = 13) (h : GrpOk n f) {glyphs : Int} (hg1 : 1 ≤ glyphs) (hg2 : glyphs ≤ 4096) :
    readsGrp (tblB p q form n f) glyphs 12 ∧ (numOr (tblB p q form n f) 12 2).1 = form ∧ grpOf (tblB p q form n f) 12 = grpAns (decide (form = 12)) n f := by
  have hz := tblB_size p q form n f
  have s0 := seg_self (tblB p q form n f)
  have s1 : Seg (tblB p q form n f) 0 (twoB [0, 1, p, q] ++ at12) := s0.left
  have s2 : Seg (tblB p q form n f) (0 + (twoB [0, 1, p, q] ++ at12).size) (form12B form n f (3 * n)) := s0.right
  have z8 : (twoB [0, 1, p, q]).size = 8 := by rw [twoB_size]; rfl
  rw [ByteArray.size_append, z8, show at12.size = 4 from rfl] at s2
  have t0 : Seg (tblB p q form n f) 0 (twoB [0, 1, p, q]) := s1.left
  have t4 : Seg (tblB p q form n f) (0 + 8) at12 := by have := s1.right; rwa [z8] at this
  have t1 := two_next t0
  have t2 := two_next t1
  have t3 := two_next t2
  have n0 : numOr (tblB p q form n f) 0 2 = (0, 0) := two_num (p := 0) t0 (by decide) (by decide)
  have n1 : numOr (tblB p q form n f) 2 2 = (1, 0) := two_num (p := 2) t1 (by decide) (by decide)
  have n2 : numOr (tblB p q form n f) 4 2 = (p, 0) := two_num (p := 4) t2 (by omega) (by omega)
  have n3 : numOr (tblB p q form n f) 6 2 = (q, 0) := two_num (p := 6) t3 (by omega) (by omega)
  have e12 : at12 = bigB 12 4 := by decide +kernel
  rw [e12] at t4
  have n4 : numOr (tblB p q form n f) 8 4 = (12, 0) := num_big4 (p := 8) t4 (by decide) (by decide)
  have hf : 0 ≤ form ∧ form ≤ 65535 := by omega
  have n5 : numOr (tblB p q form n f) 12 2 = (form, 0) := two_num (p := 12) (s2.trans (head_seg form n f (3 * n)).1) hf.1 hf.2
  have hN : rowsN (tblB p q form n f) = 1 := by unfold rowsN; rw [n1]; rfl
  have hE : rowsErr (tblB p q form n f) = 0 := by
    unfold rowsErr; rw [n0, n1]
    simp
    omega
  have r0 : rowF (tblB p q form n f) 0 = p := by
    have := rowF0 (tblB p q form n f) 0
    have e := numOr_cut (tblB p q form n f) 4 12 0 2 (by omega) (by omega)
    simp only [Nat.mul_zero, Nat.add_zero] at this
    rw [this]
    exact (congrArg Prod.fst (e.trans n2))
  have r1 : rowF (tblB p q form n f) 1 = q := by
    have := rowF1 (tblB p q form n f) 0
    have e := numOr_cut (tblB p q form n f) 4 12 2 2 (by omega) (by omega)
    simp only [Nat.mul_zero, Nat.add_zero, Nat.zero_add] at this
    rw [this]
    exact (congrArg Prod.fst (e.trans n3))
  have r2 : rowF (tblB p q form n f) 2 = 12 := by
    have := rowF2 (tblB p q form n f) 0
    have e := numOr_cut (tblB p q form n f) 4 12 4 4 (by omega) (by omega)
    simp only [Nat.mul_zero, Nat.add_zero, Nat.zero_add] at this
    rw [this]
    exact (congrArg Prod.fst (e.trans n4))
  have hsub : (tblB p q form n f).extract (12 : Int).toNat (tblB p q form n f).size = form12B form n f (3 * n) := by
    have := s2.ext
    rw [show 0 + (8 + 4) + (form12B form n f (3 * n)).size = (tblB p q form n f).size by rw [hz, form12B_size]; omega] at this
    exact this
  have hone : ∀ x y : Int, firstR (rowF (tblB p q form n f)) x y 1 0 = if p = x ∧ q = y then some 12 else none := by
    intro x y
    simp only [firstR, Nat.mul_zero, Nat.zero_add, r0, r1, r2]
  have hgood := grpGood_at (form := form) h
  refine ⟨⟨hg1, hg2, hE, ?_, ⟨by rw [n5], by rw [n5]; exact hform, by rw [hsub]; exact hgood.1⟩, ?_⟩, by rw [n5], ?_⟩
  · rw [hN]
    rcases hpq with ⟨rfl, rfl⟩ | ⟨rfl, rfl⟩
    · simp [kindsL, chosenR, hone]
    · simp [kindsL, chosenR, hone]
  · rw [hN, hone]
    rcases hpq with ⟨rfl, rfl⟩ | ⟨rfl, rfl⟩ <;> simp
  · funext code
    unfold grpOf
    rw [n5, hsub, hgood.2]
    exact grpAns_congr (fun m hm => spF_at h hm)

end Go.Proofs.YtfbgddigedgpfaaDoor
