/-
  What smoothing keeps, as a function; what Get and Touched of package serifref09 answer.
-/
import Derived.Test.YtnoadceeenioeaaZpu
import Derived.Test.YtnoadceeenioeaaZre
import Derived.Test.YtnoadceeenioeaaWalkZPuts
namespace Go.Proofs.Ytnoadceeenioeaa
open Go.RowKit Go.PlainAid
set_option linter.unusedSimpArgs false
set_option linter.unusedVariables false

theorem smoothZ_no {Z S : Zn} {axis e : Int} (h : smoothZ Z axis = (S, e)) (he : e ≠ 0) : S = zn0 := by
  unfold smoothZ at h
  split at h
  · cases h; rfl
  · split at h
    · cases h; rfl
    · cases h; exact absurd rfl he
theorem smoothZ_yes {Z S : Zn} {axis : Int} (h : smoothZ Z axis = (S, 0)) : soundB Z = true ∧ (axis = 0 ∨ axis = 1) ∧ S.org = Z.org ∧ S.tx = Z.tx ∧ S.ty = Z.ty ∧ S.ends = Z.ends ∧ smL (mksZ Z axis) axis 0 Z.ends Z.cur = some S.cur := by
  unfold smoothZ at h
  split at h
  · simp at h
  · rename_i hb
    split at h
    · simp at h
    · rename_i cur hc
      cases h
      simp only [Bool.not_eq_false, Bool.and_eq_true, Bool.or_eq_true, beq_iff_eq] at hb
      exact ⟨hb.1, hb.2, rfl, rfl, rfl, rfl, hc⟩
theorem smoothZ_long {Z : Zn} (hl : ZLong Z) (axis : Int) : ZLong (smoothZ Z axis).1 := by
  obtain ⟨⟨S, e⟩, hR⟩ : ∃ R, smoothZ Z axis = R := ⟨_, rfl⟩
  rw [hR]
  by_cases he : e = 0
  · subst he
    obtain ⟨h1, h2, h3, h4, h5, h6, h7⟩ := smoothZ_yes hR
    have hr : RiseP 0 Z.ends := by
      have := h1
      simp only [soundB, Bool.and_eq_true] at this
      exact rise_P (a := -1) (by omega) this.1.1.2
    obtain ⟨k, _⟩ := smL_keeps _ _ _ _ hr h7
    exact ⟨by rw [h3]; exact hl.l0, by rw [k]; exact hl.l1, by rw [h4]; exact hl.l2, by rw [h5]; exact hl.l3, by rw [h6]; exact hl.l4⟩
  · rw [smoothZ_no hR he]; exact zlong0

theorem fixB_of {v : Int} (h : -2147483647 ≤ v ∧ v ≤ 2147483647) : fixB v = true := by simp [fixB]; omega
theorem putC_fix {M : List Mk} {axis : Int} {first : Nat} {cur : List Sp} (h : cur.all fixP = true) : (putC axis first (vF M (allV M)) cur).all fixP = true := by
  rw [List.all_eq_true] at h ⊢
  intro s hs
  obtain ⟨q, hq⟩ := List.mem_iff_getElem?.1 hs
  obtain ⟨c, hc⟩ : ∃ c, cur[q]? = some c := by
    have := (List.getElem?_eq_some_iff.1 hq).1
    rw [putC_len] at this
    exact get_of this
  rw [putC_at hc] at hq
  have hf := h c (List.mem_of_getElem? hc)
  simp only [Option.some.injEq] at hq
  subst hq
  split
  · split
    · rename_i v hv
      obtain ⟨t, _, _, e⟩ := vF_mem hv
      have hb := fixB_of (flS_bd (M.getD t.1 mk0).o (M.getD t.2.1 mk0) (M.getD t.2.2 mk0))
      rw [e, plC]
      simp only [fixP, Bool.and_eq_true] at hf ⊢
      unfold axS
      split
      · exact ⟨hb, hf.2⟩
      · exact ⟨hf.1, hb⟩
    · exact hf
  · exact hf
theorem smL_fix {M : List Mk} {axis : Int} : ∀ (ends : List Int) (first : Nat) (cur S : List Sp), cur.all fixP = true → smL M axis first ends cur = some S → S.all fixP = true
  | [], first, cur, S, hf, h => by simp only [smL, Option.some.injEq] at h; subst h; exact hf
  | e :: r, first, cur, S, hf, h => by
    rw [smL] at h
    split at h
    · cases h
    · exact smL_fix r _ _ S (putC_fix hf) h

/-- What smoothing keeps. -/
structure KeepZ (Z S : Zn) (axis : Int) : Prop where
  ax : axis = 0 ∨ axis = 1
  len : Z.cur.length = Z.org.length ∧ Z.tx.length = Z.org.length ∧ Z.ty.length = Z.org.length ∧ S.cur.length = Z.cur.length ∧ Z.org.length ≤ 4096
  org : S.org = Z.org
  tx : S.tx = Z.tx
  ty : S.ty = Z.ty
  oth : ∀ (q : Nat) (s s' : Sp), Z.cur[q]? = some s → S.cur[q]? = some s' → axG (1 - axis) s' = axG (1 - axis) s
  tch : ∀ (q : Nat), (Z.tch axis)[q]? = some true → S.cur[q]? = Z.cur[q]?
  again : smoothZ S axis = (S, 0)

theorem keep_of {Z S : Zn} {axis : Int} (h : smoothZ Z axis = (S, 0)) : KeepZ Z S axis := by
  obtain ⟨h1, h2, h3, h4, h5, h6, h7⟩ := smoothZ_yes h
  obtain ⟨l0, l1, l2, l3⟩ := sound_len h1
  have hs := h1
  simp only [soundB, Bool.and_eq_true, decide_eq_true_eq] at hs
  have hr : RiseP 0 Z.ends := rise_P (a := -1) (by omega) hs.1.1.2
  obtain ⟨k1, k2, k3⟩ := smL_keeps _ _ _ _ hr h7
  have htl : (Z.tch axis).length = Z.org.length := by unfold Zn.tch; split <;> assumption
  have hst : S.tch axis = Z.tch axis := by unfold Zn.tch; rw [h4, h5]
  have htc : ∀ (q : Nat), (Z.tch axis)[q]? = some true → S.cur[q]? = Z.cur[q]? := by
    intro q hq
    refine k2 q (.inr ?_)
    have hq1 := (List.getElem?_eq_some_iff.1 hq).1
    obtain ⟨s, hs0⟩ := get_of (show q < Z.org.length by omega)
    obtain ⟨c, hc⟩ := get_of (show q < Z.cur.length by omega)
    rw [tcB, List.getD, mksZ_at hs0 hc hq]; rfl
  have hsim : SimM (mksZ Z axis) (mksZ S axis) := by
    refine ⟨by rw [mksZ_len, mksZ_len, h3], fun p => ?_⟩
    by_cases hp : p < Z.org.length
    · obtain ⟨s, hs0⟩ := get_of hp
      obtain ⟨c, hc⟩ := get_of (show p < Z.cur.length by omega)
      obtain ⟨d, hd⟩ := get_of (show p < S.cur.length by omega)
      obtain ⟨t, ht⟩ := get_of (show p < (Z.tch axis).length by omega)
      have e1 := mksZ_at hs0 hc ht
      have e2 : (mksZ S axis)[p]? = some ⟨axG axis s, axG axis d, t⟩ := mksZ_at (by rw [h3]; exact hs0) hd (by rw [hst]; exact ht)
      rw [List.getD, List.getD, e1, e2]
      refine ⟨rfl, rfl, fun htt => ?_⟩
      have htt : t = true := htt
      subst htt
      have := htc p ht
      rw [hc, hd] at this
      cases this; rfl
    · have e1 : (mksZ Z axis)[p]? = none := List.getElem?_eq_none (by rw [mksZ_len]; omega)
      have e2 : (mksZ S axis)[p]? = none := List.getElem?_eq_none (by rw [mksZ_len, h3]; omega)
      rw [List.getD, List.getD, e1, e2]
      exact ⟨rfl, rfl, fun _ => rfl⟩
  refine ⟨h2, ⟨l1, l2, l3, k1, l0⟩, h3, h4, h5, fun q s s' hs1 hs2 => ?_, htc, ?_⟩
  · have ho := k3 q s s' hs1 hs2
    unfold Oth at ho
    rcases h2 with rfl | rfl
    · rw [if_pos rfl] at ho
      simp only [axG]; rw [if_neg (by decide), if_neg (by decide)]; exact ho
    · rw [if_neg (by decide)] at ho
      simp only [axG]; rw [if_pos (by decide), if_pos (by decide)]; exact ho
  · have hsS : soundB S = true := by
      have hf := smL_fix _ _ _ _ hs.2 h7
      simp only [soundB, Bool.and_eq_true, decide_eq_true_eq, h3, h4, h5, h6, k1]
      exact ⟨hs.1, hf⟩
    have ha := smL_again hsim _ _ _ _ hr h7
    unfold smoothZ
    rw [if_neg, h6, ha]
    · rw [← h6]
    · rw [hsS]
      rcases h2 with rfl | rfl <;> simp

set_option maxRecDepth 20000 in
theorem get_c (p : Sp) (axis : Int) (w : World) : Calls Try.prog 26 #[.agg #[.int .i64 p.x, .int .i64 p.y], .int .i64 axis] w fun e w' => e = .returned (.int .i64 (axG axis p)) ∧ Below w.heap.size w w' := by
  have HB : Hid (Below w.heap.size w (w.alloc (.cells #[.int .i64 p.x, .int .i64 p.y] 38))) := bel_alloc (Below.refl _ _) _
  by_cases h : axis = 0
  · subst h
    go_enter Try.func26, Try.ntmps26
    go_wp2
    go_ret
    exact ⟨rfl, HB.out⟩
  · have HF : Hid (axG axis p = p.y) := if_neg h
    go_enter Try.func26, Try.ntmps26
    go_wp2
    go_ret
    exact ⟨by rw [HF.out]; rfl, HB.out⟩

set_option maxRecDepth 20000 in
theorem touched2_c (Z : Zn) (a0 a1 a2 a3 a4 : Option Addr) (c0 c1 c2 c3 c4 : Nat) (axis : Int) (p : Nat) (t : Bool) (w : World) (hz : ZIn w Z a0 a1 a2 a3 a4) (ht : (Z.tch axis)[p]? = some t) (hn : (Z.tch axis).length ≤ 4096) :
    Calls Try.prog 27 #[.agg #[.slice a0 Z.org.length c0, .slice a1 Z.cur.length c1, .slice a2 Z.tx.length c2, .slice a3 Z.ty.length c3, .slice a4 Z.ends.length c4], .int .i64 axis, .int .i64 (p : Int)] w fun e w' => e = .returned (.bool t) ∧ Below w.heap.size w w' := by
  have HB : Hid (Below w.heap.size w (w.alloc (.cells #[.slice a0 Z.org.length c0, .slice a1 Z.cur.length c1, .slice a2 Z.tx.length c2, .slice a3 Z.ty.length c3, .slice a4 Z.ends.length c4] 31))) := bel_alloc (Below.refl _ _) _
  by_cases h : axis = 0
  · subst h
    simp only [Zn.tch, if_pos] at ht hn
    have hp := (List.getElem?_eq_some_iff.1 ht).1
    obtain ⟨b, off, rfl, k0⟩ := (hz.below HB.out).r2.flag ht
    have hp1 : (p : Int) < (Z.tx.length : Int) := by omega
    have hp0 : (0 : Int) ≤ (p : Int) := by omega
    clear ht hp hz hn
    go_enter Try.func27, Try.ntmps27
    go_wp2
    go_ret
    exact ⟨rfl, HB.out⟩
  · simp only [Zn.tch, if_neg h] at ht hn
    have hp := (List.getElem?_eq_some_iff.1 ht).1
    obtain ⟨b, off, rfl, k0⟩ := (hz.below HB.out).r3.flag ht
    have hp1 : (p : Int) < (Z.ty.length : Int) := by omega
    have hp0 : (0 : Int) ≤ (p : Int) := by omega
    clear ht hp hz hn
    go_enter Try.func27, Try.ntmps27
    go_wp2
    go_ret
    exact ⟨rfl, HB.out⟩

end Go.Proofs.Ytnoadceeenioeaa
