/-
  A contour whose touched points are all moved by one distance: what smoothing answers. No function of the program.
-/
import Derived.Test.YtnoadceeenioeaaZkp
namespace Go.Proofs.Ytnoadceeenioeaa
open Go.RowKit Go.PlainAid
set_option linter.unusedSimpArgs false
set_option linter.unusedVariables false

def Sm (v : Int) : Prop := -1048576 ≤ v ∧ v ≤ 1048576
theorem sumOr_in {a b : Int} (ha : -2147483647 ≤ a ∧ a ≤ 2147483647) (hb : -2147483647 ≤ b ∧ b ≤ 2147483647) (h : -2147483647 ≤ a + b ∧ a + b ≤ 2147483647) : sumOr a b = (a + b, 0) := by
  unfold sumOr; rw [fixB_of ha, fixB_of hb, fixB_of h]; rfl
theorem subOr_in {a b : Int} (ha : -2147483647 ≤ a ∧ a ≤ 2147483647) (hb : -2147483647 ≤ b ∧ b ≤ 2147483647) (h : -2147483647 ≤ a - b ∧ a - b ≤ 2147483647) : subOr a b = (a - b, 0) := by
  unfold subOr; rw [fixB_of ha, fixB_of hb, fixB_of h]; rfl
theorem near_mul {p d : Nat} (hd : 0 < d) : near (p * d) d = p := by
  unfold near
  rw [Nat.div_eq_iff (by omega)]
  constructor
  · have : p * (2 * d) = 2 * (p * d) := by rw [← Nat.mul_assoc, Nat.mul_comm p 2, Nat.mul_assoc]
    omega
  · have : p * (2 * d) = 2 * (p * d) := by rw [← Nat.mul_assoc, Nat.mul_comm p 2, Nat.mul_assoc]
    omega
theorem mulDiv_same {p d : Int} (hp : 0 ≤ p) (hd : 0 < d) (hb : p ≤ 2147483647) : mulDiv p d d = (p, 0) := by
  obtain ⟨m, rfl⟩ := Int.eq_ofNat_of_zero_le hp
  obtain ⟨k, rfl⟩ := Int.eq_ofNat_of_zero_le (Int.le_of_lt hd)
  have hk : 0 < k := by omega
  unfold mulDiv
  rw [Int.natAbs_natCast, Int.natAbs_natCast, near_mul hk, if_neg (by omega), if_neg]
  have h1 : prodNeg (m : Int) (k : Int) = false := by
    unfold prodNeg
    have a : decide ((m : Int) < 0) = false := by simp
    have b : decide ((k : Int) < 0) = false := by simp
    simp [a, b]
  have h2 : decide ((k : Int) < 0) = false := by simp
  rw [h1, h2]; decide

theorem flS_shift {g d : Int} {a b : Mk} (hg : Sm g) (hd : Sm d) (ha : Sm a.o) (hb : Sm b.o) (hac : a.c = a.o + d) (hbc : b.c = b.o + d) : flS g a b = (g + d, false) := by
  have mv : ∀ m : Mk, Sm m.o → m.c = m.o + d → mvS g m.o m.c = (g + d, false) := by
    intro m hm hc
    unfold Sm at *
    unfold mvS
    rw [hc, subOr_in (by omega) (by omega) (by omega), show m.o + d - m.o = d by omega, sumOr_in (by omega) (by omega) (by omega)]
    rfl
  have key : ∀ l h : Mk, Sm l.o → Sm h.o → l.c = l.o + d → h.c = h.o + d → flH g l h = (g + d, false) := by
    intro l h h1 h2 h3 h4
    unfold flH
    split
    · exact mv l h1 h3
    · split
      · exact mv h h2 h4
      · unfold Sm at *
        unfold midS
        rw [h3, h4, subOr_in (a := g) (b := l.o) (by omega) (by omega) (by omega), subOr_in (a := h.o + d) (b := l.o + d) (by omega) (by omega) (by omega), subOr_in (a := h.o) (b := l.o) (by omega) (by omega) (by omega)]
        dsimp only
        rw [show h.o + d - (l.o + d) = h.o - l.o by omega, mulDiv_same (by omega) (by omega) (by omega)]
        dsimp only
        rw [sumOr_in (by omega) (by omega) (by omega), show l.o + d + (g - l.o) = g + d by omega]
        rfl
  unfold flS lowM highM
  split
  · exact key b a hb ha hbc hac
  · exact key a b ha hb hac hbc

/-- Touched so far. -/
def tB (T : List Bool) (i k : Nat) : Bool := decide (k < i) && T.getD k false
def shC (L : List Sp) (T : List Bool) (d : Int) (i : Nat) : List Sp := L.mapIdx fun k s => if tB T i k = true then ⟨s.x, s.y + d⟩ else s
def shY (n : Nat) (T : List Bool) (i : Nat) : List Bool := (List.range n).map (tB T i)
def shZ (L : List Sp) (T : List Bool) (d : Int) (i : Nat) : Zn := ⟨L, shC L T d i, List.replicate L.length false, shY L.length T i, [(L.length : Int) - 1]⟩
/-- One of them touched? -/
def anyT (T : List Bool) (i : Nat) : Bool := (List.range i).any fun k => T.getD k false
theorem anyT_succ (T : List Bool) (i : Nat) : anyT T (i + 1) = (anyT T i || T.getD i false) := by simp [anyT, List.range_succ]
theorem shC_len (L : List Sp) (T : List Bool) (d : Int) (i : Nat) : (shC L T d i).length = L.length := by simp [shC]
theorem shY_len (n : Nat) (T : List Bool) (i : Nat) : (shY n T i).length = n := by simp [shY]
theorem shC_at {L : List Sp} {T : List Bool} {d : Int} {i k : Nat} {s : Sp} (h : L[k]? = some s) : (shC L T d i)[k]? = some (if tB T i k = true then ⟨s.x, s.y + d⟩ else s) := by
  rw [shC, List.getElem?_mapIdx, h]; rfl
theorem shY_at {n : Nat} {T : List Bool} {i k : Nat} (h : k < n) : (shY n T i)[k]? = some (tB T i k) := by simp [shY, h]
theorem tB_zero (T : List Bool) (k : Nat) : tB T 0 k = false := by simp [tB]
theorem tB_other {T : List Bool} {i k : Nat} (h : k ≠ i) : tB T (i + 1) k = tB T i k := by
  unfold tB
  congr 1
  exact decide_eq_decide.2 (by omega)
theorem tB_same (T : List Bool) (i : Nat) : tB T i i = false := by simp [tB]
theorem tB_next (T : List Bool) (i : Nat) : tB T (i + 1) i = T.getD i false := by simp [tB]

def knS (s : Sp) : Kn := ⟨s.x, s.y, 1⟩
theorem shZ_new {L : List Sp} (hL : L ≠ []) (T : List Bool) (d : Int) : newZ [L.map knS] = shZ L T d 0 := by
  have h1 : orgO [L.map knS] = L := by
    simp only [orgO, List.flatMap_cons, List.flatMap_nil, List.append_nil, List.map_map]
    have : (spK ∘ knS) = id := funext fun s => rfl
    rw [this, List.map_id]
  have h2 : endsO [L.map knS] = [(L.length : Int) - 1] := by
    have : L.length ≠ 0 := fun e => hL (List.eq_nil_of_length_eq_zero e)
    simp [endsO, endsA, endF, this]
  have h3 : shC L T d 0 = L := by
    apply List.ext_getElem?
    intro k
    cases hk : L[k]? with
    | none => rw [List.getElem?_eq_none]; rw [shC_len]; exact List.getElem?_eq_none_iff.1 hk
    | some s => rw [shC_at hk, tB_zero]; rfl
  have h4 : shY L.length T 0 = List.replicate L.length false := by
    apply List.ext_getElem?
    intro k
    by_cases hk : k < L.length
    · rw [shY_at hk, tB_zero]; simp [hk]
    · rw [List.getElem?_eq_none (by rw [shY_len]; omega), List.getElem?_eq_none (by simp; omega)]
  rw [newZ, h1, h2, shZ, h3, h4]

/-- What is asked of the points. -/
structure ShP (L : List Sp) (d : Int) : Prop where
  n : L.length ≤ 4096
  ne : L ≠ []
  pts : ∀ s ∈ L, Sm s.x ∧ Sm s.y
  d : Sm d
theorem ShP.pos {L : List Sp} {d : Int} (h : ShP L d) : 0 < L.length := Nat.pos_of_ne_zero fun e => h.ne (List.eq_nil_of_length_eq_zero e)
theorem sh_sound {L : List Sp} {T : List Bool} {d : Int} (h : ShP L d) (i : Nat) : soundB (shZ L T d i) = true := by
  have hp := h.pos
  have hd := h.d
  have hn := h.n
  have f1 : L.all fixP = true := by
    rw [List.all_eq_true]; intro s hs
    have := h.pts s hs
    unfold Sm at this
    simp only [fixP, Bool.and_eq_true]
    exact ⟨fixB_of (by omega), fixB_of (by omega)⟩
  have f2 : (shC L T d i).all fixP = true := by
    rw [List.all_eq_true]; intro s hs
    obtain ⟨k, hk⟩ := List.mem_iff_getElem?.1 hs
    obtain ⟨c, hc⟩ := get_of (show k < L.length by have := (List.getElem?_eq_some_iff.1 hk).1; rwa [shC_len] at this)
    rw [shC_at hc] at hk
    have := h.pts c (List.mem_of_getElem? hc)
    unfold Sm at this hd
    simp only [Option.some.injEq] at hk
    subst hk
    simp only [fixP, Bool.and_eq_true]
    split
    · exact ⟨fixB_of (by dsimp only; omega), fixB_of (by dsimp only; omega)⟩
    · exact ⟨fixB_of (by omega), fixB_of (by omega)⟩
  have e1 : decide (L.length ≤ 4096) = true := decide_eq_true hn
  have e2 : decide ((-1 : Int) < (L.length : Int) - 1) = true := decide_eq_true (by omega)
  have e3 : decide ((L.length : Int) - 1 < (L.length : Int)) = true := decide_eq_true (by omega)
  simp only [soundB, shZ, shC_len, shY_len, List.length_replicate, riseB, f1, f2, e2, e3, decide_true, Bool.true_and, Bool.and_true]
  exact e1

theorem sh_put {L : List Sp} {T : List Bool} {d : Int} (h : ShP L d) {i : Nat} {s : Sp} (hs : L[i]? = some s) (ht : T.getD i false = true) : putZ (shZ L T d i) 1 (i : Int) (s.y + d) = (shZ L T d (i + 1), 0) := by
  have hi := (List.getElem?_eq_some_iff.1 hs).1
  have hp := h.pts s (List.mem_of_getElem? hs)
  have hd := h.d
  unfold Sm at hp hd
  have hf : fixB (s.y + d) = true := fixB_of (by omega)
  unfold putZ
  rw [if_neg, if_neg]
  · have hc : (shC L T d i).modify i (fun p => axS 1 p (s.y + d)) = shC L T d (i + 1) := by
      apply List.ext_getElem?
      intro k
      rw [List.getElem?_modify]
      cases hk : L[k]? with
      | none =>
        have hk' := List.getElem?_eq_none_iff.1 hk
        rw [List.getElem?_eq_none (by rw [shC_len]; exact hk'), List.getElem?_eq_none (by rw [shC_len]; exact hk')]; rfl
      | some c =>
        rw [shC_at hk, shC_at hk]
        by_cases e : i = k
        · subst e
          rw [hs] at hk; cases hk
          rw [tB_same, tB_next, ht]
          simp [axS]
        · rw [tB_other (fun e2 => e e2.symm)]
          simp [e]
    have hy : (shY L.length T i).set i true = shY L.length T (i + 1) := by
      apply List.ext_getElem?
      intro k
      by_cases hk : k < L.length
      · rw [List.getElem?_set, shY_at hk, shY_at hk]
        by_cases e : i = k
        · subst e; rw [if_pos rfl, if_pos (by rw [shY_len]; exact hk), tB_next, ht]
        · rw [if_neg e, tB_other (fun e2 => e e2.symm)]
      · rw [List.getElem?_eq_none (by simp [shY_len]; omega), List.getElem?_eq_none (by simp [shY_len]; omega)]
    simp only [Int.toNat_natCast, Zn.setCur, Zn.touch, shZ, hc, hy]
    rfl
  · rw [hf]; decide
  · rw [sh_sound h i]
    simp [shZ, hi]

theorem sh_skip {L : List Sp} {T : List Bool} {d : Int} {i : Nat} (ht : T.getD i false = false) : shZ L T d i = shZ L T d (i + 1) := by
  have e : tB T i = tB T (i + 1) := by
    funext k
    by_cases h : k = i
    · subst h; rw [tB_same, tB_next, ht]
    · rw [tB_other h]
  simp only [shZ, shC, shY, e]

theorem any_tB {T : List Bool} {n : Nat} : anyT T n = true ↔ ∃ k, k < n ∧ tB T n k = true := by
  simp only [anyT, List.any_eq_true, List.mem_range, tB, Bool.and_eq_true, decide_eq_true_eq]
  constructor
  · rintro ⟨k, h1, h2⟩; exact ⟨k, h1, h1, h2⟩
  · rintro ⟨k, h1, _, h2⟩; exact ⟨k, h1, h2⟩

/-- Smoothing. -/
theorem sh_smooth {L : List Sp} {T : List Bool} {d : Int} (h : ShP L d) : ∃ S : Zn, smoothZ (shZ L T d L.length) 1 = (S, 0) ∧ S.cur.length = L.length ∧
    ∀ (k : Nat) (s : Sp), L[k]? = some s → S.cur[k]? = some ⟨s.x, if anyT T L.length = true then s.y + d else s.y⟩ := by
  have hp := h.pos
  obtain ⟨M, hM⟩ : ∃ M, mksZ (shZ L T d L.length) 1 = M := ⟨_, rfl⟩
  have hMl : M.length = L.length := by rw [← hM, mksZ_len]; rfl
  have hat : ∀ (k : Nat) (s : Sp), L[k]? = some s → M.getD k mk0 = ⟨s.y, if tB T L.length k = true then s.y + d else s.y, tB T L.length k⟩ := by
    intro k s hs
    have hk := (List.getElem?_eq_some_iff.1 hs).1
    have := mksZ_at (Z := shZ L T d L.length) (axis := 1) hs (shC_at hs) (shY_at hk)
    rw [hM] at this
    rw [List.getD, this]
    simp only [Option.getD_some]
    cases tB T L.length k <;> rfl
  have htc : ∀ (k : Nat) (s : Sp), L[k]? = some s → tcB M k = tB T L.length k := fun k s hs => by rw [tcB, hat k s hs]
  have hpl : ∀ t ∈ allV M, ∀ s, L[t.1]? = some s → plC M t = (s.y + d, false) := by
    intro t ht s hs
    obtain ⟨h1, h2, h3, h4, h5, h6⟩ := allV_tc ht
    obtain ⟨a, ha⟩ := get_of (show t.2.1 < L.length by omega)
    obtain ⟨b, hb⟩ := get_of (show t.2.2 < L.length by omega)
    rw [htc _ _ ha] at h4
    rw [htc _ _ hb] at h6
    unfold plC
    rw [hat _ _ hs, hat _ _ ha, hat _ _ hb, h4, h6]
    exact flS_shift (h.pts s (List.mem_of_getElem? hs)).2 h.d (h.pts a (List.mem_of_getElem? ha)).2 (h.pts b (List.mem_of_getElem? hb)).2 rfl rfl
  have hbad : badV M (allV M) = false := by
    unfold badV
    rw [List.any_eq_false]
    intro t ht
    obtain ⟨s, hs⟩ := get_of (show t.1 < L.length by have := (allV_tc ht).1; omega)
    rw [hpl t ht s hs]; exact Bool.false_ne_true
  have hcon : conM M 0 ((L.length : Int) - 1) = M := by
    rw [conM, List.drop_zero, List.take_of_length_le]
    omega
  have hsm : smoothZ (shZ L T d L.length) 1 = (⟨L, putC 1 0 (vF M (allV M)) (shC L T d L.length), List.replicate L.length false, shY L.length T L.length, [(L.length : Int) - 1]⟩, 0) := by
    unfold smoothZ
    rw [sh_sound h, hM]
    simp only [shZ, smL, hcon, hbad]
    rfl
  refine ⟨_, hsm, by rw [putC_len, shC_len], fun k s hs => ?_⟩
  have hk := (List.getElem?_eq_some_iff.1 hs).1
  rw [putC_at (shC_at hs), if_pos (Nat.zero_le _), Nat.sub_zero]
  cases hT : tB T L.length k with
  | true =>
    have hany : anyT T L.length = true := any_tB.2 ⟨k, hk, hT⟩
    have hv : vF M (allV M) (k : Int) = none := by
      cases hv : vF M (allV M) (k : Int) with
      | none => rfl
      | some v =>
        exfalso
        obtain ⟨t, ht, he, _⟩ := vF_mem hv
        have h2 := (allV_tc ht).2.1
        have e : t.1 = k := by omega
        rw [e, htc k s hs, hT] at h2
        cases h2
    rw [hv, hany]
    rfl
  | false =>
    cases hany : anyT T L.length with
    | false =>
      have hv : vF M (allV M) (k : Int) = none := by
        cases hv : vF M (allV M) (k : Int) with
        | none => rfl
        | some v =>
          exfalso
          obtain ⟨t, ht, he, _⟩ := vF_mem hv
          obtain ⟨_, _, h3, h4, _, _⟩ := allV_tc ht
          obtain ⟨a, ha⟩ := get_of (show t.2.1 < L.length by omega)
          rw [htc _ _ ha] at h4
          have := any_tB.2 ⟨_, by omega, h4⟩
          rw [hany] at this; cases this
      rw [hv]; rfl
    | true =>
      obtain ⟨j, hj, hjt⟩ := any_tB.1 hany
      obtain ⟨a, ha⟩ := get_of hj
      have hmem : j ∈ tcs M := tcs_mem.2 ⟨by omega, by rw [htc _ _ ha]; exact hjt⟩
      obtain ⟨v, hv⟩ := vF_some (allV_all (M := M) (p := k) (by omega) (by rw [htc _ _ hs]; exact hT) (List.length_pos_of_mem hmem))
      obtain ⟨t, ht, he, hvv⟩ := vF_mem hv
      have e : t.1 = k := by omega
      rw [hv, hvv, hpl t ht s (by rw [e]; exact hs)]
      rfl

end Go.Proofs.Ytnoadceeenioeaa
