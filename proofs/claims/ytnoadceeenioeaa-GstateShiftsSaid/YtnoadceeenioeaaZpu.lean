/-
  The untouched points of a contour: each is gone through, no touched one is; what smoothing leaves as it is. No function of the program.
-/
import Derived.Test.YtnoadceeenioeaaZx
namespace Go.Proofs.Ytnoadceeenioeaa
open Go.RowKit Go.PlainAid
set_option linter.unusedSimpArgs false
set_option linter.unusedVariables false

theorem tcs_mem {M : List Mk} {x : Nat} : x ∈ tcs M ↔ x < M.length ∧ tcB M x = true := by simp [tcs, tcL]
theorem tcs_lt2 (M : List Mk) {i j x y : Nat} (hi : (tcs M)[i]? = some x) (hj : (tcs M)[j]? = some y) (h : i < j) : x < y := by
  have hp : (tcs M).Pairwise (· < ·) := List.pairwise_lt_range.filter _
  obtain ⟨h1, rfl⟩ := List.getElem?_eq_some_iff.1 hi
  obtain ⟨h2, rfl⟩ := List.getElem?_eq_some_iff.1 hj
  exact List.pairwise_iff_getElem.1 hp i j h1 h2 h
theorem tcs_le2 (M : List Mk) {i j x y : Nat} (hi : (tcs M)[i]? = some x) (hj : (tcs M)[j]? = some y) (h : i ≤ j) : x ≤ y := by
  rcases Nat.lt_or_eq_of_le h with h | h
  · exact Nat.le_of_lt (tcs_lt2 M hi hj h)
  · subst h; rw [hi] at hj; cases hj; exact Nat.le_refl _
theorem tcs_at {M : List Mk} {i : Nat} (h : i < (tcs M).length) : ∃ x, (tcs M)[i]? = some x ∧ x < M.length ∧ tcB M x = true := by
  obtain ⟨x, hx⟩ := get_of h
  exact ⟨x, hx, tcs_lt hx⟩
theorem aT_at {T : List Nat} {q x : Nat} (h : T[q]? = some x) : aT T q = x := by simp [aT, List.getD, h]
theorem bT_at {T : List Nat} {q x : Nat} (h : T[(q + 1) % T.length]? = some x) : bT T q = x := by simp [bT, List.getD, h]

/-- How many lie between. -/
theorem cnt_mid {M : List Mk} {q a b : Nat} (ha : (tcs M)[q]? = some a) (hb : (tcs M)[q + 1]? = some b) : cntK M.length (tcs M) q = b - a - 1 ∧ a < b ∧ b < M.length ∧ bT (tcs M) q = b := by
  have h1 := tcs_lt2 M ha hb (by omega)
  have h2 := (tcs_lt hb).1
  have h3 := (List.getElem?_eq_some_iff.1 hb).1
  have e : bT (tcs M) q = b := bT_at (by rw [Nat.mod_eq_of_lt h3]; exact hb)
  refine ⟨?_, h1, h2, e⟩
  rw [cntK, e, aT_at ha, show b + M.length - a - 1 = (b - a - 1) + M.length by omega, Nat.add_mod_right, Nat.mod_eq_of_lt (by omega)]
theorem cnt_last {M : List Mk} {q a z : Nat} (ha : (tcs M)[q]? = some a) (hz : (tcs M)[0]? = some z) (hq : q + 1 = (tcs M).length) : cntK M.length (tcs M) q = z + M.length - a - 1 ∧ z ≤ a ∧ a < M.length ∧ bT (tcs M) q = z := by
  have h1 := tcs_le2 M hz ha (by omega)
  have h2 := (tcs_lt ha).1
  have e : bT (tcs M) q = z := bT_at (by rw [hq, Nat.mod_self]; exact hz)
  refine ⟨?_, h1, h2, e⟩
  rw [cntK, e, aT_at ha, Nat.mod_eq_of_lt (by omega)]

/-- No touched point is gone through; it lies between touched ones. -/
theorem allV_tc {M : List Mk} {t : Tr} (h : t ∈ allV M) : t.1 < M.length ∧ tcB M t.1 = false ∧ t.2.1 < M.length ∧ tcB M t.2.1 = true ∧ t.2.2 < M.length ∧ tcB M t.2.2 = true := by
  obtain ⟨q, j, hq, hj, rfl⟩ := segsK_mem h
  obtain ⟨a, ha, ha1, ha2⟩ := tcs_at hq
  obtain ⟨z, hz, hz1, hz2⟩ := tcs_at (show 0 < (tcs M).length by omega)
  have hb : ∃ b, bT (tcs M) q = b ∧ b < M.length ∧ tcB M b = true := by
    obtain ⟨b, hb, hb1, hb2⟩ := tcs_at (show (q + 1) % (tcs M).length < (tcs M).length from Nat.mod_lt _ (by omega))
    exact ⟨b, bT_at hb, hb1, hb2⟩
  obtain ⟨b, hb0, hb1, hb2⟩ := hb
  dsimp only
  rw [aT_at ha, hb0]
  refine ⟨Nat.mod_lt _ (by omega), ?_, ha1, ha2, hb1, hb2⟩
  cases hx : tcB M ((a + 1 + j) % M.length) with
  | false => rfl
  | true =>
    exfalso
    have hxn : (a + 1 + j) % M.length < M.length := Nat.mod_lt _ (by omega)
    obtain ⟨k, hk⟩ := List.mem_iff_getElem?.1 (tcs_mem.2 ⟨hxn, hx⟩)
    have hkm := (List.getElem?_eq_some_iff.1 hk).1
    by_cases hl : q + 1 < (tcs M).length
    · obtain ⟨c, hc, _, _⟩ := tcs_at hl
      obtain ⟨e1, e2, e3, _⟩ := cnt_mid ha hc
      rw [e1] at hj
      rw [Nat.mod_eq_of_lt (show a + 1 + j < M.length by omega)] at hk
      rcases Nat.lt_or_ge q k with h1 | h1
      · have := tcs_le2 M hc hk (by omega); omega
      · have := tcs_le2 M hk ha h1; omega
    · obtain ⟨e1, e2, e3, _⟩ := cnt_last ha hz (by omega)
      rw [e1] at hj
      by_cases h2 : a + 1 + j < M.length
      · rw [Nat.mod_eq_of_lt h2] at hk
        have := tcs_le2 M hk ha (by omega); omega
      · rw [Nat.mod_eq_sub_mod (by omega), Nat.mod_eq_of_lt (show a + 1 + j - M.length < M.length by omega)] at hk
        have := tcs_le2 M hz hk (by omega); omega

/-- Each untouched point is gone through. -/
theorem allV_all {M : List Mk} {p : Nat} (hp : p < M.length) (hu : tcB M p = false) (hm : 0 < (tcs M).length) : ∃ t ∈ allV M, t.1 = p := by
  have mk : ∀ q j, q < (tcs M).length → j < cntK M.length (tcs M) q → (aT (tcs M) q + 1 + j) % M.length = p → ∃ t ∈ allV M, t.1 = p := by
    intro q j hq hj he
    refine ⟨((aT (tcs M) q + 1 + j) % M.length, aT (tcs M) q, bT (tcs M) q), ?_, he⟩
    simp only [allV, segsK, List.mem_flatMap, List.mem_range]
    refine ⟨q, hq, ?_⟩
    simp only [segK, List.mem_map, List.mem_range]
    exact ⟨j, hj, rfl⟩
  obtain ⟨z, hz, hz1, hz2⟩ := tcs_at hm
  have hzp : z ≠ p := fun e => by rw [e, hu] at hz2; cases hz2
  by_cases h0 : p < z
  · obtain ⟨a, ha, ha1, ha2⟩ := tcs_at (show (tcs M).length - 1 < (tcs M).length by omega)
    obtain ⟨e1, e2, e3, _⟩ := cnt_last ha hz (by omega)
    refine mk ((tcs M).length - 1) (p + M.length - a - 1) (by omega) (by rw [e1]; omega) ?_
    rw [aT_at ha, show a + 1 + (p + M.length - a - 1) = p + M.length by omega, Nat.add_mod_right, Nat.mod_eq_of_lt hp]
  · have hq : ∀ d q x, (tcs M).length - q = d → (tcs M)[q]? = some x → x < p → ∃ k y, (tcs M)[k]? = some y ∧ y < p ∧ ∀ c, (tcs M)[k + 1]? = some c → p < c := by
      intro d
      induction d with
      | zero => intro q x hd hx _; have := (List.getElem?_eq_some_iff.1 hx).1; omega
      | succ d ih =>
        intro q x hd hx hxp
        by_cases hl : q + 1 < (tcs M).length
        · obtain ⟨c, hc, hc1, hc2⟩ := tcs_at hl
          by_cases hcp : c < p
          · exact ih (q + 1) c (by omega) hc hcp
          · refine ⟨q, x, hx, hxp, fun c' hc' => ?_⟩
            rw [hc] at hc'; cases hc'
            have : c ≠ p := fun e => by rw [e, hu] at hc2; cases hc2
            omega
        · exact ⟨q, x, hx, hxp, fun c' hc' => by have := (List.getElem?_eq_some_iff.1 hc').1; omega⟩
    obtain ⟨q, a, ha, hap, hnext⟩ := hq _ 0 z rfl hz (by omega)
    have hqm := (List.getElem?_eq_some_iff.1 ha).1
    have hj : (a + 1 + (p - a - 1)) % M.length = p := by rw [show a + 1 + (p - a - 1) = p by omega, Nat.mod_eq_of_lt hp]
    by_cases hl : q + 1 < (tcs M).length
    · obtain ⟨c, hc, _, _⟩ := tcs_at hl
      obtain ⟨e1, e2, e3, _⟩ := cnt_mid ha hc
      have := hnext c hc
      exact mk q (p - a - 1) hqm (by rw [e1]; omega) (by rw [aT_at ha]; exact hj)
    · obtain ⟨e1, e2, e3, _⟩ := cnt_last ha hz (by omega)
      exact mk q (p - a - 1) hqm (by rw [e1]; omega) (by rw [aT_at ha]; exact hj)

theorem vF_some {M : List Mk} {x : Nat} : ∀ {V : List Tr}, (∃ t ∈ V, t.1 = x) → ∃ v, vF M V (x : Int) = some v := by
  intro V ⟨t, ht, e⟩
  unfold vF
  cases hf : V.reverse.find? (fun t => (t.1 : Int) == (x : Int)) with
  | none =>
    have := List.find?_eq_none.1 hf t (by simpa using ht)
    rw [e] at this
    simp at this
  | some u => exact ⟨_, rfl⟩

theorem conM_at (M : List Mk) (first : Nat) (e : Int) (p : Nat) (h : p < (conM M first e).length) : (conM M first e).getD p mk0 = M.getD (first + p) mk0 := by
  have h1 : (conM M first e)[p]? = M[first + p]? := by
    rw [conM, List.getElem?_take]
    have : p < e.toNat + 1 - first := by rw [conM, List.length_take] at h; omega
    rw [if_pos this, List.getElem?_drop]
  simp only [List.getD, h1]
theorem conM_tc (M : List Mk) (first : Nat) (e : Int) (p : Nat) (h : p < (conM M first e).length) : tcB (conM M first e) p = tcB M (first + p) := by
  rw [tcB, conM_at M first e p h, tcB]
theorem conM_len_le (M : List Mk) (first : Nat) (e : Int) : (conM M first e).length ≤ e.toNat + 1 - first := by rw [conM, List.length_take]; omega

theorem putC_at {axis : Int} {first : Nat} {f : Int → Option Int} {cur : List Sp} {q : Nat} {s : Sp} (h : cur[q]? = some s) : (putC axis first f cur)[q]? = some (if first ≤ q then (match f ((q - first : Nat) : Int) with | some v => axS axis s v | none => s) else s) := by
  rw [putC, mixC, List.getElem?_mapIdx, h]
  simp only [Option.map_some]
  congr 1
theorem putC_len (axis : Int) (first : Nat) (f : Int → Option Int) (cur : List Sp) : (putC axis first f cur).length = cur.length := mixC_len _ _ _ _ _
theorem axS_axS (axis : Int) (s : Sp) (v : Int) : axS axis (axS axis s v) v = axS axis s v := by unfold axS; split <;> rfl
/-- Along the other axis nothing is moved. -/
def Oth (axis : Int) (s s' : Sp) : Prop := if axis = 0 then s'.y = s.y else s'.x = s.x
theorem oth_refl (axis : Int) (s : Sp) : Oth axis s s := by unfold Oth; split <;> rfl
theorem oth_axS (axis : Int) (s s' : Sp) (v : Int) (h : Oth axis s s') : Oth axis s (axS axis s' v) := by
  unfold Oth axS at *
  split <;> simp_all

theorem oth_trans {axis : Int} {a b c : Sp} (h : Oth axis a b) (k : Oth axis b c) : Oth axis a c := by
  unfold Oth at *
  split <;> simp_all
/-- The ends rise, from first on. -/
def RiseP : Nat → List Int → Prop
  | _, [] => True
  | f, e :: r => f ≤ e.toNat ∧ RiseP (e.toNat + 1) r
theorem rise_P {n : Int} : ∀ {L : List Int} {a : Int}, -1 ≤ a → riseB n a L = true → RiseP (a + 1).toNat L
  | [], _, _, _ => trivial
  | e :: r, a, ha, h => by
    simp only [riseB, Bool.and_eq_true, decide_eq_true_eq] at h
    refine ⟨by omega, ?_⟩
    have := rise_P (a := e) (by omega) h.2
    rwa [show (e + 1).toNat = e.toNat + 1 by omega] at this

theorem smL_keeps {M : List Mk} {axis : Int} : ∀ (ends : List Int) (first : Nat) (cur S : List Sp), RiseP first ends → smL M axis first ends cur = some S →
    S.length = cur.length ∧ (∀ q, q < first ∨ tcB M q = true → S[q]? = cur[q]?) ∧ ∀ (q : Nat) (s s' : Sp), cur[q]? = some s → S[q]? = some s' → Oth axis s s'
  | [], first, cur, S, _, h => by
    simp only [smL, Option.some.injEq] at h
    subst h
    exact ⟨rfl, fun _ _ => rfl, fun q s s' h1 h2 => by rw [h1] at h2; cases h2; exact oth_refl _ _⟩
  | e :: r, first, cur, S, hr, h => by
    rw [smL] at h
    split at h
    · cases h
    · obtain ⟨h1, h2, h3⟩ := smL_keeps r _ _ S hr.2 h
      rw [putC_len] at h1
      have hpt : ∀ (q : Nat) (s : Sp), cur[q]? = some s → q < first ∨ tcB M q = true → (putC axis first (vF (conM M first e) (allV (conM M first e))) cur)[q]? = some s := by
        intro q s hs hq
        rw [putC_at hs]
        split
        · rename_i hfq
          split
          · rename_i v hv
            exfalso
            obtain ⟨t, ht, he, _⟩ := vF_mem hv
            have htc := allV_tc ht
            have e2 : t.1 = q - first := by omega
            rcases hq with hq | hq
            · omega
            · have := conM_tc M first e t.1 htc.1
              rw [htc.2.1, e2, show first + (q - first) = q by omega, hq] at this
              cases this
          · rfl
        · rfl
      have hr1 := hr.1
      refine ⟨h1, fun q hq => ?_, fun q s s' hs hs' => ?_⟩
      · cases hc : cur[q]? with
        | none =>
          have : cur.length ≤ q := by
            rcases Nat.lt_or_ge q cur.length with h4 | h4
            · rw [List.getElem?_eq_getElem h4] at hc; cases hc
            · exact h4
          rw [List.getElem?_eq_none (by omega)]
        | some s =>
          have h4 := hpt q s hc hq
          rcases hq with hq | hq
          · rw [h2 q (.inl (by omega)), h4]
          · rw [h2 q (.inr hq), h4]
      · have hu := putC_at (axis := axis) (first := first) (f := vF (conM M first e) (allV (conM M first e))) hs
        have h4 := h3 q _ s' hu hs'
        refine oth_trans ?_ h4
        split
        · split
          · exact oth_axS _ _ _ _ (oth_refl _ _)
          · exact oth_refl _ _
        · exact oth_refl _ _

/-- Two rows of marks that smoothing can't tell from each other. -/
def SimM (M N : List Mk) : Prop := M.length = N.length ∧ ∀ p, (M.getD p mk0).o = (N.getD p mk0).o ∧ (M.getD p mk0).t = (N.getD p mk0).t ∧ ((M.getD p mk0).t = true → (M.getD p mk0).c = (N.getD p mk0).c)
theorem sim_tcs {M N : List Mk} (h : SimM M N) : tcs M = tcs N := by
  have e : tcB M = tcB N := funext fun p => by simp only [tcB, (h.2 p).2.1]
  rw [tcs, tcs, tcL, tcL, e, h.1]
theorem sim_allV {M N : List Mk} (h : SimM M N) : allV M = allV N := by rw [allV, allV, sim_tcs h, h.1]
theorem flS_cong {g : Int} {a b a' b' : Mk} (h1 : a.o = a'.o) (h2 : a.c = a'.c) (h3 : b.o = b'.o) (h4 : b.c = b'.c) : flS g a b = flS g a' b' := by
  unfold flS flH midS lowM highM
  rw [h1, h3]
  by_cases h : b'.o < a'.o
  · simp only [if_pos h, h1, h2, h3, h4]
  · simp only [if_neg h, h1, h2, h3, h4]
theorem sim_plC {M N : List Mk} (h : SimM M N) {t : Tr} (ht : t ∈ allV M) : plC M t = plC N t := by
  obtain ⟨_, _, _, h4, _, h6⟩ := allV_tc ht
  unfold plC
  rw [(h.2 t.1).1]
  exact flS_cong (h.2 _).1 ((h.2 _).2.2 h4) (h.2 _).1 ((h.2 _).2.2 h6)
theorem sim_vF {M N : List Mk} (h : SimM M N) : vF M (allV M) = vF N (allV N) := by
  funext x
  rw [← sim_allV h]
  unfold vF
  cases hf : (allV M).reverse.find? (fun t => (t.1 : Int) == x) with
  | none => rfl
  | some t =>
    have h1 := List.mem_of_find?_eq_some hf
    simp only [Option.map_some]
    rw [sim_plC h (by simpa using h1)]
theorem sim_bad {M N : List Mk} (h : SimM M N) : badV M (allV M) = badV N (allV N) := by
  rw [← sim_allV h]
  unfold badV
  cases hb : (allV M).any fun t => (plC M t).2 with
  | true =>
    obtain ⟨t, ht, h2⟩ := List.any_eq_true.1 hb
    exact (List.any_eq_true.2 ⟨t, ht, by rw [← sim_plC h ht]; exact h2⟩).symm
  | false =>
    refine (List.any_eq_false.2 fun t ht => ?_).symm
    have := List.any_eq_false.1 hb t ht
    rw [← sim_plC h ht]; exact this
theorem sim_con {M N : List Mk} (h : SimM M N) (first : Nat) (e : Int) : SimM (conM M first e) (conM N first e) := by
  have hl : (conM M first e).length = (conM N first e).length := by rw [conM, conM, List.length_take, List.length_take, List.length_drop, List.length_drop, h.1]
  refine ⟨hl, fun p => ?_⟩
  by_cases hp : p < (conM M first e).length
  · rw [conM_at M first e p hp, conM_at N first e p (by omega)]
    exact h.2 _
  · have e1 : (conM M first e)[p]? = none := List.getElem?_eq_none (by omega)
    have e2 : (conM N first e)[p]? = none := List.getElem?_eq_none (by omega)
    simp [List.getD, e1, e2]

/-- Smoothing what is smoothed gives it again. -/
theorem smL_again {M N : List Mk} {axis : Int} (hs : SimM M N) : ∀ (ends : List Int) (first : Nat) (cur S : List Sp), RiseP first ends → smL M axis first ends cur = some S → smL N axis first ends S = some S
  | [], first, cur, S, _, h => rfl
  | e :: r, first, cur, S, hr, h => by
    rw [smL] at h
    split at h
    · cases h
    · rename_i hb
      have ih := smL_again hs r _ _ S hr.2 h
      obtain ⟨h1, h2, h3⟩ := smL_keeps r _ _ S hr.2 h
      rw [smL, ← sim_bad (sim_con hs first e), if_neg hb, ← sim_vF (sim_con hs first e)]
      have hp : putC axis first (vF (conM M first e) (allV (conM M first e))) S = S := by
        apply List.ext_getElem?
        intro q
        cases hq : S[q]? with
        | none =>
          have : S.length ≤ q := by
            rcases Nat.lt_or_ge q S.length with h4 | h4
            · rw [List.getElem?_eq_getElem h4] at hq; cases hq
            · exact h4
          rw [List.getElem?_eq_none (by rw [putC_len]; exact this)]
        | some s =>
          rw [putC_at hq]
          congr 1
          split
          · rename_i hfq
            split
            · rename_i v hv
              obtain ⟨p, hp1, hp2⟩ := vF_dom hv
              have hpe : q - first = p := by omega
              have h5 := conM_len_le M first e
              have hqe : q < e.toNat + 1 := by omega
              have h6 := h2 q (.inl hqe)
              rw [hq] at h6
              obtain ⟨c, hc⟩ : ∃ c, cur[q]? = some c := by
                rcases Nat.lt_or_ge q cur.length with h7 | h7
                · exact ⟨_, List.getElem?_eq_getElem h7⟩
                · rw [List.getElem?_eq_none (by rw [putC_len]; exact h7)] at h6; cases h6
              rw [putC_at hc, if_pos hfq, hv] at h6
              cases h6
              exact axS_axS _ _ _
            · rfl
          · rfl
      rw [hp]; exact ih

end Go.Proofs.Ytnoadceeenioeaa
