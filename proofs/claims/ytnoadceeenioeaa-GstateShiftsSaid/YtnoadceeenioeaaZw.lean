/-
  What followed of package gstate answers: a map of the untouched points' new places, or refused.
-/
import Derived.Test.YtnoadceeenioeaaZv
import Derived.Test.YtnoadceeenioeaaReg
namespace Go.Proofs.Ytnoadceeenioeaa
open Go.RowKit Go.PlainAid
set_option linter.unusedSimpArgs false
set_option linter.unusedVariables false

/-- The touched ones of all. -/
def tcs (M : List Mk) : List Nat := tcL M M.length
theorem tcs_lt {M : List Mk} {q p : Nat} (h : (tcs M)[q]? = some p) : p < M.length ∧ tcB M p = true := by
  have := List.mem_of_getElem? h
  simp [tcs, tcL] at this
  exact this
/-- Under way. -/
structure FlW (w V : World) (r b : Nat) (ta : Option Addr) (tc : Nat) (T : List Nat) (M : List Mk) (L : List Tr) : Prop where
  rk : RkIn V r (badV M L)
  mp : ∃ D, V.ownsMap Try.prog 3 (plainElem (H := Unit) Try.prog 3) b L.length D ∧ MapF D (vF M L)
  tr : V.ownsRow (b + 1) 3 1 (.slice ta T.length tc) T.length ((intsN T).flatMap clI)
  bel : Below r w V
  rb : r < b
  sz : b < V.heap.size
  wr : w.heap.size = r
theorem FlW.below {w V V' : World} {r b : Nat} {ta : Option Addr} {tc : Nat} {T : List Nat} {M : List Mk} {L : List Tr} (H : FlW w V r b ta tc T M L) (hb : Below V.heap.size V V') : FlW w V' r b ta tc T M L := by
  obtain ⟨D, h1, h2⟩ := H.mp
  exact ⟨H.rk.below hb, ⟨D, h1.kept (grown_bel hb none) (by simp), h2⟩, own_below H.tr hb, bel_to H.bel hb (by have := H.bel.size; have := H.wr; omega), H.rb, by have := H.sz; have := hb.size; omega, H.wr⟩
/-- Behind a reckoning. -/
structure FlV (w V : World) (r b : Nat) (ta : Option Addr) (tc : Nat) (T : List Nat) (M : List Mk) (L : List Tr) (f : Bool) (D : DataW Unit) : Prop where
  rk : RkIn V r f
  mp : V.ownsMap Try.prog 3 (plainElem (H := Unit) Try.prog 3) b L.length D
  fn : MapF D (vF M L)
  tr : V.ownsRow (b + 1) 3 1 (.slice ta T.length tc) T.length ((intsN T).flatMap clI)
  bel : Below r w V
  rb : r < b
  sz : b < V.heap.size
  wr : w.heap.size = r
theorem bel_grownLow {w a b : World} {r q : Nat} (h : Below r w a) (k : a.grownBy b (some q)) (hq : r ≤ q) (hr : r ≤ a.heap.size) : Below r w b :=
  ⟨k.os.trans h.os, k.tape.trans h.tape, k.output.trans h.output, Nat.le_trans h.size k.size, fun i hi => (k.block i (by omega) (fun e => by cases e; omega)).trans (h.block i hi)⟩
theorem FlW.fix {w V V' : World} {r b : Nat} {ta : Option Addr} {tc : Nat} {T : List Nat} {M : List Mk} {L : List Tr} (H : FlW w V r b ta tc T M L) {f : Bool} (hk : RkIn V' r f) (hg : V.grownBy V' (some r)) : ∃ D, FlV w V' r b ta tc T M L f D := by
  obtain ⟨D, h1, h2⟩ := H.mp
  have hrb := H.rb
  exact ⟨D, hk, h1.kept hg (fun e => by cases e; omega), h2, own_apart (m := 0) H.tr hg (fun x hx e => by have := (own_lt H.tr x hx).1; cases e; omega), bel_grownLow H.bel hg (Nat.le_refl _) (by have := H.bel.size; have := H.wr; omega), H.rb, by have := H.sz; have := hg.size; omega, H.wr⟩
theorem FlV.put {w V V' : World} {r b : Nat} {ta : Option Addr} {tc : Nat} {T : List Nat} {M : List Mk} {L : List Tr} {D : DataW Unit} {t : Tr} (H : FlV w V r b ta tc T M L (badV M L || (plC M t).2) D)
    (ho : V'.ownsMap Try.prog 3 (plainElem (H := Unit) Try.prog 3) b (L.length + 1) (D.put (.int .i64 (t.1 : Int)) (.lit (.int .i64 (plC M t).1)))) (hg : V.grownBy V' (some b)) (hw : (Lit.int .i64 (t.1 : Int)).wf = true) : FlW w V' r b ta tc T M (L ++ [t]) := by
  have hrb := H.rb
  have hrk : RkIn V r (badV M (L ++ [t])) := by rw [badV_snoc]; exact H.rk
  refine ⟨⟨keepG hg hrk.c (fun e => by have := Option.some.inj e; dsimp only at this; omega), ?_⟩, ⟨_, by rw [List.length_append]; exact ho, H.fn.put _ _ hw (fun y => vF_snoc M L t y)⟩, own_apart (m := 0) H.tr hg (fun x hx e => by have := (own_lt H.tr x hx).1; cases e; omega), bel_grownLow H.bel hg (by omega) (by have := H.bel.size; have := H.wr; omega), H.rb, by have := H.sz; have := hg.size; omega, H.wr⟩
  have h1 := hg.block r H.rk.lt (fun e => by have := Option.some.inj e; omega)
  have h2 := H.rk.z
  unfold World.frozen? at h2 ⊢
  rw [h1]; exact h2

theorem step_mapU {H : Type} {P : Program} (w : World) {ops : Array Oper} {o : Oper} {f : Act} {K' : Act → World → Prop} {Q : Exit → Act → World → Prop} {E : Prop}
    (hg : o.guard = none) (m x v : Operand) (t : TypeId) (hop : o.op = Op.mapUpdate t m x v)
    (k e : TypeId) (K : Maps.Keyed P k) (ht : P.underlying t = some (.map k e)) (R : Value → Option (DataW H × List MemPlace)) (b n : Nat) (D : DataW H)
    (hm : f.eval m = .map (some b)) (hown : w.ownsMap P k R b n D) (hn : n < maxLen) (key val : Value) (kl : Lit) (hx : f.eval x = key) (hv : f.eval v = val) (hkey : keyOf P k key = some kl)
    (d : DataW H) (ps : List MemPlace) (hval : R val = some (d, ps))
    (h : ∀ w', w'.ownsMap P k R b (n + 1) (D.put kl d) → w.grownBy w' (some b) → K' (f.put o.dst undef) w') :
    if Region.wanted o (yielded ops f.tmps) = true then Oper.wp P o f w K' Q else E := by
  have hw : Region.wanted o (yielded ops f.tmps) = true := by simp [Region.wanted, hg]
  rw [if_pos hw]
  obtain ⟨w', hrun, r1, r2⟩ := hown.update K ht hn hkey hval
  unfold Oper.wp
  simp [execOp, hop, hm, hx, hv, hrun, Result.andThen]
  exact h w' r1 r2
theorem tmod_nat {x n : Nat} (hx : x ≤ 140737488355328) : (wrap64 ((x : Int) + 1)).tmod (n : Int) = (((x + 1) % n : Nat) : Int) := by
  rw [next64 hx]
  exact (Int.ofNat_tmod (x + 1) n).symm
theorem segK_len (n : Nat) (T : List Nat) (q k : Nat) : (segK n T q k).length = k := by simp [segK]
theorem segsK_len {n : Nat} (hn : 0 < n) (T : List Nat) : ∀ i, (segsK n T i).length ≤ i * n
  | 0 => by simp [segsK]
  | i + 1 => by
    have h1 := segsK_len hn T i
    have h2 : cntK n T i < n := Nat.mod_lt _ hn
    rw [segsK_succ, List.length_append, segK_len, Nat.add_mul]
    omega
theorem keyI : Maps.Keyed Try.prog 3 := Maps.int_keyed Try.underlying3

/-- All untouched points of the contour. -/
def allV (M : List Mk) : List Tr := segsK M.length (tcs M) (tcs M).length
/-- What followed answers. -/
def FollowPost (w : World) (M : List Mk) (e : Ending) (w' : World) : Prop := if badV M (allV M) = true then e = .returned (.tuple #[.map none, .int .i64 94]) ∧ Below w.heap.size w w' else
  ∃ b D, e = .returned (.tuple #[.map (some b), .int .i64 0]) ∧ w'.ownsMap Try.prog 3 (plainElem (H := Unit) Try.prog 3) b (allV M).length D ∧ MapF D (vF M (allV M)) ∧ w.heap.size ≤ b ∧ Below w.heap.size w w'

set_option maxRecDepth 20000 in
set_option maxHeartbeats 8000000 in
theorem followed_c (M : List Mk) (a : Option Addr) (cap : Nat) (w : World) (ho : IsR clM w a M) (hn : M.length ≤ 4096) :
    Calls Try.prog 43 #[.slice a M.length cap] w (FollowPost w M) := by
  obtain ⟨n, HN⟩ : ∃ n, Hid (M.length = n) := ⟨_, rfl⟩
  obtain ⟨T, HT⟩ : ∃ T, Hid (tcL M M.length = T) := ⟨_, rfl⟩
  obtain ⟨m, Hm⟩ : ∃ m, Hid (T.length = m) := ⟨_, rfl⟩
  have HO := Lib.hid ho
  have HTO : Hid (∀ V, Below w.heap.size w V → Calls Try.prog 51 #[.slice a n cap] V (TcPost V T)) := by
    intro V hb
    have := touched_c M a cap V (ho.below hb) hn
    rwa [HT.out, HN.out] at this
  have HL : Hid (n ≤ 4096) := by rw [HN.out] at hn; exact hn
  rw [HN.out]
  clear ho hn
  have hmm := @run_makeMap Try.prog
  obtain ⟨r, HR⟩ : ∃ r, Hid (w.heap.size = r) := ⟨_, rfl⟩
  go_enter Try.func43, Try.ntmps43
  go_wp2_with fail
  refine (HTO.out _ ?_).mono ?_
  · exact bel_alloc (bel_alloc (Below.refl _ _) _) _
  rintro e w1 ⟨ta, tc, rfl, htr, hb1⟩
  rw [Hm.out, HR.out]
  have HF : Hid (FlW w w1 r (r + 1) ta tc T M []) := by
    have hr := HR.out
    have hs0 : ((w.alloc (.cells #[.bool false] 84)).alloc (.map #[] 0)).heap.size = r + 2 := by simp [go_sem]; omega
    refine ⟨⟨keepC hb1 (by rw [← hr, show badV M [] = false from rfl]; simp [go_sem]), keepF hb1 (v := .bool false) (by rw [← hr]; simp [go_sem]) (by rw [← hr]; simp [go_sem])⟩, ⟨.map [], ?_, ?_⟩, own_base htr (by omega), ?_, by omega, by have := hb1.size; omega, hr⟩
    · have := (World.ownsMap_made (H := Unit) (w.alloc (.cells #[.bool false] 84)) Try.prog 3 (plainElem Try.prog 3)).kept (grown_bel hb1 none) (by simp)
      rwa [show (w.alloc (.cells #[.bool false] 84)).heap.size = r + 1 by simp [go_sem]; omega] at this
    · exact mapF_none
    · rw [← hr]; exact bel_to (bel_alloc (bel_alloc (Below.refl _ _) _) _) hb1 (by omega)
  clear htr hb1 HTO
  go_wp2_with fail
  go_loopw [16] (fun x wr => ∃ i : Nat, i ≤ m ∧ x = .int .i64 i ∧ Hid (FlW w wr r (r + 1) ta tc T M (segsK n T i))) (fun x _ => m - (intOf x).toNat)
  case atStart => exact ⟨0, Nat.zero_le _, rfl, HF⟩
  case round =>
    clear HF
    obtain ⟨i, hi, rfl, HF⟩ := hrel
    by_cases hlt : i < m
    · have hlt' : (i : Int) < (m : Int) := by omega
      have hi0 : (0 : Int) ≤ (i : Int) := by omega
      have HML : Hid (m ≤ 4096) := by
        have := tcL_le M M.length
        rw [HT.out, Hm.out, HN.out] at this
        have := HL.out; unfold Hid; omega
      obtain ⟨J, HJ⟩ : ∃ J, Hid ((i + 1) % m = J) := ⟨_, rfl⟩
      have hJ : J < m := by rw [← HJ.out]; exact Nat.mod_lt _ (by omega)
      have hJ1 : (J : Int) < (m : Int) := by omega
      have hJ0 : (0 : Int) ≤ (J : Int) := by omega
      obtain ⟨A, hA⟩ := get_of (show i < T.length by rw [Hm.out]; exact hlt)
      obtain ⟨B, hB⟩ := get_of (show J < T.length by rw [Hm.out]; exact hJ)
      have HA : Hid (aT T i = A) := by simp [Hid, aT, List.getD, hA]
      have HB : Hid (bT T i = B) := by simp [Hid, bT, List.getD, Hm.out, HJ.out, hB]
      have HAn : Hid (A < n ∧ B < n) := by
        have h1 := HT.out
        subst h1
        exact ⟨HN.out ▸ (tcs_lt hA).1, HN.out ▸ (tcs_lt hB).1⟩
      have HC : Hid (cntK n T i = (B + n - A - 1) % n) := by rw [Hid, cntK, HA.out, HB.out]
      obtain ⟨c, Hc⟩ : ∃ c, Hid (cntK n T i = c) := ⟨_, rfl⟩
      have HCN : Hid (c < n) := by rw [Hid, ← Hc.out]; exact Nat.mod_lt _ (by have := HAn.out; omega)
      have hrow : IsR clI wr ta (intsN T) := own_isR (intsN_len T).symm HF.out.tr
      obtain ⟨tb, ot, rfl, x0⟩ := hrow.num (i := i) (p := (A : Int)) (by simp [intsN, hA])
      obtain ⟨tb', ot', e', y0⟩ := hrow.num (i := J) (p := (B : Int)) (by simp [intsN, hB])
      cases e'
      have HLT := Lib.hid hlt
      have HX := Lib.hid (next64 (j := i) (by have := HML.out; omega))
      have hm0 : ¬ (m : Int) = 0 := by omega
      have hn0 : ¬ (n : Int) = 0 := by have := HAn.out; omega
      have ht1 : (wrap64 ((i : Int) + 1)).tmod (m : Int) = (J : Int) := by rw [← HJ.out]; exact tmod_nat (by have := HML.out; omega)
      obtain ⟨P, HP⟩ : ∃ P, Hid ((A + 1 + 0) % n = P) := ⟨_, rfl⟩
      have ht2 : (wrap64 ((A : Int) + 1)).tmod (n : Int) = (P : Int) := by rw [← HP.out]; exact tmod_nat (by have := HAn.out; have := HL.out; omega)
      have HF2 : Hid (FlW w wr r (r + 1) (some ⟨tb, ot, none⟩) tc T M (segsK n T i ++ segK n T i 0)) := by rw [segK_zero, List.append_nil]; exact HF
      clear hA hB hrow hlt hi hJ HF
      go_wp2_with fail
      (try rw [ht2])
      clear ht1 ht2 x0 y0 hJ1 hJ0 hm0
      generalize wr = wo at *
      go_loopw [10] (fun x wr => ∃ (k p : Nat), k ≤ c ∧ Hid ((A + 1 + k) % n = p) ∧ x = .int .i64 (p : Int) ∧ Hid (FlW w wr r (r + 1) (some ⟨tb, ot, none⟩) tc T M (segsK n T i ++ segK n T i k))) (fun x _ => c - ((intOf x).toNat + n - (A + 1)) % n)
      case atStart => exact ⟨0, P, Nat.zero_le _, HP, rfl, HF2⟩
      case round =>
        clear HF2 HP
        obtain ⟨k, p, hk, HP, rfl, HF⟩ := hrel
        by_cases hkc : k < c
        · have hne : ¬ (p : Int) = (B : Int) := by
            intro e
            have e2 : p = B := by omega
            have := (cyc_end HAn.out.1 HAn.out.2 (k := k) (by have := HCN.out; omega)).1 (by rw [HP.out]; exact e2)
            rw [← HC.out, Hc.out] at this
            omega
          have hpn : p < n := by rw [← HP.out]; exact Nat.mod_lt _ (by have := HAn.out; omega)
          obtain ⟨pm, hpm⟩ := get_of (show p < M.length by rw [HN.out]; exact hpn)
          obtain ⟨am, ham⟩ := get_of (show A < M.length by rw [HN.out]; exact HAn.out.1)
          obtain ⟨bm, hbm⟩ := get_of (show B < M.length by rw [HN.out]; exact HAn.out.2)
          have HPC : Hid (plC M (p, A, B) = flS pm.o am bm) := by simp [Hid, plC, List.getD, hpm, ham, hbm]
          obtain ⟨mo, off, rfl, z0, _, _⟩ := HO.out.mark hpm
          obtain ⟨mo', off', e1, z1, z2, z3⟩ := HO.out.mark ham
          cases e1
          obtain ⟨mo', off', e1, z4, z5, z6⟩ := HO.out.mark hbm
          cases e1
          obtain ⟨po, pc, pt'⟩ := pm
          obtain ⟨ao, ac, at'⟩ := am
          obtain ⟨bo, bc, bt'⟩ := bm
          dsimp only at z0 z1 z2 z3 z4 z5 z6 HPC
          have HZ := Lib.hid (And.intro z0 (And.intro z1 (And.intro z2 (And.intro z3 (And.intro z4 (And.intro z5 z6))))))
          have hbw : Below w.heap.size w wr := by rw [HR.out]; exact HF.out.bel
          replace z0 := keepC hbw z0
          replace z1 := keepC hbw z1
          replace z2 := keepC hbw z2
          replace z3 := keepC hbw z3
          replace z4 := keepC hbw z4
          replace z5 := keepC hbw z5
          replace z6 := keepC hbw z6
          have hp1 : (p : Int) < (n : Int) := by omega
          have hp0 : (0 : Int) ≤ (p : Int) := by omega
          have hA1 : (A : Int) < (n : Int) := by have := HAn.out; omega
          have hA0 : (0 : Int) ≤ (A : Int) := by omega
          have hB1 : (B : Int) < (n : Int) := by have := HAn.out; omega
          have hB0 : (0 : Int) ≤ (B : Int) := by omega
          have HPW : Hid ((Lit.int .i64 (p : Int)).wf = true) := wf_small (by have := HL.out; omega)
          have HLN : Hid ((segsK n T i ++ segK n T i k).length < maxLen) := by
            have h1 := segsK_len (show 0 < n by omega) T i
            have h2 := HML.out
            have h3 := HLT.out
            have h4 := HL.out
            have h5 := HCN.out
            have h6 : i * n ≤ 4096 * 4096 := Nat.mul_le_mul (by omega) h4
            unfold Hid maxLen
            rw [List.length_append, segK_len]
            omega
          obtain ⟨P2, HP2⟩ : ∃ P, Hid ((A + 1 + (k + 1)) % n = P) := ⟨_, rfl⟩
          have ht2 : (wrap64 ((p : Int) + 1)).tmod (n : Int) = (P2 : Int) := by
            rw [← HP2.out, ← cyc_next (by have := HAn.out; omega), HP.out]; exact tmod_nat (by have := HL.out; omega)
          have HKC := Lib.hid hkc
          have HMS : Hid ((p + n - (A + 1)) % n = k ∧ (P2 + n - (A + 1)) % n = k + 1) := by
            have h5 := HCN.out
            have h6 := HAn.out
            refine ⟨?_, ?_⟩
            · rw [← HP.out]; exact cyc_back h6.1 (by omega)
            · rw [← HP2.out]; exact cyc_back h6.1 (by omega)
          clear hpm ham hbm hbw hk hkc hpn
          go_wp2_with fail
          refine wp_region_upto (fun V => V.cell? ⟨mo, off + p * 3, none⟩ = some (.int .i64 po) ∧ V.cell? ⟨mo, off + A * 3, none⟩ = some (.int .i64 ao) ∧ V.cell? ⟨mo, off + A * 3 + 1, none⟩ = some (.int .i64 ac) ∧ V.cell? ⟨mo, off + A * 3 + 2, none⟩ = some (.bool at') ∧ V.cell? ⟨mo, off + B * 3, none⟩ = some (.int .i64 bo) ∧ V.cell? ⟨mo, off + B * 3 + 1, none⟩ = some (.int .i64 bc) ∧ V.cell? ⟨mo, off + B * 3 + 2, none⟩ = some (.bool bt')) 16 (by kernel_rfl) ⟨z0, z1, z2, z3, z4, z5, z6⟩ (fun hH => ?_)
          refine wpUpto_take (i := 0) (v := (.map (some (r + 1)))) rfl (by kernel_rfl) (by kernel_rfl) (by kernel_rfl) (by kernel_rfl) (fun _ _ _ h => h) (Or.inl ⟨by rfl, fun V hV => by go_simp⟩) hH ?_
          try simp only [Act.put, List.setIfInBounds_toArray, List.set_cons_zero, List.set_cons_succ]
          refine wpUpto_take (i := 1) (v := (.int .i64 (p : Int))) rfl (by kernel_rfl) (by kernel_rfl) (by kernel_rfl) (by kernel_rfl) (fun _ _ _ h => h) (Or.inl ⟨by rfl, fun V hV => by go_simp⟩) hH ?_
          try simp only [Act.put, List.setIfInBounds_toArray, List.set_cons_zero, List.set_cons_succ]
          refine wpUpto_take (i := 2) (v := (.slice (some ⟨mo, off, none⟩) n cap)) rfl (by kernel_rfl) (by kernel_rfl) (by kernel_rfl) (by kernel_rfl) (fun _ _ _ h => h) (Or.inl ⟨by rfl, fun V hV => by go_simp⟩) hH ?_
          try simp only [Act.put, List.setIfInBounds_toArray, List.set_cons_zero, List.set_cons_succ]
          refine wpUpto_take (i := 3) (v := (.int .i64 (p : Int))) rfl (by kernel_rfl) (by kernel_rfl) (by kernel_rfl) (by kernel_rfl) (fun _ _ _ h => h) (Or.inl ⟨by rfl, fun V hV => by go_simp⟩) hH ?_
          try simp only [Act.put, List.setIfInBounds_toArray, List.set_cons_zero, List.set_cons_succ]
          refine wpUpto_take (i := 4) (v := (.pointer (some ⟨mo, off + p * 3, none⟩))) rfl (by kernel_rfl) (by kernel_rfl) (by kernel_rfl) (by kernel_rfl) (fun _ _ _ h => h) (Or.inl ⟨by rfl, fun V hV => by go_simp; first | done | omega | (intro h; omega) | (constructor <;> omega)⟩) hH ?_
          try simp only [Act.put, List.setIfInBounds_toArray, List.set_cons_zero, List.set_cons_succ]
          refine wpUpto_take (i := 5) (v := (.pointer (some ⟨mo, off + p * 3, none⟩))) rfl (by kernel_rfl) (by kernel_rfl) (by kernel_rfl) (by kernel_rfl) (fun _ _ _ h => h) (Or.inl ⟨by rfl, fun V hV => by go_simp⟩) hH ?_
          try simp only [Act.put, List.setIfInBounds_toArray, List.set_cons_zero, List.set_cons_succ]
          refine wpUpto_take (i := 6) (v := (.int .i64 po)) rfl (by kernel_rfl) (by kernel_rfl) (by kernel_rfl) (by kernel_rfl) (fun _ _ _ h => h) (Or.inl ⟨by rfl, fun V hV => by obtain ⟨h0, h1, h2, h3, h4, h5, h6⟩ := hV; go_simp⟩) hH ?_
          try simp only [Act.put, List.setIfInBounds_toArray, List.set_cons_zero, List.set_cons_succ]
          refine wpUpto_take (i := 7) (v := (.slice (some ⟨mo, off, none⟩) n cap)) rfl (by kernel_rfl) (by kernel_rfl) (by kernel_rfl) (by kernel_rfl) (fun _ _ _ h => h) (Or.inl ⟨by rfl, fun V hV => by go_simp⟩) hH ?_
          try simp only [Act.put, List.setIfInBounds_toArray, List.set_cons_zero, List.set_cons_succ]
          refine wpUpto_take (i := 8) (v := (.int .i64 (A : Int))) rfl (by kernel_rfl) (by kernel_rfl) (by kernel_rfl) (by kernel_rfl) (fun _ _ _ h => h) (Or.inl ⟨by rfl, fun V hV => by go_simp⟩) hH ?_
          try simp only [Act.put, List.setIfInBounds_toArray, List.set_cons_zero, List.set_cons_succ]
          refine wpUpto_take (i := 9) (v := (.pointer (some ⟨mo, off + A * 3, none⟩))) rfl (by kernel_rfl) (by kernel_rfl) (by kernel_rfl) (by kernel_rfl) (fun _ _ _ h => h) (Or.inl ⟨by rfl, fun V hV => by go_simp; first | done | omega | (intro h; omega) | (constructor <;> omega)⟩) hH ?_
          try simp only [Act.put, List.setIfInBounds_toArray, List.set_cons_zero, List.set_cons_succ]
          refine wpUpto_take (i := 10) (v := (.agg #[.int .i64 ao, .int .i64 ac, .bool at'])) rfl (by kernel_rfl) (by kernel_rfl) (by kernel_rfl) (by kernel_rfl) (fun _ _ _ h => h) (Or.inl ⟨by rfl, fun V hV => by obtain ⟨h0, h1, h2, h3, h4, h5, h6⟩ := hV; go_simp⟩) hH ?_
          try simp only [Act.put, List.setIfInBounds_toArray, List.set_cons_zero, List.set_cons_succ]
          refine wpUpto_take (i := 11) (v := (.slice (some ⟨mo, off, none⟩) n cap)) rfl (by kernel_rfl) (by kernel_rfl) (by kernel_rfl) (by kernel_rfl) (fun _ _ _ h => h) (Or.inl ⟨by rfl, fun V hV => by go_simp⟩) hH ?_
          try simp only [Act.put, List.setIfInBounds_toArray, List.set_cons_zero, List.set_cons_succ]
          refine wpUpto_take (i := 12) (v := (.int .i64 (B : Int))) rfl (by kernel_rfl) (by kernel_rfl) (by kernel_rfl) (by kernel_rfl) (fun _ _ _ h => h) (Or.inl ⟨by rfl, fun V hV => by go_simp⟩) hH ?_
          try simp only [Act.put, List.setIfInBounds_toArray, List.set_cons_zero, List.set_cons_succ]
          refine wpUpto_take (i := 13) (v := (.pointer (some ⟨mo, off + B * 3, none⟩))) rfl (by kernel_rfl) (by kernel_rfl) (by kernel_rfl) (by kernel_rfl) (fun _ _ _ h => h) (Or.inl ⟨by rfl, fun V hV => by go_simp; first | done | omega | (intro h; omega) | (constructor <;> omega)⟩) hH ?_
          try simp only [Act.put, List.setIfInBounds_toArray, List.set_cons_zero, List.set_cons_succ]
          refine wpUpto_take (i := 14) (v := (.agg #[.int .i64 bo, .int .i64 bc, .bool bt'])) rfl (by kernel_rfl) (by kernel_rfl) (by kernel_rfl) (by kernel_rfl) (fun _ _ _ h => h) (Or.inl ⟨by rfl, fun V hV => by obtain ⟨h0, h1, h2, h3, h4, h5, h6⟩ := hV; go_simp⟩) hH ?_
          try simp only [Act.put, List.setIfInBounds_toArray, List.set_cons_zero, List.set_cons_succ]
          refine wpUpto_one (i := 15) (by kernel_rfl) rfl (fun K hK => ?_)
          go_simp
          refine (follow_c po ⟨ao, ac, at'⟩ ⟨bo, bc, bt'⟩ r _ wr.drew (HF.out.below (Below.refl _ _).drew).rk).mono ?_
          rintro e w2 ⟨rfl, hk2, hg2⟩
          obtain ⟨D, hv2⟩ := (HF.out.below (Below.refl _ _).drew).fix hk2 hg2
          have hH2 : w2.cell? ⟨mo, off + p * 3, none⟩ = some (.int .i64 po) ∧ w2.cell? ⟨mo, off + A * 3, none⟩ = some (.int .i64 ao) ∧ w2.cell? ⟨mo, off + A * 3 + 1, none⟩ = some (.int .i64 ac) ∧ w2.cell? ⟨mo, off + A * 3 + 2, none⟩ = some (.bool at') ∧ w2.cell? ⟨mo, off + B * 3, none⟩ = some (.int .i64 bo) ∧ w2.cell? ⟨mo, off + B * 3 + 1, none⟩ = some (.int .i64 bc) ∧ w2.cell? ⟨mo, off + B * 3 + 2, none⟩ = some (.bool bt') := by
            have hb2 : Below w.heap.size w w2 := by rw [HR.out]; exact hv2.bel
            exact ⟨keepC hb2 HZ.out.1, keepC hb2 HZ.out.2.1, keepC hb2 HZ.out.2.2.1, keepC hb2 HZ.out.2.2.2.1, keepC hb2 HZ.out.2.2.2.2.1, keepC hb2 HZ.out.2.2.2.2.2.1, keepC hb2 HZ.out.2.2.2.2.2.2⟩
          have HV := Lib.hid hv2
          refine hK.out _ _ (fun _ => hH2) ?_
          replace hH := hH2
          clear hK K hk2 hg2 hv2 hH2
          try simp only [Act.put, List.setIfInBounds_toArray, List.set_cons_zero, List.set_cons_succ]
          refine wpUpto_one (i := 16) (by kernel_rfl) rfl (fun K hK => ?_)
          refine step_mapU w2 rfl (.tmp 42) (.tmp 43) (.tmp 57) 74 rfl 3 3 keyI Try.underlying74 (plainElem (H := Unit) Try.prog 3) (r + 1) _ D rfl HV.out.mp HLN.out (.int .i64 (p : Int)) (.int .i64 (flS po ⟨ao, ac, at'⟩ ⟨bo, bc, bt'⟩).1) (.int .i64 (p : Int)) rfl rfl (Maps.keyOf_int_mk Try.underlying3 HPW.out) (.lit (.int .i64 (flS po ⟨ao, ac, at'⟩ ⟨bo, bc, bt'⟩).1)) [] (plainElem_int Try.underlying3 (wf_small (flS_bd _ _ _))) ?_
          intro w3 ho3 hg3
          have HF3 : Hid (FlW w w3 r (r + 1) (some ⟨tb, ot, none⟩) tc T M (segsK n T i ++ segK n T i (k + 1))) := by
            have hpc := HPC.out
            rw [Hid, segK_succ, ← List.append_assoc, HA.out, HB.out, HP.out]
            exact FlV.put (t := (p, A, B)) (by rw [hpc]; exact HV.out) (by rw [hpc]; exact ho3) hg3 HPW.out
          refine hK.out _ _ (fun h => absurd rfl h) ?_
          refine wpUpto_done (by kernel_rfl) ?_ _
          clear hH hK K ho3 hg3 HV z0 z1 z2 z3 z4 z5 z6
          clear hp1 hp0 hA1 hA0 hB1 hB0 hne
          go_wp2_with fail
          (try rw [ht2])
          go_roundw
          case rel => exact ⟨k + 1, P2, HKC.out, HP2, rfl, HF3⟩
          case measure => simp only [intOf]; have := HKC.out; have h7 := HMS.out; simp only [Int.toNat_natCast]; rw [h7.1, h7.2]; omega
        · obtain rfl : k = c := by omega
          have hpe : p = B := by
            rw [← HP.out]
            refine (cyc_end HAn.out.1 HAn.out.2 (by have := HCN.out; omega)).2 ?_
            rw [← HC.out, Hc.out]
          subst hpe
          have HF3 : Hid (FlW w wr r (r + 1) (some ⟨tb, ot, none⟩) tc T M (segsK n T (i + 1))) := by rw [segsK_succ, Hc.out]; exact HF
          clear hk hkc
          go_wp2_with fail
          go_roundw
          case rel => exact ⟨i + 1, HLT.out, by rw [HX.out], HF3⟩
          case measure => rw [HX.out]; have := HLT.out; simp only [intOf]; omega
    · have hlt' : ¬ (i : Int) < (m : Int) := by omega
      obtain rfl : i = m := by omega
      have HE : Hid (segsK n T i = allV M) := by
        rw [Hid, allV, tcs, HT.out, HN.out, Hm.out]
      have HF3 : Hid (FlW w wr r (r + 1) ta tc T M (allV M)) := by rw [← HE.out]; exact HF
      have k0 := HF3.out.rk.c
      clear hlt hi HF
      obtain ⟨D, hmp, hfn⟩ := HF3.out.mp
      have HMP := Lib.hid hmp
      have HFN := Lib.hid hfn
      clear hmp hfn
      cases hbd : badV M (allV M)
      · rw [hbd] at k0
        have HBD := Lib.hid hbd
        clear hbd
        go_wp2_with fail
        go_ret2
        rw [FollowPost, HBD.out]
        exact ⟨r + 1, D, rfl, HMP.out, HFN.out, by have := HR.out; omega, by rw [HR.out]; exact HF3.out.bel⟩
      · rw [hbd] at k0
        have HBD := Lib.hid hbd
        clear hbd
        go_wp2_with fail
        go_ret2
        rw [FollowPost, HBD.out]
        exact ⟨rfl, by rw [HR.out]; exact HF3.out.bel⟩

end Go.Proofs.Ytnoadceeenioeaa
