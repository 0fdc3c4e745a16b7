/-
  The walk of GlyfEnds: it answers true in every world, and changes nothing that was there.
-/
import Derived.Test.YtllbegmgknlaiaaAlG
namespace Go.Proofs.Ytllbegmgknlaiaa
open Go.RowKit Go.PlainAid
set_option linter.unusedSimpArgs false
set_option linter.unusedVariables false

theorem tB_bd (n m : Nat) (hm : m ≤ 6) (i : Nat) (hi : i ≤ 20) : (tB n m i).size ≤ 1160 := by
  rw [tB_size]
  exact Nat.le_trans (Nat.mul_le_mul hi (show 10 + 8 * m ≤ 58 by omega)) (by decide)
theorem cB_bd (n m : Nat) (hm : m ≤ 6) (i : Nat) (hi : i ≤ 20) (x : Int) (k : Nat) (hk : k ≤ m) : (tB n m i ++ hdB ++ pB m x k).size ≤ 2000 := by
  have := tB_bd n m hm i hi
  rw [ByteArray.size_append, ByteArray.size_append, hdB_size, pB_size]; omega
theorem nxt_bd (n i : Nat) (h0 : 0 < n) (h1 : n ≤ 20) : 0 ≤ nxt n i ∧ nxt n i ≤ 65535 := by
  have := Nat.mod_lt (i + 1) h0
  unfold nxt; omega
theorem flag_bd2 (m j : Nat) : 0 ≤ flagI m j ∧ flagI m j ≤ 65535 := by unfold flagI; split <;> omega
theorem rem_nxt (n i : Nat) : ((i : Int) + 1).tmod (n : Int) = nxt n i := by
  unfold nxt
  rw [Int.tmod_eq_emod_of_nonneg (by omega), show (i : Int) + 1 = ((i + 1 : Nat) : Int) by omega]
  first | exact (Int.natCast_emod _ _).symm | exact (Int.natCast_mod _ _).symm | simp
theorem isI_new5 (w : World) : IsI (w.alloc (.cells #[.int .i64 (-1), .int .i64 0, .int .i64 0, .int .i64 0, .int .i64 0] 3)) (some ⟨w.heap.size, 0, none⟩) 5 5 [-1, 0, 0, 0, 0] := (intsAt_alloc w [-1, 0, 0, 0, 0]).isI rfl 5
/-- What is owned is kept where another block alone has grown. -/
theorem own_apart {w w' : World} {B : Nat} {e : TypeId} {s n g c r : Nat} {xs : List Value} (h : w.ownsRow B e s (.slice (some ⟨g, 0, none⟩) n c) n xs) (hg : w.grownBy w' (some r)) (hne : g ≠ r) : w'.ownsRow B e s (.slice (some ⟨g, 0, none⟩) n c) n xs :=
  own_keep h fun x hx => by
    have e : x = g := by simpa [Value.ownBlock] using hx.symm
    subst e
    exact hg.block x (ownsRow_cap h).2.2 (fun e => hne (by cases e; rfl))
namespace glyfEnds

set_option maxRecDepth 20000 in
set_option maxHeartbeats 4000000 in
theorem inRange (n m : Nat) (w : World) (hn1 : 1 ≤ n) (hn2 : n ≤ 20) (hm1 : 1 ≤ m) (hm2 : m ≤ 6) : Calls Try.prog 4 #[.int .i64 n, .int .i64 m] w fun e w' => e = .returned (.bool true) ∧ Below w.heap.size w w' := by
  have HNM := Lib.hid (show 1 ≤ n ∧ n ≤ 20 ∧ 1 ≤ m ∧ m ≤ 6 from ⟨hn1, hn2, hm1, hm2⟩)
  have c1 : ¬ ((n : Int) < 1) := by omega
  have c2 : ¬ (20 < (n : Int)) := by omega
  have c3 : ¬ ((m : Int) < 1) := by omega
  have c4 : ¬ (6 < (m : Int)) := by omega
  clear hn1 hn2 hm1 hm2
  go_enter Try.func4, Try.ntmps4
  go_wp2_with fail
  refine (glyfAlive_c _).mono ?_
  rintro e w1 ⟨rfl, hb1⟩
  have HB1 := Lib.hid hb1
  clear hb1
  go_wp2_with fail
  clear c1 c2 c3 c4
  have HTB : Hid (OwnB w.heap.size ((w1.alloc (.cells #[] 5)).alloc (.cells #[.int .i64 0] 3)) w1.heap.size 0 (tB n m 0)) := (own_base (own_none w1 5 1 w1.heap.size rfl) HB1.out.size).alloc _
  have hz1 : (w1.alloc (.cells #[] 5)).heap.size = w1.heap.size + 1 := by simp
  have HPL : Hid (OwnI w.heap.size ((w1.alloc (.cells #[] 5)).alloc (.cells #[.int .i64 0] 3)) (w1.heap.size + 1) 1 (plL m 0)) := by
    have e : plL m 0 = [0] := by simp [plL]
    have h := (intsAt_alloc (w1.alloc (.cells #[] 5)) [0]).owns (base := w.heap.size) (by rw [hz1]; have := HB1.out.size; omega) (by decide)
    rw [hz1] at h
    unfold Hid
    rw [e]
    exact h
  have HB2 : Hid (Below w.heap.size w ((w1.alloc (.cells #[] 5)).alloc (.cells #[.int .i64 0] 3))) := bel_alloc (bel_alloc HB1.out _) _
  clear hz1
  generalize ((w1.alloc (.cells #[] 5)).alloc (.cells #[.int .i64 0] 3)) = w2 at *
  go_loopw [5, 6, 7] (fun v5 v6 v7 wr => ∃ i g c gp cp T : Nat, i ≤ n ∧ v5 = .slice (some ⟨g, 0, none⟩) T c ∧ v6 = .slice (some ⟨gp, 0, none⟩) (i + 1) cp ∧ v7 = .int .i64 i ∧ Hid ((tB n m i).size = T) ∧ Hid (OwnB w.heap.size wr g c (tB n m i)) ∧ Hid (OwnI w.heap.size wr gp cp (plL m i)) ∧ Hid (g ≠ gp) ∧ Hid (Below w.heap.size w wr)) (fun _ _ v7 _ => n - (intOf v7).toNat)
  case atStart => exact ⟨0, w1.heap.size, 0, w1.heap.size + 1, 1, 0, Nat.zero_le _, rfl, rfl, rfl, rfl, HTB, HPL, by unfold Hid; omega, HB2⟩
  case round =>
    clear HTB HPL HB2 HB1
    obtain ⟨i, g, c, gp, cp, T, hi, rfl, rfl, rfl, HT, HO, HP, HNE, HB⟩ := hrel
    by_cases hlt : i < n
    · have hlt' : (i : Int) < (n : Int) := by omega
      have HLT := Lib.hid hlt
      clear hi hlt
      go_wp2_with fail
      have hba : Below wr.heap.size wr (wr.alloc (.cells #[.int .i64 (-1), .int .i64 0, .int .i64 0, .int .i64 0, .int .i64 0] 3)) := (Below.refl _ _).alloc (Nat.le_refl _) _
      refine (two_n _ 5 5 [-1, 0, 0, 0, 0] _ (isI_new5 wr) (by omega) (by decide)).mono ?_
      rintro e w3 ⟨g3, c3, rfl, o3, b3⟩
      have hb3 := bel_next hba b3
      have HO3 := Lib.hid (own_below HO.out hb3)
      have HP3 := Lib.hid (own_below HP.out hb3)
      have HI3 := Lib.hid (isB_of_owns o3)
      have HB3 := Lib.hid (bel_next HB.out hb3)
      have HS3 : Hid ((twoB [-1, 0, 0, 0, 0]).size = 10) := by unfold Hid; rw [twoB_size]; rfl
      rw [HS3.out]
      rw [HS3.out] at HI3
      clear hba o3 b3 hb3
      go_wp2_with (at_builtin; refine wpList_add rfl _ _ rfl w3 w.heap.size g c (tB n m i) (twoB [-1, 0, 0, 0, 0]) (some ⟨g3, 0, none⟩) c3 T 10 HT.out.symm HS3.out.symm rfl rfl HO3.out (by rw [HS3.out]; exact HI3.out) (by have := tB_bd n m HNM.out.2.2.2 i (by have := HNM.out; have := HLT.out; omega); rw [HS3.out]; omega) HB3.out.size ?_; intro g4 c4 w4 o4 k4 hat4)
      obtain ⟨X, HX⟩ : ∃ X, Hid (nxt n i = X) := ⟨_, rfl⟩
      have HT4 : Hid ((tB n m i ++ hdB ++ pB m X 0).size = T + 10) := by unfold Hid; rw [ByteArray.size_append, ByteArray.size_append, HT.out, hdB_size]; rfl
      have HO4 : Hid (OwnB w.heap.size w4 g4 c4 (tB n m i ++ hdB ++ pB m X 0)) := by unfold Hid; rw [pB, ByteArray.append_empty]; exact o4
      have HP4 := Lib.hid (own_apart HP3.out k4 (Ne.symm HNE.out))
      have HNE4 : Hid (g4 ≠ gp) := by
        have h1 := HNE.out
        have h2 := (ownsRow_cap HP3.out).2.2
        unfold Hid
        rcases hat4 with h | h <;> omega
      have HB4 := Lib.hid (grown_below HB3.out k4 HB3.out.size (owns_lt HO3.out).2)
      clear o4 k4 hat4 HO3 HP3 HI3 HB3 HO HP HNE HB
      generalize hwo : wr = wo at *
      clear hwo
      go_loopw [5, 8] (fun v5 v8 wr => ∃ J k g' c' T' : Nat, J ≤ m + 1 ∧ v5 = .slice (some ⟨g', 0, none⟩) T' c' ∧ v8 = .int .i64 J ∧ Hid (J = k + 1) ∧ Hid ((tB n m i ++ hdB ++ pB m X k).size = T') ∧ Hid (OwnB w.heap.size wr g' c' (tB n m i ++ hdB ++ pB m X k)) ∧ Hid (wr.ownsRow w.heap.size 3 1 (.slice (some ⟨gp, 0, none⟩) (plL m i).length cp) (plL m i).length ((plL m i).map (Value.int .i64))) ∧ Hid (g' ≠ gp) ∧ Hid (Below w.heap.size w wr)) (fun _ v8 _ => m + 1 - (intOf v8).toNat)
      case atStart => exact ⟨1, 0, g4, c4, T + 10, by omega, rfl, rfl, rfl, HT4, HO4, HP4, HNE4, HB4⟩
      case round =>
        clear HT4 HO4 HP4 HNE4 HB4
        obtain ⟨J, k, g', c', T', hJ, rfl, rfl, HJ, HT5, HO5, HP5, HNE5, HB5⟩ := hrel
        by_cases hle : J ≤ m
        · have hle' : (J : Int) ≤ (m : Int) := by omega
          have HLE := Lib.hid hle
          have hw1 : wrap64 ((i : Int) + 1) = (i : Int) + 1 := by have := HNM.out; have := HLT.out; unfold wrap64; omega
          have hrem : ((i : Int) + 1).tmod (n : Int) = X := by rw [rem_nxt]; exact HX.out
          have hn0 : ¬ ((n : Int) = 0) := by have := HNM.out; omega
          have HXB : Hid (0 ≤ X ∧ X ≤ 65535) := by rw [← HX.out]; exact nxt_bd n i (by have := HNM.out; omega) HNM.out.2.1
          have HWJ := Lib.hid (next64 (j := J) (by have := HNM.out; omega))
          obtain ⟨fl, HFL⟩ : ∃ fl, Hid (flagI m J = fl) := ⟨_, rfl⟩
          have HFB : Hid (0 ≤ fl ∧ fl ≤ 65535) := by rw [← HFL.out]; exact flag_bd2 m J
          have hba : Below wr.heap.size wr (wr.alloc (.cells #[.int .i64 0, .int .i64 0] 3)) := (Below.refl _ _).alloc (Nat.le_refl _) _
          have HBA := Lib.hid hba
          have HZ2 := Lib.hid (intsAt_alloc wr [0, 0])
          clear hle hJ hba
          have hcase : (J : Int) = (m : Int) ∧ fl = 3 ∨ ¬ ((J : Int) = (m : Int)) ∧ fl = 35 := by
            have := HFL.out
            unfold flagI at this
            by_cases h : J = m
            · left; rw [if_pos h] at this; exact ⟨by omega, this.symm⟩
            · right; rw [if_neg h] at this; exact ⟨by omega, this.symm⟩
          rcases hcase with ⟨hjm, hfl⟩ | ⟨hjm, hfl⟩
          all_goals (
            rw [hfl] at HFL HFB
            clear hfl
            go_wp2_with fail
            refine (part_c _ X wr.heap.size _ HZ2.out HFB.out HXB.out).mono ?_
            rintro e w6 ⟨g6, c6, rfl, o6, b6⟩
            have hb6 := bel_next HBA.out b6
            have HO6 := Lib.hid (own_below HO5.out hb6)
            have HP6 := Lib.hid (own_below HP5.out hb6)
            have HI6 := Lib.hid (isB_of_owns o6)
            have HB6 := Lib.hid (bel_next HB5.out hb6)
            rw [partB_size]
            rw [partB_size] at HI6
            clear o6 b6 hb6
            go_wp2_with (at_builtin; refine wpList_add rfl _ _ rfl w6 w.heap.size g' c' (tB n m i ++ hdB ++ pB m X k) (partB _ X) (some ⟨g6, 0, none⟩) c6 T' 8 HT5.out.symm (partB_size _ _).symm rfl rfl HO6.out (by rw [partB_size]; exact HI6.out) (by have := cB_bd n m HNM.out.2.2.2 i (by have := HNM.out; have := HLT.out; omega) X k (by have := HJ.out; have := HLE.out; omega); rw [partB_size]; omega) HB6.out.size ?_; intro g7 c7 w7 o7 k7 hat7)
            have HO7 : Hid (OwnB w.heap.size w7 g7 c7 (tB n m i ++ hdB ++ pB m X (k + 1))) := by
              unfold Hid
              rw [pB, ← HJ.out, HFL.out, ← join_assoc]
              exact o7
            have HT7 : Hid ((tB n m i ++ hdB ++ pB m X (k + 1)).size = T' + 8) := by unfold Hid; rw [pB, ← join_assoc, ByteArray.size_append, HT5.out, partB_size]
            have HP7 := Lib.hid (own_apart HP6.out k7 (Ne.symm HNE5.out))
            have HNE7 : Hid (g7 ≠ gp) := by
              have h1 := HNE5.out
              have h2 := (ownsRow_cap HP6.out).2.2
              unfold Hid
              rcases hat7 with h | h <;> omega
            have HB7 := Lib.hid (grown_below HB6.out k7 HB6.out.size (owns_lt HO6.out).2)
            clear o7 k7 hat7
            go_wp2_with fail
            go_roundw
            case rel => exact ⟨J + 1, k + 1, g7, c7, T' + 8, by have := HLE.out; omega, rfl, by first | rw [HWJ.out] | exact congrArg (Value.int .i64) (by omega), by unfold Hid; rw [HJ.out], HT7, HO7, HP7, HNE7, HB7⟩
            case measure => (try rw [HWJ.out]); have := HLE.out; simp only [intOf]; omega)
        · have hle' : ¬ ((J : Int) ≤ (m : Int)) := by omega
          have HK : Hid (k = m) := by have := HJ.out; unfold Hid; omega
          have HT8 : Hid ((tB n m (i + 1)).size = T') := by have := HT5.out; rw [HK.out, ← HX.out] at this; unfold Hid; rw [tB]; exact this
          have HO8 : Hid (OwnB w.heap.size wr g' c' (tB n m (i + 1))) := by have := HO5.out; rw [HK.out, ← HX.out] at this; unfold Hid; rw [tB]; exact this
          have HLP : Hid ((plL m i).length = i + 1) := plL_length m i
          have HPX := Lib.hid (HP5.out.alloc (.cells #[.int .i64 (T' : Int)] 3))
          rw [HLP.out] at HPX
          have HLI := Lib.hid (lies_new (w := wr) (cs := #[.int .i64 (T' : Int)]) (T := 3))
          have HWI := Lib.hid (next64 (j := i) (by have := HNM.out; have := HLT.out; omega))
          have HTV : Hid ((T' : Int) = (((i + 1) * (10 + 8 * m) : Nat) : Int)) := by unfold Hid; rw [← HT8.out, tB_size]
          clear hle hJ
          go_wp2_with (at_builtin; refine wpList_app elI rfl _ _ rfl (wr.alloc (.cells #[.int .i64 (T' : Int)] 3)) w.heap.size gp cp (i + 1) ((plL m i).map (Value.int .i64)) (some ⟨wr.heap.size, 0, none⟩) 1 1 [.int .i64 (T' : Int)] rfl rfl HPX.out rfl (.inr ⟨_, 0, rfl, HLI.out⟩) (by simp [Value.oneCell']) (by have := HNM.out; have := HLT.out; omega) (by have := HNM.out; have := HLT.out; omega) (by have := HB5.out.size; simp; omega) ?_; intro g9 c9 w9 o9 k9 hat9)
          have HP9 : Hid (OwnI w.heap.size w9 g9 c9 (plL m (i + 1))) := by
            have e : (plL m (i + 1)).length = i + 1 + 1 := plL_length m (i + 1)
            unfold Hid OwnI
            rw [e, plL_succ, List.map_append, ← HTV.out]
            exact o9
          have HO9 : Hid (OwnB w.heap.size w9 g' c' (tB n m (i + 1))) := own_apart (HO8.out.alloc _) k9 HNE5.out
          have HNE9 : Hid (g' ≠ g9) := by
            have h1 := HNE5.out
            have h2 := (ownsRow_cap HO8.out).2.2
            unfold Hid
            rcases hat9 with h | h
            · omega
            · simp at h; omega
          have HB9 : Hid (Below w.heap.size w w9) := belGrown (bel_alloc HB5.out _) k9 (ownsRow_cap HPX.out).2.1 (by have := HB5.out.size; simp; omega)
          clear o9 k9 hat9
          go_wp2_with fail
          go_roundw
          case rel => exact ⟨i + 1, g', c', g9, c9, T', HLT.out, rfl, rfl, by first | rw [HWI.out] | exact congrArg (Value.int .i64) (by omega), HT8, HO9, HP9, HNE9, HB9⟩
          case measure => (try rw [HWI.out]); have := HLT.out; simp only [intOf]; omega
    · have hlt' : ¬ (i : Int) < (n : Int) := by omega
      obtain rfl : i = n := by omega
      have HTB : Hid (Tbl (tB i m i) (plL m i)) := tbl_tB i m HNM.out.1 HNM.out.2.1 HNM.out.2.2.1 HNM.out.2.2.2
      clear hi hlt
      go_wp2_with fail
      generalize hwo : wr = wo at *
      clear hwo
      go_loopw [10] (fun v10 wr => ∃ k : Nat, k ≤ i ∧ v10 = .int .i64 k ∧ Hid (OwnB w.heap.size wr g c (tB i m i)) ∧ Hid (OwnI w.heap.size wr gp cp (plL m i)) ∧ Hid (Below w.heap.size w wr)) (fun v10 _ => i - (intOf v10).toNat)
      case atStart => exact ⟨0, Nat.zero_le _, rfl, HO, HP, HB⟩
      case round =>
        clear HO HP HB
        obtain ⟨k, hk, rfl, HO5, HP5, HB5⟩ := hrel
        by_cases hlt2 : k < i
        · have hlt2' : (k : Int) < (i : Int) := by omega
          have HL2 := Lib.hid hlt2
          have HWK := Lib.hid (next64 (j := k) (by have := HNM.out; omega))
          have HD := Lib.hid (lawDecode_b (tB i m i) (plL m i) HTB.out wr w.heap.size g c gp cp k HO5.out HP5.out (by rw [plL_length]; omega))
          rw [HT.out, plL_length] at HD
          clear hk hlt2
          go_wp2_with fail
          refine HD.out.mono ?_
          rintro e w6 ⟨rfl, hb6⟩
          have hb7 := bel_alloc hb6 (.cells #[.slice none 0 0, .slice none 0 0] 29)
          have HO7 := Lib.hid (own_below HO5.out hb7)
          have HP7 := Lib.hid (own_below HP5.out hb7)
          have HB7 := Lib.hid (bel_next HB5.out hb7)
          clear hb6 hb7 HD
          go_wp2_with fail
          go_roundw
          case rel => exact ⟨k + 1, HL2.out, by first | rw [HWK.out] | exact congrArg (Value.int .i64) (by omega), HO7, HP7, HB7⟩
          case measure => (try rw [HWK.out]); have := HL2.out; simp only [intOf]; omega
        · have hlt2' : ¬ (k : Int) < (i : Int) := by omega
          clear hk hlt2
          go_wp2_with fail
          go_ret
          exact ⟨rfl, HB5.out⟩

set_option maxHeartbeats 1000000 in
theorem walk (a b : Int) (w : World) (ha : (Lit.int .i64 a).wf = true) (hb : (Lit.int .i64 b).wf = true) : Calls Try.prog 4 #[.int .i64 a, .int .i64 b] w fun e w' => e = .returned (.bool true) ∧ Below w.heap.size w w' := by
  by_cases hin : 1 ≤ a ∧ a ≤ 20 ∧ 1 ≤ b ∧ b ≤ 6
  · obtain ⟨h1, h2, h3, h4⟩ := hin
    obtain ⟨n, rfl⟩ := Int.eq_ofNat_of_zero_le (show 0 ≤ a by omega)
    obtain ⟨m, rfl⟩ := Int.eq_ofNat_of_zero_le (show 0 ≤ b by omega)
    exact inRange n m w (by omega) (by omega) (by omega) (by omega)
  · have hc : a < 1 ∨ (¬ a < 1 ∧ 20 < a) ∨ (¬ a < 1 ∧ ¬ 20 < a ∧ b < 1) ∨ (¬ a < 1 ∧ ¬ 20 < a ∧ ¬ b < 1 ∧ 6 < b) := by omega
    clear hin ha hb
    rcases hc with h1 | ⟨h1, h2⟩ | ⟨h1, h2, h3⟩ | ⟨h1, h2, h3, h4⟩
    all_goals (
      go_enter Try.func4, Try.ntmps4
      go_wp2_with fail
      refine (glyfAlive_c _).mono ?_
      rintro e w1 ⟨rfl, hb1⟩
      have HB1 := Lib.hid hb1
      clear hb1
      go_wp2_with fail
      go_ret
      exact ⟨rfl, HB1.out⟩)

end glyfEnds
end Go.Proofs.Ytllbegmgknlaiaa
