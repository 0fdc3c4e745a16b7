/-
  The walk of Type2Widths: it answers true for all numbers, and changes nothing that was there.
-/
import Derived.Test.YtklenppldblbdaaRb
namespace Go.Proofs.Ytklenppldblbdaa.type2Widths
open Go.RowKit Go.PlainAid
set_option linter.unusedSimpArgs false
set_option linter.unusedVariables false

/-- What holds ahead of the append to the row of programs. -/
theorem wid_mid {w wr wa w9 : World} {X j g cc g1 c2 z c1 g9 c9 nb : Nat} {t : Int} {a1 : Option Addr} (hz : (endB j).size = z)
    (ho1 : wa.ownsRow wr.heap.size 5 1 (.slice (some ⟨g1, 0, none⟩) (numB t).size c2) (numB t).size (cellsOfStr (numB t))) (hb1 : Below wr.heap.size wr wa)
    (ho9 : w9.ownsRow wr.heap.size 5 1 (.slice (some ⟨g9, 0, none⟩) (numB t ++ endB j).size c9) (numB t ++ endB j).size (cellsOfStr (numB t ++ endB j))) (hg9 : wa.grownBy w9 (some g1))
    (hte : TextV wr (.slice a1 z c1) (endB j)) (hv : TextV wr (.slice (some ⟨nb, 0, none⟩) 3 3) (numB t)) (he : EndsW wr X) (hb : Below w.heap.size w wr) (hn : X + 1 ≤ wr.heap.size) (hc : CodeW wr (X + 1) (some ⟨g, 0, none⟩) cc (widthN t j)) :
    ∃ vs, Hid ((w9.alloc (.cells #[.slice a1 z c1, .slice (some ⟨g9, 0, none⟩) (3 + z) c9] 23)).ownsRow (X + 1) 23 1 (.slice (some ⟨g, 0, none⟩) (2 * j) cc) (2 * j) vs) ∧
      Hid (∀ (i : Nat) (P : ByteArray), (widthN t j)[i]? = some P → ∃ v, vs[i]? = some v ∧ TextV (w9.alloc (.cells #[.slice a1 z c1, .slice (some ⟨g9, 0, none⟩) (3 + z) c9] 23)) v P) ∧
      Hid (TextV (w9.alloc (.cells #[.slice a1 z c1, .slice (some ⟨g9, 0, none⟩) (3 + z) c9] 23)) (.slice (some ⟨g9, 0, none⟩) (3 + z) c9) (numB t ++ endB j)) ∧
      Hid (TextV (w9.alloc (.cells #[.slice a1 z c1, .slice (some ⟨g9, 0, none⟩) (3 + z) c9] 23)) (.slice a1 z c1) (endB j)) ∧
      Hid (TextV (w9.alloc (.cells #[.slice a1 z c1, .slice (some ⟨g9, 0, none⟩) (3 + z) c9] 23)) (.slice (some ⟨nb, 0, none⟩) 3 3) (numB t)) ∧
      Hid (EndsW (w9.alloc (.cells #[.slice a1 z c1, .slice (some ⟨g9, 0, none⟩) (3 + z) c9] 23)) X) ∧
      Hid (Below w.heap.size w (w9.alloc (.cells #[.slice a1 z c1, .slice (some ⟨g9, 0, none⟩) (3 + z) c9] 23))) ∧
      Hid (X + 1 ≤ (w9.alloc (.cells #[.slice a1 z c1, .slice (some ⟨g9, 0, none⟩) (3 + z) c9] 23)).heap.size) := by
  have hg1 := (World.ownsRow.lt ho1 g1 rfl).1
  have hb9 : Below wr.heap.size wr w9 := grown_below hb1 hg9 hb1.size hg1
  have hsz : (numB t ++ endB j).size = 3 + z := by rw [ByteArray.size_append, numB_size, hz]
  have hT9 : TextV w9 (.slice (some ⟨g9, 0, none⟩) (3 + z) c9) (numB t ++ endB j) := by rw [← hsz]; exact ⟨_, _, rfl, World.ownsRow.mono ho9 (Nat.zero_le _)⟩
  have hb10 : Below w9.heap.size w9 (w9.alloc (.cells #[.slice a1 z c1, .slice (some ⟨g9, 0, none⟩) (3 + z) c9] 23)) := (Below.refl _ _).alloc (Nat.le_refl _) _
  have hb11 := bel_next hb9 hb10
  obtain ⟨vs, how, hrows⟩ := hc.below hb11
  rw [widthN_length] at how
  exact ⟨vs, how, hrows, hT9.below hb10, hte.below hb11, hv.below hb11, he.below hb11, bel_next hb hb11, Nat.le_trans hn hb11.size⟩

set_option maxRecDepth 20000 in
set_option maxHeartbeats 4000000 in
theorem walk_in (u0 u1 t : Int) (w : World) (h0 : -30000 ≤ u0 ∧ u0 ≤ 30000) (h1 : -30000 ≤ u1 ∧ u1 ≤ 30000) (h2 : -30000 ≤ t ∧ t ≤ 30000) :
    Calls Try.prog 6 #[.int .i64 u0, .int .i64 u1, .int .i64 t] w fun e w' => e = .returned (.bool true) ∧ Below w.heap.size w w' := by
  have HA := Lib.hid (type2Alive_c w)
  have HW0 := Lib.hid h0
  have HW1 := Lib.hid h1
  have HT := Lib.hid h2
  have g1 : ¬ u0 < -30000 := by omega
  have g2 : ¬ 30000 < u0 := by omega
  have g3 : ¬ u1 < -30000 := by omega
  have g4 : ¬ 30000 < u1 := by omega
  have g5 : ¬ t < -30000 := by omega
  have g6 : ¬ 30000 < t := by omega
  have hfx : fixB t = true := by unfold fixB; simp; omega
  clear h0 h1 h2
  go_enter Try.func6, Try.ntmps6
  go_wp2_with fail
  refine HA.out.mono ?_
  rintro e w1 ⟨rfl, hb1⟩
  have HB1 := Lib.hid hb1
  clear hb1
  go_wp2_with fail
  refine (fix_any t w1).mono ?_
  rintro e w2 ⟨rfl, rfl⟩
  rw [hfx]
  go_wp2_with fail
  refine (operand2_c t w1 (by have := HT.out; omega) (by have := HT.out; omega)).mono ?_
  rintro e w2 ⟨rfl, hw2⟩
  have hb2 : Below w1.heap.size w1 w2 := by rw [hw2]; exact (Below.refl _ _).alloc (Nat.le_refl _) _
  have HV2 : Hid (TextV w2 (.slice (some ⟨w1.heap.size, 0, none⟩) 3 3) (numB t)) := by rw [hw2]; exact textV_lit w1 (numB_cells t (by have := HT.out; omega) (by have := HT.out; omega)) (by rw [numB_size]; decide)
  have HB2 := Lib.hid (bel_next HB1.out hb2)
  generalize w1.heap.size = nb at *
  clear hw2 hb2 HB1
  go_wp2_with fail
  have hE : ((((((((w2.alloc (.cells #[.int .u8 14] 5)).alloc (.cells #[.int .u8 139, .int .u8 22, .int .u8 14] 5)).alloc (.cells #[.int .u8 139, .int .u8 4, .int .u8 14] 5)).alloc (.cells #[.int .u8 139, .int .u8 139, .int .u8 21, .int .u8 14] 5)).alloc (.cells #[.int .u8 139, .int .u8 139, .int .u8 1, .int .u8 14] 5)).alloc (.cells #[.int .u8 139, .int .u8 139, .int .u8 19, .int .u8 0, .int .u8 14] 5)).alloc (.cells #[.int .u8 19, .int .u8 14] 5)).alloc (.cells #[.int .u8 139, .int .u8 139, .int .u8 23, .int .u8 139, .int .u8 22, .int .u8 14] 5)) = litsW w2 endC := rfl
  have hEN := ends_laid w2 #[.slice (some ⟨w2.heap.size, 0, none⟩) 1 1, .slice (some ⟨w2.heap.size + 1, 0, none⟩) 3 3, .slice (some ⟨w2.heap.size + 1 + 1, 0, none⟩) 3 3, .slice (some ⟨w2.heap.size + 1 + 1 + 1, 0, none⟩) 4 4, .slice (some ⟨w2.heap.size + 1 + 1 + 1 + 1, 0, none⟩) 4 4, .slice (some ⟨w2.heap.size + 1 + 1 + 1 + 1 + 1, 0, none⟩) 5 5, .slice (some ⟨w2.heap.size + 1 + 1 + 1 + 1 + 1 + 1, 0, none⟩) 2 2, .slice (some ⟨w2.heap.size + 1 + 1 + 1 + 1 + 1 + 1 + 1, 0, none⟩) 6 6] (fun i hi => by
    match i, hi with
    | 0, _ => rfl
    | 1, _ => rfl
    | 2, _ => rfl
    | 3, _ => rfl
    | 4, _ => rfl
    | 5, _ => rfl
    | 6, _ => rfl
    | 7, _ => rfl)
  have hsz : (litsW w2 endC).heap.size = w2.heap.size + 1 + 1 + 1 + 1 + 1 + 1 + 1 + 1 := by rw [← hE]; simp
  have hbl : Below w2.heap.size w2 ((litsW w2 endC).alloc (.cells #[.slice (some ⟨w2.heap.size, 0, none⟩) 1 1, .slice (some ⟨w2.heap.size + 1, 0, none⟩) 3 3, .slice (some ⟨w2.heap.size + 1 + 1, 0, none⟩) 3 3, .slice (some ⟨w2.heap.size + 1 + 1 + 1, 0, none⟩) 4 4, .slice (some ⟨w2.heap.size + 1 + 1 + 1 + 1, 0, none⟩) 4 4, .slice (some ⟨w2.heap.size + 1 + 1 + 1 + 1 + 1, 0, none⟩) 5 5, .slice (some ⟨w2.heap.size + 1 + 1 + 1 + 1 + 1 + 1, 0, none⟩) 2 2, .slice (some ⟨w2.heap.size + 1 + 1 + 1 + 1 + 1 + 1 + 1, 0, none⟩) 6 6] 23)) := bel_alloc (litsW_bel endC w2) _
  have hs3 : ((litsW w2 endC).alloc (.cells #[.slice (some ⟨w2.heap.size, 0, none⟩) 1 1, .slice (some ⟨w2.heap.size + 1, 0, none⟩) 3 3, .slice (some ⟨w2.heap.size + 1 + 1, 0, none⟩) 3 3, .slice (some ⟨w2.heap.size + 1 + 1 + 1, 0, none⟩) 4 4, .slice (some ⟨w2.heap.size + 1 + 1 + 1 + 1, 0, none⟩) 4 4, .slice (some ⟨w2.heap.size + 1 + 1 + 1 + 1 + 1, 0, none⟩) 5 5, .slice (some ⟨w2.heap.size + 1 + 1 + 1 + 1 + 1 + 1, 0, none⟩) 2 2, .slice (some ⟨w2.heap.size + 1 + 1 + 1 + 1 + 1 + 1 + 1, 0, none⟩) 6 6] 23)).heap.size = w2.heap.size + 1 + 1 + 1 + 1 + 1 + 1 + 1 + 1 + 1 := by simp [hsz]
  rw [hsz] at hEN
  rw [hE]
  have HV3 := Lib.hid (HV2.out.below hbl)
  have HB3 := Lib.hid (bel_next HB2.out hbl)
  generalize ((litsW w2 endC).alloc (.cells #[.slice (some ⟨w2.heap.size, 0, none⟩) 1 1, .slice (some ⟨w2.heap.size + 1, 0, none⟩) 3 3, .slice (some ⟨w2.heap.size + 1 + 1, 0, none⟩) 3 3, .slice (some ⟨w2.heap.size + 1 + 1 + 1, 0, none⟩) 4 4, .slice (some ⟨w2.heap.size + 1 + 1 + 1 + 1, 0, none⟩) 4 4, .slice (some ⟨w2.heap.size + 1 + 1 + 1 + 1 + 1, 0, none⟩) 5 5, .slice (some ⟨w2.heap.size + 1 + 1 + 1 + 1 + 1 + 1, 0, none⟩) 2 2, .slice (some ⟨w2.heap.size + 1 + 1 + 1 + 1 + 1 + 1 + 1, 0, none⟩) 6 6] 23)) = w3 at *
  obtain ⟨X, hX⟩ : ∃ X, w2.heap.size + 1 + 1 + 1 + 1 + 1 + 1 + 1 + 1 = X := ⟨_, rfl⟩
  rw [hX] at hEN
  simp only [hX] at *
  have HC3 := Lib.hid (codeW_nil w3 (Nat.le_refl _))
  rw [hs3] at HC3
  have hb4 : Below w3.heap.size w3 (w3.alloc (.cells #[] 23)) := (Below.refl _ _).alloc (Nat.le_refl _) _
  have HV4 := Lib.hid (HV3.out.below hb4)
  have HB4 := Lib.hid (bel_next HB3.out hb4)
  have HE4 := Lib.hid (hEN.below hb4)
  have HN4 : Hid (X + 1 ≤ (w3.alloc (.cells #[] 23)).heap.size) := by unfold Hid; simp [hs3]
  have HNB : Hid (w.heap.size ≤ X + 1) := by have := HB3.out.size; rw [hs3] at this; exact this
  generalize (w3.alloc (.cells #[] 23)) = w4 at *
  clear hE hEN hsz hbl hs3 HV2 HB2 HV3 HB3 hb4 hX
  clear HA hfx g1 g2 g3 g4 g5 g6
  go_loopw [9, 62] (fun cv iv wr => ∃ (j g cc : Nat), j ≤ 8 ∧ cv = .slice (some ⟨g, 0, none⟩) (2 * j) cc ∧ iv = .int .i64 (j : Int) ∧ Hid (CodeW wr (X + 1) (some ⟨g, 0, none⟩) cc (widthN t j)) ∧ Hid (Below w.heap.size w wr) ∧ Hid (X + 1 ≤ wr.heap.size) ∧ Hid (TextV wr (.slice (some ⟨nb, 0, none⟩) 3 3) (numB t)) ∧ Hid (EndsW wr X)) (fun _ iv _ => 8 - (intOf iv).toNat)
  case atStart => exact ⟨0, X + 1, 0, Nat.zero_le _, rfl, rfl, HC3, HB4, HN4, HV4, HE4⟩
  case round =>
    clear HC3 HB4 HN4 HV4 HE4
    obtain ⟨j, g, cc, hj, rfl, rfl, HC, HB, HN, HV, HE⟩ := hrel
    by_cases hlt : j < 8
    · have hlt' : (j : Int) < 8 := by omega
      have hj0 : (0 : Int) ≤ (j : Int) := by omega
      have HLT := Lib.hid hlt
      have hw1 : wrap64 ((j : Int) + 1) = ((j + 1 : Nat) : Int) := by unfold wrap64; omega
      obtain ⟨v, hcell, a1, c1, rfl, how1⟩ := HE.out j hlt
      obtain ⟨z, HZ⟩ : ∃ z, Hid ((endB j).size = z) := ⟨_, rfl⟩
      have HZ6 : Hid (z ≤ 6) := by have := endB_size j; have := HZ.out; unfold Hid; omega
      have HTE : Hid (TextV wr (.slice a1 z c1) (endB j)) := by rw [← HZ.out]; exact ⟨a1, c1, rfl, how1⟩
      rw [HZ.out] at hcell
      have hIE : IsB wr a1 z c1 (endB j) := by have := isB_of_owns how1; rwa [HZ.out] at this
      have HIE := Lib.hid hIE
      have hIN : IsB wr (some ⟨nb, 0, none⟩) 3 3 (numB t) := by
        obtain ⟨an, cn, e, hn⟩ := HV.out
        have e' : Value.slice (some ⟨nb, 0, none⟩) 3 3 = .slice an 3 cn := e
        cases e'
        exact isB_of_owns hn
      have HIN := Lib.hid hIN
      clear hj hlt how1 hIE hIN
      go_wp2_with (at_builtin; first
        | (refine wpList_copy rfl _ _ rfl wr (some ⟨nb, 0, none⟩) 3 3 (numB t) rfl rfl HIN.out (by decide) ?_; intro g1 c2 wa ho1 hb1; have HO1 := Lib.hid ho1; have HIA : Hid (IsB wa a1 z c1 (endB j)) := (HIE.out.below hb1); have HBA := Lib.hid hb1; clear ho1 hb1)
        | (refine wpList_add rfl _ _ rfl wa wr.heap.size g1 c2 (numB t) (endB j) a1 c1 3 z rfl HZ.out.symm rfl rfl HO1.out (by rw [HZ.out]; exact HIA.out) (by have h1 := HZ6.out; have h2 := HZ.out; rw [numB_size]; omega) HBA.out.size ?_; intro g9 c9 w9 ho9 hg9 hat9; obtain ⟨vs, HOW, HRW, HT9, HTE2, HV2, HE2, HB2, HN2⟩ := wid_mid (w := w) (X := X) (nb := nb) (cc := cc) (g := g) HZ.out HO1.out HBA.out ho9 hg9 HTE.out HV.out HE.out HB.out HN.out HC.out; clear ho9 hg9 hat9 HO1 HIA HBA)
        | (refine wpList_appA elBB rfl _ _ rfl (w9.alloc (.cells #[.slice a1 z c1, .slice (some ⟨g9, 0, none⟩) (3 + z) c9] 23)) (X + 1) (some ⟨g, 0, none⟩) (2 * j) cc vs w9.heap.size 2 2 [.slice a1 z c1, .slice (some ⟨g9, 0, none⟩) (3 + z) c9] rfl rfl HOW.out rfl lies_new (by simp [Value.oneCell']) (by decide) (by have := HLT.out; omega) (by have := HLT.out; omega) HN2.out ?_; intro gx cx wx hox hgx hatx))
      have ht := typ_own HOW.out
      have HCX : Hid (CodeW wx (X + 1) (some ⟨gx, 0, none⟩) cx (widthN t (j + 1))) := by
        rw [widthN]
        refine codeW_app (n := 2 * j + 2) (us := [.slice a1 z c1, .slice (some ⟨g9, 0, none⟩) (3 + z) c9]) (Qs := [endB j, numB t ++ endB j]) (by rw [widthN_length]; exact HOW.out) HRW.out rfl (fun i P hP => ?_) (by rw [widthN_length]; rfl) hox (by rw [widthN_length]; exact hgx)
        have hi : i = 0 ∨ i = 1 := by have := (List.getElem?_eq_some_iff.1 hP).1; simp at this; omega
        rcases hi with rfl | rfl
        · have e : endB j = P := by simpa using hP
          subst e
          exact ⟨_, rfl, HTE2.out⟩
        · have e : numB t ++ endB j = P := by simpa using hP
          subst e
          exact ⟨_, rfl, HT9.out⟩
      have hlow : ∀ k, (Value.slice (some ⟨g, 0, none⟩) (2 * j) cc).ownBlock = some k → X + 1 ≤ k := fun k hk => (HOW.out.lt k hk).1
      have HBX : Hid (Below w.heap.size w wx) := HB2.out.grown hgx HB2.out.size (fun k hk => by have h1 := hlow k hk; have := HNB.out; omega)
      have HNX : Hid (X + 1 ≤ wx.heap.size) := Nat.le_trans HN2.out hgx.size
      have HVX := Lib.hid (HV2.out.chg hgx ht (by decide))
      have HEX : Hid (EndsW wx X) := fun i hi => by
        obtain ⟨v, k1, k2⟩ := HE2.out i hi
        have hlt := World.block_lt_of_cell? _ _ k1
        have hkeep := hgx.block X hlt (fun e => by have := hlow X e.symm; omega)
        exact ⟨v, by simp only [World.cell?, World.cells?, hkeep] at k1 ⊢; exact k1, k2.chg hgx ht (by decide)⟩
      clear hox hgx hatx ht hlow
      try go_wp2_with fail
      refine ⟨⟨j + 1, gx, cx, HLT.out, rfl, by first | rw [hw1] | go_num, HCX, HBX, HNX, HVX, HEX⟩, ?_⟩
      (try rw [hw1]); have := HLT.out; simp only [intOf]; omega
    · obtain rfl : j = 8 := by omega
      have h1 : ¬ ((8 : Nat) : Int) < 8 := by omega
      have HOK := Lib.hid (width_ok t u0 u1 HW0.out HW1.out)
      have HFA : Hid (FArg wr (widthF t u0 u1) (some ⟨g, 0, none⟩) cc none 0 none 0) := ⟨HC.out.isL, .inl rfl, .inl rfl, HOK.out.n1, HOK.out.n2, HOK.out.w0, HOK.out.w1⟩
      have HGL : Hid ((widthF t u0 u1).glyphs.length = 16) := widthN_length t 8
      have hp := pack_c (widthF t u0 u1) _ _ _ _ _ _ _ HFA.out
      rw [HGL.out] at hp
      have HPK := Lib.hid hp
      clear hp hj hlt HC HFA HV HE
      go_wp2_with fail
      refine HPK.out.mono ?_
      rintro e w3' ⟨g3, c3, rfl, ho3, hb3⟩
      have HI3 := Lib.hid (isB_of_owns ho3)
      have HB3 := Lib.hid (bel_next HB.out hb3)
      have HGW : Hid (∀ i, i < 16 → (glyphM (widthF t u0 u1) i).2.2 = 0 ∧ (glyphM (widthF t u0 u1) i).2.1 = if i % 2 = 1 then u1 + t else u0) := fun i hi => width_of t u0 u1 i hi (by have := HT.out; omega) (by have := HT.out; omega)
      clear ho3 hb3 HPK
      generalize widthF t u0 u1 = f at *
      go_wp2_with fail
      refine (lawOpen_c f HOK.out (some ⟨g3, 0, none⟩) c3 w3' HI3.out).mono ?_
      rintro e w5 ⟨F, fl, rfl, hF, hb5⟩
      have HF5 := Lib.hid hF
      have HB5 := Lib.hid (bel_next HB3.out hb5)
      clear hF hb5
      go_wp2_with fail
      refine (fcount_c w5 F fl f HF5.out).mono ?_
      rintro e w6 ⟨rfl, hb6⟩
      rw [HGL.out]
      have HF6 := Lib.hid (HF5.out.below hb6)
      have HB6 := Lib.hid (bel_next HB5.out hb6)
      clear hb6
      go_wp2_with fail
      go_loopw [100] (fun iv wx => ∃ i : Nat, i ≤ 16 ∧ iv = .int .i64 (i : Int) ∧ Hid (Below w.heap.size w wx) ∧ Hid (FontAt wx F fl f)) (fun iv _ => 16 - (intOf iv).toNat)
      case atStart => exact ⟨0, Nat.zero_le _, rfl, HB6, HF6⟩
      case round =>
        clear HB6 HF6
        obtain ⟨i, hi, rfl, HBx, HFx⟩ := hrel
        by_cases hlt : i < 16
        · have hlt' : (i : Int) < 16 := by omega
          have hi0 : (0 : Int) ≤ (i : Int) := by omega
          have HLT := Lib.hid hlt
          have hw1 : wrap64 ((i : Int) + 1) = ((i + 1 : Nat) : Int) := by unfold wrap64; omega
          have hw2 : wrap64 (u1 + t) = u1 + t := by have := HW1.out; have := HT.out; unfold wrap64; omega
          obtain ⟨k1, k2⟩ := HGW.out i hlt
          have hgl := glyph_c _ F fl f i (by omega) HFx.out
          unfold GPost at hgl
          rw [k1, k2] at hgl
          have HGL2 := Lib.hid hgl
          clear hi hlt k1 k2 hgl
          by_cases hpar : i % 2 = 1
          · have hm1 : ((i : Int) % 2 == 1) = true := by simp; omega
            rw [if_pos hpar] at HGL2
            clear hpar
            go_wp2_with fail
            refine HGL2.out.mono ?_
            rintro e wy ⟨ay, cy, vy, rfl, _, hby⟩
            have HBY := Lib.hid (bel_next HBx.out hby)
            have HFY := Lib.hid (HFx.out.below hby)
            clear hby
            go_wp2_with fail
            refine ⟨⟨i + 1, HLT.out, by first | rw [hw1] | go_num, HBY, HFY⟩, ?_⟩
            (try rw [hw1]); have := HLT.out; simp only [intOf]; omega
          · have hm1 : ((i : Int) % 2 == 1) = false := by simp; omega
            rw [if_neg hpar] at HGL2
            clear hpar
            go_wp2_with fail
            refine HGL2.out.mono ?_
            rintro e wy ⟨ay, cy, vy, rfl, _, hby⟩
            have HBY := Lib.hid (bel_next HBx.out hby)
            have HFY := Lib.hid (HFx.out.below hby)
            clear hby
            go_wp2_with fail
            refine ⟨⟨i + 1, HLT.out, by first | rw [hw1] | go_num, HBY, HFY⟩, ?_⟩
            (try rw [hw1]); have := HLT.out; simp only [intOf]; omega
        · obtain rfl : i = 16 := by omega
          have h1 : ¬ ((16 : Nat) : Int) < 16 := by omega
          go_wp2_with fail
          go_ret
          exact ⟨rfl, HBx.out⟩

set_option maxRecDepth 20000 in
set_option maxHeartbeats 4000000 in
theorem walk_out (u0 u1 t : Int) (w : World) (h : ¬ (-30000 ≤ u0 ∧ u0 ≤ 30000) ∨ ¬ (-30000 ≤ u1 ∧ u1 ≤ 30000) ∨ ¬ (-30000 ≤ t ∧ t ≤ 30000)) :
    Calls Try.prog 6 #[.int .i64 u0, .int .i64 u1, .int .i64 t] w fun e w' => e = .returned (.bool true) ∧ Below w.heap.size w w' := by
  have HA := Lib.hid (type2Alive_c w)
  by_cases h1 : u0 < -30000
  · clear h
    go_enter Try.func6, Try.ntmps6
    go_wp2_with fail
    refine HA.out.mono ?_
    rintro e w1 ⟨rfl, hb1⟩
    have HB1 := Lib.hid hb1
    clear hb1
    go_wp2_with fail
    go_ret
    exact ⟨rfl, HB1.out⟩
  by_cases h2 : 30000 < u0
  · clear h
    go_enter Try.func6, Try.ntmps6
    go_wp2_with fail
    refine HA.out.mono ?_
    rintro e w1 ⟨rfl, hb1⟩
    have HB1 := Lib.hid hb1
    clear hb1
    go_wp2_with fail
    go_ret
    exact ⟨rfl, HB1.out⟩
  by_cases h3 : u1 < -30000
  · clear h
    go_enter Try.func6, Try.ntmps6
    go_wp2_with fail
    refine HA.out.mono ?_
    rintro e w1 ⟨rfl, hb1⟩
    have HB1 := Lib.hid hb1
    clear hb1
    go_wp2_with fail
    go_ret
    exact ⟨rfl, HB1.out⟩
  by_cases h4 : 30000 < u1
  · clear h
    go_enter Try.func6, Try.ntmps6
    go_wp2_with fail
    refine HA.out.mono ?_
    rintro e w1 ⟨rfl, hb1⟩
    have HB1 := Lib.hid hb1
    clear hb1
    go_wp2_with fail
    go_ret
    exact ⟨rfl, HB1.out⟩
  by_cases h5 : t < -30000
  · clear h
    go_enter Try.func6, Try.ntmps6
    go_wp2_with fail
    refine HA.out.mono ?_
    rintro e w1 ⟨rfl, hb1⟩
    have HB1 := Lib.hid hb1
    clear hb1
    go_wp2_with fail
    go_ret
    exact ⟨rfl, HB1.out⟩
  have h6 : 30000 < t := by omega
  clear h
  go_enter Try.func6, Try.ntmps6
  go_wp2_with fail
  refine HA.out.mono ?_
  rintro e w1 ⟨rfl, hb1⟩
  have HB1 := Lib.hid hb1
  clear hb1
  go_wp2_with fail
  go_ret
  exact ⟨rfl, HB1.out⟩

theorem walk (u0 u1 t : Int) (w : World) (k0 : (Lit.int .i64 u0).wf = true) (k1 : (Lit.int .i64 u1).wf = true) (k2 : (Lit.int .i64 t).wf = true) :
    Calls Try.prog 6 #[.int .i64 u0, .int .i64 u1, .int .i64 t] w fun e w' => e = .returned (.bool true) ∧ Below w.heap.size w w' := by
  by_cases h0 : -30000 ≤ u0 ∧ u0 ≤ 30000
  · by_cases h1 : -30000 ≤ u1 ∧ u1 ≤ 30000
    · by_cases h2 : -30000 ≤ t ∧ t ≤ 30000
      · exact walk_in u0 u1 t w h0 h1 h2
      · exact walk_out u0 u1 t w (.inr (.inr h2))
    · exact walk_out u0 u1 t w (.inr (.inl h1))
  · exact walk_out u0 u1 t w (.inl h0)

end Go.Proofs.Ytklenppldblbdaa.type2Widths
