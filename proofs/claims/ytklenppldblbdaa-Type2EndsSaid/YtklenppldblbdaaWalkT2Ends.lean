/-
  The walk of Type2Ends: it answers true for every number and every text, and changes nothing that was there.
-/
import Derived.Test.YtklenppldblbdaaRa
namespace Go.Proofs.Ytklenppldblbdaa.type2Ends
open Go.RowKit Go.PlainAid
set_option linter.unusedSimpArgs false
set_option linter.unusedVariables false

set_option maxRecDepth 20000 in
set_option maxHeartbeats 1000000 in
theorem walk_out (n : Int) (a : Option Addr) (c : Nat) (s : ByteArray) (w : World) (h : ¬ (1 ≤ n ∧ n ≤ 30 ∧ s.size ≤ 3000)) :
    Calls Try.prog 4 #[.int .i64 n, .slice a s.size c] w fun e w' => e = .returned (.bool true) ∧ Below w.heap.size w w' := by
  have HA := Lib.hid (type2Alive_c w)
  by_cases h1 : n < 1
  · go_enter Try.func4, Try.ntmps4
    go_wp2_with fail
    refine HA.out.mono ?_
    rintro e w1 ⟨rfl, hb1⟩
    have HB1 := Lib.hid hb1
    clear hb1
    go_wp2_with fail
    go_ret
    exact ⟨rfl, HB1.out⟩
  · by_cases h2 : 30 < n
    · go_enter Try.func4, Try.ntmps4
      go_wp2_with fail
      refine HA.out.mono ?_
      rintro e w1 ⟨rfl, hb1⟩
      have HB1 := Lib.hid hb1
      clear hb1
      go_wp2_with fail
      go_ret
      exact ⟨rfl, HB1.out⟩
    · have h3 : (3000 : Int) < (s.size : Int) := by omega
      go_enter Try.func4, Try.ntmps4
      go_wp2_with fail
      refine HA.out.mono ?_
      rintro e w1 ⟨rfl, hb1⟩
      have HB1 := Lib.hid hb1
      clear hb1
      go_wp2_with fail
      go_ret
      exact ⟨rfl, HB1.out⟩

set_option maxRecDepth 20000 in
set_option maxHeartbeats 2000000 in
theorem walk_in (m : Nat) (a : Option Addr) (c : Nat) (s : ByteArray) (w : World) (h1 : 1 ≤ m) (h2 : m ≤ 30) (h3 : s.size ≤ 3000) (hB : IsB w a s.size c s) :
    Calls Try.prog 4 #[.int .i64 (m : Int), .slice a s.size c] w fun e w' => e = .returned (.bool true) ∧ Below w.heap.size w w' := by
  have HA := Lib.hid (type2Alive_c w)
  have HBB := Lib.hid hB
  have HM := Lib.hid (And.intro h1 h2)
  obtain ⟨z, HZ⟩ : ∃ z, Hid (s.size = z) := ⟨_, rfl⟩
  have HZ3 : Hid (z ≤ 3000) := by have := HZ.out; unfold Hid; omega
  have g1 : ¬ (m : Int) < 1 := by omega
  have g2 : ¬ (30 : Int) < (m : Int) := by omega
  have g3 : ¬ (3000 : Int) < (z : Int) := by have := HZ3.out; omega
  rw [HZ.out] at HBB ⊢
  clear hB h1 h2 h3
  go_enter Try.func4, Try.ntmps4
  go_wp2_with fail
  refine HA.out.mono ?_
  rintro e w1 ⟨rfl, hb1⟩
  have HB1 := Lib.hid hb1
  have HC1 := Lib.hid (codeW_nil w1 (Nat.le_refl _))
  have HB2 := Lib.hid (bel_alloc hb1 (.cells #[] 23))
  have HN2 : Hid (w1.heap.size ≤ (w1.alloc (.cells #[] 23)).heap.size) := by unfold Hid; simp
  clear hb1
  go_wp2_with fail
  have HNB : Hid (w.heap.size ≤ w1.heap.size) := HB1.out.size
  generalize hN : w1.heap.size = N at *
  generalize (w1.alloc (.cells #[] 23)) = w2 at *
  clear hN g1 g2 g3
  go_loopw [5, 6] (fun cv iv wr => ∃ (j g cc : Nat), j ≤ m ∧ cv = .slice (some ⟨g, 0, none⟩) j cc ∧ iv = .int .i64 (j : Int) ∧ Hid (CodeW wr N (some ⟨g, 0, none⟩) cc (locN m j)) ∧ Hid (Below w.heap.size w wr) ∧ Hid (N ≤ wr.heap.size)) (fun _ iv _ => m - (intOf iv).toNat)
  case atStart => exact ⟨0, N, 0, Nat.zero_le _, rfl, rfl, HC1, HB2, HN2⟩
  case round =>
    clear HC1 HB2 HB1 HN2
    obtain ⟨j, g, cc, hj, rfl, rfl, HC, HB, HNW⟩ := hrel
    by_cases hlt : j < m
    · have hlt' : (j : Int) < (m : Int) := by omega
      have HLT := Lib.hid hlt
      have HJ30 : Hid (m ≤ 30) := HM.out.2
      have hw1 : wrap64 ((j : Int) + 1) = ((j + 1 : Nat) : Int) := by have := HJ30.out; unfold wrap64; omega
      have hX : wrap64 (32 + ((j : Int) + 1) % (m : Int)) % 256 = ((32 + (j + 1) % m : Nat) : Int) := by
        have h1 := Nat.mod_lt (j + 1) (show 0 < m by omega)
        have h2 : ((j : Int) + 1) % (m : Int) = (((j + 1) % m : Nat) : Int) := by first | exact (Int.natCast_emod (j + 1) m).symm | exact (Int.ofNat_emod (j + 1) m).symm | (push_cast; rfl)
        rw [h2]; have := HJ30.out; unfold wrap64; omega
      have hTX : TextV (wr.alloc (.cells #[.int .u8 (wrap64 (32 + ((j : Int) + 1) % (m : Int)) % 256), .int .u8 10, .int .u8 11] 5)) (.slice (some ⟨wr.heap.size, 0, none⟩) 3 3) (routine m j) :=
        textV_lit wr (s := routine m j) (by rw [hX]; exact routine_cells (32 + (j + 1) % m) (by have := Nat.mod_lt (j + 1) (show 0 < m by omega); have := HJ30.out; omega)) (by show 3 ≤ 1000; decide)
      have hba : Below wr.heap.size wr (wr.alloc (.cells #[.int .u8 (wrap64 (32 + ((j : Int) + 1) % (m : Int)) % 256), .int .u8 10, .int .u8 11] 5)) := (Below.refl _ _).alloc (Nat.le_refl _) _
      obtain ⟨wa, HWA⟩ : ∃ wa, Hid (wr.alloc (.cells #[.int .u8 (wrap64 (32 + ((j : Int) + 1) % (m : Int)) % 256), .int .u8 10, .int .u8 11] 5) = wa) := ⟨_, rfl⟩
      have HWS : Hid (wa.heap.size = wr.heap.size + 1) := by rw [← HWA.out]; unfold Hid; simp
      rw [HWA.out] at hTX hba
      have hbb : Below wa.heap.size wa (wa.alloc (.cells #[.slice (some ⟨wr.heap.size, 0, none⟩) 3 3] 23)) := (Below.refl _ _).alloc (Nat.le_refl _) _
      have HTX := Lib.hid (hTX.below hbb)
      have hcw : CodeW (wa.alloc (.cells #[.slice (some ⟨wr.heap.size, 0, none⟩) 3 3] 23)) N (some ⟨g, 0, none⟩) cc (locN m j) := (HC.out.below hba).below hbb
      have HB5 := Lib.hid (bel_next (bel_next HB.out hba) hbb)
      obtain ⟨vs, how, hrows⟩ := hcw
      rw [locN_length] at how
      have HOW := Lib.hid how
      have HRW := Lib.hid hrows
      have HLI : Hid (Lies (wa.alloc (.cells #[.slice (some ⟨wr.heap.size, 0, none⟩) 3 3] 23)) (wr.heap.size + 1) 0 [.slice (some ⟨wr.heap.size, 0, none⟩) 3 3]) := by rw [← HWS.out]; exact lies_new
      clear hj hlt hTX hba hbb how hrows hX
      go_wp2_with (at_builtin; rw [HWA.out]; refine wpList_appA elBB rfl _ _ rfl (wa.alloc (.cells #[.slice (some ⟨wr.heap.size, 0, none⟩) 3 3] 23)) N (some ⟨g, 0, none⟩) j cc vs (wr.heap.size + 1) 1 1 [.slice (some ⟨wr.heap.size, 0, none⟩) 3 3] rfl rfl HOW.out rfl HLI.out (by simp [Value.oneCell']) (by decide) (by have := HLT.out; have := HJ30.out; omega) (by have := HLT.out; have := HJ30.out; omega) (by have := HB5.out.size; have := HNW.out; have := HWS.out; simp; omega) ?_; intro g9 c9 w9 ho9 hg9 hat9)
      have HC9 : Hid (CodeW w9 N (some ⟨g9, 0, none⟩) c9 (locN m (j + 1))) := by
        rw [locN_succ]
        refine codeW_app (n := j + 1) (us := [.slice (some ⟨wr.heap.size, 0, none⟩) 3 3]) (Qs := [routine m j]) (by rw [locN_length]; exact HOW.out) HRW.out rfl (fun i P hP => ?_) (by rw [locN_length]; rfl) ho9 (by rw [locN_length]; exact hg9)
        have hi : i = 0 := by have := (List.getElem?_eq_some_iff.1 hP).1; simp at this; omega
        subst hi
        have e : routine m j = P := by simpa using hP
        subst e
        exact ⟨_, rfl, HTX.out⟩
      have HB9 : Hid (Below w.heap.size w w9) := HB5.out.grown hg9 HB5.out.size (fun k hk => by have h1 := (HOW.out.lt k hk).1; have := HNB.out; omega)
      have HN9 : Hid (N ≤ w9.heap.size) := by have h1 := hg9.size; have h2 := HNW.out; have h3 := HWS.out; simp at h1; unfold Hid; omega
      clear ho9 hg9 hat9
      go_wp2_with fail
      refine ⟨⟨j + 1, g9, c9, HLT.out, rfl, by first | rw [hw1] | go_num, HC9, HB9, HN9⟩, ?_⟩
      (try rw [hw1]); have := HLT.out; simp only [intOf]; omega
    · obtain rfl : j = m := by omega
      have h1 : ¬ (j : Int) < (j : Int) := by omega
      go_wp2_with fail
      have hc1 : Below wr.heap.size wr (wr.alloc (.cells #[.int .u8 32, .int .u8 10, .int .u8 14] 5)) := (Below.refl _ _).alloc (Nat.le_refl _) _
      have hc2 : Below wr.heap.size wr ((wr.alloc (.cells #[.int .u8 32, .int .u8 10, .int .u8 14] 5)).alloc (.cells #[.slice (some ⟨wr.heap.size, 0, none⟩) 3 3, .slice a z c] 23)) := bel_alloc hc1 _
      have hb1 := (lit_isB (w := wr) (0, 0) callB_cells).below ((Below.refl _ _).alloc (Nat.le_refl _) (.cells #[.slice (some ⟨wr.heap.size, 0, none⟩) 3 3, .slice a z c] 23))
      have hb2 := HBB.out.below (HB.out.mono (Nat.le_refl _))
      have HFA : Hid (FArg ((wr.alloc (.cells #[.int .u8 32, .int .u8 10, .int .u8 14] 5)).alloc (.cells #[.slice (some ⟨wr.heap.size, 0, none⟩) 3 3, .slice a z c] 23)) (endF j s) (some ⟨wr.heap.size + 1, 0, none⟩) 2 (some ⟨g, 0, none⟩) cc none 0) := by
        have hsz : (wr.alloc (.cells #[.int .u8 32, .int .u8 10, .int .u8 14] 5)).heap.size = wr.heap.size + 1 := by simp
        refine ⟨isL_cells (heap_alloc2_new wr _ _) (fun i P hP => ?_), HC.out.isL.below hc2, .inl rfl, ?_, ?_, ⟨by show (-2147483648 : Int) ≤ 0; decide, by show (0 : Int) ≤ 2147483647; decide⟩, ⟨by show (-2147483648 : Int) ≤ 0; decide, by show (0 : Int) ≤ 2147483647; decide⟩⟩
        · have hi : i = 0 ∨ i = 1 := by have := (List.getElem?_eq_some_iff.1 hP).1; have e : (endF j s).glyphs.length = 2 := rfl; omega
          rcases hi with rfl | rfl
          · have e : callB = P := by simpa [endF] using hP
            subst e
            exact ⟨_, _, rfl, hb1⟩
          · have e : s = P := by simpa [endF] using hP
            subst e
            refine ⟨a, c, ?_, ?_⟩
            · rw [HZ.out]; rfl
            · rw [HZ.out]; exact hb2.below hc2
        · have := end_ok j s HM.out.1 HM.out.2 (by have := HZ.out; have := HZ3.out; omega); exact this.n1
        · have := end_ok j s HM.out.1 HM.out.2 (by have := HZ.out; have := HZ3.out; omega); exact this.n2
      have HOK := Lib.hid (end_ok j s HM.out.1 HM.out.2 (by have := HZ.out; have := HZ3.out; omega))
      have hp := pack_c (endF j s) _ _ _ _ _ _ _ HFA.out
      rw [show (endF j s).locals.length = j from locN_length j j] at hp
      refine hp.mono ?_
      rintro e w3 ⟨g3, c3, rfl, ho3, hb3⟩
      have HI3 := Lib.hid (isB_of_owns ho3)
      have HB3 := Lib.hid (bel_next HB.out (bel_next hc2 hb3))
      have HG0 := Lib.hid (end_first j s HM.out.1 HM.out.2)
      have HGF := Lib.hid (glyph_few (FOk.fit HOK.out) 1 s rfl)
      clear ho3 hb3 hp hc1 hc2 hb1 hb2 HFA HC
      generalize endF j s = f at *
      go_wp2_with fail
      refine (lawOpen_c f HOK.out (some ⟨g3, 0, none⟩) c3 w3 HI3.out).mono ?_
      rintro e w4 ⟨F, fl, rfl, hF, hb4⟩
      have HF4 := Lib.hid hF
      have HB4 := Lib.hid (bel_next HB3.out hb4)
      clear hF hb4
      go_wp2_with fail
      have hgl := glyph_c w4 F fl f 0 (by decide) HF4.out
      rw [HG0.out] at hgl
      refine hgl.mono ?_
      rintro e w5 ⟨a5, c5, vs5, rfl, how5, hb5⟩
      have HF5 := Lib.hid (HF4.out.below hb5)
      have HB5 := Lib.hid (bel_next HB4.out hb5)
      clear hgl how5 hb5
      go_wp2_with fail
      refine (glyph_c w5 F fl f 1 (by decide) HF5.out).mono ?_
      rintro e w6 ⟨a6, c6, vs6, rfl, how6, hb6⟩
      have HO6 := Lib.hid how6.isO
      have HB6 := Lib.hid (bel_next HB5.out hb6)
      obtain ⟨O, HO⟩ : ∃ O, Hid ((glyphM f 1).1 = O) := ⟨_, rfl⟩
      obtain ⟨wd, HWD⟩ : ∃ x, Hid ((glyphM f 1).2.1 = x) := ⟨_, rfl⟩
      obtain ⟨er, HER⟩ : ∃ x, Hid ((glyphM f 1).2.2 = x) := ⟨_, rfl⟩
      rw [HO.out, HER.out] at HGF
      rw [HO.out] at HO6
      rw [HO.out, HWD.out, HER.out]
      obtain ⟨k, HK⟩ : ∃ k, Hid (O.length = k) := ⟨_, rfl⟩
      rw [HK.out]
      clear how6 hb6
      go_wp2_with fail
      go_loopw [11, 80] (fun kv iv wx => ∃ i : Nat, i ≤ k ∧ iv = .int .i64 (i : Int) ∧ kv = .int .i64 ((knotsTo O i : Nat) : Int) ∧ Hid (Below w.heap.size w wx) ∧ Hid (IsO clK wx a6 O)) (fun _ iv _ => k - (intOf iv).toNat)
      case atStart => exact ⟨0, Nat.zero_le _, rfl, rfl, HB6, HO6⟩
      case round =>
        clear HB6 HO6
        obtain ⟨i, hi, rfl, rfl, HBx, HOx⟩ := hrel
        by_cases hlt : i < k
        · have hlt' : (i : Int) < (k : Int) := by omega
          have hi0 : (0 : Int) ≤ (i : Int) := by omega
          have HLT := Lib.hid hlt
          obtain ⟨ct, hct⟩ := get_of (show i < O.length by rw [HK.out]; exact hlt)
          obtain ⟨b1, o1, a1, d1, rfl, x1, _, _⟩ := HOx.out.at hct
          have hs1 := knotsTo_succ hct
          have hs2 := knotsTo_le O (i + 1)
          have hs3 := HGF.out.1
          have hk2 : k ≤ 256 := by have := HGF.out.2.1; have := HK.out; omega
          obtain ⟨ln, HLN⟩ : ∃ n, Hid (ct.length = n) := ⟨_, rfl⟩
          rw [HLN.out] at x1 hs1
          have hw1 : wrap64 ((i : Int) + 1) = ((i + 1 : Nat) : Int) := by unfold wrap64; omega
          have hw2 : wrap64 (((knotsTo O i : Nat) : Int) + (ln : Int)) = ((knotsTo O (i + 1) : Nat) : Int) := by rw [hs1]; unfold wrap64; omega
          clear hi hlt hct hs1 hs2 hs3
          go_wp2_with fail
          refine ⟨⟨i + 1, HLT.out, by first | rw [hw1] | go_num, by first | rw [hw2] | rfl, HBx, HOx⟩, ?_⟩
          (try rw [hw1]); have := HLT.out; simp only [intOf]; omega
        · obtain rfl : i = k := by omega
          have h1 : ¬ (i : Int) < (i : Int) := by omega
          have hs2 := knotsTo_le O i
          have hs3 := HGF.out.1
          have hz1 : (((knotsTo O i : Nat) : Int)) ≤ 4096 := by omega
          have hz2 : (i : Int) ≤ 256 := by have := HGF.out.2.1; have := HK.out; omega
          rcases HGF.out.2.2 with he | he
          · subst he
            go_wp2_with fail
            go_ret
            exact ⟨rfl, HBx.out⟩
          · have hz3 : knotsTo O i = 0 := by rw [he]; unfold knotsTo; simp
            rw [hz3] at *
            by_cases he0 : er = 0
            · subst he0
              go_wp2_with fail
              go_ret
              exact ⟨rfl, HBx.out⟩
            · have hb0 : (er == 0) = false := by simpa using he0
              go_wp2_with fail
              go_ret
              exact ⟨rfl, HBx.out⟩

theorem walk (n : Int) (a : Option Addr) (c : Nat) (s : ByteArray) (w : World) (w0 : (Lit.int .i64 n).wf = true) (hB : IsB w a s.size c s) (hz : (s.size : Int) ≤ 140737488351232) :
    Calls Try.prog 4 #[.int .i64 n, .slice a s.size c] w fun e w' => e = .returned (.bool true) ∧ Below w.heap.size w w' := by
  by_cases h : 1 ≤ n ∧ n ≤ 30 ∧ s.size ≤ 3000
  · obtain ⟨m, rfl⟩ := Int.eq_ofNat_of_zero_le (show 0 ≤ n by omega)
    exact walk_in m a c s w (by omega) (by omega) h.2.2 hB
  · exact walk_out n a c s w h

end Go.Proofs.Ytklenppldblbdaa.type2Ends
