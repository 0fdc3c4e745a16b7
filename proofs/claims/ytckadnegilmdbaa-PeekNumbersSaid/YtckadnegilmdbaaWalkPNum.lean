/-
  The walk of PeekNumbers: it answers true at every slice of bytes and every integer, in every world, and changes nothing that was there. Condition: the slice has at most 2 to the 47th bytes.
-/
import Derived.Test.YtckadnegilmdbaaPeekA
namespace Go.Proofs.Ytckadnegilmdbaa.peekNumbers
open Go.RowKit Go.PlainAid
set_option linter.unusedSimpArgs false
set_option linter.unusedVariables false

theorem numOr_cases (s : ByteArray) (at' n : Int) : ∃ x f, numOr s at' n = (x, f) ∧ (f = if hasB s at' n = true then 0 else 21) := by
  unfold numOr
  split
  · exact ⟨_, _, rfl, rfl⟩
  · exact ⟨_, _, rfl, rfl⟩
theorem tagOr_cases (s : ByteArray) (at' : Int) : ∃ x f, tagOr s at' = (x, f) ∧ (f = if hasB s at' 4 = true then 0 else 21) := by
  unfold tagOr
  split
  · exact ⟨_, _, rfl, rfl⟩
  · exact ⟨_, _, rfl, rfl⟩

set_option maxRecDepth 20000 in
set_option maxHeartbeats 1000000 in
theorem walk0 (a : Option Addr) (cap : Nat) (s : ByteArray) (at' : Int) (w : World) (hB : IsB w a s.size cap s) (hs : (s.size : Int) ≤ 140737488355328) (ha : at' ≤ 9223372036854775807) :
    Calls Try.prog 3 #[.slice a s.size cap, .int .i64 at'] w fun e w' => e = .returned (.bool true) ∧ Below w.heap.size w w' := by
  have HB := Lib.hid hB
  have HS := Lib.hid hs
  have HA := Lib.hid ha
  have hss : (s.toList == s.toList) = true := by simp
  have hn : ((s.size : Int) != (s.size : Int)) = false := by simp
  clear hB hs ha
  go_enter Try.func3, Try.ntmps3
  go_wp2_with fail
  refine (alive_c _).mono ?_
  rintro e w1 ⟨rfl, hb1⟩
  have HB1 := Lib.hid (HB.out.below hb1)
  have HW1 := Lib.hid hb1
  clear hb1 HB
  go_wp2_with (at_builtin; refine wpList_copy rfl _ _ rfl w1 a s.size cap s rfl rfl HB1.out (by have := HS.out; omega) ?_; intro go c' w2 hown hb2)
  have HB2 := Lib.hid (HB1.out.below hb2)
  have HC2 := Lib.hid (isB_of_owns hown)
  have HW2 := Lib.hid (HW1.out.trans (hb2.mono HW1.out.size))
  clear hb2 hown HB1
  refine (new_c _ _ _ s _ HC2.out).mono ?_
  rintro e w3 ⟨rfl, hw3⟩
  have hb3 : Below w2.heap.size w2 w3 := by rw [hw3]; exact (Below.refl _ _).alloc (Nat.le_refl _) _
  have HC3 : Hid (w3.cell? ⟨w2.heap.size, 0, none⟩ = some (.string s)) := by unfold Hid; rw [hw3]; simp [go_sem]
  have HB3 := Lib.hid (HB2.out.below hb3)
  have HW3 := Lib.hid (HW2.out.trans (hb3.mono HW2.out.size))
  generalize w2.heap.size = g at *
  clear hw3 hb3 HC2 HB2 HW2 HW1
  go_wp2_with fail
  refine (len_c g s _ HC3.out).mono ?_
  rintro e w' ⟨rfl, rfl⟩
  go_wp2_with fail
  refine (bytes_c g s _ HC3.out).mono ?_
  rintro e w4 ⟨rfl, hw4⟩
  have hb4 : Below w3.heap.size w3 w4 := by rw [hw4]; exact below_bytes _ _ _
  have HO4 := Lib.hid (isB_bytes w3 s 5)
  rw [← hw4] at HO4
  have HB4 := Lib.hid (HB3.out.below hb4)
  have HC4 : Hid (w4.cell? ⟨g, 0, none⟩ = some (.string s)) := by
    have := World.block_lt_of_cell? w3 _ HC3.out
    unfold Hid; rw [hb4.cell (p := ⟨g, 0, none⟩) this]; exact HC3.out
  have HW4 := Lib.hid (HW3.out.trans (hb4.mono HW3.out.size))
  clear hw4 hb4 HC3 HB3 HW3
  generalize grownCap w3 s.size 0 5 = c4 at *
  go_wp2_with fail
  refine (same_c _ _ _ _ _ _ s s _ HO4.out HB4.out).mono ?_
  rintro e w' ⟨rfl, rfl⟩
  rw [hss]
  clear HO4
  go_wp2_with fail
  go_loop [6] (fun i => ∃ k : Nat, 1 ≤ k ∧ k ≤ 5 ∧ i = .int .i64 k) (fun i => 5 - (intOf i).toNat)
  case atStart => exact ⟨1, by omega, by omega, rfl⟩
  case round =>
    obtain ⟨k, hk1, hk5, rfl⟩ := hrel
    by_cases hlt : k < 5
    · obtain ⟨x, f, hx, hf⟩ := numOr_cases s at' k
      have HX := Lib.hid hx
      have hxx : (x != x) = false := by simp
      have hff : (f != f) = false := by simp
      clear hx hf
      have hk : k = 1 ∨ k = 2 ∨ k = 3 ∨ k = 4 := by omega
      clear hk1 hk5 hlt
      rcases hk with rfl | rfl | rfl | rfl
      · go_wp2_with fail
        refine (refnum_c a s.size cap s at' 1 x f _ HB4.out HS.out (by decide) (by decide) HX).mono ?_
        rintro e w' ⟨rfl, rfl⟩
        go_wp2_with fail
        refine (u8_c g at' x f s _ HC4.out HS.out HA.out HX).mono ?_
        rintro e w' ⟨rfl, rfl⟩
        go_wp2_with fail
        go_round
        case rel => exact ⟨2, by omega, by omega, rfl⟩
        case measure => simp [intOf]
      · go_wp2_with fail
        refine (refnum_c a s.size cap s at' 2 x f _ HB4.out HS.out (by decide) (by decide) HX).mono ?_
        rintro e w' ⟨rfl, rfl⟩
        go_wp2_with fail
        refine (u16_c g at' x f s _ HC4.out HS.out HA.out HX).mono ?_
        rintro e w' ⟨rfl, rfl⟩
        go_wp2_with fail
        go_round
        case rel => exact ⟨3, by omega, by omega, rfl⟩
        case measure => simp [intOf]
      · go_wp2_with fail
        refine (refnum_c a s.size cap s at' 3 x f _ HB4.out HS.out (by decide) (by decide) HX).mono ?_
        rintro e w' ⟨rfl, rfl⟩
        go_wp2_with fail
        refine (u24_c g at' x f s _ HC4.out HS.out HA.out HX).mono ?_
        rintro e w' ⟨rfl, rfl⟩
        go_wp2_with fail
        go_round
        case rel => exact ⟨4, by omega, by omega, rfl⟩
        case measure => simp [intOf]
      · go_wp2_with fail
        refine (refnum_c a s.size cap s at' 4 x f _ HB4.out HS.out (by decide) (by decide) HX).mono ?_
        rintro e w' ⟨rfl, rfl⟩
        go_wp2_with fail
        refine (u32_c g at' x f s _ HC4.out HS.out HA.out HX).mono ?_
        rintro e w' ⟨rfl, rfl⟩
        go_wp2_with fail
        go_round
        case rel => exact ⟨5, by omega, by omega, rfl⟩
        case measure => simp [intOf]
    · have hk : k = 5 := by omega
      subst hk
      clear hk1 hk5 hlt
      obtain ⟨x, f, hx, hf⟩ := numOr_cases s at' 2
      obtain ⟨t, q, ht, hq⟩ := tagOr_cases s at'
      have HX := Lib.hid hx
      have HT := Lib.hid ht
      have hxx : (sign16 x == sign16 x) = true := by simp
      have htt : (t.toList == t.toList) = true := by simp
      clear hx ht
      have H2 := Lib.hid (has_c a s.size cap s at' 2 w4 rfl HS.out)
      have H4 := Lib.hid (has_c a s.size cap s at' 4 w4 rfl HS.out)
      cases h2 : hasB s at' 2 <;> cases h4 : hasB s at' 4 <;> rw [h2] at hf H2 <;> rw [h4] at hq H4 <;> simp at hf hq <;> subst hf <;> subst hq <;> clear h2 h4
      · go_wp2_with fail
        refine (i16_c g at' x _ s _ HC4.out HS.out HA.out HX).mono ?_
        rintro e w' ⟨rfl, rfl⟩
        go_wp2_with fail
        refine (tag_c g at' _ s t _ HC4.out HS.out HA.out HT).mono ?_
        rintro e w' ⟨rfl, rfl⟩
        go_wp2_with fail
        refine (refi16_c a s.size cap s at' x _ _ HB4.out HS.out HX).mono ?_
        rintro e w' ⟨rfl, rfl⟩
        go_wp2_with fail
        refine H2.out.mono ?_
        rintro e w' ⟨rfl, rfl⟩
        go_wp2_with fail
        refine (reftag_c a s.size cap s t at' _ _ HB4.out HS.out HT).mono ?_
        rintro e w' ⟨rfl, rfl⟩
        go_wp2_with fail
        refine H4.out.mono ?_
        rintro e w' ⟨rfl, rfl⟩
        go_wp2_with fail
        go_ret
        exact ⟨rfl, HW4.out⟩
      · go_wp2_with fail
        refine (i16_c g at' x _ s _ HC4.out HS.out HA.out HX).mono ?_
        rintro e w' ⟨rfl, rfl⟩
        go_wp2_with fail
        refine (tag_c g at' _ s t _ HC4.out HS.out HA.out HT).mono ?_
        rintro e w' ⟨rfl, rfl⟩
        go_wp2_with fail
        refine (refi16_c a s.size cap s at' x _ _ HB4.out HS.out HX).mono ?_
        rintro e w' ⟨rfl, rfl⟩
        go_wp2_with fail
        refine H2.out.mono ?_
        rintro e w' ⟨rfl, rfl⟩
        go_wp2_with fail
        refine (reftag_c a s.size cap s t at' _ _ HB4.out HS.out HT).mono ?_
        rintro e w' ⟨rfl, rfl⟩
        go_wp2_with fail
        refine H4.out.mono ?_
        rintro e w' ⟨rfl, rfl⟩
        go_wp2_with fail
        go_ret
        exact ⟨rfl, HW4.out⟩
      · go_wp2_with fail
        refine (i16_c g at' x _ s _ HC4.out HS.out HA.out HX).mono ?_
        rintro e w' ⟨rfl, rfl⟩
        go_wp2_with fail
        refine (tag_c g at' _ s t _ HC4.out HS.out HA.out HT).mono ?_
        rintro e w' ⟨rfl, rfl⟩
        go_wp2_with fail
        refine (refi16_c a s.size cap s at' x _ _ HB4.out HS.out HX).mono ?_
        rintro e w' ⟨rfl, rfl⟩
        go_wp2_with fail
        refine H2.out.mono ?_
        rintro e w' ⟨rfl, rfl⟩
        go_wp2_with fail
        refine (reftag_c a s.size cap s t at' _ _ HB4.out HS.out HT).mono ?_
        rintro e w' ⟨rfl, rfl⟩
        go_wp2_with fail
        refine H4.out.mono ?_
        rintro e w' ⟨rfl, rfl⟩
        go_wp2_with fail
        go_ret
        exact ⟨rfl, HW4.out⟩
      · go_wp2_with fail
        refine (i16_c g at' x _ s _ HC4.out HS.out HA.out HX).mono ?_
        rintro e w' ⟨rfl, rfl⟩
        go_wp2_with fail
        refine (tag_c g at' _ s t _ HC4.out HS.out HA.out HT).mono ?_
        rintro e w' ⟨rfl, rfl⟩
        go_wp2_with fail
        refine (refi16_c a s.size cap s at' x _ _ HB4.out HS.out HX).mono ?_
        rintro e w' ⟨rfl, rfl⟩
        go_wp2_with fail
        refine H2.out.mono ?_
        rintro e w' ⟨rfl, rfl⟩
        go_wp2_with fail
        refine (reftag_c a s.size cap s t at' _ _ HB4.out HS.out HT).mono ?_
        rintro e w' ⟨rfl, rfl⟩
        go_wp2_with fail
        refine H4.out.mono ?_
        rintro e w' ⟨rfl, rfl⟩
        go_wp2_with fail
        go_ret
        exact ⟨rfl, HW4.out⟩

theorem walk (a : Option Addr) (cap : Nat) (s : ByteArray) (at' : Int) (w : World) (hB : IsB w a s.size cap s) (hz : (s.size : Int) ≤ 140737488351232) (w1 : (Lit.int .i64 at').wf = true) :
    Calls Try.prog 3 #[.slice a s.size cap, .int .i64 at'] w fun e w' => e = .returned (.bool true) ∧ Below w.heap.size w w' :=
  walk0 a cap s at' w hB (by omega) (by simp [Lit.wf, IntKind.min, IntKind.max, IntKind.signed, IntKind.bits] at w1; omega)
end Go.Proofs.Ytckadnegilmdbaa.peekNumbers
