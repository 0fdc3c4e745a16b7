/-
  What the functions of package sfnt answer that find a font's directory, as contracts over the translated program: kindOf, inCollection, directory, heading. They only read. Condition: the view has at most 2 to the 47th bytes.
-/
import Derived.Test.YtbcjicmledckbaaSumS
namespace Go.Proofs.Ytbcjicmledckbaa
open Go.RowKit Go.PlainAid
set_option linter.unusedSimpArgs false
set_option linter.unusedVariables false

/-- The kind of a directory that begins so. -/
def kindB (t : ByteArray) : Int := if (t.toList == [0, 1, 0, 0]) = true then 1 else if (t.toList == [116, 114, 117, 101]) = true then 1 else if (t.toList == [79, 84, 84, 79]) = true then 2 else 0

set_option maxHeartbeats 400000 in
theorem kindOf_c (t : ByteArray) (k : Int) (w : World) (HK : Hid (kindB t = k)) :
    Calls Try.prog 48 #[.string t] w fun e w' => e = .returned (.int .i64 k) ∧ w = w' := by
  cases h1 : t.toList == [0, 1, 0, 0]
  · cases h2 : t.toList == [116, 114, 117, 101]
    · cases h3 : t.toList == [79, 84, 84, 79]
      · have HE : Hid (k = 0) := by unfold Hid; rw [← HK.out]; simp [kindB, h1, h2, h3]
        go_enter Try.func48, Try.ntmps48
        go_wp2
        go_ret
        rw [HE.out]
        exact ⟨rfl, rfl⟩
      · have HE : Hid (k = 2) := by unfold Hid; rw [← HK.out]; simp [kindB, h1, h2, h3]
        go_enter Try.func48, Try.ntmps48
        go_wp2
        go_ret
        rw [HE.out]
        exact ⟨rfl, rfl⟩
    · have HE : Hid (k = 1) := by unfold Hid; rw [← HK.out]; simp [kindB, h1, h2]
      go_enter Try.func48, Try.ntmps48
      go_wp2
      go_ret
      rw [HE.out]
      exact ⟨rfl, rfl⟩
  · have HE : Hid (k = 1) := by unfold Hid; rw [← HK.out]; simp [kindB, h1]
    go_enter Try.func48, Try.ntmps48
    go_wp2
    go_ret
    rw [HE.out]
    exact ⟨rfl, rfl⟩

/-- Where the directory of a face begins in a collection, or refused. -/
def colOf (s : ByteArray) (face : Int) : Int × Int :=
  if (numOr s 4 4).2 ≠ 0 then (0, 31)
  else if ((numOr s 4 4).1 != 65536) = true ∧ ((numOr s 4 4).1 != 131072) = true then (0, 32)
  else if (numOr s 8 4).2 ≠ 0 then (0, 31)
  else if ((numOr s 8 4).1 == 0) = true then (0, 31)
  else if 64 < (numOr s 8 4).1 then (0, 33)
  else if face < 0 then (0, 35)
  else if (numOr s 8 4).1 ≤ face then (0, 35)
  else if (numOr s (12 + 4 * face) 4).2 ≠ 0 then (0, 31)
  else ((numOr s (12 + 4 * face) 4).1, 0)

theorem numOr_ex (s : ByteArray) (p k : Int) : ∃ x f, Hid (numOr s p k = (x, f)) := ⟨_, _, rfl⟩
theorem num32_bound {s : ByteArray} {at' x f : Int} (h : numOr s at' 4 = (x, f)) : 0 ≤ x ∧ x ≤ 4294967295 := by
  unfold numOr at h
  have hb := numN_bound s at'.toNat 4
  split at h <;> simp at h <;> omega
theorem num16_bound {s : ByteArray} {at' x f : Int} (h : numOr s at' 2 = (x, f)) : 0 ≤ x ∧ x ≤ 65535 := by
  unfold numOr at h
  have hb := numN_bound s at'.toNat 2
  split at h <;> simp at h <;> omega

set_option maxHeartbeats 1000000 in
theorem inCol2_c (g : Nat) (face x f v : Int) (s : ByteArray) (w : World) (hc : w.cell? ⟨g, 0, none⟩ = some (.string s)) (hs : (s.size : Int) ≤ 140737488355328) (HX : Hid (colOf s face = (x, f)))
    (HV : Hid (numOr s 4 4 = (v, 0))) (h2 : (v != 65536 && v != 131072) = false) :
    Calls Try.prog 47 #[.pointer (some ⟨g, 0, none⟩), .int .i64 face] w fun e w' => e = .returned (.tuple #[.int .i64 x, .int .i64 f]) ∧ w = w' := by
  obtain ⟨n, en, HN⟩ := numOr_ex s 8 4
  obtain ⟨p, ep, HP⟩ := numOr_ex s (12 + 4 * face) 4
  have HC := Lib.hid hc
  have HS := Lib.hid hs
  have H2 : Hid (¬ ((v != 65536) = true ∧ (v != 131072) = true)) := by unfold Hid; simpa using h2
  have h2' : v = 65536 ∨ v = 131072 := by simp at h2; omega
  have HX2 : Hid ((if en ≠ 0 then ((0 : Int), (31 : Int)) else if (n == 0) = true then (0, 31) else if 64 < n then (0, 33) else if face < 0 then (0, 35) else if n ≤ face then (0, 35) else if ep ≠ 0 then (0, 31) else (p, 0)) = (x, f)) := by
    have := HX.out
    rw [colOf, HV.out, HN.out, HP.out] at this
    simp only [if_neg H2.out, ne_eq, not_true_eq_false, if_false] at this
    exact this
  have HNB := Lib.hid (num32_bound HN.out)
  clear HX h2 H2 hs hc
  rcases h2' with rfl | rfl
  all_goals
    go_enter Try.func47, Try.ntmps47
    go_wp2_with fail
    refine (u32_c g 4 _ 0 s w HC.out HS.out (by decide) HV).mono ?_
    rintro e w1 ⟨rfl, rfl⟩
    go_wp2_with fail
    refine (u32_c g 8 n en s w HC.out HS.out (by decide) HN).mono ?_
    rintro e w1 ⟨rfl, rfl⟩
    by_cases h3 : en = 0
    · subst h3
      cases h4 : n == 0
      · by_cases h5 : 64 < n
        · have HE : Hid ((0 : Int) = x ∧ (33 : Int) = f) := by have := HX2.out; unfold Hid; simpa [h4, h5] using this
          go_wp2_with fail
          go_ret2
          rw [HE.out.1, HE.out.2]
          exact ⟨rfl, rfl⟩
        · by_cases h6 : face < 0
          · have HE : Hid ((0 : Int) = x ∧ (35 : Int) = f) := by have := HX2.out; unfold Hid; simpa [h4, h5, h6] using this
            go_wp2_with fail
            go_ret2
            rw [HE.out.1, HE.out.2]
            exact ⟨rfl, rfl⟩
          · by_cases h7 : n ≤ face
            · have HE : Hid ((0 : Int) = x ∧ (35 : Int) = f) := by have := HX2.out; unfold Hid; simpa [h4, h5, h6, h7] using this
              go_wp2_with fail
              go_ret2
              rw [HE.out.1, HE.out.2]
              exact ⟨rfl, rfl⟩
            · have HX3 : Hid ((if ep ≠ 0 then ((0 : Int), (31 : Int)) else (p, 0)) = (x, f)) := by have := HX2.out; unfold Hid; simpa [h4, h5, h6, h7] using this
              have hw1 : wrap64 (4 * face) = 4 * face := by unfold wrap64; omega
              have hw2 : wrap64 (12 + 4 * face) = 12 + 4 * face := by unfold wrap64; omega
              have HF : Hid (12 + 4 * face ≤ 9223372036854775807) := by unfold Hid; omega
              go_wp2_with fail
              refine (u32_c g (12 + 4 * face) p ep s w HC.out HS.out HF.out HP).mono ?_
              rintro e w1 ⟨rfl, rfl⟩
              by_cases h8 : ep = 0
              · subst h8
                have HE : Hid (p = x ∧ (0 : Int) = f) := by have := HX3.out; unfold Hid; simpa using this
                go_wp2_with fail
                go_ret2
                rw [HE.out.1, HE.out.2]
                exact ⟨rfl, rfl⟩
              · have HE : Hid ((0 : Int) = x ∧ (31 : Int) = f) := by have := HX3.out; unfold Hid; simpa [h8] using this
                go_wp2_with fail
                go_ret2
                rw [HE.out.1, HE.out.2]
                exact ⟨rfl, rfl⟩
      · have HE : Hid ((0 : Int) = x ∧ (31 : Int) = f) := by have := HX2.out; unfold Hid; simpa [h4] using this
        go_wp2_with fail
        go_ret2
        rw [HE.out.1, HE.out.2]
        exact ⟨rfl, rfl⟩
    · have HE : Hid ((0 : Int) = x ∧ (31 : Int) = f) := by have := HX2.out; unfold Hid; simpa [h3] using this
      go_wp2_with fail
      go_ret2
      rw [HE.out.1, HE.out.2]
      exact ⟨rfl, rfl⟩

set_option maxHeartbeats 1000000 in
theorem inCol_c (g : Nat) (face x f : Int) (s : ByteArray) (w : World) (hc : w.cell? ⟨g, 0, none⟩ = some (.string s)) (hs : (s.size : Int) ≤ 140737488355328) (HX : Hid (colOf s face = (x, f))) :
    Calls Try.prog 47 #[.pointer (some ⟨g, 0, none⟩), .int .i64 face] w fun e w' => e = .returned (.tuple #[.int .i64 x, .int .i64 f]) ∧ w = w' := by
  obtain ⟨v, ev, HV⟩ := numOr_ex s 4 4
  by_cases h1 : ev = 0
  · subst h1
    cases h2 : (v != 65536 && v != 131072)
    · exact inCol2_c g face x f v s w hc hs HX HV h2
    · have HC := Lib.hid hc
      have HS := Lib.hid hs
      clear hs hc
      simp only [Bool.and_eq_true] at h2
      have HE : Hid ((0 : Int) = x ∧ (32 : Int) = f) := by have := HX.out; rw [colOf, HV.out] at this; simp only [if_pos h2] at this; unfold Hid; simpa using this
      obtain ⟨h2a, h2b⟩ := h2
      go_enter Try.func47, Try.ntmps47
      go_wp2_with fail
      refine (u32_c g 4 v 0 s w HC.out HS.out (by decide) HV).mono ?_
      rintro e w1 ⟨rfl, rfl⟩
      go_wp2_with fail
      go_ret2
      rw [HE.out.1, HE.out.2]
      exact ⟨rfl, rfl⟩
  · have HE : Hid ((0 : Int) = x ∧ (31 : Int) = f) := by have := HX.out; unfold Hid; simpa [colOf, HV.out, h1] using this
    have HC := Lib.hid hc
    have HS := Lib.hid hs
    clear hs hc
    go_enter Try.func47, Try.ntmps47
    go_wp2_with fail
    refine (u32_c g 4 v ev s w HC.out HS.out (by decide) HV).mono ?_
    rintro e w1 ⟨rfl, rfl⟩
    go_wp2_with fail
    go_ret2
    rw [HE.out.1, HE.out.2]
    exact ⟨rfl, rfl⟩

/-- Where the directory of a face begins, or refused. -/
def dirOf (s : ByteArray) (face : Int) : Int × Int :=
  if (tagOr s 0).2 ≠ 0 then (0, 31)
  else if ((tagOr s 0).1.toList == [116, 116, 99, 102]) = true then colOf s face
  else if (face != 0) = true then (0, 35)
  else (0, 0)
theorem tagOr_ex (s : ByteArray) (p : Int) : ∃ x f, Hid (tagOr s p = (x, f)) := ⟨_, _, rfl⟩

set_option maxHeartbeats 1000000 in
theorem directory_c (g : Nat) (face x f : Int) (s : ByteArray) (w : World) (hc : w.cell? ⟨g, 0, none⟩ = some (.string s)) (hs : (s.size : Int) ≤ 140737488355328) (HX : Hid (dirOf s face = (x, f))) :
    Calls Try.prog 28 #[.pointer (some ⟨g, 0, none⟩), .int .i64 face] w fun e w' => e = .returned (.tuple #[.int .i64 x, .int .i64 f]) ∧ w = w' := by
  obtain ⟨t, et, HT⟩ := tagOr_ex s 0
  have HC := Lib.hid hc
  have HS := Lib.hid hs
  have HX2 : Hid ((if et ≠ 0 then ((0 : Int), (31 : Int)) else if (t.toList == [116, 116, 99, 102]) = true then colOf s face else if (face != 0) = true then (0, 35) else (0, 0)) = (x, f)) := by
    have := HX.out
    rw [dirOf, HT.out] at this
    exact this
  clear hs hc HX
  by_cases h1 : et = 0
  · subst h1
    cases h2 : t.toList == [116, 116, 99, 102]
    · by_cases h3 : face = 0
      · subst h3
        have HE : Hid ((0 : Int) = x ∧ (0 : Int) = f) := by have := HX2.out; unfold Hid; simpa [h2] using this
        go_enter Try.func28, Try.ntmps28
        go_wp2_with fail
        refine (tag_c g 0 0 s t w HC.out HS.out (by decide) HT).mono ?_
        rintro e w1 ⟨rfl, rfl⟩
        go_wp2_with fail
        go_ret2
        rw [← HE.out.1, ← HE.out.2]
        exact ⟨rfl, rfl⟩
      · have HE : Hid ((0 : Int) = x ∧ (35 : Int) = f) := by have := HX2.out; unfold Hid; simpa [h2, h3] using this
        go_enter Try.func28, Try.ntmps28
        go_wp2_with fail
        refine (tag_c g 0 0 s t w HC.out HS.out (by decide) HT).mono ?_
        rintro e w1 ⟨rfl, rfl⟩
        go_wp2_with fail
        go_ret2
        rw [← HE.out.1, ← HE.out.2]
        exact ⟨rfl, rfl⟩
    · have HE : Hid (colOf s face = (x, f)) := by have := HX2.out; unfold Hid; simpa [h2] using this
      go_enter Try.func28, Try.ntmps28
      go_wp2_with fail
      refine (tag_c g 0 0 s t w HC.out HS.out (by decide) HT).mono ?_
      rintro e w1 ⟨rfl, rfl⟩
      go_wp2_with fail
      refine (inCol_c g face x f s w HC.out HS.out HE).mono ?_
      rintro e w1 ⟨rfl, rfl⟩
      go_wp2_with fail
      go_ret2
      exact ⟨rfl, rfl⟩
  · have HE : Hid ((0 : Int) = x ∧ (31 : Int) = f) := by have := HX2.out; unfold Hid; simpa [h1] using this
    go_enter Try.func28, Try.ntmps28
    go_wp2_with fail
    refine (tag_c g 0 et s t w HC.out HS.out (by decide) HT).mono ?_
    rintro e w1 ⟨rfl, rfl⟩
    go_wp2_with fail
    go_ret2
    rw [← HE.out.1, ← HE.out.2]
    exact ⟨rfl, rfl⟩

/-- The kind and the number of tables that a directory begins with, or refused. -/
def headOf (s : ByteArray) (start : Int) : Int × Int × Int :=
  if (tagOr s start).2 ≠ 0 then (0, 0, 31)
  else if kindB (tagOr s start).1 = 0 then (0, 0, 32)
  else if (numOr s (start + 4) 2).2 ≠ 0 then (0, 0, 31)
  else if (numOr s (start + 4) 2).1 = 0 then (0, 0, 31)
  else if 64 < (numOr s (start + 4) 2).1 then (0, 0, 33)
  else (kindB (tagOr s start).1, (numOr s (start + 4) 2).1, 0)

set_option maxHeartbeats 1000000 in
theorem heading_c (g : Nat) (start x y f : Int) (s : ByteArray) (w : World) (hc : w.cell? ⟨g, 0, none⟩ = some (.string s)) (hs : (s.size : Int) ≤ 140737488355328) (h0 : 0 ≤ start) (h1 : start ≤ 4294967295) (HX : Hid (headOf s start = (x, y, f))) :
    Calls Try.prog 29 #[.pointer (some ⟨g, 0, none⟩), .int .i64 start] w fun e w' => e = .returned (.tuple #[.int .i64 x, .int .i64 y, .int .i64 f]) ∧ w = w' := by
  obtain ⟨t, et, HT⟩ := tagOr_ex s start
  obtain ⟨n, en, HN⟩ := numOr_ex s (start + 4) 2
  obtain ⟨k, HK⟩ : ∃ k, Hid (kindB t = k) := ⟨_, rfl⟩
  have HC := Lib.hid hc
  have HS := Lib.hid hs
  have HX2 : Hid ((if et ≠ 0 then ((0 : Int), (0 : Int), (31 : Int)) else if k = 0 then (0, 0, 32) else if en ≠ 0 then (0, 0, 31) else if n = 0 then (0, 0, 31) else if 64 < n then (0, 0, 33) else (k, n, 0)) = (x, y, f)) := by
    have := HX.out
    rw [headOf, HT.out, HN.out] at this
    rw [HK.out] at this
    exact this
  have hw : wrap64 (start + 4) = start + 4 := by unfold wrap64; omega
  have HF : Hid (start + 4 ≤ 9223372036854775807) := by unfold Hid; omega
  have HG : Hid (start ≤ 9223372036854775807) := by unfold Hid; omega
  have HNB := Lib.hid (num16_bound HN.out)
  clear hs hc HX h0 h1
  by_cases h2 : et = 0
  · subst h2
    by_cases h3 : k = 0
    · subst h3
      have HE : Hid ((0 : Int) = x ∧ (0 : Int) = y ∧ (32 : Int) = f) := by have := HX2.out; unfold Hid; simpa using this
      go_enter Try.func29, Try.ntmps29
      go_wp2_with fail
      refine (tag_c g start 0 s t w HC.out HS.out HG.out HT).mono ?_
      rintro e w1 ⟨rfl, rfl⟩
      go_wp2_with fail
      refine (kindOf_c t 0 _ HK).mono ?_
      rintro e w1 ⟨rfl, rfl⟩
      go_wp2_with fail
      go_ret3
      rw [← HE.out.1, ← HE.out.2.1, ← HE.out.2.2]
      exact ⟨rfl, rfl⟩
    · have HX3 : Hid ((if en ≠ 0 then ((0 : Int), (0 : Int), (31 : Int)) else if n = 0 then (0, 0, 31) else if 64 < n then (0, 0, 33) else (k, n, 0)) = (x, y, f)) := by have := HX2.out; unfold Hid; simpa [h3] using this
      go_enter Try.func29, Try.ntmps29
      go_wp2_with fail
      refine (tag_c g start 0 s t w HC.out HS.out HG.out HT).mono ?_
      rintro e w1 ⟨rfl, rfl⟩
      go_wp2_with fail
      refine (kindOf_c t k _ HK).mono ?_
      rintro e w1 ⟨rfl, rfl⟩
      go_wp2_with fail
      rw [hw]
      refine (u16_c g (start + 4) n en s w HC.out HS.out HF.out HN).mono ?_
      rintro e w1 ⟨rfl, rfl⟩
      by_cases h4 : en = 0
      · subst h4
        by_cases h5 : n = 0
        · subst h5
          have HE : Hid ((0 : Int) = x ∧ (0 : Int) = y ∧ (31 : Int) = f) := by have := HX3.out; unfold Hid; simpa using this
          go_wp2_with fail
          go_ret3
          rw [← HE.out.1, ← HE.out.2.1, ← HE.out.2.2]
          exact ⟨rfl, rfl⟩
        · by_cases h6 : 64 < n
          · have HE : Hid ((0 : Int) = x ∧ (0 : Int) = y ∧ (33 : Int) = f) := by have := HX3.out; unfold Hid; simpa [h5, h6] using this
            go_wp2_with fail
            go_ret3
            rw [← HE.out.1, ← HE.out.2.1, ← HE.out.2.2]
            exact ⟨rfl, rfl⟩
          · have HE : Hid (k = x ∧ n = y ∧ (0 : Int) = f) := by have := HX3.out; unfold Hid; simpa [h5, h6] using this
            go_wp2_with fail
            go_ret3
            rw [← HE.out.1, ← HE.out.2.1, ← HE.out.2.2]
            exact ⟨rfl, rfl⟩
      · have HE : Hid ((0 : Int) = x ∧ (0 : Int) = y ∧ (31 : Int) = f) := by have := HX3.out; unfold Hid; simpa [h4] using this
        go_wp2_with fail
        go_ret3
        rw [← HE.out.1, ← HE.out.2.1, ← HE.out.2.2]
        exact ⟨rfl, rfl⟩
  · have HE : Hid ((0 : Int) = x ∧ (0 : Int) = y ∧ (31 : Int) = f) := by have := HX2.out; unfold Hid; simpa [h2] using this
    go_enter Try.func29, Try.ntmps29
    go_wp2_with fail
    refine (tag_c g start et s t w HC.out HS.out HG.out HT).mono ?_
    rintro e w1 ⟨rfl, rfl⟩
    go_wp2_with fail
    go_ret3
    rw [← HE.out.1, ← HE.out.2.1, ← HE.out.2.2]
    exact ⟨rfl, rfl⟩

end Go.Proofs.Ytbcjicmledckbaa
