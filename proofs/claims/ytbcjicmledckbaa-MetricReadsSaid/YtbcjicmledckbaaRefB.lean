/-
  What the document's Begin answers for the first face.
-/
import Derived.Test.YtbcjicmledckbaaRefN
namespace Go.Proofs.Ytbcjicmledckbaa
open Go.RowKit Go.PlainAid
set_option linter.unusedSimpArgs false
set_option linter.unusedVariables false

theorem tagOr_has {s : ByteArray} {at' : Int} (h : hasB s at' 4 = true) : (tagOr s at').2 = 0 := by unfold tagOr; rw [if_pos h]
theorem tagOr_hasnt {s : ByteArray} {at' : Int} (h : hasB s at' 4 = false) : (tagOr s at').2 = 21 := by unfold tagOr; rw [if_neg (by rw [h]; decide)]
theorem numOr_has {s : ByteArray} {at' n : Int} (h : hasB s at' n = true) : (numOr s at' n).2 = 0 := by unfold numOr; rw [if_pos h]
theorem numOr_hasnt {s : ByteArray} {at' n : Int} (h : hasB s at' n = false) : numOr s at' n = (0, 21) := by unfold numOr; rw [if_neg (by rw [h]; decide)]

set_option maxHeartbeats 2000000 in
theorem begin0_c (a : Option Addr) (len cap : Nat) (s : ByteArray) (w : World) (hB : IsB w a len cap s) (hs : (len : Int) ≤ 140737488355328) :
    Calls Try.prog 21 #[.slice a len cap, .int .i64 0] w fun e w' => e = .returned (.tuple #[.int .i64 (dirOf s 0).1, .int .i64 (dirOf s 0).2]) ∧ w = w' := by
  have HB := Lib.hid hB
  have HS := Lib.hid hs
  clear hB hs
  go_enter Try.func21, Try.ntmps21
  go_wp2_with fail
  refine (has_c a len cap s 0 4 w HB.out.1 HS.out).mono ?_
  rintro e w1 ⟨rfl, rfl⟩
  cases h1 : hasB s 0 4
  · have HD : Hid (dirOf s 0 = (0, 31)) := by unfold Hid dirOf; rw [if_pos (by rw [tagOr_hasnt h1]; decide)]
    go_wp2_with fail
    go_ret2
    exact ⟨by rw [HD.out]; rfl, rfl⟩
  · obtain ⟨t, f, HT⟩ := tagOr_ex s 0
    go_wp2_with fail
    refine (reftag_c a len cap s t 0 f w HB.out HS.out HT).mono ?_
    rintro e w1 ⟨rfl, rfl⟩
    cases h2 : (t.toList == [116, 116, 99, 102])
    · have HD : Hid (dirOf s 0 = (0, 0)) := by
        unfold Hid dirOf
        rw [if_neg (by rw [tagOr_has h1]; decide), HT.out, if_neg (by simp only [h2]; decide)]
        rfl
      go_wp2_with fail
      go_ret2
      exact ⟨by rw [HD.out]; rfl, rfl⟩
    · have HD : Hid (dirOf s 0 = colOf s 0) := by
        unfold Hid dirOf
        rw [if_neg (by rw [tagOr_has h1]; decide), HT.out, if_pos h2]
      go_wp2_with fail
      refine (has_c a len cap s 4 4 w HB.out.1 HS.out).mono ?_
      rintro e w1 ⟨rfl, rfl⟩
      cases h3 : hasB s 4 4
      · have HC : Hid (colOf s 0 = (0, 31)) := by unfold Hid colOf; rw [if_pos (by rw [numOr_hasnt h3]; decide)]
        go_wp2_with fail
        go_ret2
        exact ⟨by rw [HD.out, HC.out]; rfl, rfl⟩
      · have HC0 : Hid (¬ (numOr s 4 4).2 ≠ 0) := by unfold Hid; rw [numOr_has h3]; decide
        obtain ⟨x, fx, HX⟩ := numOr_ex s 4 4
        go_wp2_with fail
        refine (refu32_c a len cap s 4 x fx w HB.out HS.out HX).mono ?_
        rintro e w1 ⟨rfl, rfl⟩
        by_cases h4 : x = 65536
        · subst h4
          obtain ⟨y, fy, HY⟩ := numOr_ex s 8 4
          have HYB := Lib.hid (num32_bound HY.out)
          go_wp2_with fail
          refine (refu32_c a len cap s 8 y fy w HB.out HS.out HY).mono ?_
          rintro e w1 ⟨rfl, rfl⟩
          by_cases h5 : y = 0
          · subst h5
            have HC : Hid (colOf s 0 = (0, 31)) := by
              unfold Hid colOf
              rw [if_neg HC0.out, HX.out, HY.out, if_neg (by simp)]
              simp
            go_wp2_with fail
            go_ret2
            exact ⟨by rw [HD.out, HC.out]; rfl, rfl⟩
          have h5' : (y == 0) = false := by simpa using h5
          have HFY : Hid (fy = 0) := by
            cases h8 : hasB s 8 4
            · have h9 := HY.out; rw [numOr_hasnt h8] at h9; simp at h9; omega
            · have h9 := HY.out; have := numOr_has h8; rw [h9] at this; exact this
          by_cases h6 : 64 < y
          · have HC : Hid (colOf s 0 = (0, 33)) := by
              unfold Hid colOf
              rw [if_neg HC0.out, HX.out, HY.out, if_neg (by simp), if_neg (by simp [HFY.out]), if_neg (by simp [h5]), if_pos h6]
            go_wp2_with fail
            go_ret2
            exact ⟨by rw [HD.out, HC.out]; rfl, rfl⟩
          have h7 : ¬ y ≤ 0 := by have := HYB.out; omega
          have h7' : (0 : Int) < y := by omega
          go_wp2_with fail
          refine (has_c a len cap s 12 4 w HB.out.1 HS.out).mono ?_
          rintro e w1 ⟨rfl, rfl⟩
          cases h9 : hasB s 12 4
          · have HC : Hid (colOf s 0 = (0, 31)) := by
              unfold Hid colOf
              rw [if_neg HC0.out, HX.out, HY.out, if_neg (by simp), if_neg (by simp [HFY.out]), if_neg (by simp [h5]), if_neg (by omega), if_neg (by decide), if_neg (by omega)]
              rw [if_pos (by show (numOr s 12 4).2 ≠ 0; rw [numOr_hasnt h9]; decide)]
            go_wp2_with fail
            go_ret2
            exact ⟨by rw [HD.out, HC.out]; rfl, rfl⟩
          · obtain ⟨z, fz, HZ⟩ := numOr_ex s 12 4
            have HC : Hid (colOf s 0 = (z, 0)) := by
              unfold Hid colOf
              rw [if_neg HC0.out, HX.out, HY.out, if_neg (by simp), if_neg (by simp [HFY.out]), if_neg (by simp [h5]), if_neg (by omega), if_neg (by decide), if_neg (by omega)]
              rw [if_neg (by show ¬ (numOr s 12 4).2 ≠ 0; rw [numOr_has h9]; decide)]
              show ((numOr s 12 4).1, (0 : Int)) = (z, 0)
              rw [HZ.out]
            go_wp2_with fail
            refine (refu32_c a len cap s 12 z fz w HB.out HS.out HZ).mono ?_
            rintro e w1 ⟨rfl, rfl⟩
            go_wp2_with fail
            go_ret2
            exact ⟨by rw [HD.out, HC.out]; rfl, rfl⟩
        by_cases h4' : x = 131072
        · subst h4'
          obtain ⟨y, fy, HY⟩ := numOr_ex s 8 4
          have HYB := Lib.hid (num32_bound HY.out)
          go_wp2_with fail
          refine (refu32_c a len cap s 8 y fy w HB.out HS.out HY).mono ?_
          rintro e w1 ⟨rfl, rfl⟩
          by_cases h5 : y = 0
          · subst h5
            have HC : Hid (colOf s 0 = (0, 31)) := by
              unfold Hid colOf
              rw [if_neg HC0.out, HX.out, HY.out, if_neg (by simp)]
              simp
            go_wp2_with fail
            go_ret2
            exact ⟨by rw [HD.out, HC.out]; rfl, rfl⟩
          have h5' : (y == 0) = false := by simpa using h5
          have HFY : Hid (fy = 0) := by
            cases h8 : hasB s 8 4
            · have h9 := HY.out; rw [numOr_hasnt h8] at h9; simp at h9; omega
            · have h9 := HY.out; have := numOr_has h8; rw [h9] at this; exact this
          by_cases h6 : 64 < y
          · have HC : Hid (colOf s 0 = (0, 33)) := by
              unfold Hid colOf
              rw [if_neg HC0.out, HX.out, HY.out, if_neg (by simp), if_neg (by simp [HFY.out]), if_neg (by simp [h5]), if_pos h6]
            go_wp2_with fail
            go_ret2
            exact ⟨by rw [HD.out, HC.out]; rfl, rfl⟩
          have h7 : ¬ y ≤ 0 := by have := HYB.out; omega
          have h7' : (0 : Int) < y := by omega
          go_wp2_with fail
          refine (has_c a len cap s 12 4 w HB.out.1 HS.out).mono ?_
          rintro e w1 ⟨rfl, rfl⟩
          cases h9 : hasB s 12 4
          · have HC : Hid (colOf s 0 = (0, 31)) := by
              unfold Hid colOf
              rw [if_neg HC0.out, HX.out, HY.out, if_neg (by simp), if_neg (by simp [HFY.out]), if_neg (by simp [h5]), if_neg (by omega), if_neg (by decide), if_neg (by omega)]
              rw [if_pos (by show (numOr s 12 4).2 ≠ 0; rw [numOr_hasnt h9]; decide)]
            go_wp2_with fail
            go_ret2
            exact ⟨by rw [HD.out, HC.out]; rfl, rfl⟩
          · obtain ⟨z, fz, HZ⟩ := numOr_ex s 12 4
            have HC : Hid (colOf s 0 = (z, 0)) := by
              unfold Hid colOf
              rw [if_neg HC0.out, HX.out, HY.out, if_neg (by simp), if_neg (by simp [HFY.out]), if_neg (by simp [h5]), if_neg (by omega), if_neg (by decide), if_neg (by omega)]
              rw [if_neg (by show ¬ (numOr s 12 4).2 ≠ 0; rw [numOr_has h9]; decide)]
              show ((numOr s 12 4).1, (0 : Int)) = (z, 0)
              rw [HZ.out]
            go_wp2_with fail
            refine (refu32_c a len cap s 12 z fz w HB.out HS.out HZ).mono ?_
            rintro e w1 ⟨rfl, rfl⟩
            go_wp2_with fail
            go_ret2
            exact ⟨by rw [HD.out, HC.out]; rfl, rfl⟩
        have g1 : (x != 65536) = true := by simpa using h4
        have g2 : (x != 131072) = true := by simpa using h4'
        have HC : Hid (colOf s 0 = (0, 32)) := by
          unfold Hid colOf
          rw [if_neg HC0.out, HX.out, if_pos ⟨g1, g2⟩]
        go_wp2_with fail
        go_ret2
        exact ⟨by rw [HD.out, HC.out]; rfl, rfl⟩

end Go.Proofs.Ytbcjicmledckbaa
