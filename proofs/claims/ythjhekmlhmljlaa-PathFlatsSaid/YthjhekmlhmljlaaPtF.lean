/-
  What an outline is asked ahead of all else: all with isFix, tooMany, checked of package path; Check of the document's answer.
-/
import Derived.Test.YthjhekmlhmljlaaPtE
namespace Go.Proofs.Ythjhekmlhmljlaa
open Go.RowKit Go.PlainAid
set_option linter.unusedSimpArgs false
set_option linter.unusedVariables false

set_option maxHeartbeats 1000000 in
theorem allFix_c (a : Option Addr) (cap : Nat) (O : List (List Kn)) (w : World) (ho : IsO clK w a O) (hn : O.length ≤ 4096) (hc : ∀ c ∈ O, c.length ≤ 4096) :
    Calls Try.prog 57 #[.slice a O.length cap, .func (.func 59) #[] #[]] w fun e w' => e = .returned (.bool (O.all fun c => c.all fixK)) ∧ Below w.heap.size w w' := by
  have HO := Lib.hid ho
  have HN := Lib.hid hn
  have HC := Lib.hid hc
  clear ho hn hc
  go_enter Try.func57, Try.ntmps57
  go_wp2_with fail
  go_loopw [11] (fun x wr => ∃ i : Nat, i ≤ O.length ∧ x = .int .i64 i ∧ Hid (∀ c ∈ O.take i, c.all fixK = true) ∧ Hid (Below w.heap.size w wr)) (fun x _ => O.length - (intOf x).toNat)
  case atStart => exact ⟨0, Nat.zero_le _, rfl, by simp [Hid], Below.refl _ _⟩
  case round =>
    obtain ⟨i, hi, rfl, HA, HB⟩ := hrel
    by_cases hlt : i < O.length
    · have hlt' : (i : Int) < (O.length : Int) := by omega
      obtain ⟨c, hcc⟩ := get_of hlt
      obtain ⟨b, off, ai, ci, rfl, c0, hci, hr⟩ := (HO.out.below HB.out).at hcc
      have HR := Lib.hid hr
      have HCC := Lib.hid hcc
      have HCL : Hid (c.length ≤ 4096) := HC.out c (List.mem_of_getElem? hcc)
      have HLT := Lib.hid hlt
      clear hr hcc hci hi hlt
      go_wp2_with fail
      generalize wr = wo at *
      go_loopw [17] (fun x wr => ∃ j : Nat, j ≤ c.length ∧ x = .int .i64 j ∧ Hid (∀ k ∈ c.take j, fixK k = true) ∧ Hid (Below wo.heap.size wo wr)) (fun x _ => c.length - (intOf x).toNat)
      case atStart => exact ⟨0, Nat.zero_le _, rfl, by simp [Hid], Below.refl _ _⟩
      case round =>
        obtain ⟨j, hj, rfl, HK, HB2⟩ := hrel
        by_cases hl2 : j < c.length
        · have hl2' : (j : Int) < (c.length : Int) := by omega
          obtain ⟨k, hk⟩ := get_of hl2
          obtain ⟨b2, off2, rfl, k0, k1, k2⟩ := (HR.out.below HB2.out).knot hk
          have HKK := Lib.hid hk
          have HL2 := Lib.hid hl2
          clear hk hj hl2
          go_wp2_with fail
          refine (isFix_c k _).mono ?_
          rintro e w1 ⟨rfl, hb1⟩
          have HB3 := Lib.hid (bel_next (bel_alloc HB2.out _) hb1)
          clear hb1 k0 k1 k2
          cases hkb : fixK k
          · have HE := Lib.hid (all_no HCC.out HKK.out hkb)
            have HBE := Lib.hid (bel_next HB.out HB3.out)
            clear hkb
            go_wp2_with fail
            go_ret
            exact ⟨by rw [HE.out]; rfl, HBE.out⟩
          · have HK2 := Lib.hid (take_all HK.out HKK.out hkb)
            have HX := Lib.hid (next64 (j := j) (by have := HL2.out; have := HCL.out; omega))
            clear hkb
            go_wp2_with fail
            go_roundw
            case rel => exact ⟨j + 1, HL2.out, by rw [HX.out], HK2, HB3⟩
            case measure => rw [HX.out]; have := HL2.out; simp only [intOf]; omega
        · have hl2' : ¬ (j : Int) < (c.length : Int) := by omega
          have HA2 : Hid (∀ d ∈ O.take (i + 1), d.all fixK = true) := take_all HA.out HCC.out (by
            rw [List.all_eq_true]; have := HK.out; rwa [List.take_of_length_le (by omega)] at this)
          have HBE := Lib.hid (bel_next HB.out HB2.out)
          have HX := Lib.hid (next64 (j := i) (by have := HLT.out; have := HN.out; omega))
          clear hl2
          go_wp2_with fail
          go_roundw
          case rel => exact ⟨i + 1, HLT.out, by rw [HX.out], HA2, HBE⟩
          case measure => rw [HX.out]; have := HLT.out; simp only [intOf]; omega
    · have hlt' : ¬ (i : Int) < (O.length : Int) := by omega
      have HE : Hid ((O.all fun c => c.all fixK) = true) := all_yes (by have := HA.out; rwa [List.take_of_length_le (by omega)] at this)
      clear hlt hi
      go_wp2_with fail
      go_ret
      exact ⟨by rw [HE.out]; rfl, HB.out⟩


theorem totalL_snoc (O : List (List Kn)) (c : List Kn) : totalL (O ++ [c]) = totalL O + c.length := by
  induction O with
  | nil => simp [totalL]
  | cons a O ih => rw [List.cons_append, totalL, ih, totalL]; omega
theorem totalL_next {O : List (List Kn)} {i : Nat} {c : List Kn} (h : O[i]? = some c) : totalL (O.take (i + 1)) = totalL (O.take i) + c.length := by
  rw [List.take_add_one, h]; exact totalL_snoc _ _
theorem totalL_bd {O : List (List Kn)} {B : Nat} (h : ∀ c ∈ O, c.length ≤ B) : totalL O ≤ O.length * B := by
  induction O with
  | nil => simp [totalL]
  | cons a O ih =>
    have h1 := h a (by simp)
    have h2 := ih (fun c hc => h c (by simp [hc]))
    rw [totalL, List.length_cons, Nat.add_mul]; omega
theorem totalL_mem {O : List (List Kn)} {c : List Kn} (h : c ∈ O) : c.length ≤ totalL O := by
  induction O with
  | nil => simp at h
  | cons a O ih =>
    rw [totalL]
    rcases List.mem_cons.1 h with h | h
    · subst h; omega
    · have := ih h; omega
/-- The rows are no longer than memory bears. -/
def Long (O : List (List Kn)) : Prop := O.length ≤ 5864062014805 ∧ ∀ c ∈ O, c.length ≤ 5864062014805
theorem Long.take {O : List (List Kn)} (h : Long O) (hn : O.length ≤ 256) {i : Nat} (hi : i ≤ O.length) : totalL (O.take i) ≤ 1501199875790080 := by
  have h1 := totalL_bd (O := O.take i) (B := 5864062014805) (fun c hc => h.2 c (List.mem_of_mem_take hc))
  have h2 : (O.take i).length ≤ 256 := by rw [List.length_take]; omega
  have h3 := Nat.mul_le_mul_right 5864062014805 h2
  omega

set_option maxHeartbeats 1000000 in
theorem tooMany_c (a : Option Addr) (cap : Nat) (O : List (List Kn)) (w : World) (ho : IsO clK w a O) (hl : Long O) :
    Calls Try.prog 56 #[.slice a O.length cap] w fun e w' => e = .returned (.bool (manyB O)) ∧ w = w' := by
  by_cases h256 : 256 < O.length
  · have HE : Hid (manyB O = true) := by unfold Hid manyB; simp [h256]
    have h1 : (256 : Int) < (O.length : Int) := by omega
    clear hl ho h256
    go_enter Try.func56, Try.ntmps56
    go_wp2_with fail
    go_ret
    exact ⟨by rw [HE.out]; rfl, rfl⟩
  · have h1 : ¬ (256 : Int) < (O.length : Int) := by omega
    have HO := Lib.hid ho
    have HL := Lib.hid hl
    have HN : Hid (O.length ≤ 256) := by unfold Hid; omega
    clear ho hl h256
    go_enter Try.func56, Try.ntmps56
    go_wp2_with fail
    go_loop [3, 11] (fun y x => ∃ i : Nat, ∃ z : Int, i ≤ O.length ∧ x = .int .i64 i ∧ y = .int .i64 z ∧ Hid (z = (totalL (O.take i) : Nat))) (fun _ x => O.length - (intOf x).toNat)
    case atStart => exact ⟨0, 0, Nat.zero_le _, rfl, rfl, by simp [Hid, totalL]⟩
    case round =>
      obtain ⟨i, z, hi, rfl, rfl, HZ⟩ := hrel
      by_cases hlt : i < O.length
      · have hlt' : (i : Int) < (O.length : Int) := by omega
        obtain ⟨c, hcc⟩ := get_of hlt
        obtain ⟨b, off, ai, ci, rfl, c0, hci, hr⟩ := HO.out.at hcc
        have HX := Lib.hid (next64 (j := i) (by have := HN.out; omega))
        have HS : Hid (wrap64 (z + (c.length : Int)) = (totalL (O.take (i + 1)) : Nat)) := by
          have h2 := HL.out.take HN.out (i := i + 1) (by omega)
          have h3 := totalL_next hcc
          have h4 := HZ.out
          unfold Hid wrap64; omega
        have HLT := Lib.hid hlt
        clear hr hcc hci hi hlt
        go_wp2_with fail
        go_round
        case rel => exact ⟨i + 1, _, HLT.out, by go_num, rfl, HS⟩
        case measure => have := HLT.out; simp only [intOf]; omega
      · have hlt' : ¬ (i : Int) < (O.length : Int) := by omega
        have HE : Hid (manyB O = decide (4096 < z)) := by
          have h4 := HZ.out
          rw [List.take_of_length_le (by omega)] at h4
          have := HN.out
          unfold Hid manyB; rw [decide_eq_decide]; omega
        clear hlt hi
        go_wp2_with fail
        go_ret
        exact ⟨by rw [HE.out]; rfl, rfl⟩

theorem many_no {O : List (List Kn)} (h : manyB O = false) : O.length ≤ 256 ∧ totalL O ≤ 4096 ∧ ∀ c ∈ O, c.length ≤ 4096 := by
  have h1 : ¬ (256 < O.length ∨ 4096 < totalL O) := by simpa [manyB] using h
  exact ⟨by omega, by omega, fun c hc => by have := totalL_mem hc; omega⟩

set_option maxHeartbeats 1000000 in
theorem checked_c (a : Option Addr) (cap : Nat) (O : List (List Kn)) (w : World) (ho : IsO clK w a O) (hl : Long O) :
    Calls Try.prog 39 #[.slice a O.length cap] w fun e w' => e = .returned (.int .i64 (checkE O)) ∧ Below w.heap.size w w' := by
  have HO := Lib.hid ho
  have HT := Lib.hid (tooMany_c a cap O w ho hl)
  clear ho hl
  cases hm : manyB O
  · obtain ⟨n1, n2, n3⟩ := many_no hm
    rw [hm] at HT
    have HAK := Lib.hid (allKind_c a cap O w HO.out (by omega) n3)
    have HAF := Lib.hid (fun w1 (h : IsO clK w1 a O) => allFix_c a cap O w1 h (by omega) n3)
    clear n1 n2 n3
    cases hk : (O.all fun c => c.all kindB)
    · have HE : Hid (checkE O = 61) := by unfold Hid checkE; simp only [hm, hk]; rfl
      rw [hk] at HAK
      clear hk hm
      go_enter Try.func39, Try.ntmps39
      go_wp2_with fail
      refine HT.out.mono ?_
      rintro e w1 ⟨rfl, rfl⟩
      go_wp2_with fail
      refine HAK.out.mono ?_
      rintro e w1 ⟨rfl, hb⟩
      have HB := Lib.hid hb
      clear hb
      go_wp2_with fail
      go_ret
      exact ⟨by rw [HE.out]; rfl, HB.out⟩
    · rw [hk] at HAK
      cases hf : (O.all fun c => c.all fixK)
      · have HE : Hid (checkE O = 64) := by unfold Hid checkE; simp only [hm, hk, hf]; rfl
        rw [hf] at HAF
        clear hk hm hf
        go_enter Try.func39, Try.ntmps39
        go_wp2_with fail
        refine HT.out.mono ?_
        rintro e w1 ⟨rfl, rfl⟩
        go_wp2_with fail
        refine HAK.out.mono ?_
        rintro e w1 ⟨rfl, hb⟩
        have HB := Lib.hid hb
        clear hb
        go_wp2_with fail
        refine (HAF.out w1 (HO.out.below HB.out)).mono ?_
        rintro e w2 ⟨rfl, hb⟩
        have HB2 := Lib.hid (bel_next HB.out hb)
        clear hb
        go_wp2_with fail
        go_ret
        exact ⟨by rw [HE.out]; rfl, HB2.out⟩
      · have HE : Hid (checkE O = 0) := by unfold Hid checkE; simp only [hm, hk, hf]; rfl
        rw [hf] at HAF
        clear hk hm hf
        go_enter Try.func39, Try.ntmps39
        go_wp2_with fail
        refine HT.out.mono ?_
        rintro e w1 ⟨rfl, rfl⟩
        go_wp2_with fail
        refine HAK.out.mono ?_
        rintro e w1 ⟨rfl, hb⟩
        have HB := Lib.hid hb
        clear hb
        go_wp2_with fail
        refine (HAF.out w1 (HO.out.below HB.out)).mono ?_
        rintro e w2 ⟨rfl, hb⟩
        have HB2 := Lib.hid (bel_next HB.out hb)
        clear hb
        go_wp2_with fail
        go_ret
        exact ⟨by rw [HE.out]; rfl, HB2.out⟩
  · rw [hm] at HT
    have HE : Hid (checkE O = 63) := by unfold Hid checkE; simp only [hm]; rfl
    clear hm
    go_enter Try.func39, Try.ntmps39
    go_wp2_with fail
    refine HT.out.mono ?_
    rintro e w1 ⟨rfl, rfl⟩
    go_wp2_with fail
    go_ret
    exact ⟨by rw [HE.out]; rfl, Below.refl _ _⟩

end Go.Proofs.Ythjhekmlhmljlaa
