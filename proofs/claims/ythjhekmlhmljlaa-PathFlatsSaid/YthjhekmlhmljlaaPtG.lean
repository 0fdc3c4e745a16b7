/-
  What an outline is asked ahead of all else: Check of the document's answer.
-/
import Derived.Test.YthjhekmlhmljlaaPtF
namespace Go.Proofs.Ythjhekmlhmljlaa
open Go.RowKit Go.PlainAid
set_option linter.unusedSimpArgs false
set_option linter.unusedVariables false

set_option maxHeartbeats 1000000 in
theorem refcheck_many (a : Option Addr) (cap : Nat) (O : List (List Kn)) (w : World) (ho : IsO clK w a O) (hl : Long O) (hm : manyB O = true) :
    Calls Try.prog 25 #[.slice a O.length cap] w fun e w' => e = .returned (.int .i64 (checkE O)) ∧ w = w' := by
  have HE : Hid (checkE O = 63) := by unfold Hid checkE; rw [if_pos hm]
  have HM := Lib.hid hm
  have HO := Lib.hid ho
  have HL := Lib.hid hl
  clear ho hl hm
  go_enter Try.func25, Try.ntmps25
  go_wp2_with fail
  go_loop [3, 16] (fun y x => ∃ i : Nat, ∃ z : Int, i ≤ O.length ∧ x = .int .i64 i ∧ y = .int .i64 z ∧ Hid (O.length ≤ 256 → z = (totalL (O.take i) : Nat))) (fun _ x => O.length - (intOf x).toNat)
  case atStart => exact ⟨0, 0, Nat.zero_le _, rfl, rfl, by simp [Hid, totalL]⟩
  case round =>
    obtain ⟨i, z, hi, rfl, rfl, HZ⟩ := hrel
    by_cases hlt : i < O.length
    · have hlt' : (i : Int) < (O.length : Int) := by omega
      obtain ⟨c, hcc⟩ := get_of hlt
      obtain ⟨b, off, ai, ci, rfl, c0, hci, hr⟩ := HO.out.at hcc
      have HX := Lib.hid (next64 (j := i) (by have := HL.out.1; omega))
      have HS : Hid (O.length ≤ 256 → wrap64 (z + (c.length : Int)) = (totalL (O.take (i + 1)) : Nat)) := by
        intro h
        have h2 := HL.out.take h (i := i + 1) (by omega)
        have h3 := totalL_next hcc
        have h4 := HZ.out h
        unfold wrap64; omega
      have HLT := Lib.hid hlt
      clear hr hcc hci hi hlt
      go_wp2_with fail
      go_round
      case rel => exact ⟨i + 1, _, HLT.out, by rw [HX.out], rfl, HS⟩
      case measure => rw [HX.out]; have := HLT.out; simp only [intOf]; omega
    · have hlt' : ¬ (i : Int) < (O.length : Int) := by omega
      by_cases h256 : (256 : Int) < (O.length : Int)
      · clear hlt hi
        go_wp2_with fail
        go_ret
        exact ⟨by rw [HE.out]; rfl, rfl⟩
      · have hz : (4096 : Int) < z := by
          have h4 := HZ.out (by omega)
          rw [List.take_of_length_le (by omega)] at h4
          have h5 := HM.out
          have h6 : 256 < O.length ∨ 4096 < totalL O := by simpa [manyB] using h5
          omega
        clear hlt hi
        go_wp2_with fail
        go_ret
        exact ⟨by rw [HE.out]; rfl, rfl⟩

/-- The error that is left when the outline isn't too great. -/
def restE (O : List (List Kn)) : Int := if (O.all fun c => c.all kindB) = false then 61 else if (O.all fun c => c.all fixK) = false then 64 else 0

set_option maxRecDepth 20000 in
set_option maxHeartbeats 2000000 in
theorem refcheck_few (a : Option Addr) (cap : Nat) (O : List (List Kn)) (w : World) (ho : IsO clK w a O) (hm : manyB O = false) :
    Calls Try.prog 25 #[.slice a O.length cap] w fun e w' => e = .returned (.int .i64 (checkE O)) ∧ Below w.heap.size w w' := by
  obtain ⟨n1, n2, n3⟩ := many_no hm
  have HE0 : Hid (checkE O = restE O) := by unfold Hid checkE restE; rw [if_neg (by simp [hm])]
  have HO := Lib.hid ho
  have HN1 := Lib.hid n1
  have HN2 := Lib.hid n2
  have HN3 := Lib.hid n3
  have h256 : ¬ (256 : Int) < (O.length : Int) := by omega
  clear ho hm n1 n2 n3
  go_enter Try.func25, Try.ntmps25
  go_wp2_with fail
  go_loop [3, 16] (fun y x => ∃ i : Nat, ∃ z : Int, i ≤ O.length ∧ x = .int .i64 i ∧ y = .int .i64 z ∧ Hid (z = (totalL (O.take i) : Nat))) (fun _ x => O.length - (intOf x).toNat)
  case atStart => exact ⟨0, 0, Nat.zero_le _, rfl, rfl, by simp [Hid, totalL]⟩
  case round =>
    obtain ⟨i, z, hi, rfl, rfl, HZ⟩ := hrel
    by_cases hlt : i < O.length
    · have hlt' : (i : Int) < (O.length : Int) := by omega
      obtain ⟨c, hcc⟩ := get_of hlt
      obtain ⟨b, off, ai, ci, rfl, c0, hci, hr⟩ := HO.out.at hcc
      have HS : Hid (wrap64 (z + (c.length : Int)) = (totalL (O.take (i + 1)) : Nat)) := by
        have h2 := totalL_bd (O := O.take (i + 1)) (B := 4096) (fun c hc => HN3.out c (List.mem_of_mem_take hc))
        have h5 : (O.take (i + 1)).length ≤ 256 := by rw [List.length_take]; have := HN1.out; omega
        have h3 := totalL_next hcc
        have h4 := HZ.out
        unfold Hid wrap64; omega
      have HLT := Lib.hid hlt
      clear hr hcc hci hi hlt
      go_wp2_with fail
      go_round
      case rel => exact ⟨i + 1, _, HLT.out, by go_num, rfl, HS⟩
      case measure => have := HLT.out; simp only [intOf]; omega
    · have hlt' : ¬ (i : Int) < (O.length : Int) := by omega
      have hz : ¬ (4096 : Int) < z := by
        have h4 := HZ.out
        rw [List.take_of_length_le (by omega)] at h4
        have h5 := HN2.out
        omega
      obtain ⟨IE, HIE⟩ : ∃ IE : Int, Hid ((i : Int) = IE) := ⟨_, rfl⟩
      clear hlt hi
      go_wp2_with fail
      go_loopw [34] (fun x wr => ∃ i : Nat, i ≤ O.length ∧ x = .int .i64 i ∧ Hid (∀ c ∈ O.take i, c.all kindB = true) ∧ Hid (Below w.heap.size w wr)) (fun x _ => O.length - (intOf x).toNat)
      case atStart => exact ⟨0, Nat.zero_le _, rfl, by simp [Hid], Below.refl _ _⟩
      case round =>
        obtain ⟨i2, hi, rfl, HA, HB⟩ := hrel
        by_cases hlt : i2 < O.length
        · have hlt2 : (i2 : Int) < (O.length : Int) := by omega
          obtain ⟨c, hcc⟩ := get_of hlt
          obtain ⟨b, off, ai, ci, rfl, c0, hci, hr⟩ := (HO.out.below HB.out).at hcc
          have HR := Lib.hid hr
          have HCC := Lib.hid hcc
          have HCL : Hid (c.length ≤ 4096) := HN3.out c (List.mem_of_getElem? hcc)
          have HLT := Lib.hid hlt
          clear hr hcc hci hi hlt
          go_wp2_with fail
          generalize wr = wo at *
          go_loopw [40] (fun x wr => ∃ j : Nat, j ≤ c.length ∧ x = .int .i64 j ∧ Hid (∀ k ∈ c.take j, kindB k = true) ∧ Hid (Below wo.heap.size wo wr)) (fun x _ => c.length - (intOf x).toNat)
          case atStart => exact ⟨0, Nat.zero_le _, rfl, by simp [Hid], Below.refl _ _⟩
          case round =>
            obtain ⟨j, hj, rfl, HK, HB2⟩ := hrel
            by_cases hl2 : j < c.length
            · have hl2' : (j : Int) < (c.length : Int) := by omega
              obtain ⟨k, hk⟩ := get_of hl2
              obtain ⟨b2, off2, rfl, k0, k1, k2⟩ := (HR.out.below HB2.out).knot hk
              have HKK := Lib.hid hk
              have HL2 := Lib.hid hl2
              have HB3 := Lib.hid (bel_alloc HB2.out (.cells #[.int .i64 k.x, .int .i64 k.y, .int .i64 k.k] 37))
              clear hk hj hl2
              by_cases g1 : k.k < 1
              · have HE : Hid (checkE O = 61) := by
                  unfold Hid; rw [HE0.out]; unfold restE; rw [if_pos (all_no HCC.out HKK.out (by simp [kindB]; omega))]
                have HBE := Lib.hid (bel_next HB.out HB3.out)
                go_wp2_with fail
                go_ret
                exact ⟨by rw [HE.out]; rfl, HBE.out⟩
              · by_cases g2 : 3 < k.k
                · have HE : Hid (checkE O = 61) := by
                    unfold Hid; rw [HE0.out]; unfold restE; rw [if_pos (all_no HCC.out HKK.out (by simp [kindB]; omega))]
                  have HBE := Lib.hid (bel_next HB.out HB3.out)
                  go_wp2_with fail
                  go_ret
                  exact ⟨by rw [HE.out]; rfl, HBE.out⟩
                · have HK2 : Hid (∀ k ∈ c.take (j + 1), kindB k = true) := take_all HK.out HKK.out (by simp [kindB]; omega)
                  have HX := Lib.hid (next64 (j := j) (by have := HL2.out; have := HCL.out; omega))
                  go_wp2_with fail
                  go_roundw
                  case rel => exact ⟨j + 1, HL2.out, by rw [HX.out], HK2, HB3⟩
                  case measure => rw [HX.out]; have := HL2.out; simp only [intOf]; omega
            · have hl2' : ¬ (j : Int) < (c.length : Int) := by omega
              have HA2 : Hid (∀ d ∈ O.take (i2 + 1), d.all kindB = true) := take_all HA.out HCC.out (by
                rw [List.all_eq_true]; have := HK.out; rwa [List.take_of_length_le (by omega)] at this)
              have HBE := Lib.hid (bel_next HB.out HB2.out)
              clear hl2
              go_wp2_with fail
              go_roundw
              case rel => exact ⟨i2 + 1, HLT.out, by go_num, HA2, HBE⟩
              case measure => have := HLT.out; simp only [intOf]; omega
        · have hlt2 : ¬ (i2 : Int) < (O.length : Int) := by omega
          have HAK : Hid ((O.all fun c => c.all kindB) = true) := all_yes (by have := HA.out; rwa [List.take_of_length_le (by omega)] at this)
          clear hlt hi HA
          go_wp2_with fail
          generalize wr = wq at *
          go_loopw [56] (fun x wr => ∃ i : Nat, i ≤ O.length ∧ x = .int .i64 i ∧ Hid (∀ c ∈ O.take i, c.all fixK = true) ∧ Hid (Below w.heap.size w wr)) (fun x _ => O.length - (intOf x).toNat)
          case atStart => exact ⟨0, Nat.zero_le _, rfl, by simp [Hid], HB⟩
          case round =>
            clear HB
            obtain ⟨i3, hi, rfl, HA, HB⟩ := hrel
            by_cases hlt : i3 < O.length
            · have hlt3 : (i3 : Int) < (O.length : Int) := by omega
              obtain ⟨c, hcc⟩ := get_of hlt
              obtain ⟨b, off, ai, ci, rfl, c0, hci, hr⟩ := (HO.out.below HB.out).at hcc
              have HR := Lib.hid hr
              have HCC := Lib.hid hcc
              have HCL : Hid (c.length ≤ 4096) := HN3.out c (List.mem_of_getElem? hcc)
              have HLT := Lib.hid hlt
              clear hr hcc hci hi hlt
              go_wp2_with fail
              generalize wr = wo at *
              go_loopw [62] (fun x wr => ∃ j : Nat, j ≤ c.length ∧ x = .int .i64 j ∧ Hid (∀ k ∈ c.take j, fixK k = true) ∧ Hid (Below wo.heap.size wo wr)) (fun x _ => c.length - (intOf x).toNat)
              case atStart => exact ⟨0, Nat.zero_le _, rfl, by simp [Hid], Below.refl _ _⟩
              case round =>
                obtain ⟨j, hj, rfl, HK, HB2⟩ := hrel
                by_cases hl2 : j < c.length
                · have hl2' : (j : Int) < (c.length : Int) := by omega
                  obtain ⟨k, hk⟩ := get_of hl2
                  obtain ⟨b2, off2, rfl, k0, k1, k2⟩ := (HR.out.below HB2.out).knot hk
                  have HKK := Lib.hid hk
                  have HL2 := Lib.hid hl2
                  have HB3 := Lib.hid (bel_alloc HB2.out (.cells #[.int .i64 k.x, .int .i64 k.y, .int .i64 k.k] 37))
                  clear hk hj hl2
                  cases g1 : fixB k.x
                  · have HE : Hid (checkE O = 64) := by
                      unfold Hid; rw [HE0.out]; unfold restE; rw [if_neg (by rw [HAK.out]; decide), if_pos (all_no HCC.out HKK.out (by simp [fixK, g1]))]
                    have HBE := Lib.hid (bel_next HB.out HB3.out)
                    have HG1 := Lib.hid g1
                    clear g1
                    go_wp2_with fail
                    refine (fix_any k.x _).mono ?_
                    rintro e w1 ⟨rfl, rfl⟩
                    rw [HG1.out]
                    go_wp2_with fail
                    go_ret
                    exact ⟨by rw [HE.out]; rfl, HBE.out⟩
                  · have HG1 := Lib.hid g1
                    cases g2 : fixB k.y
                    · have HE : Hid (checkE O = 64) := by
                        unfold Hid; rw [HE0.out]; unfold restE; rw [if_neg (by rw [HAK.out]; decide), if_pos (all_no HCC.out HKK.out (by simp [fixK, g2]))]
                      have HBE := Lib.hid (bel_next HB.out HB3.out)
                      have HG2 := Lib.hid g2
                      clear g1 g2
                      go_wp2_with fail
                      refine (fix_any k.x _).mono ?_
                      rintro e w1 ⟨rfl, rfl⟩
                      rw [HG1.out]
                      go_wp2_with fail
                      refine (fix_any k.y _).mono ?_
                      rintro e w1 ⟨rfl, rfl⟩
                      rw [HG2.out]
                      go_wp2_with fail
                      go_ret
                      exact ⟨by rw [HE.out]; rfl, HBE.out⟩
                    · have HG2 := Lib.hid g2
                      have HK2 : Hid (∀ k ∈ c.take (j + 1), fixK k = true) := take_all HK.out HKK.out (by simp [fixK, g1, g2])
                      have HX := Lib.hid (next64 (j := j) (by have := HL2.out; have := HCL.out; omega))
                      clear g1 g2
                      go_wp2_with fail
                      refine (fix_any k.x _).mono ?_
                      rintro e w1 ⟨rfl, rfl⟩
                      rw [HG1.out]
                      go_wp2_with fail
                      refine (fix_any k.y _).mono ?_
                      rintro e w1 ⟨rfl, rfl⟩
                      rw [HG2.out]
                      go_wp2_with fail
                      go_roundw
                      case rel => exact ⟨j + 1, HL2.out, by rw [HX.out], HK2, HB3⟩
                      case measure => rw [HX.out]; have := HL2.out; simp only [intOf]; omega
                · have hl2' : ¬ (j : Int) < (c.length : Int) := by omega
                  have HA2 : Hid (∀ d ∈ O.take (i3 + 1), d.all fixK = true) := take_all HA.out HCC.out (by
                    rw [List.all_eq_true]; have := HK.out; rwa [List.take_of_length_le (by omega)] at this)
                  have HBE := Lib.hid (bel_next HB.out HB2.out)
                  clear hl2
                  go_wp2_with fail
                  go_roundw
                  case rel => exact ⟨i3 + 1, HLT.out, by go_num, HA2, HBE⟩
                  case measure => have := HLT.out; simp only [intOf]; omega
            · have hlt3 : ¬ (i3 : Int) < (O.length : Int) := by omega
              have HAF : Hid ((O.all fun c => c.all fixK) = true) := all_yes (by have := HA.out; rwa [List.take_of_length_le (by omega)] at this)
              have HE : Hid (checkE O = 0) := by
                unfold Hid; rw [HE0.out]; unfold restE; rw [if_neg (by rw [HAK.out]; decide), if_neg (by rw [HAF.out]; decide)]
              clear hlt hi HA
              go_wp2_with fail
              go_ret
              exact ⟨by rw [HE.out]; rfl, HB.out⟩

theorem refcheck_c (a : Option Addr) (cap : Nat) (O : List (List Kn)) (w : World) (ho : IsO clK w a O) (hl : Long O) :
    Calls Try.prog 25 #[.slice a O.length cap] w fun e w' => e = .returned (.int .i64 (checkE O)) ∧ Below w.heap.size w w' := by
  cases hm : manyB O
  · exact refcheck_few a cap O w ho hm
  · exact (refcheck_many a cap O w ho hl hm).mono fun e w' ⟨he, hw⟩ => ⟨he, by rw [← hw]; exact Below.refl _ _⟩

end Go.Proofs.Ythjhekmlhmljlaa
