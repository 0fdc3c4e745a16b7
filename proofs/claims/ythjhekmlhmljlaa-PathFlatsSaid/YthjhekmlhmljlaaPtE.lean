/-
  What an outline is asked ahead of all else: hasKind, isFix, all, tooMany, checked of package path.
-/
import Derived.Test.YthjhekmlhmljlaaPtC
namespace Go.Proofs.Ythjhekmlhmljlaa
open Go.RowKit Go.PlainAid
set_option linter.unusedSimpArgs false
set_option linter.unusedVariables false

set_option maxHeartbeats 400000 in
theorem hasKind_c (k : Kn) (w : World) : Calls Try.prog 58 #[knV k] w fun e w' => e = .returned (.bool (kindB k)) ∧ Below w.heap.size w w' := by
  unfold knV
  obtain ⟨x, y, z⟩ := k
  have HB := Lib.hid ((Below.refl w.heap.size w).alloc (Nat.le_refl _) (.cells #[.int .i64 x, .int .i64 y, .int .i64 z] 37))
  by_cases h1 : z = 1
  · subst h1
    go_enter Try.func58, Try.ntmps58
    go_wp2_with fail
    go_ret
    exact ⟨rfl, HB.out⟩
  · by_cases h2 : z = 2
    · subst h2
      go_enter Try.func58, Try.ntmps58
      go_wp2_with fail
      go_ret
      exact ⟨rfl, HB.out⟩
    · by_cases h3 : z = 3
      · subst h3
        go_enter Try.func58, Try.ntmps58
        go_wp2_with fail
        go_ret
        exact ⟨rfl, HB.out⟩
      · have HE : Hid (kindB ⟨x, y, z⟩ = false) := by unfold Hid kindB; simp; omega
        have e1 : (z == 1) = false := by simpa using h1
        have e2 : (z == 2) = false := by simpa using h2
        have e3 : (z == 3) = false := by simpa using h3
        clear h1 h2 h3
        go_enter Try.func58, Try.ntmps58
        go_wp2_with fail
        go_ret
        exact ⟨by rw [HE.out]; first | rfl | simp, HB.out⟩

set_option maxHeartbeats 400000 in
theorem isFix_c (k : Kn) (w : World) : Calls Try.prog 59 #[knV k] w fun e w' => e = .returned (.bool (fixK k)) ∧ Below w.heap.size w w' := by
  unfold knV
  obtain ⟨x, y, z⟩ := k
  have hb0 := (Below.refl w.heap.size w).alloc (Nat.le_refl _) (.cells #[.int .i64 x, .int .i64 y, .int .i64 z] 37)
  have HB := Lib.hid hb0
  clear hb0
  cases hx : fixB x
  · have HE : Hid (fixK ⟨x, y, z⟩ = false) := by unfold Hid fixK; simp [hx]
    have HX := Lib.hid hx
    clear hx
    go_enter Try.func59, Try.ntmps59
    go_wp2_with fail
    refine (check_no x HX _).mono ?_
    rintro e w1 ⟨rfl, hb1⟩
    have HB1 := Lib.hid (bel_next HB.out hb1)
    clear hb1
    go_wp2_with fail
    go_ret
    exact ⟨by rw [HE.out]; rfl, HB1.out⟩
  · have HX := Lib.hid hx
    cases hy : fixB y
    · have HE : Hid (fixK ⟨x, y, z⟩ = false) := by unfold Hid fixK; simp [hx, hy]
      have HY := Lib.hid hy
      clear hx hy
      go_enter Try.func59, Try.ntmps59
      go_wp2_with fail
      refine (check_yes x HX _).mono ?_
      rintro e w1 ⟨rfl, hb1⟩
      have HB1 := Lib.hid (bel_next HB.out hb1)
      have c1 : w1.cell? ⟨w.heap.size, 1, none⟩ = some (.int .i64 y) := keepC hb1 (by simp [go_sem])
      clear hb1
      go_wp2_with fail
      refine (check_no y HY _).mono ?_
      rintro e w2 ⟨rfl, hb2⟩
      have HB2 := Lib.hid (bel_next HB1.out hb2)
      clear hb2
      go_wp2_with fail
      go_ret
      exact ⟨by rw [HE.out]; rfl, HB2.out⟩
    · have HE : Hid (fixK ⟨x, y, z⟩ = true) := by unfold Hid fixK; simp [hx, hy]
      have HY := Lib.hid hy
      clear hx hy
      go_enter Try.func59, Try.ntmps59
      go_wp2_with fail
      refine (check_yes x HX _).mono ?_
      rintro e w1 ⟨rfl, hb1⟩
      have HB1 := Lib.hid (bel_next HB.out hb1)
      have c1 : w1.cell? ⟨w.heap.size, 1, none⟩ = some (.int .i64 y) := keepC hb1 (by simp [go_sem])
      clear hb1
      go_wp2_with fail
      refine (check_yes y HY _).mono ?_
      rintro e w2 ⟨rfl, hb2⟩
      have HB2 := Lib.hid (bel_next HB1.out hb2)
      clear hb2
      go_wp2_with fail
      go_ret
      exact ⟨by rw [HE.out]; rfl, HB2.out⟩

theorem all_no {p : Kn → Bool} {O : List (List Kn)} {i j : Nat} {c : List Kn} {k : Kn} (hc : O[i]? = some c) (hk : c[j]? = some k) (h : p k = false) : (O.all fun c => c.all p) = false := by
  rw [List.all_eq_false]
  refine ⟨c, List.mem_of_getElem? hc, ?_⟩
  have : c.all p = false := by rw [List.all_eq_false]; exact ⟨k, List.mem_of_getElem? hk, by simp [h]⟩
  simp [this]
theorem all_yes {p : Kn → Bool} {O : List (List Kn)} (h : ∀ c, c ∈ O → c.all p = true) : (O.all fun c => c.all p) = true := by rw [List.all_eq_true]; exact h
theorem take_all {α : Type} {P : α → Prop} {l : List α} {j : Nat} {x : α} (h : ∀ y ∈ l.take j, P y) (hx : l[j]? = some x) (hp : P x) : ∀ y ∈ l.take (j + 1), P y := by
  intro y hy
  rw [List.take_add_one, hx] at hy
  rcases List.mem_append.1 hy with hy | hy
  · exact h y hy
  · simp at hy; subst hy; exact hp
theorem get_of {α : Type} {l : List α} {j : Nat} (h : j < l.length) : ∃ x, l[j]? = some x := ⟨l[j], List.getElem?_eq_getElem h⟩
theorem next64 {j : Nat} (h : j ≤ 140737488355328) : wrap64 ((j : Int) + 1) = ((j + 1 : Nat) : Int) := by unfold wrap64; omega

set_option maxHeartbeats 1000000 in
theorem allKind_c (a : Option Addr) (cap : Nat) (O : List (List Kn)) (w : World) (ho : IsO clK w a O) (hn : O.length ≤ 4096) (hc : ∀ c ∈ O, c.length ≤ 4096) :
    Calls Try.prog 57 #[.slice a O.length cap, .func (.func 58) #[] #[]] w fun e w' => e = .returned (.bool (O.all fun c => c.all kindB)) ∧ Below w.heap.size w w' := by
  have HO := Lib.hid ho
  have HN := Lib.hid hn
  have HC := Lib.hid hc
  clear ho hn hc
  go_enter Try.func57, Try.ntmps57
  go_wp2_with fail
  go_loopw [11] (fun x wr => ∃ i : Nat, i ≤ O.length ∧ x = .int .i64 i ∧ Hid (∀ c ∈ O.take i, c.all kindB = true) ∧ Hid (Below w.heap.size w wr)) (fun x _ => O.length - (intOf x).toNat)
  case atStart => exact ⟨0, Nat.zero_le _, rfl, by simp [Hid], Below.refl _ _⟩
  case round =>
    obtain ⟨i, hi, rfl, HA, HB⟩ := hrel
    by_cases hlt : i < O.length
    · have hlt' : (i : Int) < (O.length : Int) := by omega
      obtain ⟨c, hcc⟩ := get_of hlt
      obtain ⟨b, off, ai, ci, rfl, c0, hci, hr⟩ := (HO.out.below HB.out).at hcc
      have HR := Lib.hid hr
      have HCC := Lib.hid hcc
      have HCL : Hid (c.length ≤ 4096) := HC.out c (List.mem_of_getElem? hcc)
      have HLT := Lib.hid hlt
      clear hr hcc hci hi hlt
      go_wp2_with fail
      generalize wr = wo at *
      go_loopw [17] (fun x wr => ∃ j : Nat, j ≤ c.length ∧ x = .int .i64 j ∧ Hid (∀ k ∈ c.take j, kindB k = true) ∧ Hid (Below wo.heap.size wo wr)) (fun x _ => c.length - (intOf x).toNat)
      case atStart => exact ⟨0, Nat.zero_le _, rfl, by simp [Hid], Below.refl _ _⟩
      case round =>
        obtain ⟨j, hj, rfl, HK, HB2⟩ := hrel
        by_cases hl2 : j < c.length
        · have hl2' : (j : Int) < (c.length : Int) := by omega
          obtain ⟨k, hk⟩ := get_of hl2
          obtain ⟨b2, off2, rfl, k0, k1, k2⟩ := (HR.out.below HB2.out).knot hk
          have HKK := Lib.hid hk
          have HL2 := Lib.hid hl2
          clear hk hj hl2
          go_wp2_with fail
          refine (hasKind_c k _).mono ?_
          rintro e w1 ⟨rfl, hb1⟩
          have HB3 := Lib.hid (bel_next (bel_alloc HB2.out _) hb1)
          clear hb1 k0 k1 k2
          cases hkb : kindB k
          · have HE := Lib.hid (all_no HCC.out HKK.out hkb)
            have HBE := Lib.hid (bel_next HB.out HB3.out)
            clear hkb
            go_wp2_with fail
            go_ret
            exact ⟨by rw [HE.out]; rfl, HBE.out⟩
          · have HK2 := Lib.hid (take_all HK.out HKK.out hkb)
            have HX := Lib.hid (next64 (j := j) (by have := HL2.out; have := HCL.out; omega))
            clear hkb
            go_wp2_with fail
            go_roundw
            case rel => exact ⟨j + 1, HL2.out, by rw [HX.out], HK2, HB3⟩
            case measure => rw [HX.out]; have := HL2.out; simp only [intOf]; omega
        · have hl2' : ¬ (j : Int) < (c.length : Int) := by omega
          have HA2 : Hid (∀ d ∈ O.take (i + 1), d.all kindB = true) := take_all HA.out HCC.out (by
            rw [List.all_eq_true]; have := HK.out; rwa [List.take_of_length_le (by omega)] at this)
          have HBE := Lib.hid (bel_next HB.out HB2.out)
          have HX := Lib.hid (next64 (j := i) (by have := HLT.out; have := HN.out; omega))
          clear hl2
          go_wp2_with fail
          go_roundw
          case rel => exact ⟨i + 1, HLT.out, by rw [HX.out], HA2, HBE⟩
          case measure => rw [HX.out]; have := HLT.out; simp only [intOf]; omega
    · have hlt' : ¬ (i : Int) < (O.length : Int) := by omega
      have HE : Hid ((O.all fun c => c.all kindB) = true) := all_yes (by have := HA.out; rwa [List.take_of_length_le (by omega)] at this)
      clear hlt hi
      go_wp2_with fail
      go_ret
      exact ⟨by rw [HE.out]; rfl, HB.out⟩

end Go.Proofs.Ythjhekmlhmljlaa
