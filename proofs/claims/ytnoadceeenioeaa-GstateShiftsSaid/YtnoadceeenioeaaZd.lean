/-
  What allFix, rise, Sound, isAxis of package gstate answer.
-/
import Derived.Test.YtnoadceeenioeaaZa
namespace Go.Proofs.Ytnoadceeenioeaa
open Go.RowKit Go.PlainAid
set_option linter.unusedSimpArgs false
set_option linter.unusedVariables false

def fixP (p : Sp) : Bool := fixB p.x && fixB p.y
theorem all_no {α : Type} {f : α → Bool} {l : List α} {j : Nat} {x : α} (h : l[j]? = some x) (hx : f x = false) : l.all f = false := by
  rw [List.all_eq_false]
  exact ⟨x, List.mem_of_getElem? h, by rw [hx]; decide⟩

set_option maxHeartbeats 2000000 in
theorem allFixP_c (a : Option Addr) (cap : Nat) (L : List Sp) (w : World) (ho : IsR clS w a L) (hn : L.length ≤ 140737488355328) :
    Calls Try.prog 35 #[.slice a L.length cap] w fun e w' => e = .returned (.bool (L.all fixP)) ∧ Below w.heap.size w w' := by
  have HO := Lib.hid ho
  have HN := Lib.hid hn
  clear ho hn
  go_enter Try.func35, Try.ntmps35
  go_wp2_with fail
  go_loopw [7] (fun x wr => ∃ i : Nat, i ≤ L.length ∧ x = .int .i64 i ∧ Hid (∀ p ∈ L.take i, fixP p = true) ∧ Hid (Below w.heap.size w wr)) (fun x _ => L.length - (intOf x).toNat)
  case atStart => exact ⟨0, Nat.zero_le _, rfl, by simp [Hid], Below.refl _ _⟩
  case round =>
    obtain ⟨i, hi, rfl, HA, HB⟩ := hrel
    by_cases hlt : i < L.length
    · have hlt' : (i : Int) < (L.length : Int) := by omega
      obtain ⟨p, hp⟩ := get_of hlt
      obtain ⟨b, off, rfl, k0, k1⟩ := (HO.out.below HB.out).spot hp
      have HP := Lib.hid hp
      have HLT := Lib.hid hlt
      have HX := Lib.hid (next64 (j := i) (by have := HLT.out; have := HN.out; omega))
      clear hp hi hlt
      cases hx : fixB p.x
      · have HE := Lib.hid (all_no (f := fixP) HP.out (by simp [fixP, hx]))
        have HF := Lib.hid hx
        clear hx
        go_wp2_with fail
        refine (check_no p.x HF _).mono ?_
        rintro e w1 ⟨rfl, hb1⟩
        have HB1 := Lib.hid (bel_next (bel_alloc HB.out _) hb1)
        clear hb1
        go_wp2_with fail
        go_ret
        exact ⟨by rw [HE.out]; rfl, HB1.out⟩
      · have HF := Lib.hid hx
        clear hx
        cases hy : fixB p.y
        · have HE := Lib.hid (all_no (f := fixP) HP.out (by simp [fixP, hy]))
          have HG := Lib.hid hy
          clear hy
          go_wp2_with fail
          have hbx := (Below.refl (wr.alloc (.cells #[.int .i64 p.x, .int .i64 p.y] 38)).heap.size (wr.alloc (.cells #[.int .i64 p.x, .int .i64 p.y] 38)))
          refine (check_yes p.x HF _).mono ?_
          rintro e w1 ⟨rfl, hb1⟩
          have hc1 : w1.cell? ⟨wr.heap.size, 1, none⟩ = some (.int .i64 p.y) := keepC hb1 (by go_simp)
          have HB1 := Lib.hid (bel_next (bel_alloc HB.out _) hb1)
          clear hb1
          go_wp2_with fail
          refine (check_no p.y HG _).mono ?_
          rintro e w2 ⟨rfl, hb2⟩
          have HB2 := Lib.hid (bel_next HB1.out hb2)
          clear hb2
          go_wp2_with fail
          go_ret
          exact ⟨by rw [HE.out]; rfl, HB2.out⟩
        · have HG := Lib.hid hy
          have HA2 := Lib.hid (take_all HA.out HP.out (show fixP p = true by simp [fixP, HF.out, hy]))
          clear hy
          go_wp2_with fail
          refine (check_yes p.x HF _).mono ?_
          rintro e w1 ⟨rfl, hb1⟩
          have hc1 : w1.cell? ⟨wr.heap.size, 1, none⟩ = some (.int .i64 p.y) := keepC hb1 (by go_simp)
          have HB1 := Lib.hid (bel_next (bel_alloc HB.out _) hb1)
          clear hb1
          go_wp2_with fail
          refine (check_yes p.y HG _).mono ?_
          rintro e w2 ⟨rfl, hb2⟩
          have HB2 := Lib.hid (bel_next HB1.out hb2)
          clear hb2 hc1 k0 k1
          go_wp2_with fail
          go_roundw
          case rel => exact ⟨i + 1, HLT.out, by rw [HX.out], HA2, HB2⟩
          case measure => rw [HX.out]; have := HLT.out; simp only [intOf]; omega
    · have hlt' : ¬ (i : Int) < (L.length : Int) := by omega
      have HE : Hid (L.all fixP = true) := by
        have := HA.out
        rw [List.take_of_length_le (by omega)] at this
        exact List.all_eq_true.2 this
      clear hlt
      go_wp2_with fail
      go_ret
      exact ⟨by rw [HE.out]; rfl, HB.out⟩

/-- Do the numbers rise from behind `a` on, below n? -/
def riseB (n : Int) : Int → List Int → Bool
  | _, [] => true
  | a, e :: r => decide (a < e) && decide (e < n) && riseB n e r
theorem rise_step {n a : Int} {L : List Int} {i : Nat} {e : Int} (h : L[i]? = some e) : riseB n a (L.drop i) = (decide (a < e) && decide (e < n) && riseB n e (L.drop (i + 1))) := by
  obtain ⟨hi, rfl⟩ := List.getElem?_eq_some_iff.1 h
  rw [List.drop_eq_getElem_cons hi]
  rfl

set_option maxHeartbeats 2000000 in
theorem rise_c (a : Option Addr) (cap : Nat) (L : List Int) (n : Int) (w : World) (ho : IsR clI w a L) (hn : L.length ≤ 140737488355328) :
    Calls Try.prog 34 #[.slice a L.length cap, .int .i64 n] w fun e w' => e = .returned (.bool (riseB n (-1) L)) ∧ w = w' := by
  have HO := Lib.hid ho
  have HN := Lib.hid hn
  clear ho hn
  go_enter Try.func34, Try.ntmps34
  go_wp2_with fail
  go_loopw [5, 10] (fun u x wr => ∃ (i : Nat) (b : Int), i ≤ L.length ∧ x = .int .i64 i ∧ u = .int .i64 b ∧ Hid (riseB n (-1) L = riseB n b (L.drop i)) ∧ wr = w) (fun _ x _ => L.length - (intOf x).toNat)
  case atStart => exact ⟨0, -1, Nat.zero_le _, rfl, rfl, rfl, rfl⟩
  case round =>
    obtain ⟨i, b, hi, rfl, rfl, HA, rfl⟩ := hrel
    by_cases hlt : i < L.length
    · have hlt' : (i : Int) < (L.length : Int) := by omega
      obtain ⟨p, hp⟩ := get_of hlt
      obtain ⟨g, off, rfl, k0⟩ := HO.out.num hp
      have HS := Lib.hid (HA.out.trans (rise_step hp))
      have HLT := Lib.hid hlt
      have HX := Lib.hid (next64 (j := i) (by have := HLT.out; have := HN.out; omega))
      clear hp hi hlt
      by_cases h1 : p ≤ b
      · have HE : Hid (riseB n (-1) L = false) := by
          rw [Hid, HS.out, decide_eq_false (by omega)]; rfl
        go_wp2_with fail
        go_ret
        exact ⟨by rw [HE.out]; rfl, rfl⟩
      · by_cases h2 : n ≤ p
        · have HE : Hid (riseB n (-1) L = false) := by
            rw [Hid, HS.out, decide_eq_false (p := p < n) (by omega), Bool.and_false]; rfl
          go_wp2_with fail
          go_ret
          exact ⟨by rw [HE.out]; rfl, rfl⟩
        · have HE : Hid (riseB n (-1) L = riseB n p (L.drop (i + 1))) := by
            rw [Hid, HS.out, decide_eq_true (p := p < n) (by omega), decide_eq_true (by omega)]; rfl
          go_wp2_with fail
          go_roundw
          case rel => exact ⟨i + 1, p, HLT.out, by rw [HX.out], rfl, HE, trivial⟩
          case measure => rw [HX.out]; have := HLT.out; simp only [intOf]; omega
    · have hlt' : ¬ (i : Int) < (L.length : Int) := by omega
      have HE : Hid (riseB n (-1) L = true) := by
        have := HA.out
        rw [List.drop_eq_nil_of_le (by omega)] at this
        exact this
      clear hlt
      go_wp2_with fail
      go_ret
      exact ⟨by rw [HE.out]; rfl, rfl⟩

theorem isAxis_c (n : Int) (w : World) : Calls Try.prog 38 #[.int .i64 n] w fun e w' => e = .returned (.bool (n == 0 || n == 1)) ∧ w = w' := by
  by_cases h0 : n = 0
  · subst h0
    go_enter Try.func38, Try.ntmps38
    go_wp2
    go_ret
    exact ⟨rfl, rfl⟩
  · go_enter Try.func38, Try.ntmps38
    go_wp2
    go_ret
    exact ⟨rfl, rfl⟩

end Go.Proofs.Ytnoadceeenioeaa
