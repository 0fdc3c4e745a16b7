/-
  The walk of PathLines: it answers true for every row of points, and changes nothing that was there.
-/
import Derived.Test.YthjhekmlhmljlaaAlP
import Derived.Test.YthjhekmlhmljlaaLnA
import Derived.Test.YthjhekmlhmljlaaFxSum
namespace Go.Proofs.Ythjhekmlhmljlaa.pathLines
open Go.RowKit Go.PlainAid
set_option linter.unusedSimpArgs false
set_option linter.unusedVariables false

theorem bel_grown {B : Nat} {w a b : World} {g : Nat} (h : Below B w a) (k : a.grownBy b (some g)) (hg : B ≤ g) (hB : B ≤ a.heap.size) : Below B w b :=
  ⟨k.os.trans h.os, k.tape.trans h.tape, k.output.trans h.output, Nat.le_trans h.size k.size, fun i hi => (k.block i (by omega) (fun e => by cases e; omega)).trans (h.block i hi)⟩
theorem snocK (l : List Sp) (p : Sp) : ((l ++ [p]).map onK).flatMap clK = (l.map onK).flatMap clK ++ [.int .i64 p.x, .int .i64 p.y, .int .i64 1] := by
  simp [onK, clK]

set_option maxRecDepth 20000 in
set_option maxHeartbeats 2000000 in
theorem walk (a : Option Addr) (cap : Nat) (l : List Sp) (w : World) (hcap : l.length ≤ cap) (hr : IsR clS w a l) : Calls Try.prog 7 #[.slice a l.length cap] w fun e w' => e = .returned (.bool true) ∧ Below w.heap.size w w' := by
  by_cases h4 : 4096 < l.length
  · have h1 : (4096 : Int) < (l.length : Int) := by omega
    have HCP := Lib.hid hcap
    clear h4 hr hcap
    go_enter Try.func7, Try.ntmps7
    go_wp2_with fail
    refine (pathAlive_c _).mono ?_
    rintro e w1 ⟨rfl, hb1⟩
    have HB1 := Lib.hid hb1
    clear hb1
    go_wp2_with fail
    go_ret
    exact ⟨rfl, HB1.out⟩
  · have h1 : ¬ (4096 : Int) < (l.length : Int) := by omega
    have HN : Hid (l.length ≤ 4096) := by unfold Hid; omega
    have HR := Lib.hid hr
    have HCP := Lib.hid hcap
    clear h4 hr hcap
    go_enter Try.func7, Try.ntmps7
    go_wp2_with fail
    refine (pathAlive_c _).mono ?_
    rintro e w1 ⟨rfl, hb1⟩
    have HB1 := Lib.hid hb1
    have HO1 := Lib.hid (World.ownsRow_lit (base := w.heap.size) (e := 37) (size := 3) w1 #[] 0 hb1.size (by decide) rfl)
    clear hb1
    go_wp2_with fail
    go_loopw [3, 16] (fun v x wr => ∃ i g c : Nat, i ≤ l.length ∧ v = .slice (some ⟨g, 0, none⟩) i c ∧ x = .int .i64 i ∧ Hid (wr.ownsRow w.heap.size 37 3 (.slice (some ⟨g, 0, none⟩) i c) i (((l.take i).map onK).flatMap clK)) ∧
      Hid (∀ p ∈ l.take i, fixB p.x = true ∧ fixB p.y = true) ∧ Hid (Below w.heap.size w wr)) (fun _ x _ => l.length - (intOf x).toNat)
    case atStart => exact ⟨0, _, _, Nat.zero_le _, rfl, rfl, HO1, by simp [Hid], bel_alloc HB1.out _⟩
    case round =>
      obtain ⟨i, g, c, hi, rfl, rfl, HO, HF, HB⟩ := hrel
      by_cases hlt : i < l.length
      · have hlt' : (i : Int) < (l.length : Int) := by omega
        obtain ⟨p, hp⟩ := get_of hlt
        obtain ⟨b, off, rfl, k0, k1⟩ := (HR.out.below HB.out).spot hp
        have HP := Lib.hid hp
        have HLT := Lib.hid hlt
        have HB3 := Lib.hid (bel_alloc HB.out (.cells #[.int .i64 p.x, .int .i64 p.y] 47))
        clear hp hi hlt
        cases g1 : fixB p.x
        · have HG1 := Lib.hid g1
          clear g1
          go_wp2_with fail
          refine (fix_any p.x _).mono ?_
          rintro e w2 ⟨rfl, rfl⟩
          rw [HG1.out]
          go_wp2_with fail
          go_ret
          exact ⟨rfl, HB3.out⟩
        · have HG1 := Lib.hid g1
          cases g2 : fixB p.y
          · have HG2 := Lib.hid g2
            clear g1 g2
            go_wp2_with fail
            refine (fix_any p.x _).mono ?_
            rintro e w2 ⟨rfl, rfl⟩
            rw [HG1.out]
            go_wp2_with fail
            refine (fix_any p.y _).mono ?_
            rintro e w3 ⟨rfl, rfl⟩
            rw [HG2.out]
            go_wp2_with fail
            go_ret
            exact ⟨rfl, HB3.out⟩
          · have HG2 := Lib.hid g2
            clear g1 g2
            have HS : Hid (Lies ((wr.alloc (.cells #[.int .i64 p.x, .int .i64 p.y] 47)).alloc (.cells #[.int .i64 p.x, .int .i64 p.y, .int .i64 1] 37)) (wr.heap.size + 1) 0 [.int .i64 p.x, .int .i64 p.y, .int .i64 1]) := by
              have h := lies_new (w := wr.alloc (.cells #[.int .i64 p.x, .int .i64 p.y] 47)) (cs := #[.int .i64 p.x, .int .i64 p.y, .int .i64 1]) (T := 37)
              rwa [show (wr.alloc (.cells #[.int .i64 p.x, .int .i64 p.y] 47)).heap.size = wr.heap.size + 1 by simp] at h
            go_wp2_with fail
            refine (fix_any p.x _).mono ?_
            rintro e w2 ⟨rfl, rfl⟩
            rw [HG1.out]
            go_wp2_with fail
            refine (fix_any p.y _).mono ?_
            rintro e w3 ⟨rfl, rfl⟩
            rw [HG2.out]
            go_wp2_with (at_builtin; refine wpList_app elK rfl _ _ rfl ((wr.alloc (.cells #[.int .i64 p.x, .int .i64 p.y] 47)).alloc (.cells #[.int .i64 p.x, .int .i64 p.y, .int .i64 1] 37)) w.heap.size g c i (((l.take i).map onK).flatMap clK) (some ⟨wr.heap.size + 1, 0, none⟩) 1 1 [.int .i64 p.x, .int .i64 p.y, .int .i64 1] rfl rfl ((HO.out.alloc _).alloc _) rfl (.inr ⟨_, 0, rfl, HS.out⟩) (by simp [Value.oneCell']) (by have := HLT.out; have := HN.out; omega) (by have := HLT.out; have := HN.out; omega) (by have := HB.out.size; simp; omega) ?_; intro g8 c8 w8 ho8 hg8 hat8)
            have HB8 : Hid (Below w.heap.size w w8) := bel_grown (bel_alloc HB3.out _) hg8 (ownsRow_cap HO.out).2.1 (by have := HB.out.size; simp; omega)
            have HO8 : Hid (w8.ownsRow w.heap.size 37 3 (.slice (some ⟨g8, 0, none⟩) (i + 1) c8) (i + 1) (((l.take (i + 1)).map onK).flatMap clK)) := by
              unfold Hid
              rw [List.take_add_one, HP.out, Option.toList_some, snocK]; exact ho8
            have HF8 : Hid (∀ p ∈ l.take (i + 1), fixB p.x = true ∧ fixB p.y = true) := by
              unfold Hid
              rw [List.take_add_one, HP.out]
              intro q hq
              rcases List.mem_append.1 hq with hq | hq
              · exact HF.out q hq
              · simp at hq; subst hq; exact ⟨HG1.out, HG2.out⟩
            clear ho8 hg8 hat8
            have HX := Lib.hid (next64 (j := i) (by have := HLT.out; have := HN.out; omega))
            go_wp2_with fail
            go_roundw
            case rel => exact ⟨i + 1, g8, c8, HLT.out, rfl, by first | rw [HX.out] | go_num, HO8, HF8, HB8⟩
            case measure => (try rw [HX.out]); have := HLT.out; simp only [intOf]; omega
      · have hlt' : ¬ (i : Int) < (l.length : Int) := by omega
        have HI : Hid (i = l.length) := by unfold Hid; omega
        have HT : Hid (l.take i = l) := List.take_of_length_le (by omega)
        clear hi hlt
        rw [HT.out] at HO HF
        have hmap : (l.map onK).length = i := by rw [List.length_map, HI.out]
        have HQ : Hid (IsO clK (wr.alloc (.cells #[.slice (some ⟨g, 0, none⟩) i c] 35)) (some ⟨wr.heap.size, 0, none⟩) [l.map onK]) := by
          refine .inr ⟨wr.heap.size, 0, rfl, fun j d hd => ?_⟩
          have hj : j = 0 := by have := (List.getElem?_eq_some_iff.1 hd).1; simp at this; omega
          subst hj
          have e : l.map onK = d := by simpa using hd
          subst e
          exact ⟨some ⟨g, 0, none⟩, c, by rw [hmap]; simp [go_sem], by rw [hmap]; exact (ownsRow_cap HO.out).1, (own_isR hmap.symm HO.out).below ((Below.refl _ _).alloc (Nat.le_refl _) _)⟩
        have HC := Lib.hid (flat_run _ 1 [l.map onK] _ HQ.out ⟨by simp, fun d hd => by simp at hd; subst hd; have := HN.out; rw [List.length_map]; omega⟩ (check_on l HN.out HF.out))
        rw [flat_on] at HC
        have HB4 := Lib.hid (bel_alloc HB.out (.cells #[.slice (some ⟨g, 0, none⟩) i c] 35))
        clear hmap
        go_wp2_with fail
        refine HC.out.mono ?_
        rintro e w5 ⟨g5, vs, N, rfl, hout, hge, hb5⟩
        have HB5 := Lib.hid (bel_next HB4.out hb5)
        have HP := Lib.hid (hout.isO.below ((Below.refl w5.heap.size w5).alloc (Nat.le_refl _) (.cells #[.slice a l.length cap] 45)))
        have HQ5 : Hid (IsO clS (w5.alloc (.cells #[.slice a l.length cap] 45)) (some ⟨w5.heap.size, 0, none⟩) [l]) := by
          refine .inr ⟨w5.heap.size, 0, rfl, fun j d hd => ?_⟩
          have hj : j = 0 := by have := (List.getElem?_eq_some_iff.1 hd).1; simp at this; omega
          subst hj
          have e : l = d := by simpa using hd
          subst e
          exact ⟨a, cap, by simp [go_sem], HCP.out, (HR.out.below HB5.out).below ((Below.refl _ _).alloc (Nat.le_refl _) _)⟩
        have HL5 : Hid (LongA [l]) := ⟨by simp, fun d hd => by simp at hd; subst hd; have := HN.out; omega⟩
        clear hout hge hb5 HC HQ HO HF
        simp only [List.length_cons, List.length_nil, Nat.zero_add]
        go_wp2_with fail
        refine (sameSpots_c (some ⟨g5, 0, none⟩) (some ⟨w5.heap.size, 0, none⟩) 1 1 [l] _ HP.out HQ5.out HL5.out).mono ?_
        rintro e w6 ⟨rfl, hb6⟩
        have HB6 := Lib.hid (bel_next (bel_alloc HB5.out _) hb6)
        clear hb6 HP HQ5
        go_wp2_with fail
        go_ret
        exact ⟨rfl, HB6.out⟩
end Go.Proofs.Ythjhekmlhmljlaa.pathLines
