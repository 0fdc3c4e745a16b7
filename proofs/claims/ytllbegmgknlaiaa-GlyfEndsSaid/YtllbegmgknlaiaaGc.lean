/-
  The document's Copy and SameOutline, slices.Grow of knots.
-/
import Derived.Test.YtllbegmgknlaiaaGk
namespace Go.Proofs.Ytllbegmgknlaiaa
open Go.RowKit Go.PlainAid
set_option linter.unusedSimpArgs false
set_option linter.unusedVariables false

/-- What Copy answers. -/
def CopyPost (w : World) (O : List (List Kn)) (e : Ending) (w' : World) : Prop := ∃ g c vs, e = .returned (.slice (some ⟨g, 0, none⟩) O.length c) ∧ w'.ownsRow w.heap.size 36 1 (.slice (some ⟨g, 0, none⟩) O.length c) O.length vs ∧ RowsOwn w' w.heap.size g vs O ∧ Below w.heap.size w w'

set_option maxRecDepth 20000 in
set_option maxHeartbeats 2000000 in
theorem copy_c (a : Option Addr) (cap : Nat) (O : List (List Kn)) (w : World) (ho : IsO clK w a O) (hl : Long O) : Calls Try.prog 10 #[.slice a O.length cap] w (CopyPost w O) := by
  have HO := Lib.hid ho
  have HL := Lib.hid hl
  have HO1 := Lib.hid (World.ownsRow_lit (base := w.heap.size) (e := 36) (size := 1) w #[] 0 (Nat.le_refl _) (by decide) rfl)
  clear ho hl
  go_enter Try.func10, Try.ntmps10
  go_wp2_with fail
  go_loopw [3, 10] (fun v x wr => ∃ i g c : Nat, ∃ vs, i ≤ O.length ∧ v = .slice (some ⟨g, 0, none⟩) i c ∧ x = .int .i64 i ∧ Hid (wr.ownsRow w.heap.size 36 1 (.slice (some ⟨g, 0, none⟩) i c) i vs) ∧
    Hid (RowsOwn wr w.heap.size g vs (O.take i)) ∧ Hid (Below w.heap.size w wr)) (fun _ x _ => O.length - (intOf x).toNat)
  case atStart => exact ⟨0, _, _, [], Nat.zero_le _, rfl, rfl, HO1, ⟨rfl, fun i c h => by simp at h⟩, (Below.refl _ _).alloc (Nat.le_refl _) _⟩
  case round =>
    obtain ⟨i, g, c, vs, hi, rfl, rfl, HW, HV, HB⟩ := hrel
    by_cases hlt : i < O.length
    · have hlt' : (i : Int) < (O.length : Int) := by omega
      obtain ⟨d, hd⟩ := get_of hlt
      obtain ⟨b, off, ai, ci, rfl, c0, hci, hr⟩ := (HO.out.below HB.out).at hd
      have HD := Lib.hid hd
      have HR := Lib.hid hr
      have HLT := Lib.hid hlt
      have HE := Lib.hid (World.ownsRow_lit (base := w.heap.size) (e := 35) (size := 3) wr #[] 0 HB.out.size (by decide) rfl)
      have HB2 := Lib.hid (bel_alloc HB.out (.cells #[] 35))
      have HDL : Hid (d.length ≤ 5864062014805) := HL.out.2 d (List.mem_of_getElem? hd)
      clear hd hr hi hlt hci
      have HI : Hid (i + 1 ≤ 5864062014805) := by have := HL.out.1; have := HLT.out; unfold Hid; omega
      go_wp2_with (at_builtin; first
        | (refine wpList_app elK rfl _ _ rfl (wr.alloc (.cells #[] 35)) w.heap.size wr.heap.size 0 0 [] ai d.length ci (d.flatMap clK) rfl rfl HE.out (flat_length clK_length d) (isR_src (HR.out.below ((Below.refl _ _).alloc (Nat.le_refl _) _))) clK_one (by have := HDL.out; omega) (by have := HDL.out; omega) HB2.out.size ?_; intro g2 c2 w2 ho2 hg2 hat2; rw [Nat.zero_add, List.nil_append] at ho2; rw [Nat.zero_add])
        | (refine wpList_app elKK rfl _ _ rfl (w2.alloc (.cells #[.slice (some ⟨g2, 0, none⟩) d.length c2] 36)) w.heap.size g c i vs (some ⟨w2.heap.size, 0, none⟩) 1 1 [.slice (some ⟨g2, 0, none⟩) d.length c2] rfl rfl ((own_below HW.out (belGrown ((Below.refl wr.heap.size wr).alloc (Nat.le_refl _) (.cells #[] 35)) hg2 (Nat.le_refl _) (by simp))).alloc _) rfl (.inr ⟨_, 0, rfl, lies_new (w := w2) (cs := #[.slice (some ⟨g2, 0, none⟩) d.length c2]) (T := 36)⟩) (by simp [Value.oneCell']) (by have := HI.out; omega) (by have := HI.out; omega) (by have := (bel_to HB.out (belGrown ((Below.refl wr.heap.size wr).alloc (Nat.le_refl _) (.cells #[] 35)) hg2 (Nat.le_refl _) (by simp)) HB.out.size).size; simp; omega) ?_; intro g8 c8 w8 ho8 hg8 hat8))
      have HN2 : Hid (Below wr.heap.size wr w2) := (belGrown ((Below.refl wr.heap.size wr).alloc (Nat.le_refl _) (.cells #[] 35)) hg2 (Nat.le_refl _) (by simp))
      have HB3 := Lib.hid (bel_to HB.out HN2.out HB.out.size)
      have HG2 : Hid (g2 ≠ g ∧ g2 < w2.heap.size) := ⟨by have := (ownsRow_cap HW.out).2.2; rcases hat2 with h | h <;> (try simp at h) <;> omega, (ownsRow_cap ho2).2.2⟩
      have HO2 := Lib.hid ho2
      clear ho2 hg2 hat2 HE HR c0
      have HB8 : Hid (Below w.heap.size w w8) := belGrown (bel_alloc HB3.out _) hg8 (ownsRow_cap HW.out).2.1 (by have := HB3.out.size; simp; omega)
      have HV8 : Hid (RowsOwn w8 w.heap.size g8 (vs ++ [.slice (some ⟨g2, 0, none⟩) d.length c2]) (O.take (i + 1))) := by
        unfold Hid
        rw [List.take_add_one, HD.out, Option.toList_some]
        refine RowsOwn.snoc (((HV.out.below HN2.out).below ((Below.refl _ _).alloc (Nat.le_refl _) _)).grown hg8 hat8) ?_ ?_
        · have h1 := (ownsRow_cap HW.out).2.2
          have h2 := HG2.out
          rcases hat8 with h | h
          · rw [h]; exact h2.1
          · rw [h]; simp; omega
        · refine own_keep (HO2.out.alloc (.cells #[.slice (some ⟨g2, 0, none⟩) d.length c2] 36)) fun x hx => ?_
          have : x = g2 := by simpa [Value.ownBlock] using hx.symm
          subst this
          exact hg8.block x (by have := HG2.out.2; simp; omega) (fun e => HG2.out.1 (by cases e; rfl))
      have HW8 := Lib.hid ho8
      have HX := Lib.hid (next64 (j := i) (by have := HI.out; omega))
      clear ho8 hg8 hat8
      go_wp2_with fail
      go_roundw
      case rel => exact ⟨i + 1, g8, c8, _, HLT.out, rfl, by first | rw [HX.out] | go_num, HW8, HV8, HB8⟩
      case measure => (try rw [HX.out]); have := HLT.out; simp only [intOf]; omega
    · have hlt' : ¬ (i : Int) < (O.length : Int) := by omega
      obtain rfl : i = O.length := by omega
      have HV2 : Hid (RowsOwn wr w.heap.size g vs O) := by have := HV.out; rwa [List.take_length] at this
      go_wp2_with fail
      go_ret
      exact ⟨g, c, vs, rfl, HW.out, HV2.out, HB.out⟩

theorem RowsOwn.isO {w : World} {B g c n : Nat} {vs : List Value} {O : List (List Kn)} (h : RowsOwn w B g vs O) (ho : w.ownsRow B 36 1 (.slice (some ⟨g, 0, none⟩) n c) n vs) : IsO clK w (some ⟨g, 0, none⟩) O := by
  refine .inr ⟨g, 0, rfl, fun i d hd => ?_⟩
  obtain ⟨gi, ci, h1, h2, h3⟩ := h.2 i d hd
  exact ⟨_, ci, own_lies ho i _ h1, (ownsRow_cap h3).1, own_isR rfl h3⟩

set_option maxRecDepth 20000 in
set_option maxHeartbeats 2000000 in
theorem sameOutline_c (a b : Option Addr) (ca cb : Nat) (O : List (List Kn)) (w : World) (h1 : IsO clK w a O) (h2 : IsO clK w b O) (hl : LongA O) :
    Calls Try.prog 11 #[.slice a O.length ca, .slice b O.length cb] w fun e w' => e = .returned (.bool true) ∧ Below w.heap.size w w' := by
  have H1 := Lib.hid h1
  have H2 := Lib.hid h2
  have HL := Lib.hid hl
  obtain ⟨n, HN⟩ : ∃ n, Hid (O.length = n) := ⟨_, rfl⟩
  rw [HN.out]
  clear h1 h2 hl
  go_enter Try.func11, Try.ntmps11
  go_wp2_with fail
  go_loopw [14] (fun x wr => ∃ i : Nat, i ≤ n ∧ x = .int .i64 i ∧ Hid (Below w.heap.size w wr)) (fun x _ => n - (intOf x).toNat)
  case atStart => exact ⟨0, Nat.zero_le _, rfl, Below.refl _ _⟩
  case round =>
    obtain ⟨i, hi, rfl, HB⟩ := hrel
    by_cases hlt : i < n
    · have hlt' : (i : Int) < (n : Int) := by omega
      have hi0 : (0 : Int) ≤ (i : Int) := by omega
      obtain ⟨c, hcc⟩ := get_of (show i < O.length by rw [HN.out]; exact hlt)
      obtain ⟨b1, o1, a1, c1, rfl, x1, _, r1⟩ := (H1.out.below HB.out).at hcc
      obtain ⟨b2, o2, a2, c2, rfl, x2, _, r2⟩ := (H2.out.below HB.out).at hcc
      have HR1 := Lib.hid r1
      have HR2 := Lib.hid r2
      have HX1 := Lib.hid x1
      have HX2 := Lib.hid x2
      obtain ⟨m, HM⟩ : ∃ m, Hid (c.length = m) := ⟨_, rfl⟩
      have HCL : Hid (m ≤ 140737488355328) := by have := HL.out.2 c (List.mem_of_getElem? hcc); rw [HM.out] at this; exact this
      have HLT := Lib.hid hlt
      have HX := Lib.hid (next64 (j := i) (by have := HL.out.1; have := HN.out; omega))
      rw [HM.out] at x1 x2 HX1 HX2
      clear r1 r2 hcc hi hlt
      go_wp2_with fail
      go_quiet (fail)
      have hbq : Below wr.heap.size wr (wr.drewN nq) := bel_drewN (Below.refl _ _) _
      have HBq := Lib.hid hbq
      have y1 := keepC hbq x1
      clear hbq x1 x2
      go_wp2_with fail
      generalize hwo : wr = wo at *
      clear hwo y1
      go_loopw [33] (fun x wr => ∃ j : Nat, j ≤ m ∧ x = .int .i64 j ∧ Hid (Below wo.heap.size wo wr)) (fun x _ => m - (intOf x).toNat)
      case atStart => exact ⟨0, Nat.zero_le _, rfl, HBq⟩
      case round =>
        clear HBq
        obtain ⟨j, hj, rfl, HB2⟩ := hrel
        by_cases hl2 : j < m
        · have hl2' : (j : Int) < (m : Int) := by omega
          have hj0 : (0 : Int) ≤ (j : Int) := by omega
          obtain ⟨k, hk⟩ := get_of (show j < c.length by rw [HM.out]; exact hl2)
          obtain ⟨p1, q1, rfl, e0, e1, e2⟩ := (HR1.out.below HB2.out).knot hk
          obtain ⟨p2, q2, rfl, f0, f1, f2⟩ := (HR2.out.below HB2.out).knot hk
          have x1 := keepC HB2.out HX1.out
          have x2 := keepC HB2.out HX2.out
          have HX3 := Lib.hid (next64 (j := j) (by have := HCL.out; omega))
          have HL2 := Lib.hid hl2
          clear hk hj hl2
          go_wp2_with fail
          go_quiet (fail)
          have HB3 : Hid (Below wo.heap.size wo (wr.drewN nq)) := bel_drewN HB2.out _
          clear x1 x2
          go_wp2_with fail
          go_roundw
          case rel => exact ⟨j + 1, HL2.out, by rw [HX3.out], HB3⟩
          case measure => rw [HX3.out]; have := HL2.out; simp only [intOf]; omega
        · have hl2' : ¬ (j : Int) < (m : Int) := by omega
          have HBE := Lib.hid (bel_next HB.out HB2.out)
          clear hl2 hj
          go_wp2_with fail
          go_roundw
          case rel => exact ⟨i + 1, HLT.out, by rw [HX.out], HBE⟩
          case measure => rw [HX.out]; have := HLT.out; simp only [intOf]; omega
    · have hlt' : ¬ (i : Int) < (n : Int) := by omega
      clear hlt hi
      go_wp2_with fail
      go_ret
      exact ⟨rfl, HB.out⟩

set_option maxHeartbeats 1000000 in
theorem grow_none (w : World) : Calls Try.prog 28 #[.slice none 0 0, .int .i64 0] w fun e w' => e = .returned (.slice none 0 0) ∧ w = w' := by
  go_enter Try.func28, Try.ntmps28
  go_wp2_with fail
  go_ret
  exact ⟨rfl, rfl⟩

/-- Room for knots in a new row. -/
def GrowPost (w : World) (k : Nat) (e : Ending) (w' : World) : Prop := ∃ c, e = .returned (.slice (some ⟨w.heap.size, 0, none⟩) 0 c) ∧ k ≤ c ∧ w'.ownsRow w.heap.size 35 3 (.slice (some ⟨w.heap.size, 0, none⟩) 0 c) 0 [] ∧ Below w.heap.size w w'

set_option maxHeartbeats 1000000 in
theorem grow_some (k : Nat) (K : Int) (hK : K = (k : Int)) (w : World) (hk : 0 < k) (hk2 : k ≤ 10000) : Calls Try.prog 28 #[.slice none 0 0, .int .i64 K] w (GrowPost w k) := by
  subst hK
  have h1 : (0 : Int) < (k : Int) := by omega
  have h2 : ¬ ((k : Int) < 0) := by omega
  have h3 : (k : Int) ≤ 10000 := by omega
  have HK := Lib.hid (And.intro hk hk2)
  clear hk hk2
  go_enter Try.func28, Try.ntmps28
  go_wp2_with (at_builtin; refine wpList_zeros rfl _ _ rfl w k rfl rfl HK.out.1 HK.out.2 ?_; intro c w1 hc ho hb; have HC := Lib.hid hc; have HO := Lib.hid ho; have HB := Lib.hid hb; clear hc ho hb)
  go_ret
  exact ⟨c, rfl, HC.out, HO.out, HB.out⟩

/-- Two rows joined. -/
def JoinPost (w : World) (L : List Kn) (e : Ending) (w' : World) : Prop := ∃ a c, e = .returned (.slice a L.length c) ∧ L.length ≤ c ∧ IsR clK w' a L ∧ Below w.heap.size w w' ∧ ∀ b off s, a = some ⟨b, off, s⟩ → w.heap.size ≤ b

end Go.Proofs.Ytllbegmgknlaiaa
