/-
  What Same of the document answers for two zones that are read alike: true.
-/
import Derived.Test.YtnoadceeenioeaaZq
import Derived.Deep.QuietTactic
import Derived.BigQuiet
namespace Go.Proofs.Ytnoadceeenioeaa
open Go.RowKit Go.PlainAid
set_option linter.unusedSimpArgs false
set_option linter.unusedVariables false

set_option maxRecDepth 20000 in
set_option maxHeartbeats 2000000 in
theorem sameS_c (a b : Option Addr) (ca cb : Nat) (L : List Sp) (w : World) (h1 : IsR clS w a L) (h2 : IsR clS w b L) (hl : L.length ≤ 140737488355328) :
    Calls Try.prog 31 #[.slice a L.length ca, .slice b L.length cb] w fun e w' => e = .returned (.bool true) ∧ Below w.heap.size w w' := by
  have H1 := Lib.hid h1
  have H2 := Lib.hid h2
  have HL := Lib.hid hl
  obtain ⟨n, HN⟩ : ∃ n, Hid (L.length = n) := ⟨_, rfl⟩
  rw [HN.out] at HL ⊢
  clear h1 h2 hl
  go_enter Try.func31, Try.ntmps31
  go_wp2_with fail
  go_loopw [13] (fun x wr => ∃ i : Nat, i ≤ n ∧ x = .int .i64 i ∧ Hid (Below w.heap.size w wr)) (fun x _ => n - (intOf x).toNat)
  case atStart => exact ⟨0, Nat.zero_le _, rfl, Below.refl _ _⟩
  case round =>
    obtain ⟨i, hi, rfl, HB⟩ := hrel
    by_cases hlt : i < n
    · have hlt' : (i : Int) < (n : Int) := by omega
      have hi0 : (0 : Int) ≤ (i : Int) := by omega
      obtain ⟨k, hk⟩ := get_of (show i < L.length by rw [HN.out]; exact hlt)
      obtain ⟨b1, o1, rfl, e0, e1⟩ := (H1.out.below HB.out).spot hk
      obtain ⟨b2, o2, rfl, f0, f1⟩ := (H2.out.below HB.out).spot hk
      have HX := Lib.hid (next64 (j := i) (by have := HL.out; omega))
      have HLT := Lib.hid hlt
      clear hk hi hlt
      go_wp2_with fail
      go_quiet (fail)
      have HB3 : Hid (Below w.heap.size w (wr.drewN nq)) := bel_drewN HB.out _
      clear e0 e1 f0 f1
      go_wp2_with fail
      go_roundw
      case rel => exact ⟨i + 1, HLT.out, by rw [HX.out], HB3⟩
      case measure => rw [HX.out]; have := HLT.out; simp only [intOf]; omega
    · have hlt' : ¬ (i : Int) < (n : Int) := by omega
      clear hlt
      go_wp2_with fail
      go_ret
      exact ⟨rfl, HB.out⟩

set_option maxRecDepth 20000 in
set_option maxHeartbeats 2000000 in
theorem sameB_c (a b : Option Addr) (ca cb : Nat) (L : List Bool) (w : World) (h1 : IsR clB w a L) (h2 : IsR clB w b L) (hl : L.length ≤ 140737488355328) :
    Calls Try.prog 32 #[.slice a L.length ca, .slice b L.length cb] w fun e w' => e = .returned (.bool true) ∧ Below w.heap.size w w' := by
  have H1 := Lib.hid h1
  have H2 := Lib.hid h2
  have HL := Lib.hid hl
  obtain ⟨n, HN⟩ : ∃ n, Hid (L.length = n) := ⟨_, rfl⟩
  rw [HN.out] at HL ⊢
  clear h1 h2 hl
  go_enter Try.func32, Try.ntmps32
  go_wp2_with fail
  go_loopw [13] (fun x wr => ∃ i : Nat, i ≤ n ∧ x = .int .i64 i ∧ Hid (Below w.heap.size w wr)) (fun x _ => n - (intOf x).toNat)
  case atStart => exact ⟨0, Nat.zero_le _, rfl, Below.refl _ _⟩
  case round =>
    obtain ⟨i, hi, rfl, HB⟩ := hrel
    by_cases hlt : i < n
    · have hlt' : (i : Int) < (n : Int) := by omega
      have hi0 : (0 : Int) ≤ (i : Int) := by omega
      obtain ⟨k, hk⟩ := get_of (show i < L.length by rw [HN.out]; exact hlt)
      obtain ⟨b1, o1, rfl, e0⟩ := (H1.out.below HB.out).flag hk
      obtain ⟨b2, o2, rfl, f0⟩ := (H2.out.below HB.out).flag hk
      have HX := Lib.hid (next64 (j := i) (by have := HL.out; omega))
      have HLT := Lib.hid hlt
      clear hk hi hlt
      go_wp2_with fail
      go_quiet (fail)
      have HB3 : Hid (Below w.heap.size w (wr.drewN nq)) := bel_drewN HB.out _
      clear e0 f0
      go_wp2_with fail
      go_roundw
      case rel => exact ⟨i + 1, HLT.out, by rw [HX.out], HB3⟩
      case measure => rw [HX.out]; have := HLT.out; simp only [intOf]; omega
    · have hlt' : ¬ (i : Int) < (n : Int) := by omega
      clear hlt
      go_wp2_with fail
      go_ret
      exact ⟨rfl, HB.out⟩

set_option maxRecDepth 20000 in
set_option maxHeartbeats 2000000 in
theorem sameI_c (a b : Option Addr) (ca cb : Nat) (L : List Int) (w : World) (h1 : IsR clI w a L) (h2 : IsR clI w b L) (hl : L.length ≤ 140737488355328) :
    Calls Try.prog 33 #[.slice a L.length ca, .slice b L.length cb] w fun e w' => e = .returned (.bool true) ∧ Below w.heap.size w w' := by
  have H1 := Lib.hid h1
  have H2 := Lib.hid h2
  have HL := Lib.hid hl
  obtain ⟨n, HN⟩ : ∃ n, Hid (L.length = n) := ⟨_, rfl⟩
  rw [HN.out] at HL ⊢
  clear h1 h2 hl
  go_enter Try.func33, Try.ntmps33
  go_wp2_with fail
  go_loopw [13] (fun x wr => ∃ i : Nat, i ≤ n ∧ x = .int .i64 i ∧ Hid (Below w.heap.size w wr)) (fun x _ => n - (intOf x).toNat)
  case atStart => exact ⟨0, Nat.zero_le _, rfl, Below.refl _ _⟩
  case round =>
    obtain ⟨i, hi, rfl, HB⟩ := hrel
    by_cases hlt : i < n
    · have hlt' : (i : Int) < (n : Int) := by omega
      have hi0 : (0 : Int) ≤ (i : Int) := by omega
      obtain ⟨k, hk⟩ := get_of (show i < L.length by rw [HN.out]; exact hlt)
      obtain ⟨b1, o1, rfl, e0⟩ := (H1.out.below HB.out).num hk
      obtain ⟨b2, o2, rfl, f0⟩ := (H2.out.below HB.out).num hk
      have HX := Lib.hid (next64 (j := i) (by have := HL.out; omega))
      have HLT := Lib.hid hlt
      clear hk hi hlt
      go_wp2_with fail
      go_quiet (fail)
      have HB3 : Hid (Below w.heap.size w (wr.drewN nq)) := bel_drewN HB.out _
      clear e0 f0
      go_wp2_with fail
      go_roundw
      case rel => exact ⟨i + 1, HLT.out, by rw [HX.out], HB3⟩
      case measure => rw [HX.out]; have := HLT.out; simp only [intOf]; omega
    · have hlt' : ¬ (i : Int) < (n : Int) := by omega
      clear hlt
      go_wp2_with fail
      go_ret
      exact ⟨rfl, HB.out⟩

set_option maxRecDepth 20000 in
set_option maxHeartbeats 4000000 in
theorem same_c (Z : Zn) (a0 a1 a2 a3 a4 b0 b1 b2 b3 b4 : Option Addr) (c0 c1 c2 c3 c4 d0 d1 d2 d3 d4 : Nat) (w : World) (h1 : ZIn w Z a0 a1 a2 a3 a4) (h2 : ZIn w Z b0 b1 b2 b3 b4) (hl : ZLong Z) :
    Calls Try.prog 16 #[.agg #[.slice a0 Z.org.length c0, .slice a1 Z.cur.length c1, .slice a2 Z.tx.length c2, .slice a3 Z.ty.length c3, .slice a4 Z.ends.length c4], .agg #[.slice b0 Z.org.length d0, .slice b1 Z.cur.length d1, .slice b2 Z.tx.length d2, .slice b3 Z.ty.length d3, .slice b4 Z.ends.length d4]] w fun e w' => e = .returned (.bool true) ∧ Below w.heap.size w w' := by
  have HS0 := Lib.hid (fun V (hb : Below w.heap.size w V) => sameS_c a0 b0 c0 d0 Z.org V (h1.r0.below hb) (h2.r0.below hb) (by have := hl.l0; omega))
  have HS1 := Lib.hid (fun V (hb : Below w.heap.size w V) => sameS_c a1 b1 c1 d1 Z.cur V (h1.r1.below hb) (h2.r1.below hb) (by have := hl.l1; omega))
  have HS2 := Lib.hid (fun V (hb : Below w.heap.size w V) => sameB_c a2 b2 c2 d2 Z.tx V (h1.r2.below hb) (h2.r2.below hb) (by have := hl.l2; omega))
  have HS3 := Lib.hid (fun V (hb : Below w.heap.size w V) => sameB_c a3 b3 c3 d3 Z.ty V (h1.r3.below hb) (h2.r3.below hb) (by have := hl.l3; omega))
  have HS4 := Lib.hid (fun V (hb : Below w.heap.size w V) => sameI_c a4 b4 c4 d4 Z.ends V (h1.r4.below hb) (h2.r4.below hb) (by have := hl.l4; omega))
  obtain ⟨h, HH⟩ : ∃ h, Hid (w.heap.size = h) := ⟨_, rfl⟩
  obtain ⟨Zo, Zc, Zx, Zy, Ze⟩ := Z
  dsimp only at *
  have hb2 := bel_alloc (Below.refl (w.alloc (.cells #[.slice a0 Zo.length c0, .slice a1 Zc.length c1, .slice a2 Zx.length c2, .slice a3 Zy.length c3, .slice a4 Ze.length c4] 31)).heap.size _) (.cells #[.slice b0 Zo.length d0, .slice b1 Zc.length d1, .slice b2 Zx.length d2, .slice b3 Zy.length d3, .slice b4 Ze.length d4] 31)
  have HA : Hid (BxW ((w.alloc (.cells #[.slice a0 Zo.length c0, .slice a1 Zc.length c1, .slice a2 Zx.length c2, .slice a3 Zy.length c3, .slice a4 Ze.length c4] 31)).alloc (.cells #[.slice b0 Zo.length d0, .slice b1 Zc.length d1, .slice b2 Zx.length d2, .slice b3 Zy.length d3, .slice b4 Ze.length d4] 31)) h (.slice a0 Zo.length c0) (.slice a1 Zc.length c1) (.slice a2 Zx.length c2) (.slice a3 Zy.length c3) (.slice a4 Ze.length c4)) := by rw [← HH.out]; exact (bxW_new w _ _ _ _ _).below hb2
  have HE : Hid (BxW ((w.alloc (.cells #[.slice a0 Zo.length c0, .slice a1 Zc.length c1, .slice a2 Zx.length c2, .slice a3 Zy.length c3, .slice a4 Ze.length c4] 31)).alloc (.cells #[.slice b0 Zo.length d0, .slice b1 Zc.length d1, .slice b2 Zx.length d2, .slice b3 Zy.length d3, .slice b4 Ze.length d4] 31)) (h + 1) (.slice b0 Zo.length d0) (.slice b1 Zc.length d1) (.slice b2 Zx.length d2) (.slice b3 Zy.length d3) (.slice b4 Ze.length d4)) := by
    have := bxW_new (w.alloc (.cells #[.slice a0 Zo.length c0, .slice a1 Zc.length c1, .slice a2 Zx.length c2, .slice a3 Zy.length c3, .slice a4 Ze.length c4] 31)) (.slice b0 Zo.length d0) (.slice b1 Zc.length d1) (.slice b2 Zx.length d2) (.slice b3 Zy.length d3) (.slice b4 Ze.length d4)
    rwa [show (w.alloc (.cells #[.slice a0 Zo.length c0, .slice a1 Zc.length c1, .slice a2 Zx.length c2, .slice a3 Zy.length c3, .slice a4 Ze.length c4] 31)).heap.size = h + 1 by rw [← HH.out]; simp [go_sem]] at this
  have HB : Hid (Below w.heap.size w ((w.alloc (.cells #[.slice a0 Zo.length c0, .slice a1 Zc.length c1, .slice a2 Zx.length c2, .slice a3 Zy.length c3, .slice a4 Ze.length c4] 31)).alloc (.cells #[.slice b0 Zo.length d0, .slice b1 Zc.length d1, .slice b2 Zx.length d2, .slice b3 Zy.length d3, .slice b4 Ze.length d4] 31))) := bel_alloc (bel_alloc (Below.refl _ _) _) _
  clear h1 h2 hl hb2
  go_enter Try.func16, Try.ntmps16
  go_upto_region 1 with (fail)
  rw [HH.out]
  generalize ((w.alloc (.cells #[.slice a0 Zo.length c0, .slice a1 Zc.length c1, .slice a2 Zx.length c2, .slice a3 Zy.length c3, .slice a4 Ze.length c4] 31)).alloc (.cells #[.slice b0 Zo.length d0, .slice b1 Zc.length d1, .slice b2 Zx.length d2, .slice b3 Zy.length d3, .slice b4 Ze.length d4] 31)) = W at *
  have k0 := HA.out.c0
  have z0 := HE.out.c0
  have k1 := HA.out.c1
  have z1 := HE.out.c1
  have k2 := HA.out.c2
  have z2 := HE.out.c2
  have k3 := HA.out.c3
  have z3 := HE.out.c3
  have k4 := HA.out.c4
  have z4 := HE.out.c4
  go_wp2_with fail
  refine (HS0.out _ HB.out).mono ?_
  rintro e w1 ⟨rfl, hb⟩
  replace HA := Lib.hid (HA.out.below hb)
  replace HE := Lib.hid (HE.out.below hb)
  replace HB := Lib.hid (bel_next HB.out hb)
  clear hb k0 k1 k2 k3 k4 z0 z1 z2 z3 z4
  have k0 := HA.out.c0
  have z0 := HE.out.c0
  have k1 := HA.out.c1
  have z1 := HE.out.c1
  have k2 := HA.out.c2
  have z2 := HE.out.c2
  have k3 := HA.out.c3
  have z3 := HE.out.c3
  have k4 := HA.out.c4
  have z4 := HE.out.c4
  go_wp2_with fail
  refine (HS1.out _ HB.out).mono ?_
  rintro e w2 ⟨rfl, hb⟩
  replace HA := Lib.hid (HA.out.below hb)
  replace HE := Lib.hid (HE.out.below hb)
  replace HB := Lib.hid (bel_next HB.out hb)
  clear hb k0 k1 k2 k3 k4 z0 z1 z2 z3 z4
  have k0 := HA.out.c0
  have z0 := HE.out.c0
  have k1 := HA.out.c1
  have z1 := HE.out.c1
  have k2 := HA.out.c2
  have z2 := HE.out.c2
  have k3 := HA.out.c3
  have z3 := HE.out.c3
  have k4 := HA.out.c4
  have z4 := HE.out.c4
  go_wp2_with fail
  refine (HS2.out _ HB.out).mono ?_
  rintro e w3 ⟨rfl, hb⟩
  replace HA := Lib.hid (HA.out.below hb)
  replace HE := Lib.hid (HE.out.below hb)
  replace HB := Lib.hid (bel_next HB.out hb)
  clear hb k0 k1 k2 k3 k4 z0 z1 z2 z3 z4
  have k0 := HA.out.c0
  have z0 := HE.out.c0
  have k1 := HA.out.c1
  have z1 := HE.out.c1
  have k2 := HA.out.c2
  have z2 := HE.out.c2
  have k3 := HA.out.c3
  have z3 := HE.out.c3
  have k4 := HA.out.c4
  have z4 := HE.out.c4
  go_wp2_with fail
  refine (HS3.out _ HB.out).mono ?_
  rintro e w4 ⟨rfl, hb⟩
  replace HA := Lib.hid (HA.out.below hb)
  replace HE := Lib.hid (HE.out.below hb)
  replace HB := Lib.hid (bel_next HB.out hb)
  clear hb k0 k1 k2 k3 k4 z0 z1 z2 z3 z4
  have k0 := HA.out.c0
  have z0 := HE.out.c0
  have k1 := HA.out.c1
  have z1 := HE.out.c1
  have k2 := HA.out.c2
  have z2 := HE.out.c2
  have k3 := HA.out.c3
  have z3 := HE.out.c3
  have k4 := HA.out.c4
  have z4 := HE.out.c4
  go_wp2_with fail
  refine (HS4.out _ HB.out).mono ?_
  rintro e w5 ⟨rfl, hb⟩
  replace HA := Lib.hid (HA.out.below hb)
  replace HE := Lib.hid (HE.out.below hb)
  replace HB := Lib.hid (bel_next HB.out hb)
  clear hb k0 k1 k2 k3 k4 z0 z1 z2 z3 z4
  have k0 := HA.out.c0
  have z0 := HE.out.c0
  have k1 := HA.out.c1
  have z1 := HE.out.c1
  have k2 := HA.out.c2
  have z2 := HE.out.c2
  have k3 := HA.out.c3
  have z3 := HE.out.c3
  have k4 := HA.out.c4
  have z4 := HE.out.c4
  go_wp2_with fail
  go_ret
  exact ⟨rfl, HB.out⟩

end Go.Proofs.Ytnoadceeenioeaa
