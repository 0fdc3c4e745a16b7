/-
  The chapter's example, which every statement of layer 9 asks first: gstateAlive answers true, in every world; nothing that was there is changed.
-/
import Derived.Test.YtnoadceeenioeaaZnx
import Derived.Test.YtnoadceeenioeaaZre
namespace Go.Proofs.Ytnoadceeenioeaa
open Go.RowKit Go.PlainAid
set_option linter.unusedSimpArgs false
set_option linter.unusedVariables false

def alL : List Kn := [⟨0, 0, 1⟩, ⟨10, 0, 1⟩, ⟨20, 0, 1⟩]
def alZ0 : Zn := ⟨[⟨0, 0⟩, ⟨10, 0⟩, ⟨20, 0⟩], [⟨0, 0⟩, ⟨10, 0⟩, ⟨20, 0⟩], [false, false, false], [false, false, false], [2]⟩
def alZ1 : Zn := ⟨[⟨0, 0⟩, ⟨10, 0⟩, ⟨20, 0⟩], [⟨0, 0⟩, ⟨10, 0⟩, ⟨20, 0⟩], [true, false, false], [false, false, false], [2]⟩
def alZ2 : Zn := ⟨[⟨0, 0⟩, ⟨10, 0⟩, ⟨20, 0⟩], [⟨0, 0⟩, ⟨10, 0⟩, ⟨40, 0⟩], [true, false, true], [false, false, false], [2]⟩
def alZ3 : Zn := ⟨[⟨0, 0⟩, ⟨10, 0⟩, ⟨20, 0⟩], [⟨0, 0⟩, ⟨20, 0⟩, ⟨40, 0⟩], [true, false, true], [false, false, false], [2]⟩
theorem al_new : newZ [alL] = alZ0 := by kernel_rfl
theorem al_put1 : putZ alZ0 0 0 0 = (alZ1, 0) := by kernel_rfl
theorem al_put2 : putZ alZ1 0 2 40 = (alZ2, 0) := by kernel_rfl
theorem al_smooth : smoothZ alZ2 0 = (alZ3, 0) := by kernel_rfl
theorem al_round : rndS (-33) 0 = -64 := by kernel_rfl
theorem al_long (Z : Zn) (h : Z.org.length = 3 ∧ Z.cur.length = 3 ∧ Z.tx.length = 3 ∧ Z.ty.length = 3 ∧ Z.ends.length = 1) : ZLong Z := ⟨by omega, by omega, by omega, by omega, by omega⟩

/-- The answers, with their lengths. -/
theorem al_zpost {w : World} {Z : Zn} (h : Z.org.length = 3 ∧ Z.cur.length = 3 ∧ Z.tx.length = 3 ∧ Z.ty.length = 3 ∧ Z.ends.length = 1) {e : Ending} {w' : World} (hp : ZonePost w Z e w') :
    ∃ b0 b1 b2 b3 b4 d0 d1 d2 d3 d4, e = .returned (.agg #[.slice b0 3 d0, .slice b1 3 d1, .slice b2 3 d2, .slice b3 3 d3, .slice b4 1 d4]) ∧ ZOwn w' w.heap.size Z b0 b1 b2 b3 b4 d0 d1 d2 d3 d4 ∧ Below w.heap.size w w' := by
  obtain ⟨b0, b1, b2, b3, b4, d0, d1, d2, d3, d4, rfl, ho, hb⟩ := hp
  exact ⟨b0, b1, b2, b3, b4, d0, d1, d2, d3, d4, by rw [zv, h.1, h.2.1, h.2.2.1, h.2.2.2.1, h.2.2.2.2], ho, hb⟩
theorem al_zerop {w : World} {R : Zn × Int} {Z : Zn} {n : Int} (hR : R = (Z, n)) (h : Z.org.length = 3 ∧ Z.cur.length = 3 ∧ Z.tx.length = 3 ∧ Z.ty.length = 3 ∧ Z.ends.length = 1) {e : Ending} {w' : World} (hp : ZeroPost w R e w') :
    ∃ b0 b1 b2 b3 b4 d0 d1 d2 d3 d4, e = .returned (.tuple #[.agg #[.slice b0 3 d0, .slice b1 3 d1, .slice b2 3 d2, .slice b3 3 d3, .slice b4 1 d4], .int .i64 n]) ∧ ZOwn w' w.heap.size Z b0 b1 b2 b3 b4 d0 d1 d2 d3 d4 ∧ Below w.heap.size w w' := by
  subst hR
  obtain ⟨b0, b1, b2, b3, b4, d0, d1, d2, d3, d4, rfl, ho, hb⟩ := hp
  exact ⟨b0, b1, b2, b3, b4, d0, d1, d2, d3, d4, by dsimp only; rw [zv, h.1, h.2.1, h.2.2.1, h.2.2.2.1, h.2.2.2.2], ho, hb⟩

set_option maxRecDepth 20000 in
set_option maxHeartbeats 4000000 in
theorem alive_c (w : World) : Calls Try.prog 9 #[] w fun e w' => e = .returned (.bool true) ∧ Below w.heap.size w w' := by
  have HO := Lib.hid (isO_lit clK_length w alL 59 57 #[.int .i64 0, .int .i64 0, .int .i64 1, .int .i64 10, .int .i64 0, .int .i64 1, .int .i64 20, .int .i64 0, .int .i64 1] rfl)
  have HB : Hid (Below w.heap.size w ((w.alloc (.cells #[.int .i64 0, .int .i64 0, .int .i64 1, .int .i64 10, .int .i64 0, .int .i64 1, .int .i64 20, .int .i64 0, .int .i64 1] 59)).alloc (.cells #[.slice (some ⟨w.heap.size, 0, none⟩) 3 3] 57))) := bel_alloc ((Below.refl _ _).alloc (Nat.le_refl _) _) _
  have HRD := Lib.hid (fun V => round_c (-33) 0 V)
  rw [al_round] at HRD
  go_enter Try.func9, Try.ntmps9
  go_wp2_with fail
  have HC := Lib.hid (new_c [alL] _ 1 _ HO.out (by decide) (by decide))
  rw [al_new] at HC
  refine HC.out.mono ?_
  intro e w1 hp
  obtain ⟨b0, b1, b2, b3, b4, d0, d1, d2, d3, d4, rfl, ho, hb⟩ := al_zpost ⟨rfl, rfl, rfl, rfl, rfl⟩ hp
  replace HB := Lib.hid (bel_next HB.out hb)
  clear HC hp hb HO
  have HT : Hid (w.heap.size ≤ w1.heap.size) := HB.out.size
  have hba := bel_alloc (Below.refl w1.heap.size w1) (.cells #[.slice b0 3 d0, .slice b1 3 d1, .slice b2 3 d2, .slice b3 3 d3, .slice b4 1 d4] 31)
  have HZ := Lib.hid (gz_new w1 (.slice b0 3 d0) (.slice b1 3 d1) (.slice b2 3 d2) (.slice b3 3 d3) (.slice b4 1 d4))
  have HO := Lib.hid (ho.isIn.below hba)
  replace HB := Lib.hid (bel_next HB.out hba)
  clear ho hba
  have k0 := HZ.out.b.c0
  have k1 := HZ.out.b.c1
  have k2 := HZ.out.b.c2
  have k3 := HZ.out.b.c3
  have k4 := HZ.out.b.c4
  have q0 := HZ.out.f.f0
  have q1 := HZ.out.f.f1
  have q2 := HZ.out.f.f2
  have q3 := HZ.out.f.f3
  have q4 := HZ.out.f.f4
  go_wp2_with fail
  generalize (w1.alloc (.cells #[.slice b0 3 d0, .slice b1 3 d1, .slice b2 3 d2, .slice b3 3 d3, .slice b4 1 d4] 31)) = W at *
  generalize w1.heap.size = G at *
  refine (put_c alZ0 b0 b1 b2 b3 b4 d0 d1 d2 d3 d4 0 0 0 W HO.out (al_long _ ⟨rfl, rfl, rfl, rfl, rfl⟩)).mono ?_
  intro e v0 hp
  obtain ⟨e0, e1, e2, e3, e4, f0, f1, f2, f3, f4, rfl, ho, hb⟩ := al_zerop al_put1 ⟨rfl, rfl, rfl, rfl, rfl⟩ hp
  replace HB := Lib.hid (bel_next HB.out hb)
  replace HZ := Lib.hid (HZ.out.below hb)
  clear k0 k1 k2 k3 k4 q0 q1 q2 q3 q4
  clear hp hb HO
  have k0 := HZ.out.b.c0
  have k1 := HZ.out.b.c1
  have k2 := HZ.out.b.c2
  have k3 := HZ.out.b.c3
  have k4 := HZ.out.b.c4
  have q0 := HZ.out.f.f0
  have q1 := HZ.out.f.f1
  have q2 := HZ.out.f.f2
  have q3 := HZ.out.f.f3
  have q4 := HZ.out.f.f4
  have HZ1 := Lib.hid (((((HZ.out.put0 (.slice e0 3 f0)).put1 (.slice e1 3 f1)).put2 (.slice e2 3 f2)).put3 (.slice e3 3 f3)).put4 (.slice e4 1 f4))
  have t0 := HZ.out.t
  have HO := Lib.hid (((((ho.setZone t0 0 (.slice e0 3 f0)).setZone (type_set t0 ⟨G, 0, none⟩ (.slice e0 3 f0)) 1 (.slice e1 3 f1)).setZone (type_set (type_set t0 ⟨G, 0, none⟩ (.slice e0 3 f0)) ⟨G, 1, none⟩ (.slice e1 3 f1)) 2 (.slice e2 3 f2)).setZone (type_set (type_set (type_set t0 ⟨G, 0, none⟩ (.slice e0 3 f0)) ⟨G, 1, none⟩ (.slice e1 3 f1)) ⟨G, 2, none⟩ (.slice e2 3 f2)) 3 (.slice e3 3 f3)).setZone (type_set (type_set (type_set (type_set t0 ⟨G, 0, none⟩ (.slice e0 3 f0)) ⟨G, 1, none⟩ (.slice e1 3 f1)) ⟨G, 2, none⟩ (.slice e2 3 f2)) ⟨G, 3, none⟩ (.slice e3 3 f3)) 4 (.slice e4 1 f4)).isIn
  have HB1 : Hid (Below w.heap.size w (((((v0.setCell ⟨G, 0, none⟩ (.slice e0 3 f0)).setCell ⟨G, 1, none⟩ (.slice e1 3 f1)).setCell ⟨G, 2, none⟩ (.slice e2 3 f2)).setCell ⟨G, 3, none⟩ (.slice e3 3 f3)).setCell ⟨G, 4, none⟩ (.slice e4 1 f4))) := bel_set (bel_set (bel_set (bel_set (bel_set HB.out (b := G) (o := 0) HT.out _) (b := G) (o := 1) HT.out _) (b := G) (o := 2) HT.out _) (b := G) (o := 3) HT.out _) (b := G) (o := 4) HT.out _
  clear ho t0
  go_upto_region 3 with (fail)
  clear k0 k1 k2 k3 k4 q0 q1 q2 q3 q4
  replace HZ := HZ1
  replace HB := HB1
  clear HZ1 HB1
  generalize (((((v0.setCell ⟨G, 0, none⟩ (.slice e0 3 f0)).setCell ⟨G, 1, none⟩ (.slice e1 3 f1)).setCell ⟨G, 2, none⟩ (.slice e2 3 f2)).setCell ⟨G, 3, none⟩ (.slice e3 3 f3)).setCell ⟨G, 4, none⟩ (.slice e4 1 f4)) = W0 at *
  have k0 := HZ.out.b.c0
  have k1 := HZ.out.b.c1
  have k2 := HZ.out.b.c2
  have k3 := HZ.out.b.c3
  have k4 := HZ.out.b.c4
  have q0 := HZ.out.f.f0
  have q1 := HZ.out.f.f1
  have q2 := HZ.out.f.f2
  have q3 := HZ.out.f.f3
  have q4 := HZ.out.f.f4
  go_wp2_with fail
  refine (put_c alZ1 e0 e1 e2 e3 e4 f0 f1 f2 f3 f4 0 2 40 _ HO.out (al_long _ ⟨rfl, rfl, rfl, rfl, rfl⟩)).mono ?_
  intro e v1 hp
  obtain ⟨g0, g1, g2, g3, g4, h0, h1, h2, h3, h4, rfl, ho, hb⟩ := al_zerop al_put2 ⟨rfl, rfl, rfl, rfl, rfl⟩ hp
  replace HB := Lib.hid (bel_next HB.out hb)
  replace HZ := Lib.hid (HZ.out.below hb)
  clear k0 k1 k2 k3 k4 q0 q1 q2 q3 q4
  clear hp hb HO
  have k0 := HZ.out.b.c0
  have k1 := HZ.out.b.c1
  have k2 := HZ.out.b.c2
  have k3 := HZ.out.b.c3
  have k4 := HZ.out.b.c4
  have q0 := HZ.out.f.f0
  have q1 := HZ.out.f.f1
  have q2 := HZ.out.f.f2
  have q3 := HZ.out.f.f3
  have q4 := HZ.out.f.f4
  have HZ1 := Lib.hid (((((HZ.out.put0 (.slice g0 3 h0)).put1 (.slice g1 3 h1)).put2 (.slice g2 3 h2)).put3 (.slice g3 3 h3)).put4 (.slice g4 1 h4))
  have t0 := HZ.out.t
  have HO := Lib.hid (((((ho.setZone t0 0 (.slice g0 3 h0)).setZone (type_set t0 ⟨G, 0, none⟩ (.slice g0 3 h0)) 1 (.slice g1 3 h1)).setZone (type_set (type_set t0 ⟨G, 0, none⟩ (.slice g0 3 h0)) ⟨G, 1, none⟩ (.slice g1 3 h1)) 2 (.slice g2 3 h2)).setZone (type_set (type_set (type_set t0 ⟨G, 0, none⟩ (.slice g0 3 h0)) ⟨G, 1, none⟩ (.slice g1 3 h1)) ⟨G, 2, none⟩ (.slice g2 3 h2)) 3 (.slice g3 3 h3)).setZone (type_set (type_set (type_set (type_set t0 ⟨G, 0, none⟩ (.slice g0 3 h0)) ⟨G, 1, none⟩ (.slice g1 3 h1)) ⟨G, 2, none⟩ (.slice g2 3 h2)) ⟨G, 3, none⟩ (.slice g3 3 h3)) 4 (.slice g4 1 h4)).isIn
  have HB1 : Hid (Below w.heap.size w (((((v1.setCell ⟨G, 0, none⟩ (.slice g0 3 h0)).setCell ⟨G, 1, none⟩ (.slice g1 3 h1)).setCell ⟨G, 2, none⟩ (.slice g2 3 h2)).setCell ⟨G, 3, none⟩ (.slice g3 3 h3)).setCell ⟨G, 4, none⟩ (.slice g4 1 h4))) := bel_set (bel_set (bel_set (bel_set (bel_set HB.out (b := G) (o := 0) HT.out _) (b := G) (o := 1) HT.out _) (b := G) (o := 2) HT.out _) (b := G) (o := 3) HT.out _) (b := G) (o := 4) HT.out _
  clear ho t0
  go_upto_region 4 with (fail)
  clear k0 k1 k2 k3 k4 q0 q1 q2 q3 q4
  replace HZ := HZ1
  replace HB := HB1
  clear HZ1 HB1
  generalize (((((v1.setCell ⟨G, 0, none⟩ (.slice g0 3 h0)).setCell ⟨G, 1, none⟩ (.slice g1 3 h1)).setCell ⟨G, 2, none⟩ (.slice g2 3 h2)).setCell ⟨G, 3, none⟩ (.slice g3 3 h3)).setCell ⟨G, 4, none⟩ (.slice g4 1 h4)) = W1 at *
  have k0 := HZ.out.b.c0
  have k1 := HZ.out.b.c1
  have k2 := HZ.out.b.c2
  have k3 := HZ.out.b.c3
  have k4 := HZ.out.b.c4
  have q0 := HZ.out.f.f0
  have q1 := HZ.out.f.f1
  have q2 := HZ.out.f.f2
  have q3 := HZ.out.f.f3
  have q4 := HZ.out.f.f4
  go_wp2_with fail
  refine (smooth_c alZ2 g0 g1 g2 g3 g4 h0 h1 h2 h3 h4 0 _ HO.out (al_long _ ⟨rfl, rfl, rfl, rfl, rfl⟩)).mono ?_
  intro e v2 hp
  obtain ⟨i0, i1, i2, i3, i4, j0, j1, j2, j3, j4, rfl, ho, hb⟩ := al_zerop al_smooth ⟨rfl, rfl, rfl, rfl, rfl⟩ hp
  replace HB := Lib.hid (bel_next HB.out hb)
  replace HZ := Lib.hid (HZ.out.below hb)
  clear k0 k1 k2 k3 k4 q0 q1 q2 q3 q4
  clear hp hb HO
  have k0 := HZ.out.b.c0
  have k1 := HZ.out.b.c1
  have k2 := HZ.out.b.c2
  have k3 := HZ.out.b.c3
  have k4 := HZ.out.b.c4
  have q0 := HZ.out.f.f0
  have q1 := HZ.out.f.f1
  have q2 := HZ.out.f.f2
  have q3 := HZ.out.f.f3
  have q4 := HZ.out.f.f4
  have HZ1 := Lib.hid (((((HZ.out.put0 (.slice i0 3 j0)).put1 (.slice i1 3 j1)).put2 (.slice i2 3 j2)).put3 (.slice i3 3 j3)).put4 (.slice i4 1 j4))
  have t0 := HZ.out.t
  have HO := Lib.hid (((((ho.setZone t0 0 (.slice i0 3 j0)).setZone (type_set t0 ⟨G, 0, none⟩ (.slice i0 3 j0)) 1 (.slice i1 3 j1)).setZone (type_set (type_set t0 ⟨G, 0, none⟩ (.slice i0 3 j0)) ⟨G, 1, none⟩ (.slice i1 3 j1)) 2 (.slice i2 3 j2)).setZone (type_set (type_set (type_set t0 ⟨G, 0, none⟩ (.slice i0 3 j0)) ⟨G, 1, none⟩ (.slice i1 3 j1)) ⟨G, 2, none⟩ (.slice i2 3 j2)) 3 (.slice i3 3 j3)).setZone (type_set (type_set (type_set (type_set t0 ⟨G, 0, none⟩ (.slice i0 3 j0)) ⟨G, 1, none⟩ (.slice i1 3 j1)) ⟨G, 2, none⟩ (.slice i2 3 j2)) ⟨G, 3, none⟩ (.slice i3 3 j3)) 4 (.slice i4 1 j4)).isIn
  have HB1 : Hid (Below w.heap.size w (((((v2.setCell ⟨G, 0, none⟩ (.slice i0 3 j0)).setCell ⟨G, 1, none⟩ (.slice i1 3 j1)).setCell ⟨G, 2, none⟩ (.slice i2 3 j2)).setCell ⟨G, 3, none⟩ (.slice i3 3 j3)).setCell ⟨G, 4, none⟩ (.slice i4 1 j4))) := bel_set (bel_set (bel_set (bel_set (bel_set HB.out (b := G) (o := 0) HT.out _) (b := G) (o := 1) HT.out _) (b := G) (o := 2) HT.out _) (b := G) (o := 3) HT.out _) (b := G) (o := 4) HT.out _
  clear ho t0
  go_upto_region 5 with (fail)
  clear k0 k1 k2 k3 k4 q0 q1 q2 q3 q4
  replace HZ := HZ1
  replace HB := HB1
  clear HZ1 HB1
  generalize (((((v2.setCell ⟨G, 0, none⟩ (.slice i0 3 j0)).setCell ⟨G, 1, none⟩ (.slice i1 3 j1)).setCell ⟨G, 2, none⟩ (.slice i2 3 j2)).setCell ⟨G, 3, none⟩ (.slice i3 3 j3)).setCell ⟨G, 4, none⟩ (.slice i4 1 j4)) = W2 at *
  have k0 := HZ.out.b.c0
  have k1 := HZ.out.b.c1
  have k2 := HZ.out.b.c2
  have k3 := HZ.out.b.c3
  have k4 := HZ.out.b.c4
  have q0 := HZ.out.f.f0
  have q1 := HZ.out.f.f1
  have q2 := HZ.out.f.f2
  have q3 := HZ.out.f.f3
  have q4 := HZ.out.f.f4
  obtain ⟨g, off, rfl, x0, x1⟩ := HO.out.r1.spot (i := 1) (p := ⟨20, 0⟩) rfl
  dsimp only at x0 x1
  rw [Nat.one_mul] at x0 x1
  clear k0 k2 k3 k4 q0 q1 q2 q3 q4
  go_wp2_with fail
  refine (HRD.out _).mono ?_
  rintro e w9 ⟨rfl, hb⟩
  have HB9 := Lib.hid (bel_next HB.out hb)
  clear hb
  go_wp2_with fail
  go_ret
  exact ⟨rfl, HB9.out⟩

end Go.Proofs.Ytnoadceeenioeaa
