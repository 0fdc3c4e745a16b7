/-
  The walk of GstateKeeps: it answers true for every zone and every axis, and changes nothing that was there.
-/
import Derived.Test.YtnoadceeenioeaaZkp
namespace Go.Proofs.Ytnoadceeenioeaa
open Go.RowKit Go.PlainAid
set_option linter.unusedSimpArgs false
set_option linter.unusedVariables false

/-- What one round reads. -/
structure KpW (V : World) (h g : Nat) (v0 v1 v2 v3 u0 u1 u2 u3 : Value) (b0 o0 b1 o1 b2 o2 b3 o3 b4 o4 b5 o5 b6 o6 b7 o7 i : Nat) (s r t : Sp) (m k : Bool) : Prop where
  x0 : V.cell? ⟨h, 0, none⟩ = some (v0)
  y0 : V.cell? ⟨g, 0, none⟩ = some (u0)
  x1 : V.cell? ⟨h, 1, none⟩ = some (v1)
  y1 : V.cell? ⟨g, 1, none⟩ = some (u1)
  x2 : V.cell? ⟨h, 2, none⟩ = some (v2)
  y2 : V.cell? ⟨g, 2, none⟩ = some (u2)
  x3 : V.cell? ⟨h, 3, none⟩ = some (v3)
  y3 : V.cell? ⟨g, 3, none⟩ = some (u3)
  zcx : V.cell? ⟨b0, o0 + i * 2, none⟩ = some (.int .i64 s.x)
  zcy : V.cell? ⟨b0, o0 + i * 2 + 1, none⟩ = some (.int .i64 s.y)
  scx : V.cell? ⟨b1, o1 + i * 2, none⟩ = some (.int .i64 r.x)
  scy : V.cell? ⟨b1, o1 + i * 2 + 1, none⟩ = some (.int .i64 r.y)
  zox : V.cell? ⟨b2, o2 + i * 2, none⟩ = some (.int .i64 t.x)
  zoy : V.cell? ⟨b2, o2 + i * 2 + 1, none⟩ = some (.int .i64 t.y)
  sox : V.cell? ⟨b3, o3 + i * 2, none⟩ = some (.int .i64 t.x)
  soy : V.cell? ⟨b3, o3 + i * 2 + 1, none⟩ = some (.int .i64 t.y)
  zx : V.cell? ⟨b4, o4 + i, none⟩ = some (.bool m)
  sx : V.cell? ⟨b5, o5 + i, none⟩ = some (.bool m)
  zy : V.cell? ⟨b6, o6 + i, none⟩ = some (.bool k)
  sy : V.cell? ⟨b7, o7 + i, none⟩ = some (.bool k)
theorem KpW.below {V V' : World} {h g : Nat} {v0 v1 v2 v3 u0 u1 u2 u3 : Value} {b0 o0 b1 o1 b2 o2 b3 o3 b4 o4 b5 o5 b6 o6 b7 o7 i : Nat} {s r t : Sp} {m k : Bool} (H : KpW V h g v0 v1 v2 v3 u0 u1 u2 u3 b0 o0 b1 o1 b2 o2 b3 o3 b4 o4 b5 o5 b6 o6 b7 o7 i s r t m k) (hb : Below V.heap.size V V') : KpW V' h g v0 v1 v2 v3 u0 u1 u2 u3 b0 o0 b1 o1 b2 o2 b3 o3 b4 o4 b5 o5 b6 o6 b7 o7 i s r t m k :=
  ⟨keepC hb H.x0, keepC hb H.y0, keepC hb H.x1, keepC hb H.y1, keepC hb H.x2, keepC hb H.y2, keepC hb H.x3, keepC hb H.y3, keepC hb H.zcx, keepC hb H.zcy, keepC hb H.scx, keepC hb H.scy, keepC hb H.zox, keepC hb H.zoy, keepC hb H.sox, keepC hb H.soy, keepC hb H.zx, keepC hb H.sx, keepC hb H.zy, keepC hb H.sy⟩

namespace gstateKeeps
set_option maxRecDepth 20000 in
set_option maxHeartbeats 16000000 in
theorem walk (Z : Zn) (a0 a1 a2 a3 a4 : Option Addr) (c0 c1 c2 c3 c4 : Nat) (axis : Int) (w : World) (hz : ZIn w Z a0 a1 a2 a3 a4) (hl : ZLong Z) (hw1 : (Lit.int .i64 axis).wf = true) :
    Calls Try.prog 7 #[.agg #[.slice a0 Z.org.length c0, .slice a1 Z.cur.length c1, .slice a2 Z.tx.length c2, .slice a3 Z.ty.length c3, .slice a4 Z.ends.length c4], .int .i64 axis] w fun e w' => e = .returned (.bool true) ∧ Below w.heap.size w w' := by
  obtain ⟨h, HH⟩ : ∃ h, Hid (w.heap.size = h) := ⟨_, rfl⟩
  obtain ⟨⟨S, en⟩, HR⟩ : ∃ R, Hid (smoothZ Z axis = R) := ⟨_, rfl⟩
  have HRL : Hid (ZLong S) := by have := smoothZ_long hl axis; rw [HR.out] at this; exact this
  have HLG := Lib.hid hl
  have HX := Lib.hid (bxW_new w (.slice a0 Z.org.length c0) (.slice a1 Z.cur.length c1) (.slice a2 Z.tx.length c2) (.slice a3 Z.ty.length c3) (.slice a4 Z.ends.length c4))
  have HB : Hid (Below w.heap.size w (w.alloc (.cells #[.slice a0 Z.org.length c0, .slice a1 Z.cur.length c1, .slice a2 Z.tx.length c2, .slice a3 Z.ty.length c3, .slice a4 Z.ends.length c4] 31))) := bel_alloc (Below.refl _ _) _
  have HZ := Lib.hid (hz.below HB.out)
  rw [HH.out] at HX
  clear hz hl hw1
  go_enter Try.func7, Try.ntmps7
  go_wp2_with fail
  rw [HH.out]
  generalize (w.alloc (.cells #[.slice a0 Z.org.length c0, .slice a1 Z.cur.length c1, .slice a2 Z.tx.length c2, .slice a3 Z.ty.length c3, .slice a4 Z.ends.length c4] 31)) = W at *
  refine (alive_c _).mono ?_
  rintro e w1 ⟨rfl, hb⟩
  replace HX := Lib.hid (HX.out.below hb)
  replace HZ := Lib.hid (HZ.out.below hb)
  replace HB := Lib.hid (bel_next HB.out hb)
  clear hb
  have z0 := HX.out.c0
  have z1 := HX.out.c1
  have z2 := HX.out.c2
  have z3 := HX.out.c3
  have z4 := HX.out.c4
  go_wp2_with fail
  refine (copyZ_c Z a0 a1 a2 a3 a4 c0 c1 c2 c3 c4 _ HZ.out HLG.out).mono ?_
  rintro e w2 ⟨b0, b1, b2, b3, b4, d0, d1, d2, d3, d4, rfl, ho, hb⟩
  replace HX := Lib.hid (HX.out.below hb)
  replace HZ := Lib.hid (HZ.out.below hb)
  replace HB := Lib.hid (bel_next HB.out hb)
  have HO := Lib.hid ho.isIn
  clear ho hb z0 z1 z2 z3 z4
  simp only [zv]
  go_wp2_with fail
  have HP := Lib.hid (smooth_c Z b0 b1 b2 b3 b4 d0 d1 d2 d3 d4 axis w2 HO.out HLG.out)
  rw [HR.out] at HP
  refine (HP.out).mono ?_
  rintro e w3 ⟨e0, e1, e2, e3, e4, f0, f1, f2, f3, f4, rfl, ho, hb⟩
  replace HX := Lib.hid (HX.out.below hb)
  replace HZ := Lib.hid (HZ.out.below hb)
  replace HB := Lib.hid (bel_next HB.out hb)
  have HW := Lib.hid ho.isIn
  clear ho hb HP HO
  simp only [zv]
  have hb := bel_alloc (Below.refl w3.heap.size w3) (.cells #[.slice e0 S.org.length f0, .slice e1 S.cur.length f1, .slice e2 S.tx.length f2, .slice e3 S.ty.length f3, .slice e4 S.ends.length f4] 31)
  replace HX := Lib.hid (HX.out.below hb)
  replace HZ := Lib.hid (HZ.out.below hb)
  replace HW := Lib.hid (HW.out.below hb)
  replace HB := Lib.hid (bel_next HB.out hb)
  have HWX := Lib.hid (bxW_new w3 (.slice e0 S.org.length f0) (.slice e1 S.cur.length f1) (.slice e2 S.tx.length f2) (.slice e3 S.ty.length f3) (.slice e4 S.ends.length f4))
  clear hb
  obtain ⟨Wb, HWb⟩ : ∃ g, Hid (w3.heap.size = g) := ⟨_, rfl⟩
  rw [HWb.out] at HWX
  go_upto_region 4 with (fail)
  rw [HWb.out]
  generalize (w3.alloc (.cells #[.slice e0 S.org.length f0, .slice e1 S.cur.length f1, .slice e2 S.tx.length f2, .slice e3 S.ty.length f3, .slice e4 S.ends.length f4] 31)) = W2 at *
  by_cases hen : en = 0
  case neg =>
    have HSC : Hid (S.cur.length = 0) := by rw [Hid, smoothZ_no HR.out hen]; rfl
    rw [HSC.out] at HWX
    have u1 := HWX.out.c1
    have HEN := Lib.hid hen
    go_wp2_with fail
    go_ret
    exact ⟨rfl, HB.out⟩
  case pos =>
  subst hen
  have HK := Lib.hid (keep_of HR.out)
  have HRS : Hid (smoothZ S axis = (S, 0)) := HK.out.again
  have u0 := HWX.out.c0
  have u1 := HWX.out.c1
  have u2 := HWX.out.c2
  have u3 := HWX.out.c3
  have u4 := HWX.out.c4
  go_wp2_with fail
  refine (copyZ_c S e0 e1 e2 e3 e4 f0 f1 f2 f3 f4 _ HW.out HRL.out).mono ?_
  rintro e w2 ⟨b0, b1, b2, b3, b4, d0, d1, d2, d3, d4, rfl, ho, hb⟩
  replace HX := Lib.hid (HX.out.below hb)
  replace HZ := Lib.hid (HZ.out.below hb)
  replace HW := Lib.hid (HW.out.below hb)
  replace HWX := Lib.hid (HWX.out.below hb)
  replace HB := Lib.hid (bel_next HB.out hb)
  have HO := Lib.hid ho.isIn
  clear ho hb u0 u1 u2 u3 u4
  simp only [zv]
  go_wp2_with fail
  have HP := Lib.hid (smooth_c S b0 b1 b2 b3 b4 d0 d1 d2 d3 d4 axis w2 HO.out HRL.out)
  rw [HRS.out] at HP
  refine (HP.out).mono ?_
  rintro e w3 ⟨p0, p1, p2, p3, p4, q0, q1, q2, q3, q4, rfl, ho, hb⟩
  replace HX := Lib.hid (HX.out.below hb)
  replace HZ := Lib.hid (HZ.out.below hb)
  replace HW := Lib.hid (HW.out.below hb)
  replace HWX := Lib.hid (HWX.out.below hb)
  replace HB := Lib.hid (bel_next HB.out hb)
  have HG := Lib.hid ho.isIn
  clear ho hb HP HO
  simp only [zv]
  have hb := bel_alloc (Below.refl w3.heap.size w3) (.cells #[.slice p0 S.org.length q0, .slice p1 S.cur.length q1, .slice p2 S.tx.length q2, .slice p3 S.ty.length q3, .slice p4 S.ends.length q4] 31)
  replace HX := Lib.hid (HX.out.below hb)
  replace HZ := Lib.hid (HZ.out.below hb)
  replace HW := Lib.hid (HW.out.below hb)
  replace HWX := Lib.hid (HWX.out.below hb)
  replace HG := Lib.hid (HG.out.below hb)
  replace HB := Lib.hid (bel_next HB.out hb)
  have HGX := Lib.hid (bxW_new w3 (.slice p0 S.org.length q0) (.slice p1 S.cur.length q1) (.slice p2 S.tx.length q2) (.slice p3 S.ty.length q3) (.slice p4 S.ends.length q4))
  clear hb
  obtain ⟨Gb, HGb⟩ : ∃ g, Hid (w3.heap.size = g) := ⟨_, rfl⟩
  rw [HGb.out] at HGX
  go_upto_region 7 with (fail)
  rw [HGb.out]
  generalize (w3.alloc (.cells #[.slice p0 S.org.length q0, .slice p1 S.cur.length q1, .slice p2 S.tx.length q2, .slice p3 S.ty.length q3, .slice p4 S.ends.length q4] 31)) = W3 at *
  have u0 := HWX.out.c0
  have u1 := HWX.out.c1
  have u2 := HWX.out.c2
  have u3 := HWX.out.c3
  have u4 := HWX.out.c4
  have k0 := HGX.out.c0
  have k1 := HGX.out.c1
  have k2 := HGX.out.c2
  have k3 := HGX.out.c3
  have k4 := HGX.out.c4
  go_wp2_with fail
  have HSM := Lib.hid (same_c S e0 e1 e2 e3 e4 p0 p1 p2 p3 p4 f0 f1 f2 f3 f4 q0 q1 q2 q3 q4 W3 HW.out HG.out HRL.out)
  refine (HSM.out).mono ?_
  rintro e w4 ⟨rfl, hb⟩
  replace HX := Lib.hid (HX.out.below hb)
  replace HZ := Lib.hid (HZ.out.below hb)
  replace HW := Lib.hid (HW.out.below hb)
  replace HWX := Lib.hid (HWX.out.below hb)
  replace HG := Lib.hid (HG.out.below hb)
  replace HGX := Lib.hid (HGX.out.below hb)
  replace HB := Lib.hid (bel_next HB.out hb)
  clear hb HSM HG HGX HGb u0 u1 u2 u3 u4 k0 k1 k2 k3 k4
  obtain ⟨n, HN⟩ : ∃ n, Hid (Z.cur.length = n) := ⟨_, rfl⟩
  have HSN : Hid (S.cur.length = n) := by rw [Hid, HK.out.len.2.2.2.1]; exact HN.out
  have HN4 : Hid (n ≤ 4096) := by have := HK.out.len; have := HN.out; unfold Hid; omega
  have u1 := HWX.out.c1
  have z1 := HX.out.c1
  rw [HSN.out] at u1
  rw [HN.out] at z1
  go_wp2_with fail
  clear u1 z1
  rcases HK.out.ax with hax | hax
  · subst hax
    go_loopw [9, 52] (fun u x wr => ∃ i : Nat, i ≤ n ∧ x = .int .i64 i ∧ Hid (BxW wr h (.slice a0 Z.org.length c0) (.slice a1 Z.cur.length c1) (.slice a2 Z.tx.length c2) (.slice a3 Z.ty.length c3) (.slice a4 Z.ends.length c4)) ∧ Hid (BxW wr Wb (.slice e0 S.org.length f0) (.slice e1 S.cur.length f1) (.slice e2 S.tx.length f2) (.slice e3 S.ty.length f3) (.slice e4 S.ends.length f4)) ∧ Hid (ZIn wr Z a0 a1 a2 a3 a4) ∧ Hid (ZIn wr S e0 e1 e2 e3 e4) ∧ Hid (Below w.heap.size w wr)) (fun _ x _ => n - (intOf x).toNat)
    case atStart => exact ⟨0, Nat.zero_le _, rfl, HX, HWX, HZ, HW, HB⟩
    case round =>
      clear HX HWX HZ HW HB
      obtain ⟨i, hi, rfl, HX, HWX, HZ, HW, HB⟩ := hrel
      by_cases hlt : i < n
      · have hlt' : (i : Int) < (n : Int) := by omega
        have hi0 : (0 : Int) ≤ (i : Int) := by omega
        have HLN := HK.out.len
        have hn := HN.out
        have hnl : Z.org.length = n ∧ Z.tx.length = n ∧ Z.ty.length = n := by omega
        have hsl : S.org.length = n ∧ S.tx.length = n ∧ S.ty.length = n := by rw [HK.out.org, HK.out.tx, HK.out.ty]; exact hnl
        obtain ⟨s, hs⟩ := get_of (show i < Z.cur.length by omega)
        obtain ⟨r, hr⟩ := get_of (show i < S.cur.length by rw [HSN.out]; exact hlt)
        obtain ⟨t, ht⟩ := get_of (show i < Z.org.length by omega)
        obtain ⟨m, hm⟩ := get_of (show i < Z.tx.length by omega)
        obtain ⟨k, hk⟩ := get_of (show i < Z.ty.length by omega)
        obtain ⟨b0, o0, rfl, zcx, zcy⟩ := HZ.out.r1.spot hs
        obtain ⟨b1, o1, rfl, scx, scy⟩ := HW.out.r1.spot hr
        obtain ⟨b2, o2, rfl, zox, zoy⟩ := HZ.out.r0.spot ht
        obtain ⟨b3, o3, rfl, sox, soy⟩ := HW.out.r0.spot (i := i) (p := t) (by rw [HK.out.org]; exact ht)
        obtain ⟨b4, o4, rfl, zx⟩ := HZ.out.r2.flag hm
        obtain ⟨b5, o5, rfl, sx⟩ := HW.out.r2.flag (i := i) (p := m) (by rw [HK.out.tx]; exact hm)
        obtain ⟨b6, o6, rfl, zy⟩ := HZ.out.r3.flag hk
        obtain ⟨b7, o7, rfl, sy⟩ := HW.out.r3.flag (i := i) (p := k) (by rw [HK.out.ty]; exact hk)
        have HC : Hid (KpW wr h Wb (.slice (some ⟨b2, o2, none⟩) n c0) (.slice (some ⟨b0, o0, none⟩) n c1) (.slice (some ⟨b4, o4, none⟩) n c2) (.slice (some ⟨b6, o6, none⟩) n c3) (.slice (some ⟨b3, o3, none⟩) n f0) (.slice (some ⟨b1, o1, none⟩) n f1) (.slice (some ⟨b5, o5, none⟩) n f2) (.slice (some ⟨b7, o7, none⟩) n f3) b0 o0 b1 o1 b2 o2 b3 o3 b4 o4 b5 o5 b6 o6 b7 o7 i s r t m k) := ⟨by rw [← hnl.1]; exact HX.out.c0, by rw [← hsl.1]; exact HWX.out.c0, by rw [← HN.out]; exact HX.out.c1, by rw [← HSN.out]; exact HWX.out.c1, by rw [← hnl.2.1]; exact HX.out.c2, by rw [← hsl.2.1]; exact HWX.out.c2, by rw [← hnl.2.2]; exact HX.out.c3, by rw [← hsl.2.2]; exact HWX.out.c3, zcx, zcy, scx, scy, zox, zoy, sox, soy, zx, sx, zy, sy⟩
        clear zcx zcy scx scy zox zoy sox soy zx sx zy sy
        obtain ⟨gv, HGV⟩ : ∃ gv, Hid (axG 1 s = gv) := ⟨_, rfl⟩
        have HG1 : Hid (∀ V, Calls Try.prog 26 #[.agg #[.int .i64 r.x, .int .i64 r.y], .int .i64 1] V fun e w' => e = .returned (.int .i64 gv) ∧ Below V.heap.size V w') := fun V => by have := get_c r 1 V; rwa [show axG 1 r = gv from (HK.out.oth i s r hs hr).trans HGV.out] at this
        have HG2 : Hid (∀ V, Calls Try.prog 26 #[.agg #[.int .i64 s.x, .int .i64 s.y], .int .i64 1] V fun e w' => e = .returned (.int .i64 gv) ∧ Below V.heap.size V w') := fun V => by have := get_c s 1 V; rwa [HGV.out] at this
        have HTC : Hid (m = true → r = s) := fun e => by subst e; have := HK.out.tch i hm; rw [hs, hr] at this; cases this; rfl
        have HTO : Hid (∀ V, ZIn V Z (some ⟨b2, o2, none⟩) (some ⟨b0, o0, none⟩) (some ⟨b4, o4, none⟩) (some ⟨b6, o6, none⟩) a4 → Calls Try.prog 27 #[.agg #[.slice (some ⟨b2, o2, none⟩) n c0, .slice (some ⟨b0, o0, none⟩) n c1, .slice (some ⟨b4, o4, none⟩) n c2, .slice (some ⟨b6, o6, none⟩) n c3, .slice a4 Z.ends.length c4], .int .i64 0, .int .i64 (i : Int)] V fun e w' => e = .returned (.bool m) ∧ Below V.heap.size V w') := fun V hV => by
          have := touched2_c Z _ _ _ _ _ c0 c1 c2 c3 c4 0 i m V hV hm (by have := HN4.out; simp [Zn.tch]; omega)
          rwa [hnl.1, hn, hnl.2.1, hnl.2.2] at this
        have HLT := Lib.hid hlt
        have HX3 := Lib.hid (next64 (j := i) (by have := HN4.out; omega))
        clear hs hr ht hm hk hlt hi hn hnl hsl HLN
        have T1 := True.intro
        have T2 := True.intro
        go_wp2_with fail
        replace HX := Lib.hid (HX.out.below (Below.refl _ _).drew)
        replace HWX := Lib.hid (HWX.out.below (Below.refl _ _).drew)
        replace HZ := Lib.hid (HZ.out.below (Below.refl _ _).drew)
        replace HW := Lib.hid (HW.out.below (Below.refl _ _).drew)
        replace HC := Lib.hid (HC.out.below (Below.refl _ _).drew)
        replace HB := Lib.hid HB.out.drew
        go_region_held3 (fun V => V.cell? ⟨h, 0, none⟩ = some ((.slice (some ⟨b2, o2, none⟩) n c0)) ∧ V.cell? ⟨Wb, 0, none⟩ = some ((.slice (some ⟨b3, o3, none⟩) n f0)) ∧ V.cell? ⟨h, 1, none⟩ = some ((.slice (some ⟨b0, o0, none⟩) n c1)) ∧ V.cell? ⟨Wb, 1, none⟩ = some ((.slice (some ⟨b1, o1, none⟩) n f1)) ∧ V.cell? ⟨h, 2, none⟩ = some ((.slice (some ⟨b4, o4, none⟩) n c2)) ∧ V.cell? ⟨Wb, 2, none⟩ = some ((.slice (some ⟨b5, o5, none⟩) n f2)) ∧ V.cell? ⟨h, 3, none⟩ = some ((.slice (some ⟨b6, o6, none⟩) n c3)) ∧ V.cell? ⟨Wb, 3, none⟩ = some ((.slice (some ⟨b7, o7, none⟩) n f3)) ∧ V.cell? ⟨b0, o0 + i * 2, none⟩ = some (.int .i64 s.x) ∧ V.cell? ⟨b0, o0 + i * 2 + 1, none⟩ = some (.int .i64 s.y) ∧ V.cell? ⟨b1, o1 + i * 2, none⟩ = some (.int .i64 r.x) ∧ V.cell? ⟨b1, o1 + i * 2 + 1, none⟩ = some (.int .i64 r.y) ∧ V.cell? ⟨b2, o2 + i * 2, none⟩ = some (.int .i64 t.x) ∧ V.cell? ⟨b2, o2 + i * 2 + 1, none⟩ = some (.int .i64 t.y) ∧ V.cell? ⟨b3, o3 + i * 2, none⟩ = some (.int .i64 t.x) ∧ V.cell? ⟨b3, o3 + i * 2 + 1, none⟩ = some (.int .i64 t.y) ∧ V.cell? ⟨b4, o4 + i, none⟩ = some (.bool m) ∧ V.cell? ⟨b5, o5 + i, none⟩ = some (.bool m) ∧ V.cell? ⟨b6, o6 + i, none⟩ = some (.bool k) ∧ V.cell? ⟨b7, o7 + i, none⟩ = some (.bool k))
          (with_reducible exact ⟨HC.out.x0, HC.out.y0, HC.out.x1, HC.out.y1, HC.out.x2, HC.out.y2, HC.out.x3, HC.out.y3, HC.out.zcx, HC.out.zcy, HC.out.scx, HC.out.scy, HC.out.zox, HC.out.zoy, HC.out.sox, HC.out.soy, HC.out.zx, HC.out.sx, HC.out.zy, HC.out.sy⟩)
          (first
            | (go_at_call 26; have _q := T1; refine (HG1.out _).mono ?_; rintro e w5 ⟨rfl, hb⟩; replace HX := Lib.hid (HX.out.below hb); replace HWX := Lib.hid (HWX.out.below hb); replace HZ := Lib.hid (HZ.out.below hb); replace HW := Lib.hid (HW.out.below hb); replace HC := Lib.hid (HC.out.below hb); replace HB := Lib.hid (bel_next HB.out hb); clear hb _q T1)
            | (go_at_call 26; have _q := T2; refine (HG2.out _).mono ?_; rintro e w6 ⟨rfl, hb⟩; replace HX := Lib.hid (HX.out.below hb); replace HWX := Lib.hid (HWX.out.below hb); replace HZ := Lib.hid (HZ.out.below hb); replace HW := Lib.hid (HW.out.below hb); replace HC := Lib.hid (HC.out.below hb); replace HB := Lib.hid (bel_next HB.out hb); clear hb _q T2))
        clear HG1 HG2 HGV
        cases m
        case false =>
          go_wp2_with fail
          replace HX := Lib.hid (HX.out.below (Below.refl _ _).drew)
          replace HWX := Lib.hid (HWX.out.below (Below.refl _ _).drew)
          replace HZ := Lib.hid (HZ.out.below (Below.refl _ _).drew)
          replace HW := Lib.hid (HW.out.below (Below.refl _ _).drew)
          replace HC := Lib.hid (HC.out.below (Below.refl _ _).drew)
          replace HB := Lib.hid HB.out.drew
          refine wp_region_held_drew (S := fun V => V.cell? ⟨h, 0, none⟩ = some (.slice (some ⟨b2, o2, none⟩) n c0) ∧ V.cell? ⟨h, 1, none⟩ = some (.slice (some ⟨b0, o0, none⟩) n c1) ∧ V.cell? ⟨h, 2, none⟩ = some (.slice (some ⟨b4, o4, none⟩) n c2) ∧ V.cell? ⟨h, 3, none⟩ = some (.slice (some ⟨b6, o6, none⟩) n c3) ∧ V.cell? ⟨h, 4, none⟩ = some (.slice a4 Z.ends.length c4)) (by kernel_rfl) ⟨HC.out.x0, HC.out.x1, HC.out.x2, HC.out.x3, HX.out.c4⟩ (fun hH => ?_)
          refine wpAnyH_take (i := 0) (v := (.agg #[.slice (some ⟨b2, o2, none⟩) n c0, .slice (some ⟨b0, o0, none⟩) n c1, .slice (some ⟨b4, o4, none⟩) n c2, .slice (some ⟨b6, o6, none⟩) n c3, .slice a4 Z.ends.length c4])) rfl (by kernel_rfl) (by kernel_rfl) (by kernel_rfl) (fun _ _ _ h => h) (Or.inl ⟨by rfl, fun V hV => by obtain ⟨h0, h1, h2, h3, h4⟩ := hV; go_simp⟩) hH ?_
          try simp only [List.getElem_toArray, List.getElem_cons_succ, List.getElem_cons_zero, Act.put, List.setIfInBounds_toArray, List.set_cons_zero, List.set_cons_succ]
          refine wpAnyH_take (i := 1) (v := (.int .i64 0)) rfl (by kernel_rfl) (by kernel_rfl) (by kernel_rfl) (fun _ _ _ h => h) (Or.inl ⟨by rfl, fun V hV => by go_simp⟩) hH ?_
          try simp only [List.getElem_toArray, List.getElem_cons_succ, List.getElem_cons_zero, Act.put, List.setIfInBounds_toArray, List.set_cons_zero, List.set_cons_succ]
          refine wpAnyH_take (i := 2) (v := (.int .i64 (i : Int))) rfl (by kernel_rfl) (by kernel_rfl) (by kernel_rfl) (fun _ _ _ h => h) (Or.inl ⟨by rfl, fun V hV => by go_simp⟩) hH ?_
          try simp only [List.getElem_toArray, List.getElem_cons_succ, List.getElem_cons_zero, Act.put, List.setIfInBounds_toArray, List.set_cons_zero, List.set_cons_succ]
          refine wpAnyH_ready (rs := [3]) (by kernel_rfl) (by simp) ?_
          refine AllReadyH.cons rfl (fun K hK => ?_) AllReadyH.nil
          go_simp
          refine (HTO.out _ HZ.out).mono ?_
          rintro e w7 ⟨rfl, hb⟩
          replace HX := Lib.hid (HX.out.below hb)
          replace HWX := Lib.hid (HWX.out.below hb)
          replace HZ := Lib.hid (HZ.out.below hb)
          replace HW := Lib.hid (HW.out.below hb)
          replace HC := Lib.hid (HC.out.below hb)
          replace HB := Lib.hid (bel_next HB.out hb)
          clear hb
          refine hK.out _ _ ⟨HC.out.x0, HC.out.x1, HC.out.x2, HC.out.x3, HX.out.c4⟩ (fun hH => ?_)
          clear hK K
          try simp only [List.getElem_toArray, List.getElem_cons_succ, List.getElem_cons_zero, Act.put, List.setIfInBounds_toArray, List.set_cons_zero, List.set_cons_succ]
          refine wpAnyH_take (i := 4) (v := (.bool false)) rfl (by kernel_rfl) (by kernel_rfl) (by kernel_rfl) (fun _ _ _ h => h) (Or.inl ⟨by rfl, fun V hV => by go_simp⟩) hH ?_
          try simp only [List.getElem_toArray, List.getElem_cons_succ, List.getElem_cons_zero, Act.put, List.setIfInBounds_toArray, List.set_cons_zero, List.set_cons_succ]
          refine wpAnyH_take (i := 5) (v := undef) rfl (by kernel_rfl) (by kernel_rfl) (by kernel_rfl) (fun _ _ _ h => h) (Or.inr ⟨by rfl, rfl⟩) hH ?_
          try simp only [List.getElem_toArray, List.getElem_cons_succ, List.getElem_cons_zero, Act.put, List.setIfInBounds_toArray, List.set_cons_zero, List.set_cons_succ]
          refine wpAnyH_take (i := 6) (v := undef) rfl (by kernel_rfl) (by kernel_rfl) (by kernel_rfl) (fun _ _ _ h => h) (Or.inr ⟨by rfl, rfl⟩) hH ?_
          try simp only [List.getElem_toArray, List.getElem_cons_succ, List.getElem_cons_zero, Act.put, List.setIfInBounds_toArray, List.set_cons_zero, List.set_cons_succ]
          refine wpAnyH_take (i := 7) (v := undef) rfl (by kernel_rfl) (by kernel_rfl) (by kernel_rfl) (fun _ _ _ h => h) (Or.inr ⟨by rfl, rfl⟩) hH ?_
          try simp only [List.getElem_toArray, List.getElem_cons_succ, List.getElem_cons_zero, Act.put, List.setIfInBounds_toArray, List.set_cons_zero, List.set_cons_succ]
          refine wpAnyH_take (i := 8) (v := undef) rfl (by kernel_rfl) (by kernel_rfl) (by kernel_rfl) (fun _ _ _ h => h) (Or.inr ⟨by rfl, rfl⟩) hH ?_
          try simp only [List.getElem_toArray, List.getElem_cons_succ, List.getElem_cons_zero, Act.put, List.setIfInBounds_toArray, List.set_cons_zero, List.set_cons_succ]
          refine wpAnyH_take (i := 9) (v := undef) rfl (by kernel_rfl) (by kernel_rfl) (by kernel_rfl) (fun _ _ _ h => h) (Or.inr ⟨by rfl, rfl⟩) hH ?_
          try simp only [List.getElem_toArray, List.getElem_cons_succ, List.getElem_cons_zero, Act.put, List.setIfInBounds_toArray, List.set_cons_zero, List.set_cons_succ]
          refine wpAnyH_take (i := 10) (v := undef) rfl (by kernel_rfl) (by kernel_rfl) (by kernel_rfl) (fun _ _ _ h => h) (Or.inr ⟨by rfl, rfl⟩) hH ?_
          try simp only [List.getElem_toArray, List.getElem_cons_succ, List.getElem_cons_zero, Act.put, List.setIfInBounds_toArray, List.set_cons_zero, List.set_cons_succ]
          refine wpAnyH_take (i := 11) (v := undef) rfl (by kernel_rfl) (by kernel_rfl) (by kernel_rfl) (fun _ _ _ h => h) (Or.inr ⟨by rfl, rfl⟩) hH ?_
          try simp only [List.getElem_toArray, List.getElem_cons_succ, List.getElem_cons_zero, Act.put, List.setIfInBounds_toArray, List.set_cons_zero, List.set_cons_succ]
          refine wpAnyH_take (i := 12) (v := undef) rfl (by kernel_rfl) (by kernel_rfl) (by kernel_rfl) (fun _ _ _ h => h) (Or.inr ⟨by rfl, rfl⟩) hH ?_
          try simp only [List.getElem_toArray, List.getElem_cons_succ, List.getElem_cons_zero, Act.put, List.setIfInBounds_toArray, List.set_cons_zero, List.set_cons_succ]
          refine wpAnyH_take (i := 13) (v := undef) rfl (by kernel_rfl) (by kernel_rfl) (by kernel_rfl) (fun _ _ _ h => h) (Or.inr ⟨by rfl, rfl⟩) hH ?_
          try simp only [List.getElem_toArray, List.getElem_cons_succ, List.getElem_cons_zero, Act.put, List.setIfInBounds_toArray, List.set_cons_zero, List.set_cons_succ]
          refine wpAnyH_take (i := 14) (v := undef) rfl (by kernel_rfl) (by kernel_rfl) (by kernel_rfl) (fun _ _ _ h => h) (Or.inr ⟨by rfl, rfl⟩) hH ?_
          try simp only [List.getElem_toArray, List.getElem_cons_succ, List.getElem_cons_zero, Act.put, List.setIfInBounds_toArray, List.set_cons_zero, List.set_cons_succ]
          refine wpAnyH_take (i := 15) (v := undef) rfl (by kernel_rfl) (by kernel_rfl) (by kernel_rfl) (fun _ _ _ h => h) (Or.inr ⟨by rfl, rfl⟩) hH ?_
          try simp only [List.getElem_toArray, List.getElem_cons_succ, List.getElem_cons_zero, Act.put, List.setIfInBounds_toArray, List.set_cons_zero, List.set_cons_succ]
          refine wpAnyH_take (i := 16) (v := (.bool false)) rfl (by kernel_rfl) (by kernel_rfl) (by kernel_rfl) (fun _ _ _ h => h) (Or.inl ⟨by rfl, fun V hV => by go_simp⟩) hH ?_
          try simp only [List.getElem_toArray, List.getElem_cons_succ, List.getElem_cons_zero, Act.put, List.setIfInBounds_toArray, List.set_cons_zero, List.set_cons_succ]
          refine wpAnyH_done (by kernel_rfl) ?_ _
          clear HTO HTC HC hH
          go_wp2_with fail
          go_roundw
          case rel => exact ⟨i + 1, HLT.out, by rw [HX3.out], HX, HWX, HZ, HW, HB⟩
          case measure => rw [HX3.out]; have := HLT.out; simp only [intOf]; omega
        case true =>
          obtain rfl := HTC.out rfl
          go_wp2_with fail
          replace HX := Lib.hid (HX.out.below (Below.refl _ _).drew)
          replace HWX := Lib.hid (HWX.out.below (Below.refl _ _).drew)
          replace HZ := Lib.hid (HZ.out.below (Below.refl _ _).drew)
          replace HW := Lib.hid (HW.out.below (Below.refl _ _).drew)
          replace HC := Lib.hid (HC.out.below (Below.refl _ _).drew)
          replace HB := Lib.hid HB.out.drew
          go_region_held3 (fun V => V.cell? ⟨h, 0, none⟩ = some (.slice (some ⟨b2, o2, none⟩) n c0) ∧ V.cell? ⟨h, 1, none⟩ = some (.slice (some ⟨b0, o0, none⟩) n c1) ∧ V.cell? ⟨h, 2, none⟩ = some (.slice (some ⟨b4, o4, none⟩) n c2) ∧ V.cell? ⟨h, 3, none⟩ = some (.slice (some ⟨b6, o6, none⟩) n c3) ∧ V.cell? ⟨h, 4, none⟩ = some (.slice a4 Z.ends.length c4) ∧ V.cell? ⟨Wb, 1, none⟩ = some ((.slice (some ⟨b1, o1, none⟩) n f1)) ∧ V.cell? ⟨b0, o0 + i * 2, none⟩ = some (.int .i64 r.x) ∧ V.cell? ⟨b0, o0 + i * 2 + 1, none⟩ = some (.int .i64 r.y) ∧ V.cell? ⟨b1, o1 + i * 2, none⟩ = some (.int .i64 r.x) ∧ V.cell? ⟨b1, o1 + i * 2 + 1, none⟩ = some (.int .i64 r.y))
            (with_reducible exact ⟨HC.out.x0, HC.out.x1, HC.out.x2, HC.out.x3, HX.out.c4, HC.out.y1, HC.out.zcx, HC.out.zcy, HC.out.scx, HC.out.scy⟩)
            (first
              | (go_at_call 27; refine (HTO.out _ HZ.out).mono ?_; rintro e w7 ⟨rfl, hb⟩; replace HX := Lib.hid (HX.out.below hb); replace HWX := Lib.hid (HWX.out.below hb); replace HZ := Lib.hid (HZ.out.below hb); replace HW := Lib.hid (HW.out.below hb); replace HC := Lib.hid (HC.out.below hb); replace HB := Lib.hid (bel_next HB.out hb); clear hb))
          clear HTO HTC HC
          go_wp2_with fail
          go_roundw
          case rel => exact ⟨i + 1, HLT.out, by rw [HX3.out], HX, HWX, HZ, HW, HB⟩
          case measure => rw [HX3.out]; have := HLT.out; simp only [intOf]; omega
      · have hlt' : ¬ (i : Int) < (n : Int) := by omega
        clear hlt
        go_wp2_with fail
        go_ret
        exact ⟨rfl, HB.out⟩
  · subst hax
    go_loopw [9, 52] (fun u x wr => ∃ i : Nat, i ≤ n ∧ x = .int .i64 i ∧ Hid (BxW wr h (.slice a0 Z.org.length c0) (.slice a1 Z.cur.length c1) (.slice a2 Z.tx.length c2) (.slice a3 Z.ty.length c3) (.slice a4 Z.ends.length c4)) ∧ Hid (BxW wr Wb (.slice e0 S.org.length f0) (.slice e1 S.cur.length f1) (.slice e2 S.tx.length f2) (.slice e3 S.ty.length f3) (.slice e4 S.ends.length f4)) ∧ Hid (ZIn wr Z a0 a1 a2 a3 a4) ∧ Hid (ZIn wr S e0 e1 e2 e3 e4) ∧ Hid (Below w.heap.size w wr)) (fun _ x _ => n - (intOf x).toNat)
    case atStart => exact ⟨0, Nat.zero_le _, rfl, HX, HWX, HZ, HW, HB⟩
    case round =>
      clear HX HWX HZ HW HB
      obtain ⟨i, hi, rfl, HX, HWX, HZ, HW, HB⟩ := hrel
      by_cases hlt : i < n
      · have hlt' : (i : Int) < (n : Int) := by omega
        have hi0 : (0 : Int) ≤ (i : Int) := by omega
        have HLN := HK.out.len
        have hn := HN.out
        have hnl : Z.org.length = n ∧ Z.tx.length = n ∧ Z.ty.length = n := by omega
        have hsl : S.org.length = n ∧ S.tx.length = n ∧ S.ty.length = n := by rw [HK.out.org, HK.out.tx, HK.out.ty]; exact hnl
        obtain ⟨s, hs⟩ := get_of (show i < Z.cur.length by omega)
        obtain ⟨r, hr⟩ := get_of (show i < S.cur.length by rw [HSN.out]; exact hlt)
        obtain ⟨t, ht⟩ := get_of (show i < Z.org.length by omega)
        obtain ⟨m, hm⟩ := get_of (show i < Z.tx.length by omega)
        obtain ⟨k, hk⟩ := get_of (show i < Z.ty.length by omega)
        obtain ⟨b0, o0, rfl, zcx, zcy⟩ := HZ.out.r1.spot hs
        obtain ⟨b1, o1, rfl, scx, scy⟩ := HW.out.r1.spot hr
        obtain ⟨b2, o2, rfl, zox, zoy⟩ := HZ.out.r0.spot ht
        obtain ⟨b3, o3, rfl, sox, soy⟩ := HW.out.r0.spot (i := i) (p := t) (by rw [HK.out.org]; exact ht)
        obtain ⟨b4, o4, rfl, zx⟩ := HZ.out.r2.flag hm
        obtain ⟨b5, o5, rfl, sx⟩ := HW.out.r2.flag (i := i) (p := m) (by rw [HK.out.tx]; exact hm)
        obtain ⟨b6, o6, rfl, zy⟩ := HZ.out.r3.flag hk
        obtain ⟨b7, o7, rfl, sy⟩ := HW.out.r3.flag (i := i) (p := k) (by rw [HK.out.ty]; exact hk)
        have HC : Hid (KpW wr h Wb (.slice (some ⟨b2, o2, none⟩) n c0) (.slice (some ⟨b0, o0, none⟩) n c1) (.slice (some ⟨b4, o4, none⟩) n c2) (.slice (some ⟨b6, o6, none⟩) n c3) (.slice (some ⟨b3, o3, none⟩) n f0) (.slice (some ⟨b1, o1, none⟩) n f1) (.slice (some ⟨b5, o5, none⟩) n f2) (.slice (some ⟨b7, o7, none⟩) n f3) b0 o0 b1 o1 b2 o2 b3 o3 b4 o4 b5 o5 b6 o6 b7 o7 i s r t m k) := ⟨by rw [← hnl.1]; exact HX.out.c0, by rw [← hsl.1]; exact HWX.out.c0, by rw [← HN.out]; exact HX.out.c1, by rw [← HSN.out]; exact HWX.out.c1, by rw [← hnl.2.1]; exact HX.out.c2, by rw [← hsl.2.1]; exact HWX.out.c2, by rw [← hnl.2.2]; exact HX.out.c3, by rw [← hsl.2.2]; exact HWX.out.c3, zcx, zcy, scx, scy, zox, zoy, sox, soy, zx, sx, zy, sy⟩
        clear zcx zcy scx scy zox zoy sox soy zx sx zy sy
        obtain ⟨gv, HGV⟩ : ∃ gv, Hid (axG 0 s = gv) := ⟨_, rfl⟩
        have HG1 : Hid (∀ V, Calls Try.prog 26 #[.agg #[.int .i64 r.x, .int .i64 r.y], .int .i64 0] V fun e w' => e = .returned (.int .i64 gv) ∧ Below V.heap.size V w') := fun V => by have := get_c r 0 V; rwa [show axG 0 r = gv from (HK.out.oth i s r hs hr).trans HGV.out] at this
        have HG2 : Hid (∀ V, Calls Try.prog 26 #[.agg #[.int .i64 s.x, .int .i64 s.y], .int .i64 0] V fun e w' => e = .returned (.int .i64 gv) ∧ Below V.heap.size V w') := fun V => by have := get_c s 0 V; rwa [HGV.out] at this
        have HTC : Hid (k = true → r = s) := fun e => by subst e; have := HK.out.tch i hk; rw [hs, hr] at this; cases this; rfl
        have HTO : Hid (∀ V, ZIn V Z (some ⟨b2, o2, none⟩) (some ⟨b0, o0, none⟩) (some ⟨b4, o4, none⟩) (some ⟨b6, o6, none⟩) a4 → Calls Try.prog 27 #[.agg #[.slice (some ⟨b2, o2, none⟩) n c0, .slice (some ⟨b0, o0, none⟩) n c1, .slice (some ⟨b4, o4, none⟩) n c2, .slice (some ⟨b6, o6, none⟩) n c3, .slice a4 Z.ends.length c4], .int .i64 1, .int .i64 (i : Int)] V fun e w' => e = .returned (.bool k) ∧ Below V.heap.size V w') := fun V hV => by
          have := touched2_c Z _ _ _ _ _ c0 c1 c2 c3 c4 1 i k V hV hk (by have := HN4.out; simp [Zn.tch]; omega)
          rwa [hnl.1, hn, hnl.2.1, hnl.2.2] at this
        have HLT := Lib.hid hlt
        have HX3 := Lib.hid (next64 (j := i) (by have := HN4.out; omega))
        clear hs hr ht hm hk hlt hi hn hnl hsl HLN
        have T1 := True.intro
        have T2 := True.intro
        go_wp2_with fail
        replace HX := Lib.hid (HX.out.below (Below.refl _ _).drew)
        replace HWX := Lib.hid (HWX.out.below (Below.refl _ _).drew)
        replace HZ := Lib.hid (HZ.out.below (Below.refl _ _).drew)
        replace HW := Lib.hid (HW.out.below (Below.refl _ _).drew)
        replace HC := Lib.hid (HC.out.below (Below.refl _ _).drew)
        replace HB := Lib.hid HB.out.drew
        go_region_held3 (fun V => V.cell? ⟨h, 0, none⟩ = some ((.slice (some ⟨b2, o2, none⟩) n c0)) ∧ V.cell? ⟨Wb, 0, none⟩ = some ((.slice (some ⟨b3, o3, none⟩) n f0)) ∧ V.cell? ⟨h, 1, none⟩ = some ((.slice (some ⟨b0, o0, none⟩) n c1)) ∧ V.cell? ⟨Wb, 1, none⟩ = some ((.slice (some ⟨b1, o1, none⟩) n f1)) ∧ V.cell? ⟨h, 2, none⟩ = some ((.slice (some ⟨b4, o4, none⟩) n c2)) ∧ V.cell? ⟨Wb, 2, none⟩ = some ((.slice (some ⟨b5, o5, none⟩) n f2)) ∧ V.cell? ⟨h, 3, none⟩ = some ((.slice (some ⟨b6, o6, none⟩) n c3)) ∧ V.cell? ⟨Wb, 3, none⟩ = some ((.slice (some ⟨b7, o7, none⟩) n f3)) ∧ V.cell? ⟨b0, o0 + i * 2, none⟩ = some (.int .i64 s.x) ∧ V.cell? ⟨b0, o0 + i * 2 + 1, none⟩ = some (.int .i64 s.y) ∧ V.cell? ⟨b1, o1 + i * 2, none⟩ = some (.int .i64 r.x) ∧ V.cell? ⟨b1, o1 + i * 2 + 1, none⟩ = some (.int .i64 r.y) ∧ V.cell? ⟨b2, o2 + i * 2, none⟩ = some (.int .i64 t.x) ∧ V.cell? ⟨b2, o2 + i * 2 + 1, none⟩ = some (.int .i64 t.y) ∧ V.cell? ⟨b3, o3 + i * 2, none⟩ = some (.int .i64 t.x) ∧ V.cell? ⟨b3, o3 + i * 2 + 1, none⟩ = some (.int .i64 t.y) ∧ V.cell? ⟨b4, o4 + i, none⟩ = some (.bool m) ∧ V.cell? ⟨b5, o5 + i, none⟩ = some (.bool m) ∧ V.cell? ⟨b6, o6 + i, none⟩ = some (.bool k) ∧ V.cell? ⟨b7, o7 + i, none⟩ = some (.bool k))
          (with_reducible exact ⟨HC.out.x0, HC.out.y0, HC.out.x1, HC.out.y1, HC.out.x2, HC.out.y2, HC.out.x3, HC.out.y3, HC.out.zcx, HC.out.zcy, HC.out.scx, HC.out.scy, HC.out.zox, HC.out.zoy, HC.out.sox, HC.out.soy, HC.out.zx, HC.out.sx, HC.out.zy, HC.out.sy⟩)
          (first
            | (go_at_call 26; have _q := T1; refine (HG1.out _).mono ?_; rintro e w5 ⟨rfl, hb⟩; replace HX := Lib.hid (HX.out.below hb); replace HWX := Lib.hid (HWX.out.below hb); replace HZ := Lib.hid (HZ.out.below hb); replace HW := Lib.hid (HW.out.below hb); replace HC := Lib.hid (HC.out.below hb); replace HB := Lib.hid (bel_next HB.out hb); clear hb _q T1)
            | (go_at_call 26; have _q := T2; refine (HG2.out _).mono ?_; rintro e w6 ⟨rfl, hb⟩; replace HX := Lib.hid (HX.out.below hb); replace HWX := Lib.hid (HWX.out.below hb); replace HZ := Lib.hid (HZ.out.below hb); replace HW := Lib.hid (HW.out.below hb); replace HC := Lib.hid (HC.out.below hb); replace HB := Lib.hid (bel_next HB.out hb); clear hb _q T2))
        clear HG1 HG2 HGV
        cases k
        case false =>
          go_wp2_with fail
          replace HX := Lib.hid (HX.out.below (Below.refl _ _).drew)
          replace HWX := Lib.hid (HWX.out.below (Below.refl _ _).drew)
          replace HZ := Lib.hid (HZ.out.below (Below.refl _ _).drew)
          replace HW := Lib.hid (HW.out.below (Below.refl _ _).drew)
          replace HC := Lib.hid (HC.out.below (Below.refl _ _).drew)
          replace HB := Lib.hid HB.out.drew
          refine wp_region_held_drew (S := fun V => V.cell? ⟨h, 0, none⟩ = some (.slice (some ⟨b2, o2, none⟩) n c0) ∧ V.cell? ⟨h, 1, none⟩ = some (.slice (some ⟨b0, o0, none⟩) n c1) ∧ V.cell? ⟨h, 2, none⟩ = some (.slice (some ⟨b4, o4, none⟩) n c2) ∧ V.cell? ⟨h, 3, none⟩ = some (.slice (some ⟨b6, o6, none⟩) n c3) ∧ V.cell? ⟨h, 4, none⟩ = some (.slice a4 Z.ends.length c4)) (by kernel_rfl) ⟨HC.out.x0, HC.out.x1, HC.out.x2, HC.out.x3, HX.out.c4⟩ (fun hH => ?_)
          refine wpAnyH_take (i := 0) (v := (.agg #[.slice (some ⟨b2, o2, none⟩) n c0, .slice (some ⟨b0, o0, none⟩) n c1, .slice (some ⟨b4, o4, none⟩) n c2, .slice (some ⟨b6, o6, none⟩) n c3, .slice a4 Z.ends.length c4])) rfl (by kernel_rfl) (by kernel_rfl) (by kernel_rfl) (fun _ _ _ h => h) (Or.inl ⟨by rfl, fun V hV => by obtain ⟨h0, h1, h2, h3, h4⟩ := hV; go_simp⟩) hH ?_
          try simp only [List.getElem_toArray, List.getElem_cons_succ, List.getElem_cons_zero, Act.put, List.setIfInBounds_toArray, List.set_cons_zero, List.set_cons_succ]
          refine wpAnyH_take (i := 1) (v := (.int .i64 1)) rfl (by kernel_rfl) (by kernel_rfl) (by kernel_rfl) (fun _ _ _ h => h) (Or.inl ⟨by rfl, fun V hV => by go_simp⟩) hH ?_
          try simp only [List.getElem_toArray, List.getElem_cons_succ, List.getElem_cons_zero, Act.put, List.setIfInBounds_toArray, List.set_cons_zero, List.set_cons_succ]
          refine wpAnyH_take (i := 2) (v := (.int .i64 (i : Int))) rfl (by kernel_rfl) (by kernel_rfl) (by kernel_rfl) (fun _ _ _ h => h) (Or.inl ⟨by rfl, fun V hV => by go_simp⟩) hH ?_
          try simp only [List.getElem_toArray, List.getElem_cons_succ, List.getElem_cons_zero, Act.put, List.setIfInBounds_toArray, List.set_cons_zero, List.set_cons_succ]
          refine wpAnyH_ready (rs := [3]) (by kernel_rfl) (by simp) ?_
          refine AllReadyH.cons rfl (fun K hK => ?_) AllReadyH.nil
          go_simp
          refine (HTO.out _ HZ.out).mono ?_
          rintro e w7 ⟨rfl, hb⟩
          replace HX := Lib.hid (HX.out.below hb)
          replace HWX := Lib.hid (HWX.out.below hb)
          replace HZ := Lib.hid (HZ.out.below hb)
          replace HW := Lib.hid (HW.out.below hb)
          replace HC := Lib.hid (HC.out.below hb)
          replace HB := Lib.hid (bel_next HB.out hb)
          clear hb
          refine hK.out _ _ ⟨HC.out.x0, HC.out.x1, HC.out.x2, HC.out.x3, HX.out.c4⟩ (fun hH => ?_)
          clear hK K
          try simp only [List.getElem_toArray, List.getElem_cons_succ, List.getElem_cons_zero, Act.put, List.setIfInBounds_toArray, List.set_cons_zero, List.set_cons_succ]
          refine wpAnyH_take (i := 4) (v := (.bool false)) rfl (by kernel_rfl) (by kernel_rfl) (by kernel_rfl) (fun _ _ _ h => h) (Or.inl ⟨by rfl, fun V hV => by go_simp⟩) hH ?_
          try simp only [List.getElem_toArray, List.getElem_cons_succ, List.getElem_cons_zero, Act.put, List.setIfInBounds_toArray, List.set_cons_zero, List.set_cons_succ]
          refine wpAnyH_take (i := 5) (v := undef) rfl (by kernel_rfl) (by kernel_rfl) (by kernel_rfl) (fun _ _ _ h => h) (Or.inr ⟨by rfl, rfl⟩) hH ?_
          try simp only [List.getElem_toArray, List.getElem_cons_succ, List.getElem_cons_zero, Act.put, List.setIfInBounds_toArray, List.set_cons_zero, List.set_cons_succ]
          refine wpAnyH_take (i := 6) (v := undef) rfl (by kernel_rfl) (by kernel_rfl) (by kernel_rfl) (fun _ _ _ h => h) (Or.inr ⟨by rfl, rfl⟩) hH ?_
          try simp only [List.getElem_toArray, List.getElem_cons_succ, List.getElem_cons_zero, Act.put, List.setIfInBounds_toArray, List.set_cons_zero, List.set_cons_succ]
          refine wpAnyH_take (i := 7) (v := undef) rfl (by kernel_rfl) (by kernel_rfl) (by kernel_rfl) (fun _ _ _ h => h) (Or.inr ⟨by rfl, rfl⟩) hH ?_
          try simp only [List.getElem_toArray, List.getElem_cons_succ, List.getElem_cons_zero, Act.put, List.setIfInBounds_toArray, List.set_cons_zero, List.set_cons_succ]
          refine wpAnyH_take (i := 8) (v := undef) rfl (by kernel_rfl) (by kernel_rfl) (by kernel_rfl) (fun _ _ _ h => h) (Or.inr ⟨by rfl, rfl⟩) hH ?_
          try simp only [List.getElem_toArray, List.getElem_cons_succ, List.getElem_cons_zero, Act.put, List.setIfInBounds_toArray, List.set_cons_zero, List.set_cons_succ]
          refine wpAnyH_take (i := 9) (v := undef) rfl (by kernel_rfl) (by kernel_rfl) (by kernel_rfl) (fun _ _ _ h => h) (Or.inr ⟨by rfl, rfl⟩) hH ?_
          try simp only [List.getElem_toArray, List.getElem_cons_succ, List.getElem_cons_zero, Act.put, List.setIfInBounds_toArray, List.set_cons_zero, List.set_cons_succ]
          refine wpAnyH_take (i := 10) (v := undef) rfl (by kernel_rfl) (by kernel_rfl) (by kernel_rfl) (fun _ _ _ h => h) (Or.inr ⟨by rfl, rfl⟩) hH ?_
          try simp only [List.getElem_toArray, List.getElem_cons_succ, List.getElem_cons_zero, Act.put, List.setIfInBounds_toArray, List.set_cons_zero, List.set_cons_succ]
          refine wpAnyH_take (i := 11) (v := undef) rfl (by kernel_rfl) (by kernel_rfl) (by kernel_rfl) (fun _ _ _ h => h) (Or.inr ⟨by rfl, rfl⟩) hH ?_
          try simp only [List.getElem_toArray, List.getElem_cons_succ, List.getElem_cons_zero, Act.put, List.setIfInBounds_toArray, List.set_cons_zero, List.set_cons_succ]
          refine wpAnyH_take (i := 12) (v := undef) rfl (by kernel_rfl) (by kernel_rfl) (by kernel_rfl) (fun _ _ _ h => h) (Or.inr ⟨by rfl, rfl⟩) hH ?_
          try simp only [List.getElem_toArray, List.getElem_cons_succ, List.getElem_cons_zero, Act.put, List.setIfInBounds_toArray, List.set_cons_zero, List.set_cons_succ]
          refine wpAnyH_take (i := 13) (v := undef) rfl (by kernel_rfl) (by kernel_rfl) (by kernel_rfl) (fun _ _ _ h => h) (Or.inr ⟨by rfl, rfl⟩) hH ?_
          try simp only [List.getElem_toArray, List.getElem_cons_succ, List.getElem_cons_zero, Act.put, List.setIfInBounds_toArray, List.set_cons_zero, List.set_cons_succ]
          refine wpAnyH_take (i := 14) (v := undef) rfl (by kernel_rfl) (by kernel_rfl) (by kernel_rfl) (fun _ _ _ h => h) (Or.inr ⟨by rfl, rfl⟩) hH ?_
          try simp only [List.getElem_toArray, List.getElem_cons_succ, List.getElem_cons_zero, Act.put, List.setIfInBounds_toArray, List.set_cons_zero, List.set_cons_succ]
          refine wpAnyH_take (i := 15) (v := undef) rfl (by kernel_rfl) (by kernel_rfl) (by kernel_rfl) (fun _ _ _ h => h) (Or.inr ⟨by rfl, rfl⟩) hH ?_
          try simp only [List.getElem_toArray, List.getElem_cons_succ, List.getElem_cons_zero, Act.put, List.setIfInBounds_toArray, List.set_cons_zero, List.set_cons_succ]
          refine wpAnyH_take (i := 16) (v := (.bool false)) rfl (by kernel_rfl) (by kernel_rfl) (by kernel_rfl) (fun _ _ _ h => h) (Or.inl ⟨by rfl, fun V hV => by go_simp⟩) hH ?_
          try simp only [List.getElem_toArray, List.getElem_cons_succ, List.getElem_cons_zero, Act.put, List.setIfInBounds_toArray, List.set_cons_zero, List.set_cons_succ]
          refine wpAnyH_done (by kernel_rfl) ?_ _
          clear HTO HTC HC hH
          go_wp2_with fail
          go_roundw
          case rel => exact ⟨i + 1, HLT.out, by rw [HX3.out], HX, HWX, HZ, HW, HB⟩
          case measure => rw [HX3.out]; have := HLT.out; simp only [intOf]; omega
        case true =>
          obtain rfl := HTC.out rfl
          go_wp2_with fail
          replace HX := Lib.hid (HX.out.below (Below.refl _ _).drew)
          replace HWX := Lib.hid (HWX.out.below (Below.refl _ _).drew)
          replace HZ := Lib.hid (HZ.out.below (Below.refl _ _).drew)
          replace HW := Lib.hid (HW.out.below (Below.refl _ _).drew)
          replace HC := Lib.hid (HC.out.below (Below.refl _ _).drew)
          replace HB := Lib.hid HB.out.drew
          go_region_held3 (fun V => V.cell? ⟨h, 0, none⟩ = some (.slice (some ⟨b2, o2, none⟩) n c0) ∧ V.cell? ⟨h, 1, none⟩ = some (.slice (some ⟨b0, o0, none⟩) n c1) ∧ V.cell? ⟨h, 2, none⟩ = some (.slice (some ⟨b4, o4, none⟩) n c2) ∧ V.cell? ⟨h, 3, none⟩ = some (.slice (some ⟨b6, o6, none⟩) n c3) ∧ V.cell? ⟨h, 4, none⟩ = some (.slice a4 Z.ends.length c4) ∧ V.cell? ⟨Wb, 1, none⟩ = some ((.slice (some ⟨b1, o1, none⟩) n f1)) ∧ V.cell? ⟨b0, o0 + i * 2, none⟩ = some (.int .i64 r.x) ∧ V.cell? ⟨b0, o0 + i * 2 + 1, none⟩ = some (.int .i64 r.y) ∧ V.cell? ⟨b1, o1 + i * 2, none⟩ = some (.int .i64 r.x) ∧ V.cell? ⟨b1, o1 + i * 2 + 1, none⟩ = some (.int .i64 r.y))
            (with_reducible exact ⟨HC.out.x0, HC.out.x1, HC.out.x2, HC.out.x3, HX.out.c4, HC.out.y1, HC.out.zcx, HC.out.zcy, HC.out.scx, HC.out.scy⟩)
            (first
              | (go_at_call 27; refine (HTO.out _ HZ.out).mono ?_; rintro e w7 ⟨rfl, hb⟩; replace HX := Lib.hid (HX.out.below hb); replace HWX := Lib.hid (HWX.out.below hb); replace HZ := Lib.hid (HZ.out.below hb); replace HW := Lib.hid (HW.out.below hb); replace HC := Lib.hid (HC.out.below hb); replace HB := Lib.hid (bel_next HB.out hb); clear hb))
          clear HTO HTC HC
          go_wp2_with fail
          go_roundw
          case rel => exact ⟨i + 1, HLT.out, by rw [HX3.out], HX, HWX, HZ, HW, HB⟩
          case measure => rw [HX3.out]; have := HLT.out; simp only [intOf]; omega
      · have hlt' : ¬ (i : Int) < (n : Int) := by omega
        clear hlt
        go_wp2_with fail
        go_ret
        exact ⟨rfl, HB.out⟩
end gstateKeeps
end Go.Proofs.Ytnoadceeenioeaa
