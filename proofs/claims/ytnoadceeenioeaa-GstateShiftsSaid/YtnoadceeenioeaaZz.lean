/-
  What Smooth of package gstate answers, where it is not refused ahead.
-/
import Derived.Test.YtnoadceeenioeaaZza
import Derived.Deep.DeepCutAuto
import Derived.Deep.CutBlock
import Derived.Deep.CutRange
namespace Go.Proofs.Ytnoadceeenioeaa
open Go.RowKit Go.PlainAid Go.Maps
set_option linter.unusedSimpArgs false
set_option linter.unusedVariables false

theorem GZ.put0 {V : World} {G : Nat} {v0 v1 v2 v3 v4 : Value} (H : GZ V G v0 v1 v2 v3 v4) (u : Value) : GZ (V.setCell ⟨G, 0, none⟩ u) G u v1 v2 v3 v4 := ⟨H.b.put0 u, H.f.set _ _, type_set H.t _ _⟩
theorem GZ.put1 {V : World} {G : Nat} {v0 v1 v2 v3 v4 : Value} (H : GZ V G v0 v1 v2 v3 v4) (u : Value) : GZ (V.setCell ⟨G, 1, none⟩ u) G v0 u v2 v3 v4 := ⟨H.b.put1 u, H.f.set _ _, type_set H.t _ _⟩
theorem GZ.put2 {V : World} {G : Nat} {v0 v1 v2 v3 v4 : Value} (H : GZ V G v0 v1 v2 v3 v4) (u : Value) : GZ (V.setCell ⟨G, 2, none⟩ u) G v0 v1 u v3 v4 := ⟨H.b.put2 u, H.f.set _ _, type_set H.t _ _⟩
theorem GZ.put3 {V : World} {G : Nat} {v0 v1 v2 v3 v4 : Value} (H : GZ V G v0 v1 v2 v3 v4) (u : Value) : GZ (V.setCell ⟨G, 3, none⟩ u) G v0 v1 v2 u v4 := ⟨H.b.put3 u, H.f.set _ _, type_set H.t _ _⟩
theorem GZ.put4 {V : World} {G : Nat} {v0 v1 v2 v3 v4 : Value} (H : GZ V G v0 v1 v2 v3 v4) (u : Value) : GZ (V.setCell ⟨G, 4, none⟩ u) G v0 v1 v2 v3 u := ⟨H.b.put4 u, H.f.set _ _, type_set H.t _ _⟩

/-- A block of cells. -/
theorem cell_obj {V : World} {p : Addr} {v : Value} (h : V.cell? p = some v) : ∃ cs T fr, V.heap[p.block]? = some (.cells cs T fr) := by
  cases e : V.heap[p.block]? with
  | none => simp [World.cell?, World.cells?, e] at h
  | some o =>
    cases o with
    | cells cs T fr => exact ⟨cs, T, fr, rfl⟩
    | _ => simp [World.cell?, World.cells?, e] at h
/-- The block r holds no cells. -/
def NoCells (V : World) (r : Nat) : Prop := ∀ cs T fr, V.heap[r]? ≠ some (.cells cs T fr)
theorem keepN {V V' : World} {r : Nat} {p : Addr} {v : Value} (hg : V.grownBy V' (some r)) (hn : NoCells V r) (h : V.cell? p = some v) : V'.cell? p = some v :=
  keepG hg h (fun e => by obtain ⟨cs, T, fr, h2⟩ := cell_obj h; cases e; exact hn cs T fr h2)
theorem keepNF {V V' : World} {r : Nat} {p : Addr} {v : Value} {f : Bool} (hg : V.grownBy V' (some r)) (hn : NoCells V r) (h : V.cell? p = some v) (hf : V.frozen? p = f) : V'.frozen? p = f := by
  obtain ⟨cs, T, fr, h2⟩ := cell_obj h
  have h1 := hg.block p.block (Array.getElem?_eq_some_iff.1 h2).1 (fun e => by cases e; exact hn cs T fr h2)
  unfold World.frozen? at hf ⊢
  rw [h1]; exact hf
theorem ownN {V V' : World} {r B : Nat} {e : TypeId} {s n c : Nat} {a : Option Addr} {xs : List Value} (hg : V.grownBy V' (some r)) (hn : NoCells V r) (h : V.ownsRow B e s (.slice a n c) n xs) : V'.ownsRow B e s (.slice a n c) n xs :=
  own_apart (m := 0) h hg (fun x hx ee => by obtain ⟨cs, fr, h2⟩ := own_type h x hx; cases ee; exact hn cs _ fr h2)
theorem BxW.keepN {V V' : World} {r g : Nat} {v0 v1 v2 v3 v4 : Value} (hg : V.grownBy V' (some r)) (hn : NoCells V r) (H : BxW V g v0 v1 v2 v3 v4) : BxW V' g v0 v1 v2 v3 v4 :=
  ⟨Proofs.Ytnoadceeenioeaa.keepN hg hn H.c0, Proofs.Ytnoadceeenioeaa.keepN hg hn H.c1, Proofs.Ytnoadceeenioeaa.keepN hg hn H.c2, Proofs.Ytnoadceeenioeaa.keepN hg hn H.c3, Proofs.Ytnoadceeenioeaa.keepN hg hn H.c4⟩
theorem Fz5.keepN {V V' : World} {r g : Nat} {v0 v1 v2 v3 v4 : Value} (hg : V.grownBy V' (some r)) (hn : NoCells V r) (B : BxW V g v0 v1 v2 v3 v4) (H : Fz5 V g) : Fz5 V' g :=
  ⟨keepNF hg hn B.c0 H.f0, keepNF hg hn B.c1 H.f1, keepNF hg hn B.c2 H.f2, keepNF hg hn B.c3 H.f3, keepNF hg hn B.c4 H.f4⟩
theorem SmS.other {w V V' : World} {h G g n r : Nat} {Z : Zn} {M : List Mk} {b0 b1 b2 b3 b4 : Option Addr} {d0 d1 d2 d3 d4 : Nat} (H : SmS w V h G g n Z M b0 b1 b2 b3 b4 d0 d1 d2 d3 d4) (hg : V.grownBy V' (some r)) (hn : NoCells V r) (hr : h ≤ r) : SmS w V' h G g n Z M b0 b1 b2 b3 b4 d0 d1 d2 d3 d4 := by
  obtain ⟨cs, fr, ht⟩ := H.gz.t
  exact ⟨H.zr.keepN hg hn, H.zf.keepN hg hn H.zr, ⟨H.gz.b.keepN hg hn, H.gz.f.keepN hg hn H.gz.b, cs, fr, by rw [hg.block G (Array.getElem?_eq_some_iff.1 ht).1 (fun e => by cases e; exact hn cs _ fr ht)]; exact ht⟩,
    ⟨ownN hg hn H.zo.o0, ownN hg hn H.zo.o1, ownN hg hn H.zo.o2, ownN hg hn H.zo.o3, ownN hg hn H.zo.o4, H.zo.h01, H.zo.h23⟩, ownN hg hn H.mr, bel_grownLow H.bel hg hr (by have := H.sz; omega), by have := H.sz; have := hg.size; omega, H.hw⟩
theorem ranges_no {P : Program} {k : TypeId} {R : Value → Option (DataW Unit × List MemPlace)} {w : World} {b r n : Nat} {D : DataW Unit} {left : Lit → Bool} {cnt : Nat} (h : w.ranges P k R b r n D left cnt) : NoCells w r := by
  obtain ⟨es, clock, since, seen, c0, _, _, _, _, hr, _⟩ := h
  intro cs T fr e
  rw [hr] at e
  cases e
/-- What a key that is left stands for. -/
theorem mapF_at {D : DataW Unit} {f : Int → Option Int} (h : MapF D f) {x c : Int} (h1 : Maps.has D (.int .i64 x) = true) (h2 : ∀ zd, D.atKey (.int .i64 x) zd = .lit (.int .i64 c)) : f x = some c := by
  cases e : f x with
  | none => rw [(h.2 x).2 e] at h1; cases h1
  | some v =>
    have := ((h.2 x).1 v e).2 .nil
    rw [h2] at this
    cases this
    rfl

/-- The result of the region that makes the copy and the marks. -/
structure SmA (w V : World) (h G g n : Nat) (Z : Zn) (M : List Mk) (b0 b1 b2 b3 b4 : Option Addr) (d0 d1 d2 d3 d4 : Nat) (v4 : Value) : Prop where
  s : SmS w V h G g n Z M b0 b1 b2 b3 b4 d0 d1 d2 d3 d4
  e : V.cell? ⟨h, 4, none⟩ = some v4

/-- A zone with other places. -/
def Zn.withCur (Z : Zn) (cur : List Sp) : Zn := ⟨Z.org, cur, Z.tx, Z.ty, Z.ends⟩
set_option maxRecDepth 20000 in
set_option maxHeartbeats 8000000 in
theorem smooth_main (Z : Zn) (a0 a1 a2 a3 a4 : Option Addr) (c0 c1 c2 c3 c4 n : Nat) (axis : Int) (w : World) (hz : ZIn w Z a0 a1 a2 a3 a4) (hl : ZLong Z) (hs : soundB Z = true) (hax : (axis == 0 || axis == 1) = true) (hn : Z.org.length = n) :
    Calls Try.prog 25 #[.agg #[.slice a0 n c0, .slice a1 n c1, .slice a2 n c2, .slice a3 n c3, .slice a4 Z.ends.length c4], .int .i64 axis] w (ZeroPost w (smoothZ Z axis)) := by
  obtain ⟨l0, l1, l2, l3⟩ := sound_len hs
  rw [hn] at l0 l1 l2 l3
  obtain ⟨R, HR⟩ : ∃ R, Hid (smoothZ Z axis = R) := ⟨_, rfl⟩
  rw [HR.out]
  obtain ⟨M, HMM⟩ : ∃ M, Hid (mksZ Z axis = M) := ⟨_, rfl⟩
  have HML : Hid (M.length = n) := by rw [Hid, ← HMM.out, mksZ_len]; exact hn
  obtain ⟨h, HH⟩ : ∃ h, Hid (w.heap.size = h) := ⟨_, rfl⟩
  have HSO : Hid (∀ V, CpW w V h (.slice a0 n c0) (.slice a1 n c1) (.slice a2 n c2) (.slice a3 n c3) (.slice a4 Z.ends.length c4) → Calls Try.prog 17 #[.agg #[.slice a0 n c0, .slice a1 n c1, .slice a2 n c2, .slice a3 n c3, .slice a4 Z.ends.length c4]] V fun e w' => e = .returned (.bool true) ∧ Below V.heap.size V w') := fun V H => by
    have := sound_c Z a0 a1 a2 a3 a4 c0 c1 c2 c3 c4 V (hz.below (by have := H.hh; subst this; exact H.bel)) hl
    rwa [l1, l2, l3, hn, hs] at this
  have HCO : Hid (∀ V, CpW w V h (.slice a0 n c0) (.slice a1 n c1) (.slice a2 n c2) (.slice a3 n c3) (.slice a4 Z.ends.length c4) → Calls Try.prog 39 #[.agg #[.slice a0 n c0, .slice a1 n c1, .slice a2 n c2, .slice a3 n c3, .slice a4 Z.ends.length c4]] V (ZonePost V Z)) := fun V H => by
    have := copied_c Z a0 a1 a2 a3 a4 c0 c1 c2 c3 c4 V (hz.below (by have := H.hh; subst this; exact H.bel)) hl
    rwa [l1, l2, l3, hn] at this
  have HMO : Hid (∀ V, CpW w V h (.slice a0 n c0) (.slice a1 n c1) (.slice a2 n c2) (.slice a3 n c3) (.slice a4 Z.ends.length c4) → Calls Try.prog 42 #[.agg #[.slice a0 n c0, .slice a1 n c1, .slice a2 n c2, .slice a3 n c3, .slice a4 Z.ends.length c4], .int .i64 axis] V (MarksPost V M)) := fun V H => by
    have := marks_c Z a0 a1 a2 a3 a4 c0 c1 c2 c3 c4 axis V (hz.below (by have := H.hh; subst this; exact H.bel)) hs
    rwa [l1, l2, l3, hn, HMM.out] at this
  have HAX : Hid (∀ V : World, Calls Try.prog 38 #[.int .i64 axis] V fun e w' => e = .returned (.bool true) ∧ V = w') := by have := fun V => isAxis_c axis V; rw [hax] at this; exact this
  have HM := Lib.hid (cpW_new w (.slice a0 n c0) (.slice a1 n c1) (.slice a2 n c2) (.slice a3 n c3) (.slice a4 Z.ends.length c4))
  rw [HH.out] at HM
  have HZL : Hid (Z.org.length = n ∧ Z.cur.length = n ∧ Z.tx.length = n ∧ Z.ty.length = n) := ⟨hn, l1, l2, l3⟩
  have HN4 := Lib.hid l0
  have HEN := Lib.hid hz.r4
  have HLE : Hid (Z.ends.length ≤ 140737488355328) := by have := hl.l4; unfold Hid; omega
  have HRS : Hid (riseB n (-1) Z.ends = true) := by
    simp only [soundB, Bool.and_eq_true, decide_eq_true_eq] at hs
    rw [Hid, ← hn]; exact hs.1.1.2
  have HRE : Hid (R = match smL M axis 0 Z.ends Z.cur with
    | none => (zn0, 94)
    | some cur => (⟨Z.org, cur, Z.tx, Z.ty, Z.ends⟩, 0)) := by rw [Hid, ← HR.out, smoothZ, hs, hax, HMM.out]; rfl
  clear hz hl hs hax hn l0 l1 l2 l3
  go_enter Try.func25, Try.ntmps25
  go_wp2_with fail
  rw [HH.out]
  generalize ((w.alloc (.cells #[.slice a0 n c0, .slice a1 n c1, .slice a2 n c2, .slice a3 n c3, .slice a4 Z.ends.length c4] 31)).alloc (.cells #[.slice none 0 0, .slice none 0 0, .slice none 0 0, .slice none 0 0, .slice none 0 0] 31)) = W at *
  refine (HSO.out _ HM.out).mono ?_
  rintro e w1 ⟨rfl, hb1⟩
  replace HM := Lib.hid (HM.out.below hb1)
  clear hb1 HSO
  go_wp2_with fail
  refine (HAX.out _).mono ?_
  rintro e w2 ⟨rfl, rfl⟩
  clear HAX
  go_upto_region 3 with (fail)
  generalize w1 = W at *
  go_cut [6, 7] (fun x y wx => ∃ (G g : Nat) (b0 b1 b2 b3 b4 : Option Addr) (d0 d1 d2 d3 d4 : Nat), x = .pointer (some ⟨G, 0, none⟩) ∧ y = .slice (some ⟨g, 0, none⟩) n n ∧ Hid (SmA w wx h G g n Z M b0 b1 b2 b3 b4 d0 d1 d2 d3 d4 (.slice a4 Z.ends.length c4)))
  case first =>
    have hH0 : W.drew.cell? ⟨h, 0, none⟩ = some (.slice a0 n c0) ∧ W.drew.cell? ⟨h, 1, none⟩ = some (.slice a1 n c1) ∧ W.drew.cell? ⟨h, 2, none⟩ = some (.slice a2 n c2) ∧ W.drew.cell? ⟨h, 3, none⟩ = some (.slice a3 n c3) ∧ W.drew.cell? ⟨h, 4, none⟩ = some (.slice a4 Z.ends.length c4) := ⟨HM.out.c0, HM.out.c1, HM.out.c2, HM.out.c3, HM.out.c4⟩
    refine wp_region_held_drew (S := fun V => V.cell? ⟨h, 0, none⟩ = some (.slice a0 n c0) ∧ V.cell? ⟨h, 1, none⟩ = some (.slice a1 n c1) ∧ V.cell? ⟨h, 2, none⟩ = some (.slice a2 n c2) ∧ V.cell? ⟨h, 3, none⟩ = some (.slice a3 n c3) ∧ V.cell? ⟨h, 4, none⟩ = some (.slice a4 Z.ends.length c4)) (by kernel_rfl) hH0 (fun hH => ?_)
    have HX := Lib.hid HM.out.drew
    clear hH0 HM
    refine wpAnyH_take (i := 0) (v := (.agg #[.slice a0 n c0, .slice a1 n c1, .slice a2 n c2, .slice a3 n c3, .slice a4 Z.ends.length c4])) rfl (by kernel_rfl) (by kernel_rfl) (by kernel_rfl) (fun _ _ _ h => h) (Or.inl ⟨by rfl, fun V hV => by obtain ⟨h0, h1, h2, h3, h4⟩ := hV; go_simp⟩) hH ?_
    try simp only [Act.put, List.setIfInBounds_toArray, List.set_cons_zero, List.set_cons_succ]
    refine wpAnyH_take (i := 2) (v := (.agg #[.slice a0 n c0, .slice a1 n c1, .slice a2 n c2, .slice a3 n c3, .slice a4 Z.ends.length c4])) rfl (by kernel_rfl) (by kernel_rfl) (by kernel_rfl) (fun _ _ _ h => h) (Or.inl ⟨by rfl, fun V hV => by obtain ⟨h0, h1, h2, h3, h4⟩ := hV; go_simp⟩) hH ?_
    try simp only [Act.put, List.setIfInBounds_toArray, List.set_cons_zero, List.set_cons_succ]
    refine wpAnyH_take (i := 3) (v := (.int .i64 axis)) rfl (by kernel_rfl) (by kernel_rfl) (by kernel_rfl) (fun _ _ _ h => h) (Or.inl ⟨by rfl, fun V hV => by go_simp⟩) hH ?_
    try simp only [Act.put, List.setIfInBounds_toArray, List.set_cons_zero, List.set_cons_succ]
    generalize W.drew = v0 at *
    refine wpAnyH_ready (rs := [1, 5]) (by kernel_rfl) (by simp) ?_
    refine AllReadyH.cons rfl (fun K hK => ?_) ?_
    · go_simp
      refine (HCO.out _ HX.out).mono ?_
      rintro e v1 ⟨b0, b1, b2, b3, b4, d0, d1, d2, d3, d4, rfl, ho, hb⟩
      unfold zv
      rw [HZL.out.1, HZL.out.2.1, HZL.out.2.2.1, HZL.out.2.2.2]
      have hsz := HX.out.sz
      replace HX := Lib.hid (HX.out.below hb)
      have HO := Lib.hid (ho.base hsz)
      clear ho hsz hb
      refine hK.out _ _ ⟨HX.out.c0, HX.out.c1, HX.out.c2, HX.out.c3, HX.out.c4⟩ (fun hH => ?_)
      clear hK K
      try simp only [Act.put, List.setIfInBounds_toArray, List.set_cons_zero, List.set_cons_succ]
      refine wpAnyH_ready (rs := [4, 5]) (by kernel_rfl) (by simp) ?_
      refine AllReadyH.cons rfl (fun K hK => ?_) ?_
      · go_simp
        refine (HMO.out _ HX.out).mono ?_
        rintro e v2 ⟨g, rfl, ho, hb⟩
        rw [HML.out] at ho ⊢
        have hsz := HX.out.sz
        replace HX := Lib.hid (HX.out.below hb)
        replace HO := Lib.hid (HO.out.below hb)
        have HK := Lib.hid (own_base ho hsz)
        clear ho hsz hb
        refine hK.out _ _ ⟨HX.out.c0, HX.out.c1, HX.out.c2, HX.out.c3, HX.out.c4⟩ (fun hH => ?_)
        clear hK K
        try simp only [Act.put, List.setIfInBounds_toArray, List.set_cons_zero, List.set_cons_succ]
        refine wpAnyH_ready (rs := [5]) (by kernel_rfl) (by simp) ?_
        refine AllReadyH.cons rfl (fun K hK => ?_) AllReadyH.nil
        go_simp
        have hz := gz_new v2 (.slice none 0 0) (.slice none 0 0) (.slice none 0 0) (.slice none 0 0) (.slice none 0 0)
        have HGH : Hid (h + 2 ≤ v2.heap.size) := HX.out.sz
        have hb : Below v2.heap.size v2 (v2.alloc (.cells #[.slice none 0 0, .slice none 0 0, .slice none 0 0, .slice none 0 0, .slice none 0 0] 31)) := (Below.refl _ _).alloc (Nat.le_refl _) _
        replace HX := Lib.hid (HX.out.below hb)
        replace HO := Lib.hid (HO.out.below hb)
        replace HK := Lib.hid (own_below HK.out hb)
        have HG := Lib.hid hz
        clear hz hb
        refine hK.out _ _ ⟨HX.out.c0, HX.out.c1, HX.out.c2, HX.out.c3, HX.out.c4⟩ (fun hH => ?_)
        clear hK K
        try simp only [Act.put, List.setIfInBounds_toArray, List.set_cons_zero, List.set_cons_succ]
        generalize (v2.alloc (.cells #[.slice none 0 0, .slice none 0 0, .slice none 0 0, .slice none 0 0, .slice none 0 0] 31)) = v3 at *
        generalize v2.heap.size = G at *
        have y0 := HG.out.b.c0; have y1 := HG.out.b.c1; have y2 := HG.out.b.c2; have y3 := HG.out.b.c3; have y4 := HG.out.b.c4
        have q0 := HG.out.f.f0; have q1 := HG.out.f.f1; have q2 := HG.out.f.f2; have q3 := HG.out.f.f3; have q4 := HG.out.f.f4
        refine wpAnyH_ready (rs := [6]) (by kernel_rfl) (by simp) ?_
        refine AllReadyH.cons rfl (fun K hK => ?_) AllReadyH.nil
        go_simp
        replace HX := Lib.hid (HX.out.setHi (b := G) 0 (.slice b0 n d0) HGH.out)
        replace HO := Lib.hid (HO.out.setZone HG.out.t 0 (.slice b0 n d0))
        replace HK := Lib.hid (own_setA (m := 0) (i := 0) (.slice b0 n d0) HK.out (apart_blk HK.out HG.out.t tz4))
        replace HG := Lib.hid (HG.out.put0 (.slice b0 n d0))
        replace HX := Lib.hid (HX.out.setHi (b := G) 1 (.slice b1 n d1) HGH.out)
        replace HO := Lib.hid (HO.out.setZone HG.out.t 1 (.slice b1 n d1))
        replace HK := Lib.hid (own_setA (m := 0) (i := 1) (.slice b1 n d1) HK.out (apart_blk HK.out HG.out.t tz4))
        replace HG := Lib.hid (HG.out.put1 (.slice b1 n d1))
        replace HX := Lib.hid (HX.out.setHi (b := G) 2 (.slice b2 n d2) HGH.out)
        replace HO := Lib.hid (HO.out.setZone HG.out.t 2 (.slice b2 n d2))
        replace HK := Lib.hid (own_setA (m := 0) (i := 2) (.slice b2 n d2) HK.out (apart_blk HK.out HG.out.t tz4))
        replace HG := Lib.hid (HG.out.put2 (.slice b2 n d2))
        replace HX := Lib.hid (HX.out.setHi (b := G) 3 (.slice b3 n d3) HGH.out)
        replace HO := Lib.hid (HO.out.setZone HG.out.t 3 (.slice b3 n d3))
        replace HK := Lib.hid (own_setA (m := 0) (i := 3) (.slice b3 n d3) HK.out (apart_blk HK.out HG.out.t tz4))
        replace HG := Lib.hid (HG.out.put3 (.slice b3 n d3))
        replace HX := Lib.hid (HX.out.setHi (b := G) 4 (.slice b4 Z.ends.length d4) HGH.out)
        replace HO := Lib.hid (HO.out.setZone HG.out.t 4 (.slice b4 Z.ends.length d4))
        replace HK := Lib.hid (own_setA (m := 0) (i := 4) (.slice b4 Z.ends.length d4) HK.out (apart_blk HK.out HG.out.t tz4))
        replace HG := Lib.hid (HG.out.put4 (.slice b4 Z.ends.length d4))
        refine hK.out _ _ ⟨HX.out.c0, HX.out.c1, HX.out.c2, HX.out.c3, HX.out.c4⟩ (fun hH => ?_)
        clear hK K y0 y1 y2 y3 y4 q0 q1 q2 q3 q4
        try simp only [Act.put, List.setIfInBounds_toArray, List.set_cons_zero, List.set_cons_succ]
        refine wpAnyH_ready (rs := [7]) (by kernel_rfl) (by simp) ?_
        refine AllReadyH.cons rfl (fun K hK => ?_) AllReadyH.nil
        go_simp
        refine hK.out _ _ hH (fun hH => ?_)
        clear hK K
        try simp only [Act.put, List.setIfInBounds_toArray, List.set_cons_zero, List.set_cons_succ]
        refine wpAnyH_done (by kernel_rfl) ?_ _
        go_wp2_with fail
        go_meet
        case rel => exact ⟨G, g, b0, b1, b2, b3, b4, d0, d1, d2, d3, d4, rfl, rfl, ⟨⟨⟨HX.out.o0, HX.out.o1, HX.out.o2, HX.out.o3, HX.out.o4⟩, ⟨HX.out.f0, HX.out.f1, HX.out.f2, HX.out.f3, HX.out.f4⟩, HG.out, HO.out, HK.out, HX.out.bel, HX.out.sz, HH.out⟩, HX.out.c4⟩⟩
      refine AllReadyH.cons rfl (fun K hK => ?_) AllReadyH.nil
      go_simp
      have hz := gz_new v1 (.slice none 0 0) (.slice none 0 0) (.slice none 0 0) (.slice none 0 0) (.slice none 0 0)
      have HGH : Hid (h + 2 ≤ v1.heap.size) := HX.out.sz
      have hb : Below v1.heap.size v1 (v1.alloc (.cells #[.slice none 0 0, .slice none 0 0, .slice none 0 0, .slice none 0 0, .slice none 0 0] 31)) := (Below.refl _ _).alloc (Nat.le_refl _) _
      replace HX := Lib.hid (HX.out.below hb)
      replace HO := Lib.hid (HO.out.below hb)
      have HG := Lib.hid hz
      clear hz hb
      refine hK.out _ _ ⟨HX.out.c0, HX.out.c1, HX.out.c2, HX.out.c3, HX.out.c4⟩ (fun hH => ?_)
      clear hK K
      try simp only [Act.put, List.setIfInBounds_toArray, List.set_cons_zero, List.set_cons_succ]
      generalize (v1.alloc (.cells #[.slice none 0 0, .slice none 0 0, .slice none 0 0, .slice none 0 0, .slice none 0 0] 31)) = v4 at *
      generalize v1.heap.size = G at *
      refine wpAnyH_ready (rs := [4]) (by kernel_rfl) (by simp) ?_
      refine AllReadyH.cons rfl (fun K hK => ?_) AllReadyH.nil
      go_simp
      refine (HMO.out _ HX.out).mono ?_
      rintro e v5 ⟨g, rfl, ho, hb⟩
      rw [HML.out] at ho ⊢
      have hsz := HX.out.sz
      replace HX := Lib.hid (HX.out.below hb)
      replace HO := Lib.hid (HO.out.below hb)
      replace HG := Lib.hid (HG.out.below hb)
      have HK := Lib.hid (own_base ho hsz)
      clear ho hsz hb
      refine hK.out _ _ ⟨HX.out.c0, HX.out.c1, HX.out.c2, HX.out.c3, HX.out.c4⟩ (fun hH => ?_)
      clear hK K
      try simp only [Act.put, List.setIfInBounds_toArray, List.set_cons_zero, List.set_cons_succ]
      have y0 := HG.out.b.c0; have y1 := HG.out.b.c1; have y2 := HG.out.b.c2; have y3 := HG.out.b.c3; have y4 := HG.out.b.c4
      have q0 := HG.out.f.f0; have q1 := HG.out.f.f1; have q2 := HG.out.f.f2; have q3 := HG.out.f.f3; have q4 := HG.out.f.f4
      refine wpAnyH_ready (rs := [6]) (by kernel_rfl) (by simp) ?_
      refine AllReadyH.cons rfl (fun K hK => ?_) AllReadyH.nil
      go_simp
      replace HX := Lib.hid (HX.out.setHi (b := G) 0 (.slice b0 n d0) HGH.out)
      replace HO := Lib.hid (HO.out.setZone HG.out.t 0 (.slice b0 n d0))
      replace HK := Lib.hid (own_setA (m := 0) (i := 0) (.slice b0 n d0) HK.out (apart_blk HK.out HG.out.t tz4))
      replace HG := Lib.hid (HG.out.put0 (.slice b0 n d0))
      replace HX := Lib.hid (HX.out.setHi (b := G) 1 (.slice b1 n d1) HGH.out)
      replace HO := Lib.hid (HO.out.setZone HG.out.t 1 (.slice b1 n d1))
      replace HK := Lib.hid (own_setA (m := 0) (i := 1) (.slice b1 n d1) HK.out (apart_blk HK.out HG.out.t tz4))
      replace HG := Lib.hid (HG.out.put1 (.slice b1 n d1))
      replace HX := Lib.hid (HX.out.setHi (b := G) 2 (.slice b2 n d2) HGH.out)
      replace HO := Lib.hid (HO.out.setZone HG.out.t 2 (.slice b2 n d2))
      replace HK := Lib.hid (own_setA (m := 0) (i := 2) (.slice b2 n d2) HK.out (apart_blk HK.out HG.out.t tz4))
      replace HG := Lib.hid (HG.out.put2 (.slice b2 n d2))
      replace HX := Lib.hid (HX.out.setHi (b := G) 3 (.slice b3 n d3) HGH.out)
      replace HO := Lib.hid (HO.out.setZone HG.out.t 3 (.slice b3 n d3))
      replace HK := Lib.hid (own_setA (m := 0) (i := 3) (.slice b3 n d3) HK.out (apart_blk HK.out HG.out.t tz4))
      replace HG := Lib.hid (HG.out.put3 (.slice b3 n d3))
      replace HX := Lib.hid (HX.out.setHi (b := G) 4 (.slice b4 Z.ends.length d4) HGH.out)
      replace HO := Lib.hid (HO.out.setZone HG.out.t 4 (.slice b4 Z.ends.length d4))
      replace HK := Lib.hid (own_setA (m := 0) (i := 4) (.slice b4 Z.ends.length d4) HK.out (apart_blk HK.out HG.out.t tz4))
      replace HG := Lib.hid (HG.out.put4 (.slice b4 Z.ends.length d4))
      refine hK.out _ _ ⟨HX.out.c0, HX.out.c1, HX.out.c2, HX.out.c3, HX.out.c4⟩ (fun hH => ?_)
      clear hK K y0 y1 y2 y3 y4 q0 q1 q2 q3 q4
      try simp only [Act.put, List.setIfInBounds_toArray, List.set_cons_zero, List.set_cons_succ]
      refine wpAnyH_ready (rs := [7]) (by kernel_rfl) (by simp) ?_
      refine AllReadyH.cons rfl (fun K hK => ?_) AllReadyH.nil
      go_simp
      refine hK.out _ _ hH (fun hH => ?_)
      clear hK K
      try simp only [Act.put, List.setIfInBounds_toArray, List.set_cons_zero, List.set_cons_succ]
      refine wpAnyH_done (by kernel_rfl) ?_ _
      go_wp2_with fail
      go_meet
      case rel => exact ⟨G, g, b0, b1, b2, b3, b4, d0, d1, d2, d3, d4, rfl, rfl, ⟨⟨⟨HX.out.o0, HX.out.o1, HX.out.o2, HX.out.o3, HX.out.o4⟩, ⟨HX.out.f0, HX.out.f1, HX.out.f2, HX.out.f3, HX.out.f4⟩, HG.out, HO.out, HK.out, HX.out.bel, HX.out.sz, HH.out⟩, HX.out.c4⟩⟩
    refine AllReadyH.cons rfl (fun K hK => ?_) AllReadyH.nil
    go_simp
    have hz := gz_new v0 (.slice none 0 0) (.slice none 0 0) (.slice none 0 0) (.slice none 0 0) (.slice none 0 0)
    have HGH : Hid (h + 2 ≤ v0.heap.size) := HX.out.sz
    have hb : Below v0.heap.size v0 (v0.alloc (.cells #[.slice none 0 0, .slice none 0 0, .slice none 0 0, .slice none 0 0, .slice none 0 0] 31)) := (Below.refl _ _).alloc (Nat.le_refl _) _
    replace HX := Lib.hid (HX.out.below hb)
    have HG := Lib.hid hz
    clear hz hb
    refine hK.out _ _ ⟨HX.out.c0, HX.out.c1, HX.out.c2, HX.out.c3, HX.out.c4⟩ (fun hH => ?_)
    clear hK K
    try simp only [Act.put, List.setIfInBounds_toArray, List.set_cons_zero, List.set_cons_succ]
    generalize (v0.alloc (.cells #[.slice none 0 0, .slice none 0 0, .slice none 0 0, .slice none 0 0, .slice none 0 0] 31)) = v6 at *
    generalize v0.heap.size = G at *
    refine wpAnyH_ready (rs := [1]) (by kernel_rfl) (by simp) ?_
    refine AllReadyH.cons rfl (fun K hK => ?_) AllReadyH.nil
    go_simp
    refine (HCO.out _ HX.out).mono ?_
    rintro e v7 ⟨b0, b1, b2, b3, b4, d0, d1, d2, d3, d4, rfl, ho, hb⟩
    unfold zv
    rw [HZL.out.1, HZL.out.2.1, HZL.out.2.2.1, HZL.out.2.2.2]
    have hsz := HX.out.sz
    replace HX := Lib.hid (HX.out.below hb)
    replace HG := Lib.hid (HG.out.below hb)
    have HO := Lib.hid (ho.base hsz)
    clear ho hsz hb
    refine hK.out _ _ ⟨HX.out.c0, HX.out.c1, HX.out.c2, HX.out.c3, HX.out.c4⟩ (fun hH => ?_)
    clear hK K
    try simp only [Act.put, List.setIfInBounds_toArray, List.set_cons_zero, List.set_cons_succ]
    refine wpAnyH_ready (rs := [4]) (by kernel_rfl) (by simp) ?_
    refine AllReadyH.cons rfl (fun K hK => ?_) AllReadyH.nil
    go_simp
    refine (HMO.out _ HX.out).mono ?_
    rintro e v8 ⟨g, rfl, ho, hb⟩
    rw [HML.out] at ho ⊢
    have hsz := HX.out.sz
    replace HX := Lib.hid (HX.out.below hb)
    replace HO := Lib.hid (HO.out.below hb)
    replace HG := Lib.hid (HG.out.below hb)
    have HK := Lib.hid (own_base ho hsz)
    clear ho hsz hb
    refine hK.out _ _ ⟨HX.out.c0, HX.out.c1, HX.out.c2, HX.out.c3, HX.out.c4⟩ (fun hH => ?_)
    clear hK K
    try simp only [Act.put, List.setIfInBounds_toArray, List.set_cons_zero, List.set_cons_succ]
    have y0 := HG.out.b.c0; have y1 := HG.out.b.c1; have y2 := HG.out.b.c2; have y3 := HG.out.b.c3; have y4 := HG.out.b.c4
    have q0 := HG.out.f.f0; have q1 := HG.out.f.f1; have q2 := HG.out.f.f2; have q3 := HG.out.f.f3; have q4 := HG.out.f.f4
    refine wpAnyH_ready (rs := [6]) (by kernel_rfl) (by simp) ?_
    refine AllReadyH.cons rfl (fun K hK => ?_) AllReadyH.nil
    go_simp
    replace HX := Lib.hid (HX.out.setHi (b := G) 0 (.slice b0 n d0) HGH.out)
    replace HO := Lib.hid (HO.out.setZone HG.out.t 0 (.slice b0 n d0))
    replace HK := Lib.hid (own_setA (m := 0) (i := 0) (.slice b0 n d0) HK.out (apart_blk HK.out HG.out.t tz4))
    replace HG := Lib.hid (HG.out.put0 (.slice b0 n d0))
    replace HX := Lib.hid (HX.out.setHi (b := G) 1 (.slice b1 n d1) HGH.out)
    replace HO := Lib.hid (HO.out.setZone HG.out.t 1 (.slice b1 n d1))
    replace HK := Lib.hid (own_setA (m := 0) (i := 1) (.slice b1 n d1) HK.out (apart_blk HK.out HG.out.t tz4))
    replace HG := Lib.hid (HG.out.put1 (.slice b1 n d1))
    replace HX := Lib.hid (HX.out.setHi (b := G) 2 (.slice b2 n d2) HGH.out)
    replace HO := Lib.hid (HO.out.setZone HG.out.t 2 (.slice b2 n d2))
    replace HK := Lib.hid (own_setA (m := 0) (i := 2) (.slice b2 n d2) HK.out (apart_blk HK.out HG.out.t tz4))
    replace HG := Lib.hid (HG.out.put2 (.slice b2 n d2))
    replace HX := Lib.hid (HX.out.setHi (b := G) 3 (.slice b3 n d3) HGH.out)
    replace HO := Lib.hid (HO.out.setZone HG.out.t 3 (.slice b3 n d3))
    replace HK := Lib.hid (own_setA (m := 0) (i := 3) (.slice b3 n d3) HK.out (apart_blk HK.out HG.out.t tz4))
    replace HG := Lib.hid (HG.out.put3 (.slice b3 n d3))
    replace HX := Lib.hid (HX.out.setHi (b := G) 4 (.slice b4 Z.ends.length d4) HGH.out)
    replace HO := Lib.hid (HO.out.setZone HG.out.t 4 (.slice b4 Z.ends.length d4))
    replace HK := Lib.hid (own_setA (m := 0) (i := 4) (.slice b4 Z.ends.length d4) HK.out (apart_blk HK.out HG.out.t tz4))
    replace HG := Lib.hid (HG.out.put4 (.slice b4 Z.ends.length d4))
    refine hK.out _ _ ⟨HX.out.c0, HX.out.c1, HX.out.c2, HX.out.c3, HX.out.c4⟩ (fun hH => ?_)
    clear hK K y0 y1 y2 y3 y4 q0 q1 q2 q3 q4
    try simp only [Act.put, List.setIfInBounds_toArray, List.set_cons_zero, List.set_cons_succ]
    refine wpAnyH_ready (rs := [7]) (by kernel_rfl) (by simp) ?_
    refine AllReadyH.cons rfl (fun K hK => ?_) AllReadyH.nil
    go_simp
    refine hK.out _ _ hH (fun hH => ?_)
    clear hK K
    try simp only [Act.put, List.setIfInBounds_toArray, List.set_cons_zero, List.set_cons_succ]
    refine wpAnyH_done (by kernel_rfl) ?_ _
    go_wp2_with fail
    go_meet
    case rel => exact ⟨G, g, b0, b1, b2, b3, b4, d0, d1, d2, d3, d4, rfl, rfl, ⟨⟨⟨HX.out.o0, HX.out.o1, HX.out.o2, HX.out.o3, HX.out.o4⟩, ⟨HX.out.f0, HX.out.f1, HX.out.f2, HX.out.f3, HX.out.f4⟩, HG.out, HO.out, HK.out, HX.out.bel, HX.out.sz, HH.out⟩, HX.out.c4⟩⟩
  case rest =>
    obtain ⟨G, g, b0, b1, b2, b3, b4, d0, d1, d2, d3, d4, rfl, rfl, HA⟩ := hcut
    have HS : Hid (SmS w wc h G g n (Z.withCur Z.cur) M b0 b1 b2 b3 b4 d0 d1 d2 d3 d4) := HA.out.s
    have k4 := HA.out.e
    clear HA
    go_wp2_with fail
    go_loopw [8, 32] (fun fv iv wr => ∃ (i first : Nat) (cur : List Sp), i ≤ Z.ends.length ∧ fv = .int .i64 (first : Int) ∧ iv = .int .i64 (i : Int) ∧ Hid (SmS w wr h G g n (Z.withCur cur) M b0 b1 b2 b3 b4 d0 d1 d2 d3 d4) ∧ Hid (cur.length = n) ∧ Hid (smL M axis 0 Z.ends Z.cur = smL M axis first (Z.ends.drop i) cur) ∧ Hid (∀ e, Z.ends[i]? = some e → (first : Int) ≤ e)) (fun _ iv _ => Z.ends.length - (intOf iv).toNat)
    case atStart => exact ⟨0, 0, Z.cur, Nat.zero_le _, rfl, rfl, HS, HZL.out.2.1, rfl, fun e he => by have := rise_all HRS.out 0 e he; omega⟩
    case round =>
      clear HS k4
      obtain ⟨i, first, cur, hi, rfl, rfl, HS, HCL, HQ, HFI⟩ := hrel
      by_cases hlt : i < Z.ends.length
      · have hlt' : (i : Int) < (Z.ends.length : Int) := by omega
        have hi0 : (0 : Int) ≤ (i : Int) := by omega
        obtain ⟨e, he⟩ := get_of hlt
        have hre := rise_all HRS.out i e he
        have hfe := HFI.out e he
        obtain ⟨E, rfl⟩ : ∃ E : Nat, e = E := ⟨e.toNat, by omega⟩
        have HE : Hid (first ≤ E ∧ E < n) := by unfold Hid; omega
        have HNX : Hid (∀ d, Z.ends[i + 1]? = some d → ((E + 1 : Nat) : Int) ≤ d) := fun d hd => by have := hre.2.2 d hd; omega
        have HQ2 := Lib.hid (HQ.out.trans (smL_step he))
        have hbw : Below w.heap.size w wr := by rw [HH.out]; exact HS.out.bel
        obtain ⟨eb, eo, rfl, x0⟩ := (HEN.out.below hbw).num he
        have HLT := Lib.hid hlt
        have HX := Lib.hid (next64 (j := i) (by have := HLE.out; omega))
        have hw1 : wrap64 ((E : Int) + 1) = ((E + 1 : Nat) : Int) := next64 (by have := HE.out; have := HN4.out; omega)
        have hs1 : (first : Int) ≤ ((E + 1 : Nat) : Int) := by have := HE.out; omega
        have hs2 : ((E + 1 : Nat) : Int) ≤ (n : Int) := by have := HE.out; omega
        have hs0 : (0 : Int) ≤ (first : Int) := by omega
        have hnf1 : ¬ n = first := by have := HE.out; omega
        have hnf2 : ¬ first = n := by have := HE.out; omega
        clear he hre hfe hbw hlt hi HQ HFI
        go_wp2_with fail
        obtain ⟨C, HC⟩ : ∃ C, Hid (conM M first (E : Int) = C) := ⟨_, rfl⟩
        have HCN : Hid (C.length = E + 1 - first) := by
          rw [Hid, ← HC.out, conM, List.length_take, List.length_drop, HML.out, Int.toNat_natCast]
          have := HE.out; omega
        have HIR : Hid (IsR clM wr (some ⟨g, first * 3, none⟩) C) := by
          rw [Hid, ← HC.out, conM]
          exact isR_part clM_length (own_lies HS.out.mr) first _
        have hfo := followed_c C (some ⟨g, first * 3, none⟩) (n - first) wr HIR.out (by have := HCN.out; have := HN4.out; have := HE.out; omega)
        rw [HCN.out] at hfo
        refine hfo.mono ?_
        clear hfo HIR
        obtain ⟨f, Hf⟩ : ∃ f, Hid (vF C (allV C) = f) := ⟨_, rfl⟩
        have HFD : Hid (∀ x v, f x = some v → ∃ p : Nat, x = (p : Int) ∧ p < E + 1 - first) := fun x v hx => by
          rw [← Hf.out] at hx
          obtain ⟨p, h1, h2⟩ := vF_dom hx
          exact ⟨p, h1, by rw [← HCN.out]; exact h2⟩
        rw [HC.out] at HQ2
        intro e w2 hpost
        unfold FollowPost at hpost
        cases hbd : badV C (allV C)
        · rw [hbd] at hpost HQ2
          rw [Hf.out] at hpost HQ2
          have HQ3 : Hid (smL M axis 0 Z.ends Z.cur = smL M axis (E + 1) (Z.ends.drop (i + 1)) (putC axis first f cur)) := by unfold Hid; have := HQ2.out; simpa using this
          obtain ⟨mb, D, rfl, hmp, hfn, hmb, hb2⟩ := hpost
          obtain ⟨g1, rfl, hg1, hg1b, _⟩ := own_some HS.out.zo.o1 (by have := HCL.out; have := HE.out; dsimp only [Zn.withCur]; omega)
          have HFN := Lib.hid hfn
          have HMB : Hid (g1 < mb ∧ h + 2 ≤ g1 ∧ g1 < w2.heap.size) := ⟨by omega, hg1, by have := hb2.size; omega⟩
          replace HS := Lib.hid (HS.out.below hb2)
          have HMP := Lib.hid hmp
          clear hbd hmp hfn hmb hb2 hg1 hg1b HQ2
          generalize wr = wq at *
          go_wp2_with (first
            | (at_range; refine wpList_range_own _ rfl _ 74 rfl 3 3 keyI Try.underlying74 _ mb (allV C).length D rfl HMP.out ?_; intro w3 hrg0 hg0 hs0)
            | go_in)
          go_frame
          have HI : Hid (g1 < w2.heap.size ∧ h ≤ w2.heap.size) := ⟨HMB.out.2.2, by have := HS.out.sz; omega⟩
          have hbg : Below w2.heap.size w2 w3 := ⟨hg0.os, hg0.tape, hg0.output, hg0.size, fun i hi => hg0.block i hi (by simp)⟩
          have HS3 := Lib.hid (HS.out.below hbg)
          have HRG0 := Lib.hid hrg0
          have HMX : Hid (mixC axis first f (Maps.has D) cur = cur) := mixC_start (fun x v hx => ((HFN.out.2 x).1 v hx).1) cur
          clear hrg0 hg0 hs0 hbg HS
          generalize w2.heap.size = it at *
          go_loopw [13] (fun _ wx => ∃ left cnt, Hid (wx.ranges Try.prog 3 (plainElem (H := Unit) Try.prog 3) mb it (allV C).length D left cnt) ∧ Hid (∀ kl, left kl = true → Maps.has D kl = true) ∧ Hid (SmS w wx h G g n (Z.withCur (mixC axis first f left cur)) M b0 (some ⟨g1, 0, none⟩) b2 b3 b4 d0 d1 d2 d3 d4)) (fun _ wx => wx.rangeLeft mb it)
          case atStart => exact ⟨_, _, HRG0, fun kl hk => hk, by rw [HMX.out]; exact HS3⟩
          case round =>
            clear HRG0 HS3 HMX
            obtain ⟨left, cnt, HRG, HLH, HS⟩ := hrel
            go_wp2_with (first
              | (at_next; refine wpList_next_ranges_ii _ rfl _ rfl 3 3 .i64 .i64 keyI Try.underlying3 Try.underlying3 mb it _ _ _ _ rfl HRG.out ?_ ?_)
              | go_in)
            · intro hc0 hl0
              have HS9 : Hid (SmS w wr h G g n (Z.withCur (putC axis first f cur)) M b0 (some ⟨g1, 0, none⟩) b2 b3 b4 d0 d1 d2 d3 d4) := by
                have := HS.out
                rwa [mixC_end hl0] at this
              have HCL9 : Hid ((putC axis first f cur).length = n) := by rw [Hid, putC, mixC_len]; exact HCL.out
              clear hc0 hl0 HRG HLH HS
              go_wp2_with fail
              go_roundw
              case rel => exact ⟨i + 1, E + 1, putC axis first f cur, HLT.out, by first | rfl | (rw [hw1]), by rw [HX.out], HS9, HCL9, HQ3, HNX.out⟩
              case measure => rw [HX.out]; have := HLT.out; simp only [intOf]; omega
            · intro x c w4 cnt1 hwx hwc hlx hat hrg1 hlt hg1 hs4 hen
              have hfx := mapF_at HFN.out (HLH.out _ hlx) hat
              obtain ⟨p, rfl, hp⟩ := HFD.out x c hfx
              have HS4 := Lib.hid (HS.out.other hg1 (ranges_no HRG.out) HI.out.2)
              have HMS := Lib.hid (mixC_step (axis := axis) (first := first) hfx hlx cur)
              have HLH2 : Hid (∀ kl, (fun z => left z && !z.sameKey (.int .i64 (p : Int))) kl = true → Maps.has D kl = true) := fun kl hk => by
                simp only [Bool.and_eq_true] at hk
                exact HLH.out kl hk.1
              have HRG1 := Lib.hid hrg1
              have HRL := Lib.hid (HRG.out.left_eq)
              have HCT := Lib.hid hlt
              have HP : Hid (first + p < n) := by have := HE.out; unfold Hid; omega
              have hw2 : wrap64 ((first : Int) + (p : Int)) = ((first + p : Nat) : Int) := by have := HP.out; have := HN4.out; unfold wrap64; omega
              have k0 := HS4.out.gz.b.c0
              have k1 := HS4.out.gz.b.c1
              have k2 := HS4.out.gz.b.c2
              have k3 := HS4.out.gz.b.c3
              have k4 := HS4.out.gz.b.c4
              clear hrg1 hg1 hs4 hlt hlx hat hfx HRG HLH HS hp
              go_wp2_with fail
              (try rw [hw2])
              obtain ⟨u, hu⟩ := own_cell (n := n) (s := 2) (show w4.ownsRow (h + 2) 38 2 (.slice (some ⟨g1, 0, none⟩) n d1) n _ by have := HS4.out.zo.o1; rwa [show (Z.withCur (mixC axis first f left cur)).cur.length = n by rw [show (Z.withCur (mixC axis first f left cur)).cur = mixC axis first f left cur from rfl, mixC_len]; exact HCL.out] at this) (i := (first + p) * 2 + axO axis) (by have := axO_le axis; have := HP.out; omega)
              refine (set_c b0 b2 b3 b4 n n n n Z.ends.length d0 d1 d2 d3 d4 g1 (first + p) axis c u w4 HP.out hu (own_frozen HS4.out.zo.o1 _)).mono ?_
              rintro e w5 ⟨rfl, rfl⟩
              clear hu k0 k1 k2 k3 k4
              have hba := bel_alloc (Below.refl w4.heap.size w4) (.cells #[.slice b0 n d0, .slice (some ⟨g1, 0, none⟩) n d1, .slice b2 n d2, .slice b3 n d3, .slice b4 Z.ends.length d4] 31)
              have HS5 := Lib.hid ((HS4.out.below hba).put axis (first + p) c)
              have HS6 : Hid (SmS w ((w4.alloc (.cells #[.slice b0 n d0, .slice (some ⟨g1, 0, none⟩) n d1, .slice b2 n d2, .slice b3 n d3, .slice b4 Z.ends.length d4] 31)).setCell ⟨g1, (first + p) * 2 + axO axis, none⟩ (.int .i64 c)) h G g n (Z.withCur (mixC axis first f (fun z => left z && !z.sameKey (.int .i64 (p : Int))) cur)) M b0 (some ⟨g1, 0, none⟩) b2 b3 b4 d0 d1 d2 d3 d4) := by
                rw [HMS.out]; exact HS5.out
              have HRG2 := Lib.hid ((HRG1.out.alloc (.cells #[.slice b0 n d0, .slice (some ⟨g1, 0, none⟩) n d1, .slice b2 n d2, .slice b3 n d3, .slice b4 Z.ends.length d4] 31)).kept (grown_set _ g1 ((first + p) * 2 + axO axis) (.int .i64 c)) (fun e => by have := Option.some.inj e; have := HMB.out.1; omega) (fun e => by have := Option.some.inj e; have := HI.out.1; omega))
              clear hba HS5 HS4 HRG1
              generalize ((w4.alloc (.cells #[.slice b0 n d0, .slice (some ⟨g1, 0, none⟩) n d1, .slice b2 n d2, .slice b3 n d3, .slice b4 Z.ends.length d4] 31)).setCell ⟨g1, (first + p) * 2 + axO axis, none⟩ (.int .i64 c)) = w6 at *
              go_wp2_with fail
              go_roundw
              case rel => exact ⟨_, cnt1, HRG2, HLH2, HS6⟩
              case measure => rw [HRG2.out.left_eq, HRL.out]; exact HCT.out
        · rw [hbd] at hpost HQ2
          obtain ⟨rfl, hb2⟩ := hpost
          have HE9 : Hid (R = (zn0, 94)) := by
            have h1 := HQ2.out
            rw [if_pos rfl] at h1
            rw [Hid, HRE.out, h1]
          replace HS := Lib.hid (HS.out.below hb2)
          clear hbd hb2 HQ2
          have o0 := HS.out.zr.c0
          have o1 := HS.out.zr.c1
          have o2 := HS.out.zr.c2
          have o3 := HS.out.zr.c3
          have o4 := HS.out.zr.c4
          have f0 := HS.out.zf.f0
          have f1 := HS.out.zf.f1
          have f2 := HS.out.zf.f2
          have f3 := HS.out.zf.f3
          have f4 := HS.out.zf.f4
          go_wp2_with fail
          refine bodyPost_ret (v := .tuple #[.agg #[.slice none 0 0, .slice none 0 0, .slice none 0 0, .slice none 0 0, .slice none 0 0], .int .i64 94]) (by simp [results, Try.results25, go_sem, o0, o1, o2, o3, o4]) rfl (zeroPost_no HE9.out rfl ?_)
          rw [HH.out]
          refine bel_set (bel_set (bel_set (bel_set (bel_set HS.out.bel ?_ _) ?_ _) ?_ _) ?_ _) ?_ _ <;> omega
      · have hlt' : ¬ (i : Int) < (Z.ends.length : Int) := by omega
        have hie : i = Z.ends.length := by omega
        have HE9 : Hid (R = (Z.withCur cur, 0)) := by
          have h1 := HQ.out
          rw [List.drop_eq_nil_of_le (by omega)] at h1
          rw [Hid, HRE.out, h1]
          rfl
        have o0 := HS.out.zr.c0
        have o1 := HS.out.zr.c1
        have o2 := HS.out.zr.c2
        have o3 := HS.out.zr.c3
        have o4 := HS.out.zr.c4
        have f0 := HS.out.zf.f0
        have f1 := HS.out.zf.f1
        have f2 := HS.out.zf.f2
        have f3 := HS.out.zf.f3
        have f4 := HS.out.zf.f4
        have k0 := HS.out.gz.b.c0
        have k1 := HS.out.gz.b.c1
        have k2 := HS.out.gz.b.c2
        have k3 := HS.out.gz.b.c3
        have k4 := HS.out.gz.b.c4
        clear hlt hi hie HQ HFI
        go_wp2_with fail
        refine bodyPost_ret (v := .tuple #[.agg #[.slice b0 n d0, .slice b1 n d1, .slice b2 n d2, .slice b3 n d3, .slice b4 Z.ends.length d4], .int .i64 0]) (by simp [results, Try.results25, go_sem, o0, o1, o2, o3, o4, Zn.withCur]) rfl ?_
        rw [HE9.out]
        refine ⟨b0, b1, b2, b3, b4, d0, d1, d2, d3, d4, ?_, ?_, ?_⟩
        · have h1 := HZL.out
          have h2 := HCL.out
          simp only [zv, Zn.withCur, h1.1, h1.2.2.1, h1.2.2.2, h2]
        · have hh := HH.out
          exact (((((HS.out.zo.setLow ⟨h + 1, 0, none⟩ _ (by simp)).setLow ⟨h + 1, 1, none⟩ _ (by simp)).setLow ⟨h + 1, 2, none⟩ _ (by simp)).setLow ⟨h + 1, 3, none⟩ _ (by simp)).setLow ⟨h + 1, 4, none⟩ _ (by simp)).base (by omega)
        · rw [HH.out]
          refine bel_set (bel_set (bel_set (bel_set (bel_set HS.out.bel ?_ _) ?_ _) ?_ _) ?_ _) ?_ _ <;> omega

end Go.Proofs.Ytnoadceeenioeaa
