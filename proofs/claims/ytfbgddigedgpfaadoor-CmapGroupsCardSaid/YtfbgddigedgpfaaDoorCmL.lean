/-
  What readSelectors of package cmap answers: a map whose elements are lists of spans that are right, or an error.
-/
import Derived.Test.YtfbgddigedgpfaaDoorCmK
import Derived.Maps.Own
import Derived.Maps.OwnOps
import Derived.Maps.OwnSet
namespace Go.Proofs.YtfbgddigedgpfaaDoor
open Go.RowKit Go.PlainAid Go.Maps
set_option linter.unusedSimpArgs false
set_option linter.unusedVariables false

/-- The value is what a selector does: two lists of spans that are right. -/
def GoodV (w : World) (v : Value) : Prop := ∃ a k b l, v = .agg #[.slice a k k, .slice b l l] ∧ GoodS w a k 4096 ∧ GoodS w b l 4096
theorem GoodV.below {w w' : World} {v : Value} (h : GoodV w v) (hb : Below w.heap.size w w') : GoodV w' v := by
  obtain ⟨a, k, b, l, h1, h2, h3⟩ := h
  exact ⟨a, k, b, l, h1, h2.below hb, h3.below hb⟩
theorem GoodS.grown {w w' : World} {a : Option Addr} {k : Nat} {n : Int} (h : GoodS w a k n) {B : Nat} (hg : w.grownBy w' (some B)) {es : Array MapEntry} {c : Nat} (hB : w.heap[B]? = some (.map es c)) : GoodS w' a k n := by
  obtain ⟨h1, f, h2, h3⟩ := h
  refine ⟨h1, f, ?_, h3⟩
  rcases h2 with h2 | ⟨g, rfl, h2⟩
  · exact .inl h2
  · refine .inr ⟨g, rfl, ?_⟩
    unfold FlatAt
    have h2' : w.heap[g]? = _ := h2
    have hne : some g ≠ some B := fun e => by
      rw [Option.some.inj e, hB] at h2'
      cases h2'
    rw [hg.block g h2.lt hne]
    exact h2
theorem GoodV.grown {w w' : World} {v : Value} (h : GoodV w v) {B : Nat} (hg : w.grownBy w' (some B)) {es : Array MapEntry} {c : Nat} (hB : w.heap[B]? = some (.map es c)) : GoodV w' v := by
  obtain ⟨a, k, b, l, h1, h2, h3⟩ := h
  exact ⟨a, k, b, l, h1, h2.grown hg hB, h3.grown hg hB⟩
theorem cell_grown {w w' : World} {p : Addr} {v : Value} (h : w.cell? p = some v) {B : Nat} (hg : w.grownBy w' (some B)) {es : Array MapEntry} {c : Nat} (hB : w.heap[B]? = some (.map es c)) : w'.cell? p = some v := by
  have hlt := World.block_lt_of_cell? w _ h
  have hne : p.block ≠ B := fun e => by
    subst e
    simp [World.cell?, World.cells?, hB] at h
  have := hg.block p.block hlt (fun e => by cases e; exact hne rfl)
  simp only [World.cell?, World.cells?, this] at h ⊢
  exact h

open Classical in
/-- How an element reads: it is right. -/
noncomputable def goodR (w : World) (v : Value) : Option (DataW Unit × List MemPlace) := if GoodV w v then some (.nil, []) else none
theorem goodR_mk {w : World} {v : Value} (h : GoodV w v) : goodR w v = some (.nil, []) := by unfold goodR; rw [if_pos h]
theorem goodR_inv {w : World} {v : Value} {z : DataW Unit × List MemPlace} (h : goodR w v = some z) : GoodV w v ∧ z = (.nil, []) := by
  unfold goodR at h
  split at h
  · rename_i hv; cases h; exact ⟨hv, rfl⟩
  · cases h
/-- The block is a map of at most n selectors, each of which is right. -/
def SelMap (w : World) (B n : Nat) : Prop := ∃ D, w.ownsMap Tryd.prog 3 (goodR w) B n D
theorem SelMap.obj {w : World} {B n : Nat} (h : SelMap w B n) : ∃ es c, w.heap[B]? = some (.map es c) := by
  obtain ⟨D, es, c, h1, _⟩ := h
  exact ⟨es, c, h1⟩
theorem SelMap.turn {w w' : World} {B n : Nat} {D : DataW Unit} (h : w.ownsMap Tryd.prog 3 (goodR w) B n D) (hb : w'.heap[B]? = w.heap[B]?) (hv : ∀ v, GoodV w v → GoodV w' v) : SelMap w' B n := by
  obtain ⟨es, c, h1, F, hs, _⟩ := h
  have := World.ownsMap_of_fit (w := w') (R := goodR w') (hb.trans h1) F (fun x _ z hz => by obtain ⟨g1, rfl⟩ := goodR_inv hz; exact goodR_mk (hv _ g1))
  exact ⟨_, this.mono hs⟩
theorem SelMap.turn2 {w w' : World} {B n : Nat} {D : DataW Unit} (h : w'.ownsMap Tryd.prog 3 (goodR w) B n D) (hv : ∀ v, GoodV w v → GoodV w' v) : SelMap w' B n := by
  obtain ⟨es, c, h1, F, hs, _⟩ := h
  have := World.ownsMap_of_fit (w := w') (R := goodR w') h1 F (fun x _ z hz => by obtain ⟨g1, rfl⟩ := goodR_inv hz; exact goodR_mk (hv _ g1))
  exact ⟨_, this.mono hs⟩
theorem SelMap.below {w w' : World} {B n : Nat} (h : SelMap w B n) (hb : Below w.heap.size w w') : SelMap w' B n := by
  obtain ⟨D, h⟩ := h
  exact SelMap.turn h (hb.block B h.lt) (fun v hv => hv.below hb)
theorem intKey : Keyed Tryd.prog 3 := int_keyed Tryd.underlying3
theorem make_map (k : Int) (w : World) : (Instr.makeMap 45 (some (.int .i64 k))).run Tryd.prog w = .ok (.map (some w.heap.size)) (w.alloc (.map #[] 0)) := by
  simp [Instr.makeMap, run_underlying Tryd.underlying45, asInt, asIntOf]

/-- What readSelectors answers. -/
def SelsPost (w : World) (e : Ending) (w' : World) : Prop :=
  Below w.heap.size w w' ∧ ((∃ x, x ≠ 0 ∧ e = .returned (.tuple #[.map none, .int .i64 x])) ∨ ∃ B n, e = .returned (.tuple #[.map (some B), .int .i64 0]) ∧ SelMap w' B n)

/-- What is kept while the selectors are read. -/
structure SlW (w : World) (gs B : Nat) (sub : ByteArray) (j : Nat) (wr : World) : Prop where
  bel : Below w.heap.size w wr
  v : wr.cell? ⟨gs, 0, none⟩ = some (.string sub)
  m : SelMap wr B j
  lt : w.heap.size ≤ B
theorem SlW.below {w wr w' : World} {gs B j : Nat} {sub : ByteArray} (h : SlW w gs B sub j wr) (hb : Below wr.heap.size wr w') : SlW w gs B sub j w' :=
  ⟨h.bel.trans (hb.mono h.bel.size), keepC hb h.v, h.m.below hb, h.lt⟩

set_option maxRecDepth 20000 in
set_option maxHeartbeats 2000000 in
theorem readSelectors_c (g : Nat) (s : ByteArray) (p : Int) (w : World) (hc : w.cell? ⟨g, 0, none⟩ = some (.string s)) (hs : (s.size : Int) ≤ 140737488355328) (hp0 : 0 ≤ p) (hp1 : p ≤ 4294967295) :
    Calls Tryd.prog 23 #[.pointer (some ⟨g, 0, none⟩), .int .i64 p] w (SelsPost w) := by
  have HSUB := Lib.hid (subtable_c g s p w hc hs hp0 hp1)
  have HS : Hid (((s.extract p.toNat s.size).size : Int) ≤ 140737488355328) := by unfold Hid; rw [ByteArray.size_extract]; omega
  clear hc hs hp0 hp1
  go_enter Tryd.func23, Tryd.ntmps23
  go_wp2_with fail
  refine HSUB.out.mono ?_
  rintro e w1 ⟨hb1, ⟨hne, rfl⟩ | ⟨he0, gs, _, rfl, hv⟩⟩
  · have HB1 := Lib.hid hb1
    clear hb1 hne
    go_wp2_with fail
    go_ret2
    exact ⟨HB1.out, .inl ⟨51, by decide, rfl⟩⟩
  · have HB1 := Lib.hid hb1
    have HV := Lib.hid hv
    clear hb1 hv he0 HSUB
    generalize (numOr s p 2).1 = f at *
    generalize s.extract p.toNat s.size = sub at *
    obtain ⟨n, en, HN⟩ := numOr_ex sub 6 4
    have HNB := Lib.hid (num32_bound HN.out)
    cases h0 : (f != 14)
    · have h0' : f = 14 := by simpa using h0
      subst h0'
      clear h0
      by_cases h1 : en = 0
      · subst h1
        by_cases h2 : 4096 < n
        · go_wp2_with fail
          refine (u32_c gs 6 n 0 sub w1 HV.out HS.out (by decide) HN).mono ?_
          rintro e w2 ⟨rfl, rfl⟩
          go_wp2_with fail
          go_ret2
          exact ⟨HB1.out, .inl ⟨53, by decide, rfl⟩⟩
        · obtain ⟨k, rfl⟩ := Int.eq_ofNat_of_zero_le HNB.out.1
          have HK : Hid (k ≤ 4096) := by unfold Hid; omega
          have hmk := make_map (k : Int) w1
          have hbm := (Below.refl w1.heap.size w1).alloc (Nat.le_refl _) (.map #[] 0)
          have HW0 : Hid (SlW w gs w1.heap.size sub 0 (w1.alloc (.map #[] 0))) :=
            ⟨HB1.out.trans (hbm.mono HB1.out.size), keepC hbm HV.out, ⟨_, World.ownsMap_made w1 _ _ _⟩, HB1.out.size⟩
          generalize (w1.alloc (.map #[] 0)) = w0 at *
          generalize hB : w1.heap.size = B at *
          clear hB hbm
          go_wp2_with fail
          refine (u32_c gs 6 k 0 sub w1 HV.out HS.out (by decide) HN).mono ?_
          rintro e w2 ⟨rfl, rfl⟩
          go_wp2_with fail
          clear hmk
          go_loopw [11, 12, 43] (fun r a i wr => ∃ j : Nat, ∃ x y : Int, j ≤ k ∧ r = .int .i64 x ∧ a = .int .i64 y ∧ i = .int .i64 j ∧ Hid (0 ≤ x ∧ x ≤ 4096) ∧ Hid (SlW w gs B sub j wr)) (fun _ _ i _ => k - (intOf i).toNat)
          case atStart => exact ⟨0, 4096, -1, Nat.zero_le _, rfl, rfl, rfl, ⟨by decide, by decide⟩, HW0⟩
          case round =>
            clear HW0
            obtain ⟨j, x, y, hj, rfl, rfl, rfl, HX, HW⟩ := hrel
            by_cases hlt : j < k
            · have hlt' : (j : Int) < (k : Int) := by omega
              have hqq : ((10 + 11 * j : Nat) : Int) = 10 + 11 * (j : Int) := by omega
              have HX7 : Hid (wrap64 ((j : Int) + 1) = ((j + 1 : Nat) : Int)) := by have := HK.out; unfold Hid wrap64; omega
              have HJK : Hid (j < k) := hlt
              by_cases hin : 10 + 11 * j + 11 ≤ sub.size
              · obtain ⟨r, HRR⟩ : ∃ r, Hid (sub.extract (10 + 11 * j) (10 + 11 * j + 11) = r) := ⟨_, rfl⟩
                have hcut := cut_at gs (10 + 11 * j) 11 11 rfl sub wr HW.out.v HS.out hin
                rw [HRR.out, hqq] at hcut
                have HCUT := Lib.hid hcut
                have HRS : Hid ((r.size : Int) ≤ 140737488355328) := by have := HS.out; unfold Hid; rw [← HRR.out, ByteArray.size_extract]; omega
                obtain ⟨c, ec, HC⟩ := numOr_ex r 0 3
                have HCB := Lib.hid (num24_bound HC.out)
                clear hcut hin hlt hj hqq
                go_wp2_with fail
                refine HCUT.out.mono ?_
                rintro e w3 ⟨rfl, hw⟩
                have hb3 : Below wr.heap.size wr w3 := by rw [hw]; exact (Below.refl _ _).alloc (Nat.le_refl _) _
                have HV3 : Hid (w3.cell? ⟨wr.heap.size, 0, none⟩ = some (.string r)) := by unfold Hid; rw [hw]; simp [go_sem]
                have HW3 := Lib.hid (HW.out.below hb3)
                clear hw hb3 HW HCUT
                generalize wr.heap.size = gb at *
                go_wp2_with fail
                refine (u24_c gb 0 c ec r w3 HV3.out HRS.out (by decide) HC).mono ?_
                rintro e w4 ⟨rfl, rfl⟩
                by_cases hcy : c ≤ y
                · go_wp2_with fail
                  go_ret2
                  exact ⟨HW3.out.bel, .inl ⟨51, by decide, rfl⟩⟩
                · go_wp2_with fail
                  refine (readSelector_c gs gb x sub r w3 HW3.out.v HS.out HV3.out HRS.out HX.out.1 HX.out.2).mono ?_
                  rintro e w4 ⟨hb4, ⟨z, hz, rfl⟩ | ⟨a, m, b, l, rfl, hga, hgb⟩⟩
                  · have HW4 := Lib.hid (HW3.out.below hb4)
                    have HZ := Lib.hid hz
                    have hzb : (z != 0) = true := by simpa using hz
                    clear hb4 hz
                    go_wp2_with fail
                    go_ret2
                    exact ⟨(HW4.out.below ((Below.refl _ _).alloc (Nat.le_refl _) _)).bel, .inl ⟨z, HZ.out, rfl⟩⟩
                  · have hb5 := (Below.refl w4.heap.size w4).alloc (Nat.le_refl _) (.cells #[.slice a m m, .slice b l l] 50)
                    have HW5 := Lib.hid ((HW3.out.below hb4).below hb5)
                    have HML : Hid (0 ≤ x - ((m : Int) + (l : Int)) ∧ x - ((m : Int) + (l : Int)) ≤ 4096) := by have := hga.1; have := hgb.1; have := HX.out; unfold Hid; omega
                    have HGV : Hid (GoodV (w4.alloc (.cells #[.slice a m m, .slice b l l] 50)) (.agg #[.slice a m m, .slice b l l])) :=
                      ⟨a, m, b, l, rfl, ⟨by have := hga.1; have := HX.out; omega, (hga.below hb5).2⟩, ⟨by have := hgb.1; have := HX.out; omega, (hgb.below hb5).2⟩⟩
                    have n0 : (w4.alloc (.cells #[.slice a m m, .slice b l l] 50)).cell? ⟨w4.heap.size, 0, none⟩ = some (.slice a m m) := by simp [go_sem]
                    have n1 : (w4.alloc (.cells #[.slice a m m, .slice b l l] 50)).cell? ⟨w4.heap.size, 1, none⟩ = some (.slice b l l) := by simp [go_sem]
                    obtain ⟨D, hown⟩ := HW5.out.m
                    obtain ⟨es, ck, hobj⟩ := HW5.out.m.obj
                    have HOB := Lib.hid hobj
                    have HKEY : Hid (keyOf Tryd.prog 3 (.int .i64 c) = some (.int .i64 c)) := keyOf_int_mk Tryd.underlying3 (WalkArith.wf_i64 (by have := HCB.out; omega))
                    have HOW := Lib.hid hown
                    have HJ4 : Hid (j < maxLen) := by have := HJK.out; have := HK.out; unfold Hid maxLen; omega
                    have hw7 : wrap64 ((m : Int) + (l : Int)) = (m : Int) + (l : Int) := by have := HML.out; have := HX.out; unfold wrap64; omega
                    have hw8 : wrap64 (x - ((m : Int) + (l : Int))) = x - ((m : Int) + (l : Int)) := by have := HML.out; unfold wrap64; omega
                    clear hb4 hb5 hga hgb hown hobj
                    go_wp2_with (at_mapUpdate; refine wpList_mapUpdate_own _ rfl _ _ _ 45 rfl 3 50 intKey Tryd.underlying45 _ B j _ rfl HOW.out HJ4.out _ _ _ rfl rfl HKEY.out _ [] (goodR_mk HGV.out) ?_; intro w6 hown6 hgr6; have q0 := cell_grown n0 hgr6 HOB.out; have q1 := cell_grown n1 hgr6 HOB.out; have HOW6 := Lib.hid hown6; have HGR6 := Lib.hid hgr6; clear hown6 hgr6)
                    have HW6 : Hid (SlW w gs B sub (j + 1) w6) :=
                      ⟨HW5.out.bel.grown HGR6.out HW5.out.bel.size (fun k hk => by cases hk; exact HW5.out.lt), cell_grown HW5.out.v HGR6.out HOB.out, SelMap.turn2 HOW6.out (fun v hv => hv.grown HGR6.out HOB.out), HW5.out.lt⟩
                    go_roundw
                    case rel => exact ⟨j + 1, x - ((m : Int) + (l : Int)), c, HJK.out, by rw [hw8], rfl, by go_num, HML, HW6⟩
                    case measure => have := HJK.out; simp only [intOf]; omega
              · have hno : hasB sub ((10 + 11 * j : Nat) : Int) 11 = false := by simp [hasB]; omega
                have hcut := cut_no gs ((10 + 11 * j : Nat) : Int) 11 sub wr HW.out.v HS.out (by have := HK.out; omega) hno
                rw [hqq] at hcut
                have HCUT := Lib.hid hcut
                clear hno hin hcut hqq
                go_wp2_with fail
                refine HCUT.out.mono ?_
                rintro e w3 ⟨rfl, rfl⟩
                go_wp2_with fail
                go_ret2
                exact ⟨HW.out.bel, .inl ⟨51, by decide, rfl⟩⟩
            · have hlt' : ¬ (j : Int) < (k : Int) := by omega
              go_wp2_with fail
              go_ret2
              exact ⟨HW.out.bel, .inr ⟨B, j, rfl, HW.out.m⟩⟩
      · go_wp2_with fail
        refine (u32_c gs 6 n en sub w1 HV.out HS.out (by decide) HN).mono ?_
        rintro e w2 ⟨rfl, rfl⟩
        go_wp2_with fail
        go_ret2
        exact ⟨HB1.out, .inl ⟨51, by decide, rfl⟩⟩
    · go_wp2_with fail
      go_ret2
      exact ⟨HB1.out, .inl ⟨52, by decide, rfl⟩⟩

end Go.Proofs.YtfbgddigedgpfaaDoor
