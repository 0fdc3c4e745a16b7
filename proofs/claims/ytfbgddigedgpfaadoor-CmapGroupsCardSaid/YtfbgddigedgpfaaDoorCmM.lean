/-
  What Read of package cmap answers: a map that can be asked, or an error; of a table with one subtable of groups just which.
-/
import Derived.Test.YtfbgddigedgpfaaDoorCmL
namespace Go.Proofs.YtfbgddigedgpfaaDoor
open Go.RowKit Go.PlainAid Go.Maps
set_option linter.unusedSimpArgs false
set_option linter.unusedVariables false

/-- The block is a map's four fields. -/
def MObj (w : World) (gm : Nat) (a0 a1 a2 a3 : Value) : Prop := w.heap[gm]? = some (.cells #[a0, a1, a2, a3] 47 (0, 0))
theorem MObj.lt {w : World} {gm : Nat} {a0 a1 a2 a3 : Value} (h : MObj w gm a0 a1 a2 a3) : gm < w.heap.size := (Array.getElem?_eq_some_iff.1 h).1
theorem MObj.below {w w' : World} {gm : Nat} {a0 a1 a2 a3 : Value} (h : MObj w gm a0 a1 a2 a3) (hb : Below w.heap.size w w') : MObj w' gm a0 a1 a2 a3 := by unfold MObj; rw [hb.block gm h.lt]; exact h
theorem MObj.cells {w : World} {gm : Nat} {a0 a1 a2 a3 : Value} (h : MObj w gm a0 a1 a2 a3) : w.cell? ⟨gm, 0, none⟩ = some a0 ∧ w.cell? ⟨gm, 1, none⟩ = some a1 ∧ w.cell? ⟨gm, 2, none⟩ = some a2 ∧ w.cell? ⟨gm, 3, none⟩ = some a3 := by
  have h' : w.heap[gm]? = _ := h
  simp [World.cell?, World.cells?, h']
theorem MObj.frozen {w : World} {gm : Nat} {a0 a1 a2 a3 : Value} (h : MObj w gm a0 a1 a2 a3) (i : Nat) : w.frozen? ⟨gm, i, none⟩ = false := by
  have h' : w.heap[gm]? = _ := h
  simp [World.frozen?, h']
theorem MObj.set0 {w : World} {gm : Nat} {a0 a1 a2 a3 : Value} (h : MObj w gm a0 a1 a2 a3) (v : Value) : MObj (w.setCell ⟨gm, 0, none⟩ v) gm v a1 a2 a3 := by
  have h' : w.heap[gm]? = _ := h
  unfold MObj; simp [World.setCell, Array.getElem?_modify, h']
theorem MObj.set2 {w : World} {gm : Nat} {a0 a1 a2 a3 : Value} (h : MObj w gm a0 a1 a2 a3) (v : Value) : MObj (w.setCell ⟨gm, 2, none⟩ v) gm a0 a1 v a3 := by
  have h' : w.heap[gm]? = _ := h
  unfold MObj; simp [World.setCell, Array.getElem?_modify, h']
theorem MObj.set3 {w : World} {gm : Nat} {a0 a1 a2 a3 : Value} (h : MObj w gm a0 a1 a2 a3) (v : Value) : MObj (w.setCell ⟨gm, 3, none⟩ v) gm a0 a1 a2 v := by
  have h' : w.heap[gm]? = _ := h
  unfold MObj; simp [World.setCell, Array.getElem?_modify, h']
theorem keeps_set {N : Nat} {w : World} {gm i : Nat} (h : gm < N) (v : Value) : Keeps N w (w.setCell ⟨gm, i, none⟩ v) :=
  ⟨by simp, fun b hN hb => Below.heap_setCell _ _ _ _ (by simp; omega)⟩
theorem GoodS.setM {w : World} {a : Option Addr} {k : Nat} {n : Int} (h : GoodS w a k n) {gm i : Nat} {a0 a1 a2 a3 : Value} (hm : MObj w gm a0 a1 a2 a3) (v : Value) : GoodS (w.setCell ⟨gm, i, none⟩ v) a k n := by
  obtain ⟨h1, f, h2, h3⟩ := h
  refine ⟨h1, f, ?_, h3⟩
  rcases h2 with h2 | ⟨g, rfl, h2⟩
  · exact .inl h2
  · refine .inr ⟨g, rfl, h2.other _ _ ?_⟩
    intro e
    simp only at e
    subst e
    have h2' : w.heap[gm]? = _ := h2
    have hm' : w.heap[gm]? = _ := hm
    rw [hm'] at h2'
    simp at h2'
theorem SelMap.setM {w : World} {B n : Nat} (h : SelMap w B n) {gm i : Nat} {a0 a1 a2 a3 : Value} (hm : MObj w gm a0 a1 a2 a3) (v : Value) : SelMap (w.setCell ⟨gm, i, none⟩ v) B n := by
  obtain ⟨es, c, hB⟩ := h.obj
  have hne : B ≠ gm := fun e => by
    subst e
    have hm' : w.heap[B]? = _ := hm
    rw [hB] at hm'
    cases hm'
  obtain ⟨D, h⟩ := h
  refine SelMap.turn h (Below.heap_setCell _ _ _ _ hne) (fun u hu => ?_)
  obtain ⟨a, k, b, l, h1, h2, h3⟩ := hu
  exact ⟨a, k, b, l, h1, h2.setM hm v, h3.setM hm v⟩

/-- A map that can be asked. -/
structure MapIs (w : World) (gm : Nat) (form glyphs : Int) (ans : Int → Int) : Prop where
  m : ∃ N v sel, N ≤ w.heap.size ∧ MObj w gm (.int .i64 form) (.int .i64 glyphs) v sel ∧ FindIs N w v ans ∧ (sel = .map none ∨ ∃ B n, sel = .map (some B) ∧ SelMap w B n)
  g1 : 1 ≤ glyphs
  g2 : glyphs ≤ 4096
theorem MapIs.below {w w' : World} {gm : Nat} {form glyphs : Int} {ans : Int → Int} (h : MapIs w gm form glyphs ans) (hb : Below w.heap.size w w') : MapIs w' gm form glyphs ans := by
  obtain ⟨⟨N, v, sel, h1, h2, h3, h4⟩, g1, g2⟩ := h
  refine ⟨⟨N, v, sel, Nat.le_trans h1 hb.size, h2.below hb, h3.kept (keeps_below N hb), ?_⟩, g1, g2⟩
  rcases h4 with h4 | ⟨B, n, h4, h5⟩
  · exact .inl h4
  · exact .inr ⟨B, n, h4, h5.below hb⟩

/-- The table has one subtable that counts, of right groups, and no selectors. -/
def readsGrp (s : ByteArray) (glyphs p : Int) : Prop := 1 ≤ glyphs ∧ glyphs ≤ 4096 ∧ rowsErr s = 0 ∧ chosenR (rowsN s) (rowF s) kindsL = some p ∧ isGrp s p ∧ firstR (rowF s) 0 5 (rowsN s) 0 = none
/-- What Read answers. -/
def MapPost (s : ByteArray) (glyphs : Int) (w : World) (e : Ending) (w' : World) : Prop :=
  Below w.heap.size w w' ∧ ((∃ x, x ≠ 0 ∧ e = .returned (.tuple #[.pointer none, .int .i64 x]) ∧ ∀ p, ¬ readsGrp s glyphs p) ∨
    ∃ gm form ans, e = .returned (.tuple #[.pointer (some ⟨gm, 0, none⟩), .int .i64 0]) ∧ MapIs w' gm form glyphs ans ∧ ∀ p, readsGrp s glyphs p → form = (numOr s p 2).1 ∧ ans = grpOf s p)

theorem firstR_mem (f : Nat → Int) (p q : Int) : ∀ n j y, firstR f p q n j = some y → ∃ i, y = f (3 * i + 2)
  | 0, j, y, h => by simp [firstR] at h
  | n + 1, j, y, h => by
    rw [firstR] at h
    split at h
    · exact ⟨j, by simpa using h.symm⟩
    · exact firstR_mem f p q n (j + 1) y h
theorem chosenR_mem (k : Nat) (f : Nat → Int) : ∀ l y, chosenR k f l = some y → ∃ i, y = f (3 * i + 2)
  | [], y, h => by simp [chosenR] at h
  | x :: l, y, h => by
    rw [chosenR] at h
    cases h2 : firstR f x.1 x.2 k 0 with
    | some z => rw [h2] at h; simp at h; subst h; exact firstR_mem _ _ _ _ _ _ h2
    | none => rw [h2] at h; exact chosenR_mem k f l y h
theorem rowF2_bound (s : ByteArray) (i : Nat) : 0 ≤ rowF s (3 * i + 2) ∧ rowF s (3 * i + 2) ≤ 4294967295 := by rw [rowF2]; exact num32_fst _ _

set_option maxRecDepth 20000 in
set_option maxHeartbeats 2000000 in
theorem read_c (g : Nat) (s : ByteArray) (glyphs : Int) (w : World) (hc : w.cell? ⟨g, 0, none⟩ = some (.string s)) (hs : (s.size : Int) ≤ 140737488355328) (hg : Rk w) :
    Calls Tryd.prog 14 #[.pointer (some ⟨g, 0, none⟩), .int .i64 glyphs] w (MapPost s glyphs w) := by
  have HC := Lib.hid hc
  have HS := Lib.hid hs
  have HG := Lib.hid hg
  have HGL : Hid (g < w.heap.size) := World.block_lt_of_cell? w _ hc
  clear hc hs hg
  by_cases h1 : glyphs < 1
  · have HN : Hid (∀ p, ¬ readsGrp s glyphs p) := fun p h => by have := h.1; omega
    go_enter Tryd.func14, Tryd.ntmps14
    go_wp2_with fail
    go_ret2
    exact ⟨Below.refl _ _, .inl ⟨53, by decide, rfl, HN.out⟩⟩
  · by_cases h2 : 4096 < glyphs
    · have HN : Hid (∀ p, ¬ readsGrp s glyphs p) := fun p h => by have := h.2.1; omega
      go_enter Tryd.func14, Tryd.ntmps14
      go_wp2_with fail
      go_ret2
      exact ⟨Below.refl _ _, .inl ⟨53, by decide, rfl, HN.out⟩⟩
    · have HGB : Hid (1 ≤ glyphs ∧ glyphs ≤ 4096) := by unfold Hid; omega
      go_enter Tryd.func14, Tryd.ntmps14
      go_wp2_with fail
      refine (readRows_c g s w HC.out HS.out).mono ?_
      rintro e w1 ⟨hb1, ⟨hne, rfl⟩ | ⟨he0, hn64, gr, rfl, hfl⟩⟩
      · have HN : Hid (∀ p, ¬ readsGrp s glyphs p) := fun p h => hne h.2.2.1
        have HB1 := Lib.hid hb1
        have HX := Lib.hid hne
        have hxb : (rowsErr s != 0) = true := by simpa using hne
        clear hb1 hne
        generalize rowsErr s = x at *
        go_wp2_with fail
        go_ret2
        exact ⟨HB1.out, .inl ⟨x, HX.out, rfl, HN.out⟩⟩
      · have HB1 := Lib.hid hb1
        have HFL := Lib.hid hfl
        have HE0 := Lib.hid he0
        obtain ⟨k, hk⟩ : ∃ k, rowsN s = k := ⟨_, rfl⟩
        rw [hk] at hn64 hfl
        rw [hk]
        have HK := Lib.hid hk
        have HK64 := Lib.hid hn64
        have HRW : Hid (IsRw w1 (some ⟨gr, 0, none⟩) k (rowF s)) := .inr ⟨gr, rfl, hfl⟩
        have HGR := Lib.hid hfl.lt
        obtain ⟨r, HR⟩ : ∃ r, Hid (chosenR k (rowF s) kindsL = r) := ⟨_, rfl⟩
        have HCH := Lib.hid (chosen_c (some ⟨gr, 0, none⟩) k (rowF s) r w1 HRW.out (by omega) (HG.out.below hb1) HR)
        clear hb1 hfl he0 hk hn64 HFL
        cases r with
        | none =>
          have HN : Hid (∀ p, ¬ readsGrp s glyphs p) := fun p h => by have := h.2.2.2.1; rw [HK.out, HR.out] at this; cases this
          go_wp2_with fail
          refine HCH.out.mono ?_
          rintro e w2 ⟨rfl, hb2⟩
          have HB2 := Lib.hid (HB1.out.trans (hb2.mono HB1.out.size))
          clear hb2
          simp only [optV]
          go_wp2_with fail
          go_ret2
          exact ⟨HB2.out, .inl ⟨52, by decide, rfl, HN.out⟩⟩
        | some p =>
          have HPB : Hid (0 ≤ p ∧ p ≤ 4294967295) := by
            obtain ⟨i, hi⟩ := chosenR_mem _ _ _ _ HR.out
            rw [hi]; exact rowF2_bound s i
          have HPP : Hid (∀ q, readsGrp s glyphs q → q = p) := fun q h => by have := h.2.2.2.1; rw [HK.out, HR.out] at this; exact (Option.some.inj this).symm
          go_wp2_with fail
          refine HCH.out.mono ?_
          rintro e w2 ⟨rfl, hb2⟩
          have HB2 := Lib.hid (HB1.out.trans (hb2.mono HB1.out.size))
          have HRW2 := Lib.hid (HRW.out.below hb2)
          have HGR2 : Hid (gr < w2.heap.size) := Nat.lt_of_lt_of_le HGR.out hb2.size
          clear hb2 HCH HRW HB1 HGR
          have hb3 := (Below.refl w2.heap.size w2).alloc (Nat.le_refl _) (.cells #[.int .i64 0, .int .i64 glyphs, .nilFunc, .map none] 47)
          have HB3 := Lib.hid (HB2.out.alloc HB2.out.size (.cells #[.int .i64 0, .int .i64 glyphs, .nilFunc, .map none] 47))
          have HM3 : Hid (MObj (w2.alloc (.cells #[.int .i64 0, .int .i64 glyphs, .nilFunc, .map none] 47)) w2.heap.size (.int .i64 0) (.int .i64 glyphs) .nilFunc (.map none)) := heap_alloc_new w2 _
          have HRW3 := Lib.hid (HRW2.out.below hb3)
          have HC3 := Lib.hid (keepC hb3 (keepC HB2.out HC.out))
          have HSZ3 : Hid (w2.heap.size < (w2.alloc (.cells #[.int .i64 0, .int .i64 glyphs, .nilFunc, .map none] 47)).heap.size) := HM3.out.lt
          have HGW : Hid (g < w2.heap.size ∧ w.heap.size ≤ w2.heap.size) := ⟨Nat.lt_of_lt_of_le HGL.out HB2.out.size, HB2.out.size⟩
          clear hb3 HRW2 HB2
          simp only [optV]
          go_wp2_with fail
          generalize (w2.alloc (.cells #[.int .i64 0, .int .i64 glyphs, .nilFunc, .map none] 47)) = w3 at *
          generalize w2.heap.size = gm at *
          refine (readFinder_c g s p w3 HC3.out HS.out HPB.out.1 HPB.out.2).mono ?_
          rintro e w4 ⟨hb4, ⟨a, x, hx, rfl, hng⟩ | ⟨v, ans, rfl, hfi, hgo⟩⟩
          · have HN : Hid (∀ p, ¬ readsGrp s glyphs p) := fun q h => by have := HPP.out q h; subst this; exact hng h.2.2.2.2.1
            have HB4 := Lib.hid (HB3.out.trans (hb4.mono HB3.out.size))
            have hm := HM3.out.below hb4
            obtain ⟨n0, n1, n2, n3⟩ := hm.cells
            have f0 := hm.frozen 0
            have f2 := hm.frozen 2
            have HX := Lib.hid hx
            have hxb : (x != 0) = true := by simpa using hx
            clear hb4 hng hx hm
            go_wp2_with fail
            go_ret2
            exact ⟨(HB4.out.setCell (p := ⟨gm, 0, none⟩) HGW.out.2 _).setCell (p := ⟨gm, 2, none⟩) HGW.out.2 _, .inl ⟨x, HX.out, rfl, HN.out⟩⟩
          · have HB4 := Lib.hid (HB3.out.trans (hb4.mono HB3.out.size))
            have hm := HM3.out.below hb4
            obtain ⟨n0, n1, n2, n3⟩ := hm.cells
            have f0 := hm.frozen 0
            have f2 := hm.frozen 2
            have hlt4 := hm.lt
            obtain ⟨form, HFO⟩ : ∃ form, Hid ((numOr s p 2).1 = form) := ⟨_, rfl⟩
            rw [HFO.out]
            have HGO := Lib.hid hgo
            obtain ⟨F, caps, hv, hen, hca⟩ := id hfi
            subst hv
            have HM5 := Lib.hid ((hm.set0 (.int .i64 form)).set2 (.func (.func F) #[] caps))
            have HF5 := Lib.hid (hfi.kept ((keeps_set (i := 0) HSZ3.out (.int .i64 form)).trans (keeps_set (i := 2) HSZ3.out (.func (.func F) #[] caps))))
            have HB5 := Lib.hid ((HB4.out.setCell (p := ⟨gm, 0, none⟩) HGW.out.2 (.int .i64 form)).setCell (p := ⟨gm, 2, none⟩) HGW.out.2 (.func (.func F) #[] caps))
            have hrw4 := HRW3.out.below hb4
            have HRW5 : Hid (IsRw ((w4.setCell ⟨gm, 0, none⟩ (.int .i64 form)).setCell ⟨gm, 2, none⟩ (.func (.func F) #[] caps)) (some ⟨gr, 0, none⟩) k (rowF s)) := by
              rcases hrw4 with h | ⟨g', hg', hf'⟩
              · exact .inl h
              · cases hg'
                have hne : gm ≠ gr := by have := HGR2.out; omega
                exact .inr ⟨gr, rfl, (hf'.other _ _ hne).other _ _ hne⟩
            have HC5 : Hid (((w4.setCell ⟨gm, 0, none⟩ (.int .i64 form)).setCell ⟨gm, 2, none⟩ (.func (.func F) #[] caps)).cell? ⟨g, 0, none⟩ = some (.string s)) := by
              have hne : ∀ i, (⟨gm, i, none⟩ : Addr) ≠ ⟨g, 0, none⟩ := fun i q => by have h1 : gm = g := congrArg Addr.block q; have := HGW.out; omega
              unfold Hid
              rw [World.cell?_setCell_other _ _ _ _ (hne _), World.cell?_setCell_other _ _ _ _ (hne _)]
              exact keepC hb4 HC3.out
            have HN5 : Hid (w3.heap.size ≤ ((w4.setCell ⟨gm, 0, none⟩ (.int .i64 form)).setCell ⟨gm, 2, none⟩ (.func (.func F) #[] caps)).heap.size) := by have := hb4.size; unfold Hid; simpa using this
            obtain ⟨r2, HR2⟩ : ∃ r2, Hid (firstR (rowF s) 0 5 k 0 = r2) := ⟨_, rfl⟩
            have HFO5 := Lib.hid (firstOf_c (some ⟨gr, 0, none⟩) k (rowF s) 0 5 r2 _ HRW5.out (by have := HK64.out; omega) HR2)
            clear hb4 hfi hgo hen hca hrw4 hm hlt4 HC3 HM3 HRW3 HB3 HB4
            go_wp2_with fail
            generalize ((w4.setCell ⟨gm, 0, none⟩ (.int .i64 form)).setCell ⟨gm, 2, none⟩ (.func (.func F) #[] caps)) = w5 at *
            refine HFO5.out.mono ?_
            rintro e w6 ⟨rfl, hb6⟩
            have HB6 := Lib.hid (HB5.out.trans (hb6.mono HB5.out.size))
            have HM6 := Lib.hid (HM5.out.below hb6)
            have HF6 := Lib.hid (HF5.out.kept (keeps_below _ hb6))
            have HC6 := Lib.hid (keepC hb6 HC5.out)
            have HN6 : Hid (w3.heap.size ≤ w6.heap.size) := Nat.le_trans HN5.out hb6.size
            clear hb6 HFO5 HB5 HM5 HF5 HC5 HN5 HRW5 n0 n1 n2 n3 f0 f2
            cases r2 with
            | none =>
              simp only [optV]
              go_wp2_with fail
              go_ret2
              refine ⟨HB6.out, .inr ⟨gm, form, ans, rfl, ⟨⟨w3.heap.size, _, _, HN6.out, HM6.out, HF6.out, .inl rfl⟩, HGB.out.1, HGB.out.2⟩, fun q h => ?_⟩⟩
              have := HPP.out q h
              subst this
              exact ⟨HFO.out.symm, HGO.out h.2.2.2.2.1⟩
            | some p2 =>
              have HPB2 : Hid (0 ≤ p2 ∧ p2 ≤ 4294967295) := by
                obtain ⟨i, hi⟩ := firstR_mem _ _ _ _ _ _ HR2.out
                rw [hi]; exact rowF2_bound s i
              have HN : Hid (∀ p, ¬ readsGrp s glyphs p) := fun q h => by have := h.2.2.2.2.2; rw [HK.out, HR2.out] at this; cases this
              have HSE := Lib.hid (readSelectors_c g s p2 w6 HC6.out HS.out HPB2.out.1 HPB2.out.2)
              simp only [optV]
              go_wp2_with fail
              refine HSE.out.mono ?_
              rintro e w7 ⟨hb7, ⟨x, hx, rfl⟩ | ⟨B, n, rfl, hsm⟩⟩
              · have HB7 := Lib.hid (HB6.out.trans (hb7.mono HB6.out.size))
                have hm := HM6.out.below hb7
                obtain ⟨n0, n1, n2, n3⟩ := hm.cells
                have f3 := hm.frozen 3
                have HX := Lib.hid hx
                have hxb : (x != 0) = true := by simpa using hx
                clear hb7 hx hm
                go_wp2_with fail
                go_ret2
                exact ⟨HB7.out.setCell (p := ⟨gm, 3, none⟩) HGW.out.2 _, .inl ⟨x, HX.out, rfl, HN.out⟩⟩
              · have HB7 := Lib.hid (HB6.out.trans (hb7.mono HB6.out.size))
                have hm := HM6.out.below hb7
                obtain ⟨n0, n1, n2, n3⟩ := hm.cells
                have f3 := hm.frozen 3
                have HM8 := Lib.hid (hm.set3 (.map (some B)))
                have HF8 := Lib.hid ((HF6.out.kept (keeps_below _ hb7)).kept (keeps_set (i := 3) HSZ3.out (.map (some B))))
                have HS8 := Lib.hid (hsm.setM (i := 3) hm (.map (some B)))
                have HN8 : Hid (w3.heap.size ≤ (w7.setCell ⟨gm, 3, none⟩ (.map (some B))).heap.size) := by have := HN6.out; have := hb7.size; unfold Hid; simp; omega
                clear hb7 hsm hm
                go_wp2_with fail
                go_ret2
                exact ⟨HB7.out.setCell (p := ⟨gm, 3, none⟩) HGW.out.2 _, .inr ⟨gm, form, ans, rfl, ⟨⟨w3.heap.size, _, _, HN8.out, HM8.out, HF8.out, .inr ⟨B, n, rfl, HS8.out⟩⟩, HGB.out.1, HGB.out.2⟩, fun q h => absurd h (HN.out q)⟩⟩

end Go.Proofs.YtfbgddigedgpfaaDoor
