/-
  What the functions of package cmap answer that read lists of spans: tellGroup, tellPlain, tellOwn, readSpans.
-/
import Derived.Test.YtfbgddigedgpfaaDoorCmD
namespace Go.Proofs.YtfbgddigedgpfaaDoor
open Go.RowKit Go.PlainAid
set_option linter.unusedSimpArgs false
set_option linter.unusedVariables false

/-- What a row tells: start, end, value, and whether it is right. -/
structure Told where
  a : Int
  b : Int
  c : Int
  ok : Bool
def tellG (r : ByteArray) : Told := ⟨(numOr r 0 4).1, (numOr r 4 4).1, (numOr r 8 4).1, decide ((numOr r 0 4).1 ≤ (numOr r 4 4).1) && decide ((numOr r 4 4).1 ≤ 1114111)⟩
def tellP (r : ByteArray) : Told := ⟨(numOr r 0 3).1, (numOr r 0 3).1 + (numOr r 3 1).1, 0, true⟩
def tellO (r : ByteArray) : Told := ⟨(numOr r 0 3).1, (numOr r 0 3).1, (numOr r 3 2).1, true⟩
/-- What a told row is as an answer. -/
def toldV (t : Told) : Value := .tuple #[.agg #[.int .i64 t.a, .int .i64 t.b, .int .i64 t.c], .bool t.ok]
/-- A call of the function goes into its text. -/
def Enters (N : Nat) : Prop := ∀ (args : Array Value) (w : World), (callFunc N args).run Tryd.prog w = .ok (.enter N args) w
/-- The function tells so. -/
def Tells (N : Nat) (tell : ByteArray → Told) : Prop := Enters N ∧ ∀ (g : Nat) (r : ByteArray) (w : World), w.cell? ⟨g, 0, none⟩ = some (.string r) → (r.size : Int) ≤ 140737488355328 →
  Calls Tryd.prog N #[.pointer (some ⟨g, 0, none⟩)] w fun e w' => e = .returned (toldV (tell r)) ∧ Below w.heap.size w w'

set_option maxHeartbeats 1000000 in
theorem tellGroup_c : Tells 48 tellG := by
  refine ⟨fun args w => by kernel_rfl, ?_⟩
  intro g r w hc hs
  have hc1 := keepC ((Below.refl w.heap.size w).alloc (Nat.le_refl _) (.cells #[.int .i64 0, .int .i64 0, .int .i64 0] 54)) hc
  have HC := Lib.hid hc1
  have HS := Lib.hid hs
  obtain ⟨a, ea, HA⟩ := numOr_ex r 0 4
  obtain ⟨b, eb, HB⟩ := numOr_ex r 4 4
  obtain ⟨c, ec, HD⟩ := numOr_ex r 8 4
  have HE : Hid (tellG r = ⟨a, b, c, decide (a ≤ b) && decide (b ≤ 1114111)⟩) := by unfold Hid tellG; rw [HA.out, HB.out, HD.out]
  clear hc hc1 hs
  by_cases h1 : a ≤ b
  · have HE1 : Hid (tellG r = ⟨a, b, c, decide (b ≤ 1114111)⟩) := by unfold Hid; rw [HE.out]; simp [h1]
    go_enter Tryd.func48, Tryd.ntmps48
    go_wp2_with fail
    refine (u32_c g 0 a ea r _ HC.out HS.out (by decide) HA).mono ?_
    rintro e w1 ⟨rfl, rfl⟩
    go_wp2_with fail
    refine (u32_c g 4 b eb r _ HC.out HS.out (by decide) HB).mono ?_
    rintro e w1 ⟨rfl, rfl⟩
    go_wp2_with fail
    refine (u32_c g 8 c ec r _ HC.out HS.out (by decide) HD).mono ?_
    rintro e w1 ⟨rfl, rfl⟩
    go_wp2_with fail
    refine bodyPost_ret (v := toldV ⟨a, b, c, decide (b ≤ 1114111)⟩) (by simp [results, Tryd.results48, go_sem]; rfl) rfl ⟨by rw [HE1.out], (Below.refl _ _).alloc (Nat.le_refl _) _⟩
  · have HE1 : Hid (tellG r = ⟨a, b, c, false⟩) := by unfold Hid; rw [HE.out]; simp [h1]
    go_enter Tryd.func48, Tryd.ntmps48
    go_wp2_with fail
    refine (u32_c g 0 a ea r _ HC.out HS.out (by decide) HA).mono ?_
    rintro e w1 ⟨rfl, rfl⟩
    go_wp2_with fail
    refine (u32_c g 4 b eb r _ HC.out HS.out (by decide) HB).mono ?_
    rintro e w1 ⟨rfl, rfl⟩
    go_wp2_with fail
    refine (u32_c g 8 c ec r _ HC.out HS.out (by decide) HD).mono ?_
    rintro e w1 ⟨rfl, rfl⟩
    go_wp2_with fail
    refine bodyPost_ret (v := toldV ⟨a, b, c, false⟩) (by simp [results, Tryd.results48, go_sem]; rfl) rfl ⟨by rw [HE1.out], (Below.refl _ _).alloc (Nat.le_refl _) _⟩

set_option maxHeartbeats 1000000 in
theorem tellPlain_c : Tells 51 tellP := by
  refine ⟨fun args w => by kernel_rfl, ?_⟩
  intro g r w hc hs
  have hc1 := keepC ((Below.refl w.heap.size w).alloc (Nat.le_refl _) (.cells #[.int .i64 0, .int .i64 0, .int .i64 0] 54)) hc
  have HC := Lib.hid hc1
  have HS := Lib.hid hs
  obtain ⟨a, ea, Ha⟩ := numOr_ex r 0 3
  obtain ⟨b, eb, Hb⟩ := numOr_ex r 3 1
  have HE1 : Hid (tellP r = ⟨a, a + b, 0, true⟩) := by unfold Hid tellP; rw [Ha.out, Hb.out]
  have hw : wrap64 (a + b) = a + b := by have := num24_bound Ha.out; have := num8_bound Hb.out; unfold wrap64; omega
  clear hc hc1 hs
  go_enter Tryd.func51, Tryd.ntmps51
  go_wp2_with fail
  refine (u24_c g 0 a ea r _ HC.out HS.out (by decide) Ha).mono ?_
  rintro e w1 ⟨rfl, rfl⟩
  go_wp2_with fail
  refine (u8_c g 3 b eb r _ HC.out HS.out (by decide) Hb).mono ?_
  rintro e w1 ⟨rfl, rfl⟩
  go_wp2_with fail
  refine bodyPost_ret (v := toldV ⟨a, a + b, 0, true⟩) (by simp [results, Tryd.results51, go_sem]; rfl) rfl ⟨by rw [HE1.out], (Below.refl _ _).alloc (Nat.le_refl _) _⟩

set_option maxHeartbeats 1000000 in
theorem tellOwn_c : Tells 52 tellO := by
  refine ⟨fun args w => by kernel_rfl, ?_⟩
  intro g r w hc hs
  have hc1 := keepC ((Below.refl w.heap.size w).alloc (Nat.le_refl _) (.cells #[.int .i64 0, .int .i64 0, .int .i64 0] 54)) hc
  have HC := Lib.hid hc1
  have HS := Lib.hid hs
  obtain ⟨a, ea, Ha⟩ := numOr_ex r 0 3
  obtain ⟨b, eb, Hb⟩ := numOr_ex r 3 2
  have HE1 : Hid (tellO r = ⟨a, a, b, true⟩) := by unfold Hid tellO; rw [Ha.out, Hb.out]
  clear hc hc1 hs
  go_enter Tryd.func52, Tryd.ntmps52
  go_wp2_with fail
  refine (u24_c g 0 a ea r _ HC.out HS.out (by decide) Ha).mono ?_
  rintro e w1 ⟨rfl, rfl⟩
  go_wp2_with fail
  refine (u16_c g 3 b eb r _ HC.out HS.out (by decide) Hb).mono ?_
  rintro e w1 ⟨rfl, rfl⟩
  go_wp2_with fail
  refine bodyPost_ret (v := toldV ⟨a, a, b, true⟩) (by simp [results, Tryd.results52, go_sem]; rfl) rfl ⟨by rw [HE1.out], (Below.refl _ _).alloc (Nat.le_refl _) _⟩

/-- The bytes of the j-th row of a list. -/
def spR (s : ByteArray) (p z j : Nat) : ByteArray := s.extract (p + z * j) (p + z * j + z)
/-- The m-th number of the list's spans. -/
def spF (s : ByteArray) (p z : Nat) (tell : ByteArray → Told) (m : Nat) : Int :=
  if m % 3 = 0 then (tell (spR s p z (m / 3))).a else if m % 3 = 1 then (tell (spR s p z (m / 3))).b else (tell (spR s p z (m / 3))).c
theorem spF0 (s : ByteArray) (p z : Nat) (tell : ByteArray → Told) (j : Nat) : spF s p z tell (3 * j) = (tell (spR s p z j)).a := by
  unfold spF; rw [if_pos (by omega), show 3 * j / 3 = j by omega]
theorem spF1 (s : ByteArray) (p z : Nat) (tell : ByteArray → Told) (j : Nat) : spF s p z tell (3 * j + 1) = (tell (spR s p z j)).b := by
  unfold spF; rw [if_neg (by omega), if_pos (by omega), show (3 * j + 1) / 3 = j by omega]
theorem spF2 (s : ByteArray) (p z : Nat) (tell : ByteArray → Told) (j : Nat) : spF s p z tell (3 * j + 2) = (tell (spR s p z j)).c := by
  unfold spF; rw [if_neg (by omega), if_neg (by omega), show (3 * j + 2) / 3 = j by omega]
/-- The end of the span ahead of the j-th. -/
def ahead (f : Nat → Int) : Nat → Int
  | 0 => -1
  | j + 1 => f (3 * j + 1)
/-- Is the j-th row there and right, and does it start above the end of the one ahead of it? -/
def spOk (s : ByteArray) (p z : Nat) (tell : ByteArray → Told) (j : Nat) : Prop := p + z * j + z ≤ s.size ∧ (tell (spR s p z j)).ok = true ∧ ahead (spF s p z tell) j < (tell (spR s p z j)).a
/-- What readSpans answers. -/
def SpansPost (s : ByteArray) (p z k : Nat) (tell : ByteArray → Told) (w : World) (e : Ending) (w' : World) : Prop :=
  Below w.heap.size w w' ∧ (((¬ ∀ j, j < k → spOk s p z tell j) ∧ e = .returned (.tuple #[.slice none 0 0, .int .i64 51])) ∨
    ((∀ j, j < k → spOk s p z tell j) ∧ ∃ g, w.heap.size ≤ g ∧ e = .returned (.tuple #[.slice (some ⟨g, 0, none⟩) k k, .int .i64 0]) ∧ FlatAt w' g 54 (partL (spF s p z tell) (3 * k) (3 * k))))
/-- What is kept while the spans are read. -/
structure SpW (w : World) (C N z : Nat) (f : Nat → Int) (k j : Nat) (wr : World) : Prop where
  bel : Below w.heap.size w wr
  c0 : wr.cell? ⟨w.heap.size, 0, none⟩ = some (.int .i64 (z : Int))
  c1 : wr.cell? ⟨w.heap.size, 1, none⟩ = some (.func (.func N) #[] #[])
  fl : FlatAt wr C 54 (partL f (3 * k) (3 * j))
  lt : w.heap.size < C
theorem SpW.below {w wr w' : World} {C N z k j : Nat} {f : Nat → Int} (h : SpW w C N z f k j wr) (hb : Below wr.heap.size wr w') : SpW w C N z f k j w' :=
  ⟨h.bel.trans (hb.mono h.bel.size), keepC hb h.c0, keepC hb h.c1, h.fl.below hb, h.lt⟩
theorem SpW.next {w wr : World} {C N z k j : Nat} {f : Nat → Int} {x0 x1 x2 : Int} (h : SpW w C N z f k j wr) (h0 : f (3 * j) = x0) (h1 : f (3 * j + 1) = x1) (h2 : f (3 * j + 2) = x2) :
    SpW w C N z f k (j + 1) (((wr.setCell ⟨C, j * 3, none⟩ (.int .i64 x0)).setCell ⟨C, j * 3 + 1, none⟩ (.int .i64 x1)).setCell ⟨C, j * 3 + 2, none⟩ (.int .i64 x2)) := by
  have hne := h.lt
  have ne : ∀ i m, (⟨C, i, none⟩ : Addr) ≠ ⟨w.heap.size, m, none⟩ := fun i m q => by have := congrArg Addr.block q; simp at this; omega
  refine ⟨((h.bel.setCell (p := ⟨C, j * 3, none⟩) (by simp; omega) _).setCell (p := ⟨C, j * 3 + 1, none⟩) (by simp; omega) _).setCell (p := ⟨C, j * 3 + 2, none⟩) (by simp; omega) _, ?_, ?_, h.fl.set3 h0 h1 h2, h.lt⟩
  · rw [World.cell?_setCell_other _ _ _ _ (ne _ _), World.cell?_setCell_other _ _ _ _ (ne _ _), World.cell?_setCell_other _ _ _ _ (ne _ _)]; exact h.c0
  · rw [World.cell?_setCell_other _ _ _ _ (ne _ _), World.cell?_setCell_other _ _ _ _ (ne _ _), World.cell?_setCell_other _ _ _ _ (ne _ _)]; exact h.c1

set_option maxRecDepth 20000 in
set_option maxHeartbeats 2000000 in
theorem readSpans_c (N z : Nat) (tell : ByteArray → Told) (hT : Tells N tell) (g p k : Nat) (s : ByteArray) (w : World) (hc : w.cell? ⟨g, 0, none⟩ = some (.string s)) (hs : (s.size : Int) ≤ 140737488355328) (hp : p ≤ 4294967300) (hk : k ≤ 4096) (hz : z ≤ 16) :
    Calls Tryd.prog 47 #[.pointer (some ⟨g, 0, none⟩), .int .i64 p, .int .i64 k, .agg #[.int .i64 z, .func (.func N) #[] #[]]] w (SpansPost s p z k tell w) := by
  have HC := Lib.hid hc
  have HS := Lib.hid hs
  have HT := Lib.hid hT
  have HP := Lib.hid (And.intro hp (And.intro hk hz))
  have hb00 := (Below.refl w.heap.size w).alloc (Nat.le_refl _) (.cells #[.int .i64 (z : Int), .func (.func N) #[] #[]] 96)
  obtain ⟨w0, hmk, hf0, hb0, hz0⟩ := make_three 48 54 Tryd.underlying48 infoSpan k (by omega) (w.alloc (.cells #[.int .i64 (z : Int), .func (.func N) #[] #[]] 96))
  have hlt0 : w.heap.size < (w.alloc (.cells #[.int .i64 (z : Int), .func (.func N) #[] #[]] 96)).heap.size := by simp [go_sem]
  have HW0 : Hid (SpW w (w.alloc (.cells #[.int .i64 (z : Int), .func (.func N) #[] #[]] 96)).heap.size N z (spF s p z tell) k 0 w0) :=
    ⟨hb00.trans (hb0.mono (by omega)), keepC hb0 (by simp [go_sem]), keepC hb0 (by simp [go_sem]), hf0 _, hlt0⟩
  clear hc hs hT hp hk hz hb00 hf0 hb0 hz0 hlt0
  generalize (w.alloc (.cells #[.int .i64 (z : Int), .func (.func N) #[] #[]] 96)).heap.size = C at *
  go_enter Tryd.func47, Tryd.ntmps47
  go_wp2_with fail
  go_loopw [11, 21] (fun a i wr => ∃ j : Nat, ∃ x : Int, j ≤ k ∧ a = .int .i64 x ∧ i = .int .i64 j ∧ Hid (ahead (spF s p z tell) j = x) ∧ Hid (∀ i, i < j → spOk s p z tell i) ∧ Hid (SpW w C N z (spF s p z tell) k j wr)) (fun _ i _ => k - (intOf i).toNat)
  case atStart => exact ⟨0, -1, Nat.zero_le _, rfl, rfl, rfl, fun i hi => by omega, HW0⟩
  case round =>
    clear HW0 hmk
    obtain ⟨j, x, hj, rfl, rfl, HA, HO, HW⟩ := hrel
    by_cases hlt : j < k
    · have hlt' : (j : Int) < (k : Int) := by omega
      have hw1 : wrap64 ((z : Int) * (j : Int)) = ((z * j : Nat) : Int) := by
        have := HP.out
        have h2 : z * j ≤ 16 * 4096 := Nat.mul_le_mul (by omega) (by omega)
        rw [← Int.natCast_mul]; unfold wrap64; omega
      obtain ⟨q, HQ⟩ : ∃ q, Hid (p + z * j = q) := ⟨_, rfl⟩
      have HQB : Hid (q ≤ 4295032836) := by
        have := HP.out
        have h2 : z * j ≤ 16 * 4096 := Nat.mul_le_mul (by omega) (by omega)
        unfold Hid; rw [← HQ.out]; omega
      have hw2 : wrap64 ((p : Int) + (z : Int) * (j : Int)) = (q : Int) := by
        have h2 := HQB.out
        rw [← HQ.out, ← Int.natCast_mul, ← Int.natCast_add, HQ.out]; unfold wrap64; omega
      have HX7 : Hid (wrap64 ((j : Int) + 1) = ((j + 1 : Nat) : Int)) := by have := HP.out; unfold Hid wrap64; omega
      have k0 := HW.out.c0
      have k1 := HW.out.c1
      have HCW := Lib.hid (keepC HW.out.bel HC.out)
      by_cases hin : q + z ≤ s.size
      · obtain ⟨r, HRR⟩ : ∃ r, Hid (spR s p z j = r) := ⟨_, rfl⟩
        have hcut := cut_at g q z (z : Int) rfl s wr HCW.out HS.out hin
        have e : s.extract q (q + z) = r := by rw [← HRR.out, spR, HQ.out]
        rw [e] at hcut
        have HCUT := Lib.hid hcut
        have HRS : Hid ((r.size : Int) ≤ 140737488355328) := by have := HS.out; unfold Hid; rw [← e, ByteArray.size_extract]; omega
        obtain ⟨x0, x1, x2, b, HTR⟩ : ∃ x0 x1 x2 b, Hid (tell r = ⟨x0, x1, x2, b⟩) := ⟨_, _, _, _, rfl⟩
        have HIN : Hid (p + z * j + z ≤ s.size) := by unfold Hid; rw [HQ.out]; exact hin
        have HX0 : Hid (spF s p z tell (3 * j) = x0) := by unfold Hid; rw [spF0, HRR.out, HTR.out]
        have HX1 : Hid (spF s p z tell (3 * j + 1) = x1) := by unfold Hid; rw [spF1, HRR.out, HTR.out]
        have HX2 : Hid (spF s p z tell (3 * j + 2) = x2) := by unfold Hid; rw [spF2, HRR.out, HTR.out]
        have HOK : Hid (spOk s p z tell j ↔ (b = true ∧ x < x0)) := by
          unfold Hid spOk; rw [HRR.out, HTR.out, HA.out]
          exact ⟨fun h => h.2, fun h => ⟨HIN.out, h⟩⟩
        have HJK : Hid (j < k) := hlt
        clear hcut hin hj hlt e
        go_wp2_with fail
        refine HCUT.out.mono ?_
        rintro e w1 ⟨rfl, hw⟩
        have hb1 : Below wr.heap.size wr w1 := by rw [hw]; exact (Below.refl _ _).alloc (Nat.le_refl _) _
        have HV1 : Hid (w1.cell? ⟨wr.heap.size, 0, none⟩ = some (.string r)) := by unfold Hid; rw [hw]; simp [go_sem]
        have HW1 := Lib.hid (HW.out.below hb1)
        have k1 := keepC hb1 k1
        clear hw hb1 HW HCUT HCW k0
        generalize wr.heap.size = gb at *
        have hen : ∀ (args : Array Value) (w : World), (callFunc N args).run Tryd.prog w = .ok (.enter N args) w := HT.out.1
        go_wp2_with fail
        clear hen
        refine (HT.out.2 gb r w1 HV1.out HRS.out).mono ?_
        rintro e w2 ⟨rfl, hb2⟩
        rw [HTR.out]
        have HW2 := Lib.hid (HW1.out.below hb2)
        clear hb2 HW1 HV1 k1
        have hb3 := (Below.refl w2.heap.size w2).alloc (Nat.le_refl _) (.cells #[.int .i64 x0, .int .i64 x1, .int .i64 x2] 54)
        have HW3 := Lib.hid (HW2.out.below hb3)
        obtain ⟨y0, m0⟩ := HW3.out.fl.there (i := j * 3) (by have := HJK.out; omega)
        obtain ⟨y1, m1⟩ := HW3.out.fl.there (i := j * 3 + 1) (by have := HJK.out; omega)
        obtain ⟨y2, m2⟩ := HW3.out.fl.there (i := j * 3 + 2) (by have := HJK.out; omega)
        have f0 := HW3.out.fl.frozen (j * 3)
        have f1 := HW3.out.fl.frozen (j * 3 + 1)
        have f2 := HW3.out.fl.frozen (j * 3 + 2)
        have HW4 := Lib.hid (HW3.out.next HX0.out HX1.out HX2.out)
        have hne := HW2.out.fl.lt
        have ne : ∀ i m, (⟨C, i, none⟩ : Addr) ≠ ⟨w2.heap.size, m, none⟩ := fun i m q => by have := congrArg Addr.block q; simp at this; omega
        have m5 : ((((w2.alloc (.cells #[.int .i64 x0, .int .i64 x1, .int .i64 x2] 54)).setCell ⟨C, j * 3, none⟩ (.int .i64 x0)).setCell ⟨C, j * 3 + 1, none⟩ (.int .i64 x1)).setCell ⟨C, j * 3 + 2, none⟩ (.int .i64 x2)).cell? ⟨w2.heap.size, 1, none⟩ = some (.int .i64 x1) := by
          rw [World.cell?_setCell_other _ _ _ _ (ne _ _), World.cell?_setCell_other _ _ _ _ (ne _ _), World.cell?_setCell_other _ _ _ _ (ne _ _)]
          simp [go_sem]
        clear hb3 hne ne
        simp only [toldV]
        cases b with
        | false =>
          have HN : Hid (¬ ∀ j, j < k → spOk s p z tell j) := fun h => by have := (HOK.out.1 (h j HJK.out)).1; cases this
          go_wp2_with fail
          go_ret2
          exact ⟨HW3.out.bel, .inl ⟨HN.out, rfl⟩⟩
        | true =>
          by_cases hx : x0 ≤ x
          · have HN : Hid (¬ ∀ j, j < k → spOk s p z tell j) := fun h => by have := (HOK.out.1 (h j HJK.out)).2; omega
            go_wp2_with fail
            go_ret2
            exact ⟨HW3.out.bel, .inl ⟨HN.out, rfl⟩⟩
          · have HO1 : Hid (∀ i, i < j + 1 → spOk s p z tell i) := fun i hi => by
              by_cases e : i = j
              · subst e; exact HOK.out.2 ⟨rfl, by omega⟩
              · exact HO.out i (by omega)
            go_wp2_with fail
            go_roundw
            case rel => exact ⟨j + 1, x1, HJK.out, rfl, by rw [HX7.out], by unfold Hid ahead; exact HX1.out, HO1, HW4⟩
            case measure => have := HJK.out; rw [HX7.out]; simp only [intOf]; omega
      · have HN : Hid (¬ ∀ j, j < k → spOk s p z tell j) := fun h => by have := (h j hlt).1; rw [HQ.out] at this; exact hin this
        have hno : hasB s (q : Int) (z : Int) = false := by simp [hasB]; omega
        have HCUT := Lib.hid (cut_no g (q : Int) (z : Int) s wr HCW.out HS.out (by have := HQB.out; omega) hno)
        clear hno hin
        go_wp2_with fail
        refine HCUT.out.mono ?_
        rintro e w1 ⟨rfl, rfl⟩
        go_wp2_with fail
        go_ret2
        exact ⟨HW.out.bel, .inl ⟨HN.out, rfl⟩⟩
    · have hlt' : ¬ (j : Int) < (k : Int) := by omega
      obtain rfl : j = k := by omega
      go_wp2_with fail
      go_ret2
      exact ⟨HW.out.bel, .inr ⟨HO.out, C, Nat.le_of_lt HW.out.lt, rfl, HW.out.fl⟩⟩

end Go.Proofs.YtfbgddigedgpfaaDoor
