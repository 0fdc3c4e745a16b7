/-
  The chapter's example and the font of one glyph that every statement of layer 4 asks first: metricAlive answers true, in every world.
-/
import Derived.Test.YtbcjicmledckbaaPie
import Derived.Test.YtbcjicmledckbaaFxLow
namespace Go.Proofs.Ytbcjicmledckbaa
open Go.RowKit Go.PlainAid Go.Lib
set_option linter.unusedSimpArgs false
set_option linter.unusedVariables false

theorem md320 : mulDiv 500 640 1000 = (320, 0) := by decide

set_option maxHeartbeats 1000000 in
theorem scale_ex (w : World) : Calls Try.prog 20 #[.agg #[.int .i64 0, .int .i64 1000, .int .i64 0, .int .i64 0, .int .i64 0, .int .i64 0, .slice none 0 0, .slice none 0 0, .slice none 0 0], .int .i64 500, .int .i64 640] w fun e w' => e = .returned (.tuple #[.int .i64 320, .int .i64 0]) ∧ Below w.heap.size w w' := by
  have hb0 : Below w.heap.size w (w.alloc (.cells #[.int .i64 0, .int .i64 1000, .int .i64 0, .int .i64 0, .int .i64 0, .int .i64 0, .slice none 0 0, .slice none 0 0, .slice none 0 0] 35)) := (Below.refl _ _).alloc (Nat.le_refl _) _
  have HB0 := Lib.hid hb0
  clear hb0
  go_enter Try.func20, Try.ntmps20
  go_wp2_with fail
  refine (unitsRight_c _ _).mono ?_
  rintro e w1 ⟨rfl, rfl⟩
  go_wp2_with fail
  refine (muldiv_low 500 640 1000 _ (by decide) (by decide) (by decide) (by decide) (by decide) (by decide) (by decide)).mono ?_
  rintro e w2 ⟨rfl, hb2⟩
  rw [md320]
  go_wp2_with fail
  go_ret2
  exact ⟨rfl, HB0.out.trans (hb2.mono HB0.out.size)⟩

/-- Pieces in memory, to be read by Build. -/
theorem isP_of {w : World} {b : Nat} : ∀ {l : List Pv} {ps : List Pce} (k : Nat), (∀ i p, l[i]? = some p → w.cell? ⟨b, (k + i) * 2, none⟩ = some (.string p.tag) ∧ w.cell? ⟨b, (k + i) * 2 + 1, none⟩ = some (.slice p.a p.n p.c)) → PcIs w l ps →
    ∀ i p, ps[i]? = some p → w.cell? ⟨b, (k + i) * 2, none⟩ = some (.string p.1) ∧ ∃ a c, w.cell? ⟨b, (k + i) * 2 + 1, none⟩ = some (.slice a p.2.size c) ∧ IsB w a p.2.size c p.2
  | [], [], k, h, _, i, p, hp => by simp at hp
  | v :: l, q :: ps, k, h, hp, i, p, hi => by
    cases i with
    | zero =>
      simp at hi
      subst hi
      have h0 := h 0 v (by simp)
      refine ⟨by rw [h0.1, hp.1.1], v.a, v.c, ?_, ?_⟩
      · rw [h0.2, hp.1.2.1]
      · have := hp.1.2.2; rwa [hp.1.2.1] at this
    | succ i =>
      have := isP_of (w := w) (b := b) (l := l) (ps := ps) (k + 1) (fun j p hj => by have := h (j + 1) p (by simpa using hj); rwa [show k + (j + 1) = k + 1 + j by omega] at this) hp.2 i p (by simpa using hi)
      rwa [show k + 1 + i = k + (i + 1) by omega] at this
theorem inP_isP {w : World} {b : Nat} {l : List Pv} {ps : List Pce} (h : InP w b l) (hp : PcIs w l ps) : IsP w b ps := by
  intro i p hi
  have := isP_of (w := w) (b := b) 0 (fun j q hj => by have := h j q hj; rwa [Nat.zero_add]) hp i p hi
  rwa [Nat.zero_add] at this
theorem pcIs_length {w : World} : ∀ {l : List Pv} {ps : List Pce}, PcIs w l ps → l.length = ps.length
  | [], [], _ => rfl
  | _ :: l, _ :: ps, h => by rw [List.length_cons, List.length_cons, pcIs_length h.2]

/-- The first font. -/
def metA : Met := ⟨1, 1000, 1, 800, -200, 0, [600], [-5], [0, 0]⟩
def glyfP : Pce := (tagB glyfTg, ByteArray.empty)
/-- Its tables in the order of their tags. -/
def piecesG (m : Met) : List Pce := [glyfP, (tagB headTg, headB m.units), (tagB hheaTg, hheaB m.ascent m.descent m.gap m.glyphs), (tagB hmtxTg, hmtxB m.adv m.bear), (tagB locaTg, locB m.places), (tagB maxpTg, maxpB m.glyphs)]
theorem sort_glyf {w : World} {l : List Pv} {m : Met} (hm : m.places ≠ []) (h : PcIs w l (piecesOf m)) (a : Option Addr) (c : Nat) (hg : IsB w a 0 c ByteArray.empty) : PcIs w (sortV (l ++ [⟨tagB glyfTg, a, 0, c⟩])) (piecesG m) := by
  unfold piecesOf at h
  rw [if_neg hm] at h
  match l, h with
  | [⟨t1, a1, n1, c1⟩, ⟨t2, a2, n2, c2⟩, ⟨t3, a3, n3, c3⟩, ⟨t4, a4, n4, c4⟩, ⟨t5, a5, n5, c5⟩], ⟨h1, h2, h3, h4, h5, _⟩ =>
    obtain ⟨e1, f1, g1⟩ := h1
    obtain ⟨e2, f2, g2⟩ := h2
    obtain ⟨e3, f3, g3⟩ := h3
    obtain ⟨e4, f4, g4⟩ := h4
    obtain ⟨e5, f5, g5⟩ := h5
    simp only at e1 e2 e3 e4 e5 f1 f2 f3 f4 f5
    subst e1 e2 e3 e4 e5
    have e : sortV ([⟨tagB headTg, a1, n1, c1⟩, ⟨tagB hheaTg, a2, n2, c2⟩, ⟨tagB hmtxTg, a3, n3, c3⟩, ⟨tagB locaTg, a4, n4, c4⟩, ⟨tagB maxpTg, a5, n5, c5⟩] ++ [⟨tagB glyfTg, a, 0, c⟩]) = [⟨tagB glyfTg, a, 0, c⟩, ⟨tagB headTg, a1, n1, c1⟩, ⟨tagB hheaTg, a2, n2, c2⟩, ⟨tagB hmtxTg, a3, n3, c3⟩, ⟨tagB locaTg, a4, n4, c4⟩, ⟨tagB maxpTg, a5, n5, c5⟩] := by kernel_rfl
    rw [e]
    exact ⟨⟨rfl, rfl, hg⟩, ⟨rfl, f1, g1⟩, ⟨rfl, f2, g2⟩, ⟨rfl, f3, g3⟩, ⟨rfl, f4, g4⟩, ⟨rfl, f5, g5⟩, trivial⟩

/-- Are the pieces right? -/
def riseL : List Pce → Bool
  | [] => true
  | [_] => true
  | p :: q :: r => Op.bytesLess p.1.toList q.1.toList && riseL (q :: r)
theorem rise_of : ∀ (l : List Pce), riseL l = true → ∀ i p q, l[i]? = some p → l[i + 1]? = some q → Op.bytesLess p.1.toList q.1.toList = true
  | [], _, i, p, q, h, _ => by simp at h
  | [a], _, i, p, q, _, h => by simp at h
  | a :: b :: r, h, 0, p, q, hp, hq => by
    simp [riseL] at h
    simp at hp hq
    subst hp hq
    exact h.1
  | a :: b :: r, h, i + 1, p, q, hp, hq => by
    simp only [riseL, Bool.and_eq_true] at h
    exact rise_of (b :: r) h.2 i p q (by simpa using hp) (by simpa using hq)
theorem good_of {l : List Pce} (h1 : (l.all fun p => p.1.size == 4) = true) (h2 : riseL l = true) (h3 : 1 ≤ l.length) (h4 : l.length ≤ 64) : Good l :=
  ⟨fun p hp => by simpa using List.all_eq_true.1 h1 p hp, rise_of l h2, h3, h4⟩
theorem goodG (m : Met) : Good (piecesG m) := good_of (by kernel_rfl) (by kernel_rfl) (by simp [piecesG]) (by simp [piecesG])
theorem bigA : bigEnough (piecesG metA) := by unfold bigEnough; decide +kernel
theorem openA : openOf (madeB 1 (piecesG metA)) 0 = (0, some (1, rowsL 108 (piecesG metA))) :=
  open_made 1 (piecesG metA) (.inl rfl) (by simp [piecesG]) (by simp [piecesG]) (goodG metA).tag (by kernel_rfl) (by decide +kernel)
theorem readA : readOf 1 (rowsL 108 (piecesG metA)) (madeB 1 (piecesG metA)) = (0, some metA) := by kernel_rfl
theorem fineA : Fine metA := ⟨by decide, by decide, by decide, by decide, by decide, by decide, rfl, by decide⟩
theorem wrap_m5 : IntKind.i64.wrap (-5) = -5 := by decide

/-- Metrics in new rows. -/
theorem metA_rows (w : World) : let w1 := ((w.alloc (.cells #[.int .i64 600] 3)).alloc (.cells #[.int .i64 (-5)] 3)).alloc (.cells #[.int .i64 0, .int .i64 0] 3)
    IsMet w1 metA (.agg #[.int .i64 1, .int .i64 1000, .int .i64 1, .int .i64 800, .int .i64 (-200), .int .i64 0, .slice (some ⟨w.heap.size, 0, none⟩) 1 1, .slice (some ⟨w.heap.size + 1, 0, none⟩) 1 1, .slice (some ⟨w.heap.size + 1 + 1, 0, none⟩) 2 2]) ∧ Below w.heap.size w w1 := by
  intro w1
  have i1 : IntsAt (w.alloc (.cells #[.int .i64 600] 3)) w.heap.size [600] := intsAt_alloc w [600]
  have b1 : Below w.heap.size w (w.alloc (.cells #[.int .i64 600] 3)) := (Below.refl _ _).alloc (Nat.le_refl _) _
  have z1 : (w.alloc (.cells #[.int .i64 600] 3)).heap.size = w.heap.size + 1 := by simp [go_sem]
  show IsMet (((w.alloc (.cells #[.int .i64 600] 3)).alloc (.cells #[.int .i64 (-5)] 3)).alloc (.cells #[.int .i64 0, .int .i64 0] 3)) _ _ ∧ Below _ _ (((w.alloc (.cells #[.int .i64 600] 3)).alloc (.cells #[.int .i64 (-5)] 3)).alloc (.cells #[.int .i64 0, .int .i64 0] 3))
  generalize (w.alloc (.cells #[.int .i64 600] 3)) = wa at *
  have i2 : IntsAt (wa.alloc (.cells #[.int .i64 (-5)] 3)) wa.heap.size [-5] := intsAt_alloc wa [-5]
  have b2 : Below wa.heap.size wa (wa.alloc (.cells #[.int .i64 (-5)] 3)) := (Below.refl _ _).alloc (Nat.le_refl _) _
  have z2 : (wa.alloc (.cells #[.int .i64 (-5)] 3)).heap.size = w.heap.size + 2 := by simp [go_sem, z1]
  generalize (wa.alloc (.cells #[.int .i64 (-5)] 3)) = wb at *
  have i3 : IntsAt (wb.alloc (.cells #[.int .i64 0, .int .i64 0] 3)) wb.heap.size [0, 0] := intsAt_alloc wb [0, 0]
  have b3 : Below wb.heap.size wb (wb.alloc (.cells #[.int .i64 0, .int .i64 0] 3)) := (Below.refl _ _).alloc (Nat.le_refl _) _
  generalize (wb.alloc (.cells #[.int .i64 0, .int .i64 0] 3)) = wc at *
  rw [z1] at i2
  rw [z2] at i3
  refine ⟨⟨_, _, _, 1, 1, 2, rfl, (i1.below b2 |>.below b3).isI rfl 1, (i2.below b3).isI rfl 1, i3.isI rfl 2, by simp [metA], by simp [metA], by simp [metA]⟩, (b1.trans (b2.mono (by omega))).trans (b3.mono (by omega))⟩

theorem sorted_n (b c n : Nat) (l : List Pv) (w : World) (hnn : n = l.length) (hI : InP w b l) (hn : l.length ≤ 1000) :
    Calls Try.prog 15 #[.slice (some ⟨b, 0, none⟩) n c] w fun e w' => ∃ g c', e = .returned (.slice (some ⟨g, 0, none⟩) n c') ∧ OwnP w.heap.size w' g c' (sortV l) ∧ Below w.heap.size w w' := by
  subst hnn; exact sorted_c b c l w hI hn
theorem build1_n (b c n : Nat) (l : List Pce) (w : World) (hnn : n = l.length) (hP : IsP w b l) (hG : Good l) (hS : bigEnough l) :
    Calls Try.prog 14 #[.int .i64 1, .slice (some ⟨b, 0, none⟩) n c] w fun e w' => ∃ g c', e = .returned (.tuple #[.slice (some ⟨g, 0, none⟩) (madeB 1 l).size c', .int .i64 0]) ∧ OwnB w.heap.size w' g c' (madeB 1 l) ∧ Below w.heap.size w w' := by
  subst hnn; exact build1_c b c l w hP hG hS
theorem build2_n (b c n : Nat) (l : List Pce) (w : World) (hnn : n = l.length) (hP : IsP w b l) (hG : Good l) (hS : bigEnough l) :
    Calls Try.prog 14 #[.int .i64 2, .slice (some ⟨b, 0, none⟩) n c] w fun e w' => ∃ g c', e = .returned (.tuple #[.slice (some ⟨g, 0, none⟩) (madeB 2 l).size c', .int .i64 0]) ∧ OwnB w.heap.size w' g c' (madeB 2 l) ∧ Below w.heap.size w w' := by
  subst hnn; exact build2_c b c l w hP hG hS
/-- A variable that holds metrics. -/
def MVar (w : World) (g : Nat) (vs : List Value) : Prop := ∀ i, i < 9 → w.cell? ⟨g, i, none⟩ = vs[i]?
theorem MVar.below {w w' : World} {g : Nat} {vs : List Value} (h : MVar w g vs) (hl : vs.length = 9) (hb : Below w.heap.size w w') : MVar w' g vs := by
  intro i hi
  have h1 := h i hi
  rw [List.getElem?_eq_getElem (by omega)] at h1 ⊢
  exact keepC hb h1
theorem mvar_alloc (w : World) (vs : List Value) (t : TypeId) : MVar (w.alloc (.cells vs.toArray t)) w.heap.size vs := by
  intro i hi
  rw [World.cell?_alloc_new]
  simp
theorem mvar_cells {w : World} {g : Nat} {u0 u1 u2 u3 u4 u5 u6 u7 u8 : Value} (h : MVar w g [u0, u1, u2, u3, u4, u5, u6, u7, u8]) :
    w.cell? ⟨g, 0, none⟩ = some u0 ∧ w.cell? ⟨g, 1, none⟩ = some u1 ∧ w.cell? ⟨g, 2, none⟩ = some u2 ∧ w.cell? ⟨g, 3, none⟩ = some u3 ∧ w.cell? ⟨g, 4, none⟩ = some u4 ∧ w.cell? ⟨g, 5, none⟩ = some u5 ∧ w.cell? ⟨g, 6, none⟩ = some u6 ∧ w.cell? ⟨g, 7, none⟩ = some u7 ∧ w.cell? ⟨g, 8, none⟩ = some u8 :=
  ⟨h 0 (by omega), h 1 (by omega), h 2 (by omega), h 3 (by omega), h 4 (by omega), h 5 (by omega), h 6 (by omega), h 7 (by omega), h 8 (by omega)⟩
/-- A made file, opened. -/
theorem open_of {w : World} {s : ByteArray} {g c : Nat} {B : Nat} {kd : Int} {l : List Row} (ho : OwnB B w g c s) (h : openOf s 0 = (0, some (kd, l))) :
    Calls Try.prog 10 #[.slice (some ⟨g, 0, none⟩) s.size c, .int .i64 0] w fun e w' => ∃ gf, e = .returned (.tuple #[.pointer (some ⟨gf, 0, none⟩), .int .i64 0]) ∧ FontIn w'.heap.size w' gf kd l s ∧ Below w.heap.size w w' := by
  refine (open_c (some ⟨g, 0, none⟩) c 0 s w (isB_of_owns ho)).mono ?_
  intro e w' hp
  unfold OpenPost at hp
  rw [h] at hp
  obtain ⟨⟨gf, he, hf⟩, hb⟩ := hp
  have hft := open_fits h
  exact ⟨gf, he, hf.inn hft.1 hft.2, hb⟩
theorem glyf_cells (w : World) : (w.alloc (.cells #[.string ⟨#[103, 108, 121, 102]⟩, .slice none 0 0] 48)).cell? ⟨w.heap.size, 0, none⟩ = some (.string ⟨#[103, 108, 121, 102]⟩) ∧ (w.alloc (.cells #[.string ⟨#[103, 108, 121, 102]⟩, .slice none 0 0] 48)).cell? ⟨w.heap.size, 1, none⟩ = some (.slice none 0 0) ∧ Below w.heap.size w (w.alloc (.cells #[.string ⟨#[103, 108, 121, 102]⟩, .slice none 0 0] 48)) :=
  ⟨by simp [go_sem], by simp [go_sem], (Below.refl _ _).alloc (Nat.le_refl _) _⟩
theorem none_isB (w : World) : IsB w none 0 0 ByteArray.empty := ⟨rfl, Nat.le_refl _, .inl rfl⟩

set_option maxHeartbeats 4000000 in
theorem alive_c (w : World) : Calls Try.prog 8 #[] w fun e w' => e = .returned (.bool true) ∧ Below w.heap.size w w' := by
  go_enter Try.func8, Try.ntmps8
  go_wp2_with fail
  refine (scale_ex _).mono ?_
  rintro e w1 ⟨rfl, hb1⟩
  have HB1 := Lib.hid hb1
  clear hb1
  have hM := metA_rows w1
  have hz0 : (((w1.alloc (.cells #[.int .i64 600] 3)).alloc (.cells #[.int .i64 (-5)] 3)).alloc (.cells #[.int .i64 0, .int .i64 0] 3)).heap.size = w1.heap.size + 1 + 1 + 1 := by simp [go_sem]
  have hba : Below (((w1.alloc (.cells #[.int .i64 600] 3)).alloc (.cells #[.int .i64 (-5)] 3)).alloc (.cells #[.int .i64 0, .int .i64 0] 3)).heap.size (((w1.alloc (.cells #[.int .i64 600] 3)).alloc (.cells #[.int .i64 (-5)] 3)).alloc (.cells #[.int .i64 0, .int .i64 0] 3)) ((((w1.alloc (.cells #[.int .i64 600] 3)).alloc (.cells #[.int .i64 (-5)] 3)).alloc (.cells #[.int .i64 0, .int .i64 0] 3)).alloc (.cells #[.int .i64 1, .int .i64 1000, .int .i64 1, .int .i64 800, .int .i64 (-200), .int .i64 0, .slice (some ⟨w1.heap.size, 0, none⟩) 1 1, .slice (some ⟨w1.heap.size + 1, 0, none⟩) 1 1, .slice (some ⟨w1.heap.size + 1 + 1, 0, none⟩) 2 2] 35)) := (Below.refl _ _).alloc (Nat.le_refl _) _
  have HM0 := Lib.hid (hM.1.below hba)
  have HV0 : Hid (MVar ((((w1.alloc (.cells #[.int .i64 600] 3)).alloc (.cells #[.int .i64 (-5)] 3)).alloc (.cells #[.int .i64 0, .int .i64 0] 3)).alloc (.cells #[.int .i64 1, .int .i64 1000, .int .i64 1, .int .i64 800, .int .i64 (-200), .int .i64 0, .slice (some ⟨w1.heap.size, 0, none⟩) 1 1, .slice (some ⟨w1.heap.size + 1, 0, none⟩) 1 1, .slice (some ⟨w1.heap.size + 1 + 1, 0, none⟩) 2 2] 35)) (w1.heap.size + 1 + 1 + 1) [.int .i64 1, .int .i64 1000, .int .i64 1, .int .i64 800, .int .i64 (-200), .int .i64 0, .slice (some ⟨w1.heap.size, 0, none⟩) 1 1, .slice (some ⟨w1.heap.size + 1, 0, none⟩) 1 1, .slice (some ⟨w1.heap.size + 1 + 1, 0, none⟩) 2 2]) := by have := mvar_alloc (((w1.alloc (.cells #[.int .i64 600] 3)).alloc (.cells #[.int .i64 (-5)] 3)).alloc (.cells #[.int .i64 0, .int .i64 0] 3)) [.int .i64 1, .int .i64 1000, .int .i64 1, .int .i64 800, .int .i64 (-200), .int .i64 0, .slice (some ⟨w1.heap.size, 0, none⟩) 1 1, .slice (some ⟨w1.heap.size + 1, 0, none⟩) 1 1, .slice (some ⟨w1.heap.size + 1 + 1, 0, none⟩) 2 2] 35; rwa [hz0] at this
  have HB0 : Hid (Below w.heap.size w ((((w1.alloc (.cells #[.int .i64 600] 3)).alloc (.cells #[.int .i64 (-5)] 3)).alloc (.cells #[.int .i64 0, .int .i64 0] 3)).alloc (.cells #[.int .i64 1, .int .i64 1000, .int .i64 1, .int .i64 800, .int .i64 (-200), .int .i64 0, .slice (some ⟨w1.heap.size, 0, none⟩) 1 1, .slice (some ⟨w1.heap.size + 1, 0, none⟩) 1 1, .slice (some ⟨w1.heap.size + 1 + 1, 0, none⟩) 2 2] 35))) := HB1.out.trans ((hM.2.trans (hba.mono hM.2.size)).mono HB1.out.size)
  clear hM hz0 hba HB1
  go_wp2_with fail
  generalize hW0 : ((((w1.alloc (.cells #[.int .i64 600] 3)).alloc (.cells #[.int .i64 (-5)] 3)).alloc (.cells #[.int .i64 0, .int .i64 0] 3)).alloc (.cells #[.int .i64 1, .int .i64 1000, .int .i64 1, .int .i64 800, .int .i64 (-200), .int .i64 0, .slice (some ⟨w1.heap.size, 0, none⟩) 1 1, .slice (some ⟨w1.heap.size + 1, 0, none⟩) 1 1, .slice (some ⟨w1.heap.size + 1 + 1, 0, none⟩) 2 2] 35)) = w0 at *
  clear hW0
  generalize hG : w1.heap.size + 1 + 1 + 1 = G at *
  clear hG
  refine (pieces_c metA _ w0 HM0.out fineA).mono ?_
  rintro e w2 ⟨g2, c2, l, Bp, rfl, ho2, hp2, hB1, hB2, hb2⟩
  have hgc := glyf_cells w2
  have HO2 := Lib.hid (owns_stay ho2 hgc.2.2)
  have HLL := Lib.hid (pcIs_length (hp2 w2 (Below.refl _ _)))
  have HPP := Lib.hid hp2
  have HBP := Lib.hid (And.intro hB1 hB2)
  have HBW2 := Lib.hid (HB0.out.trans (hb2.mono HB0.out.size))
  have HB02 := Lib.hid hb2
  have HBa := Lib.hid (hgc.2.2.mono hB2)
  have hg0 := hgc.1
  have hg1 := hgc.2.1
  have hbz := hgc.2.2.size
  have HBZ := Lib.hid hbz
  clear hgc ho2 hp2 hb2 hB1 hB2 hbz
  go_wp2_with (at_builtin; refine wpList_addP rfl _ _ rfl (w2.alloc (.cells #[.string ⟨#[103, 108, 121, 102]⟩, .slice none 0 0] 48)) Bp g2 c2 l ⟨tagB glyfTg, none, 0, 0⟩ w2.heap.size l.length rfl rfl rfl HO2.out hg0 hg1 (by have := HLL.out; simp [piecesOf, metA] at this; omega) (by have := HBP.out; have := HBZ.out; omega) ?_; intro g3 c3 w3 ho3 hg3 hat3; have HO3 := Lib.hid ho3; have HB3 := Lib.hid (grown_below HBa.out hg3 (by have := HBP.out; have := HBZ.out; omega) (owns_lt HO2.out).2); clear ho3 hg3 hat3)
  have HP3 := Lib.hid (sort_glyf (m := metA) (by simp [metA]) (HPP.out w3 HB3.out) none 0 (none_isB w3))
  have HB03 := Lib.hid (HB02.out.trans (HB3.out.mono HBP.out.1))
  clear HB02 HBa HB3 HBW2 hg0 hg1 HO2
  refine (sorted_n g3 c3 (l.length + 1) (l ++ [⟨tagB glyfTg, none, 0, 0⟩]) w3 (by simp) (ownP_in HO3.out) (by have := HLL.out; simp [piecesOf, metA] at this; simp; omega)).mono ?_
  rintro e w4 ⟨g4, c4, rfl, ho4, hb4⟩
  have HIP := Lib.hid (inP_isP (ownP_in ho4) (PcIs.below hb4 HP3.out))
  have HB04 := Lib.hid (HB03.out.trans (hb4.mono HB03.out.size))
  clear ho4 hb4 HB03 HP3 HO3
  go_wp2_with fail
  refine (build1_n g4 c4 (l.length + 1) (piecesG metA) w4 (by have := HLL.out; rw [this]; simp [piecesOf, metA, piecesG]) HIP.out (goodG metA) bigA).mono ?_
  rintro e w5 ⟨g5, c5, rfl, ho5, hb5⟩
  have HO5 := Lib.hid ho5
  have HB05 := Lib.hid (HB04.out.trans (hb5.mono HB04.out.size))
  clear ho5 hb5 HB04 HIP
  generalize hfile : madeB 1 (piecesG metA) = file at *
  have HOA : Hid (openOf file 0 = (0, some (1, rowsL 108 (piecesG metA)))) := by rw [← hfile]; exact openA
  have HRA : Hid (readOf 1 (rowsL 108 (piecesG metA)) file = (0, some metA)) := by rw [← hfile]; exact readA
  clear hfile
  generalize rowsL 108 (piecesG metA) = rows at *
  go_wp2_with fail
  refine (open_of HO5.out HOA.out).mono ?_
  rintro e w6 ⟨gf, rfl, hf6, hb6⟩
  have HF6 := Lib.hid hf6
  have HB06 := Lib.hid (HB05.out.trans (hb6.mono HB05.out.size))
  clear hf6 hb6 HB05 HO5
  go_wp2_with fail
  refine (read_c w6.heap.size gf 1 (.inl rfl) rows file w6 HF6.out (Nat.le_refl _)).mono ?_
  rw [HRA.out]
  rintro e w7 ⟨v, rfl, hm7, hb7⟩
  have HB07 := Lib.hid (HB06.out.trans (hb7.mono HB06.out.size))
  have HV7 := Lib.hid (HV0.out.below rfl HB07.out)
  have HM7 := Lib.hid (HM0.out.below HB07.out)
  have HI7 := Lib.hid hm7.isMet
  obtain ⟨ga, gb, pv, hv, _, _, _, _, hp, _⟩ := hm7
  obtain ⟨pa, pn, pc, rfl⟩ := rowAt_slice hp
  simp only [metA] at hv
  subst hv
  clear hb7 hp HB06 HF6
  have hba : Below w7.heap.size w7 (w7.alloc (.cells #[.int .i64 1, .int .i64 1000, .int .i64 1, .int .i64 800, .int .i64 (-200), .int .i64 0, .slice (some ⟨ga, 0, none⟩) 1 1, .slice (some ⟨gb, 0, none⟩) 1 1, .slice pa pn pc] 35)) := (Below.refl _ _).alloc (Nat.le_refl _) _
  have HB08 := Lib.hid (HB07.out.trans (hba.mono HB07.out.size))
  obtain ⟨d0, d1, d2, d3, d4, d5, d6, d7, d8⟩ := mvar_cells (HV7.out.below rfl hba)
  have HI8 := Lib.hid (HI7.out.below hba)
  have HM8 := Lib.hid (HM7.out.below hba)
  have HGG : Hid (G < w7.heap.size) := by have := World.block_lt_of_cell? w7 _ (mvar_cells HV7.out).1; exact this
  clear hba
  go_wp2_with fail
  refine (same_c metA _ _ _ HI8.out HM8.out).mono ?_
  rintro e w9 ⟨rfl, hb9⟩
  have HB09 := Lib.hid (HB08.out.trans (hb9.mono HB08.out.size))
  clear hb9
  go_wp2_with fail
  go_ret
  exact ⟨rfl, HB0.out.trans (HB09.out.mono HB0.out.size)⟩

end Go.Proofs.Ytbcjicmledckbaa
