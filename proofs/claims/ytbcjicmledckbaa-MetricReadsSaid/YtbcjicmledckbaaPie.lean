/-
  What the document's Pieces answers: the tables that say the metrics.
-/
import Derived.Test.YtbcjicmledckbaaCopy
namespace Go.Proofs.Ytbcjicmledckbaa
open Go.RowKit Go.PlainAid
set_option linter.unusedSimpArgs false
set_option linter.unusedVariables false

/-- Places in four bytes each. -/
def locB : List Int → ByteArray
  | [] => ByteArray.empty
  | p :: r => bigB p 4 ++ locB r
/-- The tables. -/
def piecesOf (m : Met) : List Pce := [(tagB headTg, headB m.units), (tagB hheaTg, hheaB m.ascent m.descent m.gap m.glyphs), (tagB hmtxTg, hmtxB m.adv m.bear)] ++ (if m.places = [] then [] else [(tagB locaTg, locB m.places)]) ++ [(tagB maxpTg, maxpB m.glyphs)]
/-- Pieces in memory are these. -/
def PcIs (w : World) : List Pv → List Pce → Prop
  | [], [] => True
  | v :: l, p :: ps => (v.tag = p.1 ∧ v.n = p.2.size ∧ IsB w v.a v.n v.c p.2) ∧ PcIs w l ps
  | _, _ => False
theorem PcIs.below {w w' : World} (hb : Below w.heap.size w w') : ∀ {l : List Pv} {ps : List Pce}, PcIs w l ps → PcIs w' l ps
  | [], [], _ => trivial
  | v :: l, p :: ps, h => ⟨⟨h.1.1, h.1.2.1, h.1.2.2.below hb⟩, PcIs.below hb h.2⟩
theorem own_three (w : World) (p q r : Pv) : OwnP w.heap.size (w.alloc (.cells #[.string p.tag, .slice p.a p.n p.c, .string q.tag, .slice q.a q.n q.c, .string r.tag, .slice r.a r.n r.c] 48)) w.heap.size 3 [p, q, r] :=
  ⟨rfl, .inr ⟨w.heap.size, 3, #[.string p.tag, .slice p.a p.n p.c, .string q.tag, .slice q.a q.n q.c, .string r.tag, .slice r.a r.n r.c], rfl, Nat.le_refl _, heap_alloc_new w _, Nat.le_refl _, by unfold maxLen; omega, rfl, rfl⟩⟩
theorem step_add {ops : Array Oper} {o : Oper} {t : Act} {K : Act → World → Prop} {Q : Exit → Act → World → Prop} {E : Prop} (hgd : o.guard = none) (sl x : Operand)
    (ho : o.op = .call { callee := .builtin .append, args := #[sl, x], argTypes := #[23, 23] })
    (w : World) (base g c : Nat) (s u : ByteArray) (a : Option Addr) (cap n m : Nat) (hn : n = s.size) (hm : m = u.size) (hs : t.eval sl = .slice (some ⟨g, 0, none⟩) n c) (hx : t.eval x = .slice a m cap)
    (hown : w.ownsRow base 5 1 (.slice (some ⟨g, 0, none⟩) s.size c) s.size (cellsOfStr s)) (hB : IsB w a u.size cap u) (hl : s.size + u.size ≤ 140737488355328) (hbase : base ≤ w.heap.size)
    (h : ∀ g' c' w', w'.ownsRow base 5 1 (.slice (some ⟨g', 0, none⟩) (s ++ u).size c') (s ++ u).size (cellsOfStr (s ++ u)) → w.grownBy w' (some g) → (g' = g ∨ w.heap.size ≤ g') → K (t.put o.dst (.slice (some ⟨g', 0, none⟩) (n + m) c')) w') :
    if Region.wanted o (yielded ops t.tmps) = true then Oper.wp Try.prog o t w K Q else E := by
  have hw : Region.wanted o (yielded ops t.tmps) = true := by simp [Region.wanted, hgd]
  rw [if_pos hw]
  subst hn hm
  obtain ⟨g', c', w', hr, h2, h3, h4⟩ := append_add w base o.type g c s u a cap hown hB hl hbase
  have e : s.size + u.size = (s ++ u).size := by rw [ByteArray.size_append]
  have h2' := h2
  rw [e] at h2'
  unfold Oper.wp execOp
  simp only [ho, resolve, invoke, builtin, Sem.run_bind, Sem.run_pure, Result.andThen_ok, List.map_toArray, List.map_cons, List.map_nil, hs, hx, hr]
  exact h g' c' w' h2' h3 h4
theorem hmtxB_snoc (a b : Int) : ∀ (l m : List Int), l.length = m.length → hmtxB (l ++ [a]) (m ++ [b]) = hmtxB l m ++ twoB [a, b]
  | [], [], _ => by simp [hmtxB, join_empty, ByteArray.append_empty]
  | x :: l, y :: m, h => by rw [List.cons_append, List.cons_append, hmtxB, hmtxB_snoc a b l m (by simpa using h), hmtxB, join_assoc]
theorem locB_snoc (a : Int) : ∀ (l : List Int), locB (l ++ [a]) = locB l ++ bigB a 4
  | [] => by simp [locB, join_empty, ByteArray.append_empty]
  | x :: l => by rw [List.cons_append, locB, locB_snoc a l, locB, join_assoc]
theorem locB_size : ∀ (l : List Int), (locB l).size = 4 * l.length
  | [] => rfl
  | x :: l => by rw [locB, ByteArray.size_append, bigB_size, locB_size l, List.length_cons]; omega
theorem take_int {l : List Int} {k : Nat} (h : k < l.length) : l.take (k + 1) = l.take k ++ [l.getD k 0] := by
  rw [List.take_add_one]; simp [List.getD, h]
/-- Metrics that can be written. -/
structure Fine (m : Met) : Prop where
  units : 0 ≤ m.units ∧ m.units ≤ 4611686018427387904
  glyphs : 0 ≤ m.glyphs ∧ m.glyphs ≤ 4611686018427387904
  three : ∀ x ∈ [m.ascent, m.descent, m.gap], -65536 ≤ x ∧ x ≤ 4611686018427387904
  adv : ∀ x ∈ m.adv, -65536 ≤ x ∧ x ≤ 4611686018427387904
  bear : ∀ x ∈ m.bear, -65536 ≤ x ∧ x ≤ 4611686018427387904
  places : ∀ x ∈ m.places, 0 ≤ x ∧ x ≤ 4611686018427387904
  len : m.bear.length = m.adv.length
  small : m.adv.length ≤ 4096 ∧ m.places.length ≤ 4097

theorem bel_undrew {w w' : World} (h : Below w.drew.heap.size w.drew w') : Below w.heap.size w w' := ⟨h.os, h.tape, h.output, h.size, h.block⟩
theorem head_size (u : Int) : (headB u).size = 54 := by
  rw [headB]; simp only [ByteArray.size_append, zerosB_size, bigB_size]; rfl
theorem hhea_size (a d g n : Int) : (hheaB a d g n).size = 36 := by
  rw [hheaB]; simp only [ByteArray.size_append, zerosB_size, bigB_size, twoB_size, List.length_cons, List.length_nil]
theorem maxp_size (n : Int) : (maxpB n).size = 6 := by
  rw [maxpB]; simp only [ByteArray.size_append, bigB_size]; rfl
/-- What the first loop reads. -/
def Four (G0 : Nat) (A B : Value) (pa pb : Addr) (x y : Int) (W : World) : Prop := W.cell? ⟨G0, 6, none⟩ = some A ∧ W.cell? ⟨G0, 7, none⟩ = some B ∧ W.cell? pa = some (.int .i64 x) ∧ W.cell? pb = some (.int .i64 y)
theorem Four.below {G0 : Nat} {A B : Value} {pa pb : Addr} {x y : Int} {w w' : World} (h : Four G0 A B pa pb x y w) (hb : Below w.heap.size w w') : Four G0 A B pa pb x y w' := ⟨keepC hb h.1, keepC hb h.2.1, keepC hb h.2.2.1, keepC hb h.2.2.2⟩
theorem Four.grown {G0 : Nat} {A B : Value} {pa pb : Addr} {x y : Int} {w w' : World} {g : Nat} (h : Four G0 A B pa pb x y w) (hg : w.grownBy w' (some g)) (h0 : G0 < g) (h1 : pa.block < g) (h2 : pb.block < g) : Four G0 A B pa pb x y w' :=
  ⟨hg.cell h.1 (by simp; omega), hg.cell h.2.1 (by simp; omega), hg.cell h.2.2.1 (by simp; omega), hg.cell h.2.2.2 (by simp; omega)⟩
/-- The metrics, laid into a variable. -/
structure Box (w : World) (g : Nat) (mk mu mg ma md mgp : Int) (a b p : Option Addr) (na nb np ca cb cp : Nat) : Prop where
  c1 : w.cell? ⟨g, 1, none⟩ = some (.int .i64 mu)
  c2 : w.cell? ⟨g, 2, none⟩ = some (.int .i64 mg)
  c3 : w.cell? ⟨g, 3, none⟩ = some (.int .i64 ma)
  c4 : w.cell? ⟨g, 4, none⟩ = some (.int .i64 md)
  c5 : w.cell? ⟨g, 5, none⟩ = some (.int .i64 mgp)
  c6 : w.cell? ⟨g, 6, none⟩ = some (.slice a na ca)
  c7 : w.cell? ⟨g, 7, none⟩ = some (.slice b nb cb)
  c8 : w.cell? ⟨g, 8, none⟩ = some (.slice p np cp)
theorem Box.below {w w' : World} {g : Nat} {mk mu mg ma md mgp : Int} {a b p : Option Addr} {na nb np ca cb cp : Nat} (h : Box w g mk mu mg ma md mgp a b p na nb np ca cb cp) (hb : Below w.heap.size w w') : Box w' g mk mu mg ma md mgp a b p na nb np ca cb cp :=
  ⟨keepC hb h.c1, keepC hb h.c2, keepC hb h.c3, keepC hb h.c4, keepC hb h.c5, keepC hb h.c6, keepC hb h.c7, keepC hb h.c8⟩
theorem Box.kept {w w' : World} {g B : Nat} {mk mu mg ma md mgp : Int} {a b p : Option Addr} {na nb np ca cb cp : Nat} (h : Box w g mk mu mg ma md mgp a b p na nb np ca cb cp) (hb : Below B w w') (hg : g < B) : Box w' g mk mu mg ma md mgp a b p na nb np ca cb cp := by
  refine ⟨?_, ?_, ?_, ?_, ?_, ?_, ?_, ?_⟩ <;> rw [hb.cell (by exact hg)]
  · exact h.c1
  · exact h.c2
  · exact h.c3
  · exact h.c4
  · exact h.c5
  · exact h.c6
  · exact h.c7
  · exact h.c8
theorem make36 (w : World) : ∃ w', (Instr.makeSlice 23 (.int .i64 36) (.int .i64 36)).run Try.prog w = .ok (.slice (some ⟨w.heap.size, 0, none⟩) 36 36) w' ∧ BytL w' w.heap.size (List.replicate 36 0) ∧ Below w.heap.size w w' ∧ w'.heap.size = w.heap.size + 1 := make_bytes 36 (by omega) w
theorem box_start (w : World) (mk mu mg ma md mgp : Int) (a b p : Option Addr) (na nb np ca cb cp : Nat) :
    ∃ w1, (Instr.makeSlice 23 (.int .i64 54) (.int .i64 54)).run Try.prog (w.alloc (.cells #[.int .i64 mk, .int .i64 mu, .int .i64 mg, .int .i64 ma, .int .i64 md, .int .i64 mgp, .slice a na ca, .slice b nb cb, .slice p np cp] 35)) = .ok (.slice (some ⟨w.heap.size + 1, 0, none⟩) 54 54) w1 ∧ Box w1 w.heap.size mk mu mg ma md mgp a b p na nb np ca cb cp ∧ BytL w1 (w.heap.size + 1) (List.replicate 54 0) ∧ Below w.heap.size w w1 ∧ w1.heap.size = w.heap.size + 2 := by
  obtain ⟨w1, hmk1, hi1, hb1, hz1⟩ := make_bytes 54 (by omega) (w.alloc (.cells #[.int .i64 mk, .int .i64 mu, .int .i64 mg, .int .i64 ma, .int .i64 md, .int .i64 mgp, .slice a na ca, .slice b nb cb, .slice p np cp] 35))
  have hz : (w.alloc (.cells #[.int .i64 mk, .int .i64 mu, .int .i64 mg, .int .i64 ma, .int .i64 md, .int .i64 mgp, .slice a na ca, .slice b nb cb, .slice p np cp] 35)).heap.size = w.heap.size + 1 := by simp [go_sem]
  have hb0 : Below w.heap.size w (w.alloc (.cells #[.int .i64 mk, .int .i64 mu, .int .i64 mg, .int .i64 ma, .int .i64 md, .int .i64 mgp, .slice a na ca, .slice b nb cb, .slice p np cp] 35)) := (Below.refl _ _).alloc (Nat.le_refl _) _
  have hbox : Box (w.alloc (.cells #[.int .i64 mk, .int .i64 mu, .int .i64 mg, .int .i64 ma, .int .i64 md, .int .i64 mgp, .slice a na ca, .slice b nb cb, .slice p np cp] 35)) w.heap.size mk mu mg ma md mgp a b p na nb np ca cb cp := by
    refine ⟨?_, ?_, ?_, ?_, ?_, ?_, ?_, ?_⟩ <;> simp [go_sem]
  rw [hz] at hmk1 hi1 hz1
  exact ⟨w1, hmk1, hbox.below hb1, hi1, hb0.trans (hb1.mono (by omega)), hz1⟩

/-- How Pieces ends: a row of pieces that lies above all that it names. -/
def PiecesPost (w : World) (m : Met) (e : Ending) (w' : World) : Prop := ∃ g c l Bp, e = .returned (.slice (some ⟨g, 0, none⟩) l.length c) ∧ OwnP Bp w' g c l ∧ (∀ w2, Below Bp w' w2 → PcIs w2 l (piecesOf m)) ∧ w.heap.size ≤ Bp ∧ Bp ≤ w'.heap.size ∧ Below w.heap.size w w'

set_option maxHeartbeats 4000000 in
set_option maxRecDepth 20000 in
theorem pieces_c (m : Met) (v : Value) (w : World) (hv : IsMet w m v) (hf : Fine m) :
    Calls Try.prog 16 #[v] w (PiecesPost w m) := by
  obtain ⟨a, b, p, ca, cb, cp, rfl, ha, hb, hp, hla, hlb, hlp⟩ := hv
  have HF := Lib.hid hf
  obtain ⟨mk, mu, mg, ma, md, mgp, adv, bear, places⟩ := m
  simp only at *
  have HA := Lib.hid (And.intro ha hb)
  have HP := Lib.hid hp
  clear ha hb hp hla hlb hlp hf
  generalize hna : adv.length = na at *
  generalize hnb : bear.length = nb at *
  generalize hnp : places.length = np at *
  have HLN := Lib.hid (And.intro hna (And.intro hnb hnp))
  have HN2 : Hid (nb = na ∧ na ≤ 4096 ∧ np ≤ 4097) := by have h1 := HF.out.len; have h2 := HF.out.small; simp only at h1 h2; unfold Hid; omega
  clear hna hnb hnp
  obtain ⟨w1, hmk1, hbox, hi1, hb1, hz1⟩ := box_start w mk mu mg ma md mgp a b p na nb np ca cb cp
  obtain ⟨w2, hcp2, hby2, hg2, hz2⟩ := copy_into (w1.alloc (.cells #[.int .u8 95, .int .u8 15, .int .u8 60, .int .u8 245] 5)) 3 (w.heap.size + 1) 12 42 42 (List.replicate 54 0) ⟨#[95, 15, 60, 245]⟩ w1.heap.size 0 4 4 rfl (hi1.below ((Below.refl _ _).alloc (Nat.le_refl _) _)) (by decide) (by decide) (by decide) (lit_isB (0, 0) (by kernel_rfl))
  have HBX1 := Lib.hid hbox
  have HB1 := Lib.hid hb1
  have HZ1 := Lib.hid hz1
  have hba : Below w1.heap.size w1 (w1.alloc (.cells #[.int .u8 95, .int .u8 15, .int .u8 60, .int .u8 245] 5)) := (Below.refl _ _).alloc (Nat.le_refl _) _
  have hbb : Below (w.heap.size + 1) w1 w2 := (hba.mono (by omega)).grown hg2 (by have := hba.size; omega) (fun k hk => by cases hk; exact Nat.le_refl _)
  have HBX2 := Lib.hid (hbox.kept hbb (by omega))
  have HB2 := Lib.hid (hb1.trans (hbb.mono (by omega)))
  have HBY2 := Lib.hid hby2
  have HZ2 : Hid (w2.heap.size = w.heap.size + 3) := by unfold Hid; rw [hz2]; simp [go_sem]; omega
  clear hbox hi1 hb1 hz1 hby2 hg2 hz2 hba hbb
  go_enter Try.func16, Try.ntmps16
  go_wp2_with fail
  clear hmk1 hcp2
  have hS2 := HBX2.out.c1
  go_region_held3 (fun W => W.cell? ⟨w.heap.size, 1, none⟩ = some (.int .i64 mu)) (first | exact hS2 | exact hS3 | exact hS4)
    (first | (go_at_call 40; refine (big2_c mu w2.drew HF.out.units.1 (by have := HF.out.units.2; simp only at this; omega)).mono ?_; rintro e w3 ⟨rfl, hby, hb3'⟩; have hb3 := bel_undrew hb3'; clear hb3'; have hS3 := keepC hb3 hS2; obtain ⟨w4, hcp4, hby4, hg4, hz4⟩ := copy_into w3 3 (w.heap.size + 1) 18 36 36 _ (bigB mu 2) w2.heap.size 0 2 2 (bigB_size 2 mu).symm (HBY2.out.below hb3) (by rw [layL_length 0, bigB_size]; decide) (by rw [bigB_size]; decide) (by rw [bigB_size]; decide) (bigIs hby (by omega)); have hS4 := hg4.cell hS3 (by simp)))
  have hbk4 : Below (w.heap.size + 1) w2 w4 := (hb3.mono (by have := HZ2.out; omega)).grown hg4 (by have := hb3.size; have := HZ2.out; omega) (fun k hk => by cases hk; exact Nat.le_refl _)
  have HBX4 := Lib.hid (HBX2.out.kept hbk4 (by omega))
  have HB4 := Lib.hid (HB2.out.trans (hbk4.mono (by omega)))
  have HZ4 : Hid (w.heap.size + 3 ≤ w4.heap.size) := by have := hbk4.size; have := HZ2.out; unfold Hid; omega
  have hc51 := hby4.cell (i := 51) (by rw [layL_length 0, layL_length 0]; decide)
  have hf51 := hby4.frozen 51
  have hd5 := hby4.set 51 1
  rw [head_list] at hd5
  have HD5 := Lib.hid hd5
  have HB5 := Lib.hid (HB4.out.setCell (p := ⟨w.heap.size + 1, 51, none⟩) (by show w.heap.size ≤ w.heap.size + 1; omega) (.int .u8 1))
  have hbk5 : Below (w.heap.size + 1) w4 (w4.setCell ⟨w.heap.size + 1, 51, none⟩ (.int .u8 1)) := (Below.refl _ _).setCell (p := ⟨w.heap.size + 1, 51, none⟩) (Nat.le_refl _) _
  have HBX5 := Lib.hid (HBX4.out.kept hbk5 (by omega))
  have HZ5 : Hid (w.heap.size + 3 ≤ (w4.setCell ⟨w.heap.size + 1, 51, none⟩ (.int .u8 1)).heap.size) := by have := HZ4.out; unfold Hid; simp [go_sem]; omega
  obtain ⟨w6, hmk6, hi6, hb6, hz6⟩ := make36 (w4.setCell ⟨w.heap.size + 1, 51, none⟩ (.int .u8 1))
  have hsz : (w4.setCell ⟨w.heap.size + 1, 51, none⟩ (.int .u8 1)).heap.size = w4.heap.size := by simp [go_sem]
  have HB6k : Hid (Below (w4.setCell ⟨w.heap.size + 1, 51, none⟩ (.int .u8 1)).heap.size (w4.setCell ⟨w.heap.size + 1, 51, none⟩ (.int .u8 1)) w6) := hb6
  rw [hsz] at hmk6 hi6 hz6
  have HSZ := Lib.hid hsz
  have HI6 := Lib.hid hi6
  have HZ6 := Lib.hid hz6
  clear hbk4 hby4 hg4 hz4 hd5 hbk5 hi6 hb6 hz6 hsz hby hb3 hS2 hS3 hS4 hcp4 HBX1 HB1 HZ1 HBX2 HB2 HBY2 HZ2
  go_wp2_with fail
  clear hmk6 hc51 hf51
  generalize hw5 : (w4.setCell ⟨w.heap.size + 1, 51, none⟩ (.int .u8 1)) = w5 at *
  clear hw5 HBX4 HB4 HZ4
  have HBX6 := Lib.hid (HBX5.out.below HB6k.out)
  have HD6 := Lib.hid (HD5.out.below HB6k.out)
  have HB6 := Lib.hid (HB5.out.trans (HB6k.out.mono HB5.out.size))
  generalize hG2 : w4.heap.size = G2 at *
  have HG2 : Hid (w.heap.size + 3 ≤ G2) := by have h1 := HZ5.out; rw [HSZ.out] at h1; exact h1
  clear hG2
  have hS6 : w6.cell? ⟨w.heap.size, 3, none⟩ = some (.int .i64 ma) ∧ w6.cell? ⟨w.heap.size, 4, none⟩ = some (.int .i64 md) ∧ w6.cell? ⟨w.heap.size, 5, none⟩ = some (.int .i64 mgp) := ⟨HBX6.out.c3, HBX6.out.c4, HBX6.out.c5⟩
  have hba6 : Below w6.heap.size w6 (w6.drew.alloc (.cells #[.int .i64 ma, .int .i64 md, .int .i64 mgp] 3)) := bel_undrew ((Below.refl _ _).alloc (Nat.le_refl _) _)
  have hS6a : (w6.drew.alloc (.cells #[.int .i64 ma, .int .i64 md, .int .i64 mgp] 3)).cell? ⟨w.heap.size, 3, none⟩ = some (.int .i64 ma) ∧ (w6.drew.alloc (.cells #[.int .i64 ma, .int .i64 md, .int .i64 mgp] 3)).cell? ⟨w.heap.size, 4, none⟩ = some (.int .i64 md) ∧ (w6.drew.alloc (.cells #[.int .i64 ma, .int .i64 md, .int .i64 mgp] 3)).cell? ⟨w.heap.size, 5, none⟩ = some (.int .i64 mgp) := ⟨keepC hba6 hS6.1, keepC hba6 hS6.2.1, keepC hba6 hS6.2.2⟩
  have hI3 : IsI (w6.drew.alloc (.cells #[.int .i64 ma, .int .i64 md, .int .i64 mgp] 3)) (some ⟨w6.heap.size, 0, none⟩) 3 3 [ma, md, mgp] := (intsAt_alloc w6.drew [ma, md, mgp]).isI rfl 3
  go_region_held3 (fun W => W.cell? ⟨w.heap.size, 3, none⟩ = some (.int .i64 ma) ∧ W.cell? ⟨w.heap.size, 4, none⟩ = some (.int .i64 md) ∧ W.cell? ⟨w.heap.size, 5, none⟩ = some (.int .i64 mgp)) (first | exact hS6 | exact hS6a | exact hS7 | exact hS8)
    (first | (go_at_call 41; refine (two_c _ 3 3 [ma, md, mgp] (w6.drew.alloc (.cells #[.int .i64 ma, .int .i64 md, .int .i64 mgp] 3)) hI3 (by omega) HF.out.three).mono ?_; rintro e w7 ⟨g7, c7, rfl, ho7, hb7⟩; have hS7 : w7.cell? ⟨w.heap.size, 3, none⟩ = some (.int .i64 ma) ∧ w7.cell? ⟨w.heap.size, 4, none⟩ = some (.int .i64 md) ∧ w7.cell? ⟨w.heap.size, 5, none⟩ = some (.int .i64 mgp) := ⟨keepC hb7 hS6a.1, keepC hb7 hS6a.2.1, keepC hb7 hS6a.2.2⟩; obtain ⟨w8, hcp8, hby8, hg8, hz8⟩ := copy_into w7 3 G2 4 32 32 (List.replicate 36 0) (twoB [ma, md, mgp]) g7 0 c7 6 (by rw [twoB_size]; rfl) ((HI6.out.below hba6).below hb7) (by rw [twoB_size]; simp) (by rw [twoB_size]; simp) (by rw [twoB_size]; simp) (isB_of_owns ho7); have hS8 : w8.cell? ⟨w.heap.size, 3, none⟩ = some (.int .i64 ma) ∧ w8.cell? ⟨w.heap.size, 4, none⟩ = some (.int .i64 md) ∧ w8.cell? ⟨w.heap.size, 5, none⟩ = some (.int .i64 mgp) := ⟨hg8.cell hS7.1 (by have := HG2.out; simp; omega), hg8.cell hS7.2.1 (by have := HG2.out; simp; omega), hg8.cell hS7.2.2 (by have := HG2.out; simp; omega)⟩))
  have hb67 : Below w6.heap.size w6 w7 := hba6.trans (hb7.mono hba6.size)
  have hbk8 : Below G2 w6 w8 := (hb67.mono (by have := HZ6.out; omega)).grown hg8 (by have := hb67.size; have := HZ6.out; omega) (fun k hk => by cases hk; exact Nat.le_refl _)
  have HBX8 := Lib.hid (HBX6.out.kept hbk8 (by have := HG2.out; omega))
  have HD8 := Lib.hid (HD6.out.kept hbk8 (by have := HG2.out; omega))
  have HB8 := Lib.hid (HB6.out.trans (hbk8.mono (by have := HG2.out; omega)))
  have HI8 := Lib.hid hby8
  have HZ8 : Hid (G2 + 1 ≤ w8.heap.size) := by have := hbk8.size; have := HZ6.out; unfold Hid; omega
  clear hb67 hbk8 hby8 hg8 hz8 hb7 ho7 hcp8 hS6 hS6a hS7 hS8 hba6 hI3 HBX6 HD6 HB6 HI6 HZ6 HB6k HD5 HB5 HBX5 HZ5
  go_wp2_with fail
  have hS8 := HBX8.out.c2
  go_region_held3 (fun W => W.cell? ⟨w.heap.size, 2, none⟩ = some (.int .i64 mg)) (first | exact hS8 | exact hS9 | exact hS10)
    (first | (go_at_call 40; refine (big2_c mg w8.drew HF.out.glyphs.1 (by have := HF.out.glyphs.2; simp only at this; omega)).mono ?_; rintro e w9 ⟨rfl, hby, hb9'⟩; have hb9 := bel_undrew hb9'; clear hb9'; have hS9 := keepC hb9 hS8; obtain ⟨w10, hcp10, hby10, hg10, hz10⟩ := copy_into w9 3 G2 34 2 2 _ (bigB mg 2) w8.heap.size 0 2 2 (bigB_size 2 mg).symm (HI8.out.below hb9) (by rw [layL_length 0, bigB_size]; decide) (by rw [bigB_size]; decide) (by rw [bigB_size]; decide) (bigIs hby (by omega)); have hS10 := hg10.cell hS9 (by have := HG2.out; simp; omega)))
  rw [hhea_list] at hby10
  have hbk10 : Below G2 w8 w10 := (hb9.mono (by have := HZ8.out; omega)).grown hg10 (by have := hb9.size; have := HZ8.out; omega) (fun k hk => by cases hk; exact Nat.le_refl _)
  have HBX10 := Lib.hid (HBX8.out.kept hbk10 (by have := HG2.out; omega))
  have HD10 := Lib.hid ((HD8.out.kept hbk10 (by have := HG2.out; omega)).isB (by rw [(head_size mu)]; omega))
  have HE10 := Lib.hid (hby10.isB (by rw [hhea_size]; omega))
  have HB10 := Lib.hid (HB8.out.trans (hbk10.mono (by have := HG2.out; omega)))
  clear hbk10 hby10 hg10 hz10 hb9 hby hcp10 hS8 hS9 hS10 HBX8 HD8 HB8 HI8 HZ8
  have HBa : Hid (Below w10.heap.size w10 (w10.alloc (.cells #[.int .u8 0, .int .u8 1, .int .u8 0, .int .u8 0] 5))) := (Below.refl _ _).alloc (Nat.le_refl _) _
  have HLT : Hid (IsB (w10.alloc (.cells #[.int .u8 0, .int .u8 1, .int .u8 0, .int .u8 0] 5)) (some ⟨w10.heap.size, 0, none⟩) (ByteArray.mk #[0, 1, 0, 0]).size 4 ⟨#[0, 1, 0, 0]⟩) := lit_isB (0, 0) (by kernel_rfl)
  have hca := (HBX10.out.below HBa.out).c2
  go_wp2_with fail
  refine (big2_c mg (w10.alloc (.cells #[.int .u8 0, .int .u8 1, .int .u8 0, .int .u8 0] 5)) HF.out.glyphs.1 (by have := HF.out.glyphs.2; simp only at this; omega)).mono ?_
  rintro e w11 ⟨rfl, hby, hb11⟩
  have HLT2 := Lib.hid (HLT.out.below hb11)
  have HBG := Lib.hid (bigIs hby (by omega))
  have HB11 := Lib.hid (HBa.out.trans (hb11.mono HBa.out.size))
  have hz10 : (w10.alloc (.cells #[.int .u8 0, .int .u8 1, .int .u8 0, .int .u8 0] 5)).heap.size = w10.heap.size + 1 := by simp [go_sem]
  rw [hz10] at HBG
  clear hby hb11 hca HBa HLT hz10
  go_wp2_with (at_builtin; refine wpList_new rfl _ _ rfl w11 w10.heap.size 4 ⟨#[0, 1, 0, 0]⟩ (bigB mg 2) (w10.heap.size + 1) 0 2 4 2 rfl (bigB_size 2 mg).symm rfl rfl HLT2.out HBG.out (by rw [bigB_size]; decide) (by rw [bigB_size]; decide) ?_; intro c12 w12 ho12 hb12; have HB12 := Lib.hid (HB11.out.trans (hb12.mono HB11.out.size)); have HX12 := Lib.hid (isB_of_owns ho12); have HDU := Lib.hid (duo_start (Below.refl w12.heap.size w12)); have hc6 := ((HBX10.out.below HB12.out).below HDU.out.bel).c6; clear ho12 hb12)
  have HBX12 := Lib.hid (HBX10.out.below HB12.out)
  have HD12 := Lib.hid (HD10.out.below HB12.out)
  have HE12 := Lib.hid (HE10.out.below HB12.out)
  have HBB12 := Lib.hid (HB10.out.trans (HB12.out.mono HB10.out.size))
  clear HBX10 HD10 HE10 HB10 HB11 HB12 HLT2 HBG hc6
  generalize hw13 : ((w12.alloc (.cells #[] 5)).alloc (.cells #[] 5)) = w13 at *
  generalize hg12 : w12.heap.size = g12 at *
  have HG12 := Lib.hid hg12
  clear hw13 hg12
  have HW12 : Hid (w.heap.size < w12.heap.size) := World.block_lt_of_cell? w12 _ HBX12.out.c1
  go_loopw [6, 53] (fun hv i wr => ∃ k g c : Nat, k ≤ na ∧ hv = .slice (some ⟨g, 0, none⟩) (4 * k) c ∧ i = .int .i64 k ∧ Hid (Duo w12 (hmtxB (adv.take k) (bear.take k)) ByteArray.empty g c (g12 + 1) 0 wr)) (fun _ i _ => na - (intOf i).toNat)
  case atStart => exact ⟨0, g12, 0, Nat.zero_le _, rfl, rfl, HDU⟩
  case round =>
    clear HDU
    obtain ⟨k, g, c, hk, rfl, rfl, HD⟩ := hrel
    have HBW := Lib.hid (HBB12.out.trans (HD.out.bel.mono HBB12.out.size))
    by_cases hlt : k < na
    · have hlt' : (k : Int) < (na : Int) := by omega
      have hltb : (k : Int) < (nb : Int) := by have := HN2.out; omega
      obtain ⟨hl1, h0 | ⟨ba, oa, rfl, hc1⟩⟩ := HA.out.1
      · omega
      obtain ⟨hl2, h0 | ⟨bb, ob, rfl, hc2⟩⟩ := HA.out.2
      · have := HN2.out; omega
      have hx := hc1 k hlt
      have hy := hc2 k (by have := HN2.out; omega)
      have HBA : Hid (ba < w.heap.size ∧ bb < w.heap.size) := ⟨World.block_lt_of_cell? w _ hx, World.block_lt_of_cell? w _ hy⟩
      have hx := keepC HBW.out hx
      have hy := keepC HBW.out hy
      have HTK : Hid (hmtxB (adv.take (k + 1)) (bear.take (k + 1)) = (hmtxB (adv.take k) (bear.take k)) ++ twoB [adv.getD k 0, bear.getD k 0]) := by
        unfold Hid
        rw [take_int (by omega), take_int (by have := HN2.out; omega), hmtxB_snoc _ _ _ _ (by rw [List.length_take, List.length_take]; have := HN2.out; omega)]
      have HXY : Hid (∀ z ∈ [adv.getD k 0, bear.getD k 0], -65536 ≤ z ∧ z ≤ 4611686018427387904) := by
        intro z hz
        simp only [List.mem_cons, List.not_mem_nil, or_false] at hz
        rcases hz with rfl | rfl
        · exact HF.out.adv _ (by simp only [List.getD]; rw [List.getElem?_eq_getElem (by omega)]; exact List.getElem_mem _)
        · exact HF.out.bear _ (by simp only [List.getD]; rw [List.getElem?_eq_getElem (by have := HN2.out; omega)]; exact List.getElem_mem _)
      have HHZ : Hid ((hmtxB (adv.take k) (bear.take k)).size = 4 * k) := by unfold Hid; rw [hmtx_size _ _ (by rw [List.length_take, List.length_take]; have := HN2.out; omega), List.length_take]; congr 1; omega
      generalize adv.getD k 0 = x at *
      generalize bear.getD k 0 = y at *
      have HBXr := Lib.hid (HBX12.out.below HD.out.bel)
      have hS : Four w.heap.size (.slice (some ⟨ba, oa, none⟩) na ca) (.slice (some ⟨bb, ob, none⟩) nb cb) ⟨ba, oa + k, none⟩ ⟨bb, ob + k, none⟩ x y wr := ⟨HBXr.out.c6, HBXr.out.c7, hx, hy⟩
      have hba : Below wr.heap.size wr (wr.drew.alloc (.cells #[.int .i64 x, .int .i64 y] 3)) := bel_undrew ((Below.refl _ _).alloc (Nat.le_refl _) _)
      have hSa := hS.below hba
      have hI2 : IsI (wr.drew.alloc (.cells #[.int .i64 x, .int .i64 y] 3)) (some ⟨wr.heap.size, 0, none⟩) 2 2 [x, y] := (intsAt_alloc wr.drew [x, y]).isI rfl 2
      have HGG := Lib.hid (owns_lt HD.out.d)
      clear hc1 hc2 hl1 hl2 hx hy
      go_wp2_with fail
      go_region_held3 (fun W => W.cell? ⟨w.heap.size, 6, none⟩ = some (.slice (some ⟨ba, oa, none⟩) na ca) ∧ W.cell? ⟨w.heap.size, 7, none⟩ = some (.slice (some ⟨bb, ob, none⟩) nb cb) ∧ W.cell? ⟨ba, oa + k, none⟩ = some (.int .i64 x) ∧ W.cell? ⟨bb, ob + k, none⟩ = some (.int .i64 y)) (first | exact hS | exact hSa | exact hS7 | exact hS8)
        (first
          | (go_at_call 41; refine (two_c _ 2 2 [x, y] (wr.drew.alloc (.cells #[.int .i64 x, .int .i64 y] 3)) hI2 (by omega) HXY.out).mono ?_; rintro e w7 ⟨g7, c7, rfl, ho7, hb7⟩; have hS7 := hSa.below hb7; have HD7 := Lib.hid (HD.out.below (hba.trans (hb7.mono hba.size))); have HT7 := Lib.hid (isB_of_owns ho7); clear ho7 hb7)
          | (refine step_add (by rfl) _ _ (by rfl) w7 w12.heap.size g c (hmtxB (adv.take k) (bear.take k)) (twoB [x, y]) (some ⟨g7, 0, none⟩) c7 (4 * k) 4 HHZ.out.symm (by rw [twoB_size]; rfl) (by rfl) (by rfl) HD7.out.d HT7.out (by rw [HHZ.out, twoB_size]; have := HN2.out; simp; omega) HD7.out.bel.size ?_; intro g8 c8 w8 ho8 hg8 hat8; have HD8 := Lib.hid (HD7.out.addD ho8 hg8 hat8); have hS8 := hS7.grown hg8 (by have := HGG.out; have := HW12.out; omega) (by have := HGG.out; have := HBA.out; have := HBB12.out.size; show ba < g; omega) (by have := HGG.out; have := HBA.out; have := HBB12.out.size; show bb < g; omega); clear ho8 hg8 hat8))
      have HD9 : Hid (Duo w12 (hmtxB (adv.take (k + 1)) (bear.take (k + 1))) ByteArray.empty g8 c8 (g12 + 1) 0 w8) := by unfold Hid; rw [HTK.out]; exact HD8.out
      clear hS hSa hS7 hS8 hba hI2 HD HD7 HD8 HT7
      go_wp2_with fail
      have HW7 : Hid (wrap64 ((k : Int) + 1) = ((k + 1 : Nat) : Int)) := by have := HN2.out; unfold Hid wrap64; omega
      go_roundw
      case rel => exact ⟨k + 1, g8, c8, by omega, by rw [show 4 * (k + 1) = 4 * k + 4 by omega], by first | rfl | rw [HW7.out], HD9⟩
      case measure => (try rw [HW7.out]); simp only [intOf]; omega
    · have hlt' : ¬ (k : Int) < (na : Int) := by omega
      have ek : k = na := by omega
      have HTK : Hid (hmtxB (adv.take k) (bear.take k) = hmtxB adv bear) := by unfold Hid; rw [List.take_of_length_le (by have := HLN.out; omega), List.take_of_length_le (by have := HLN.out; have := HN2.out; omega)]
      have HD0 : Hid (Duo w12 (hmtxB adv bear) (locB (places.take 0)) g c (g12 + 1) 0 wr) := by unfold Hid; rw [← HTK.out]; exact HD.out
      have hc8 := (HBX12.out.below HD.out.bel).c8
      clear HD HTK
      subst ek
      go_wp2_with fail
      clear hc8 hlt hlt' hk HBW
      go_loopw [7, 74] (fun lv i wr => ∃ j g2 c2 : Nat, j ≤ np ∧ lv = .slice (some ⟨g2, 0, none⟩) (4 * j) c2 ∧ i = .int .i64 j ∧ Hid (Duo w12 (hmtxB adv bear) (locB (places.take j)) g c g2 c2 wr)) (fun _ i _ => np - (intOf i).toNat)
      case atStart => exact ⟨0, g12 + 1, 0, Nat.zero_le _, rfl, rfl, HD0⟩
      case round =>
        clear HD0
        obtain ⟨j, g2, c2, hj, rfl, rfl, HD⟩ := hrel
        have HBW := Lib.hid (HBB12.out.trans (HD.out.bel.mono HBB12.out.size))
        have HLZ : Hid ((locB (places.take j)).size = 4 * j) := by unfold Hid; rw [locB_size, List.length_take]; have := HLN.out; congr 1; omega
        by_cases hlt : j < np
        · have hlt' : (j : Int) < (np : Int) := by omega
          obtain ⟨hl1, h0 | ⟨bp, op, rfl, hc1⟩⟩ := HP.out
          · omega
          have hx := keepC HBW.out (hc1 j hlt)
          have HTK : Hid (locB (places.take (j + 1)) = locB (places.take j) ++ bigB (places.getD j 0) 4) := by unfold Hid; rw [take_int (by omega), locB_snoc]
          have HXY : Hid (0 ≤ places.getD j 0 ∧ places.getD j 0 ≤ 4611686018427387904) := HF.out.places _ (by simp only [List.getD]; rw [List.getElem?_eq_getElem (by omega)]; exact List.getElem_mem _)
          generalize places.getD j 0 = x at *
          clear hc1 hl1
          go_wp2_with fail
          refine (big4_c x wr HXY.out.1 (by have := HXY.out; omega)).mono ?_
          rintro e w7 ⟨rfl, hby, hb7⟩
          have HD7 := Lib.hid (HD.out.below hb7)
          have HT7 := Lib.hid (bigIs hby (by omega))
          clear hby hb7 HD hx
          go_wp2_with (at_builtin; refine wpList_add rfl _ _ rfl w7 w12.heap.size g2 c2 (locB (places.take j)) (bigB x 4) (some ⟨wr.heap.size, 0, none⟩) 4 (4 * j) 4 HLZ.out.symm (bigB_size 4 x).symm rfl rfl HD7.out.r HT7.out (by rw [HLZ.out, bigB_size]; have := HN2.out; omega) HD7.out.bel.size ?_; intro g8 c8 w8 ho8 hg8 hat8; have HD8 := Lib.hid (HD7.out.addR ho8 hg8 hat8); clear ho8 hg8 hat8)
          have HD9 : Hid (Duo w12 (hmtxB adv bear) (locB (places.take (j + 1))) g c g8 c8 w8) := by unfold Hid; rw [HTK.out]; exact HD8.out
          have HW7 : Hid (wrap64 ((j : Int) + 1) = ((j + 1 : Nat) : Int)) := by have := HN2.out; unfold Hid wrap64; omega
          go_roundw
          case rel => exact ⟨j + 1, g8, c8, by omega, by rw [show 4 * (j + 1) = 4 * j + 4 by omega], by first | rfl | rw [HW7.out], HD9⟩
          case measure => (try rw [HW7.out]); simp only [intOf]; omega
        · have hlt' : ¬ (j : Int) < (np : Int) := by omega
          have ej : j = np := by omega
          subst ej
          have HTK : Hid (places.take j = places) := by unfold Hid; rw [List.take_of_length_le (by have := HLN.out; omega)]
          have HD2 : Hid (Duo w12 (hmtxB adv bear) (locB places) g c g2 c2 wr) := by have := HD.out; rw [HTK.out] at this; exact this
          clear HD HTK
          have HMZ : Hid ((hmtxB adv bear).size = 4 * k) := by unfold Hid; rw [hmtx_size _ _ (by have := HLN.out; have := HN2.out; omega)]; have := HLN.out; congr 1; omega
          have HLZ2 : Hid ((locB places).size = 4 * j) := by unfold Hid; rw [locB_size]; have := HLN.out; congr 1; omega
          have HQ1 : Hid (IsB wr (some ⟨w.heap.size + 1, 0, none⟩) 54 54 (headB mu)) := by have := HD12.out.below HD2.out.bel; rwa [head_size] at this
          have HQ2 : Hid (IsB wr (some ⟨G2, 0, none⟩) 36 36 (hheaB ma md mgp mg)) := by have := HE12.out.below HD2.out.bel; rwa [hhea_size] at this
          have HQ3 : Hid (IsB wr (some ⟨g, 0, none⟩) (4 * k) c (hmtxB adv bear)) := by have := isB_of_owns HD2.out.d; rwa [HMZ.out] at this
          have HQ4 : Hid (IsB wr (some ⟨g2, 0, none⟩) (4 * j) c2 (locB places)) := by have := isB_of_owns HD2.out.r; rwa [HLZ2.out] at this
          have HQ5 : Hid (IsB wr (some ⟨w11.heap.size, 0, none⟩) 6 c12 (maxpB mg)) := by have := HX12.out.below HD2.out.bel; rw [show (⟨#[0, 1, 0, 0]⟩ : ByteArray) ++ bigB mg 2 = maxpB mg from rfl, maxp_size] at this; exact this
          have HO3 : Hid (OwnP wr.heap.size (wr.alloc (.cells #[.string ⟨#[104, 101, 97, 100]⟩, .slice (some ⟨w.heap.size + 1, 0, none⟩) 54 54, .string ⟨#[104, 104, 101, 97]⟩, .slice (some ⟨G2, 0, none⟩) 36 36, .string ⟨#[104, 109, 116, 120]⟩, .slice (some ⟨g, 0, none⟩) (4 * k) c] 48)) wr.heap.size 3 [⟨tagB headTg, some ⟨w.heap.size + 1, 0, none⟩, 54, 54⟩, ⟨tagB hheaTg, some ⟨G2, 0, none⟩, 36, 36⟩, ⟨tagB hmtxTg, some ⟨g, 0, none⟩, 4 * k, c⟩]) := own_three wr ⟨tagB headTg, some ⟨w.heap.size + 1, 0, none⟩, 54, 54⟩ ⟨tagB hheaTg, some ⟨G2, 0, none⟩, 36, 36⟩ ⟨tagB hmtxTg, some ⟨g, 0, none⟩, 4 * k, c⟩
          have HB3 : Hid (Below wr.heap.size wr (wr.alloc (.cells #[.string ⟨#[104, 101, 97, 100]⟩, .slice (some ⟨w.heap.size + 1, 0, none⟩) 54 54, .string ⟨#[104, 104, 101, 97]⟩, .slice (some ⟨G2, 0, none⟩) 36 36, .string ⟨#[104, 109, 116, 120]⟩, .slice (some ⟨g, 0, none⟩) (4 * k) c] 48))) := (Below.refl _ _).alloc (Nat.le_refl _) _
          have hz3 : (wr.alloc (.cells #[.string ⟨#[104, 101, 97, 100]⟩, .slice (some ⟨w.heap.size + 1, 0, none⟩) 54 54, .string ⟨#[104, 104, 101, 97]⟩, .slice (some ⟨G2, 0, none⟩) 36 36, .string ⟨#[104, 109, 116, 120]⟩, .slice (some ⟨g, 0, none⟩) (4 * k) c] 48)).heap.size = wr.heap.size + 1 := by simp [go_sem]
          clear HD2
          by_cases hnp : j = 0
          · have HPL : Hid (places = []) := by have := HLN.out; exact List.eq_nil_of_length_eq_zero (by omega)
            have hj0 : ¬ (0 : Int) < ((4 * j : Nat) : Int) := by omega
            have htc := two_cells (wr.alloc (.cells #[.string ⟨#[104, 101, 97, 100]⟩, .slice (some ⟨w.heap.size + 1, 0, none⟩) 54 54, .string ⟨#[104, 104, 101, 97]⟩, .slice (some ⟨G2, 0, none⟩) 36 36, .string ⟨#[104, 109, 116, 120]⟩, .slice (some ⟨g, 0, none⟩) (4 * k) c] 48)) ⟨#[109, 97, 120, 112]⟩ (some ⟨w11.heap.size, 0, none⟩) 6 c12
            rw [hz3] at htc
            have HO4 := Lib.hid (owns_stay HO3.out (by have := htc.2.2.1; rwa [← hz3] at this))
            have HB4 := Lib.hid (HB3.out.trans (by have := htc.2.2.1; exact this.mono (by omega)))
            have ht0 := htc.1
            have ht1 := htc.2.1
            clear htc
            go_wp2_with (at_builtin; refine wpList_addP rfl _ _ rfl ((wr.alloc (.cells #[.string ⟨#[104, 101, 97, 100]⟩, .slice (some ⟨w.heap.size + 1, 0, none⟩) 54 54, .string ⟨#[104, 104, 101, 97]⟩, .slice (some ⟨G2, 0, none⟩) 36 36, .string ⟨#[104, 109, 116, 120]⟩, .slice (some ⟨g, 0, none⟩) (4 * k) c] 48)).alloc (.cells #[.string ⟨#[109, 97, 120, 112]⟩, .slice (some ⟨w11.heap.size, 0, none⟩) 6 c12] 48)) wr.heap.size wr.heap.size 3 [⟨tagB headTg, some ⟨w.heap.size + 1, 0, none⟩, 54, 54⟩, ⟨tagB hheaTg, some ⟨G2, 0, none⟩, 36, 36⟩, ⟨tagB hmtxTg, some ⟨g, 0, none⟩, 4 * k, c⟩] ⟨tagB maxpTg, some ⟨w11.heap.size, 0, none⟩, 6, c12⟩ (wr.heap.size + 1) 3 rfl rfl rfl HO4.out ht0 ht1 (by simp) HB4.out.size ?_; intro g20 c20 w20 ho20 hg20 hat20; have HO5 := Lib.hid ho20; have HB5 := Lib.hid (grown_below HB4.out hg20 HB4.out.size (Nat.le_refl _)); clear ho20 hg20 hat20)
            go_ret
            refine ⟨g20, c20, _, wr.heap.size, rfl, HO5.out, ?_, HBW.out.size, HB5.out.size, HBW.out.trans (HB5.out.mono HBW.out.size)⟩
            intro w30 hb30
            have HB5 := Lib.hid (HB5.out.trans hb30)
            unfold piecesOf
            rw [if_pos (by exact HPL.out)]
            exact ⟨⟨rfl, (head_size _).symm, HQ1.out.below HB5.out⟩, ⟨rfl, (hhea_size _ _ _ _).symm, HQ2.out.below HB5.out⟩, ⟨rfl, HMZ.out.symm, HQ3.out.below HB5.out⟩, ⟨rfl, (maxp_size _).symm, HQ5.out.below HB5.out⟩, trivial⟩
          · have HPL : Hid (¬ places = []) := by have := HLN.out; intro h; rw [h] at this; simp at this; omega
            have hj0 : (0 : Int) < ((4 * j : Nat) : Int) := by omega
            have htc := two_cells (wr.alloc (.cells #[.string ⟨#[104, 101, 97, 100]⟩, .slice (some ⟨w.heap.size + 1, 0, none⟩) 54 54, .string ⟨#[104, 104, 101, 97]⟩, .slice (some ⟨G2, 0, none⟩) 36 36, .string ⟨#[104, 109, 116, 120]⟩, .slice (some ⟨g, 0, none⟩) (4 * k) c] 48)) ⟨#[108, 111, 99, 97]⟩ (some ⟨g2, 0, none⟩) (4 * j) c2
            rw [hz3] at htc
            have HO4 := Lib.hid (owns_stay HO3.out (by have := htc.2.2.1; rwa [← hz3] at this))
            have HB4 := Lib.hid (HB3.out.trans (by have := htc.2.2.1; exact this.mono (by omega)))
            have ht0 := htc.1
            have ht1 := htc.2.1
            clear htc
            go_wp2_with (first
              | (at_builtin; refine wpList_addP rfl _ _ rfl ((wr.alloc (.cells #[.string ⟨#[104, 101, 97, 100]⟩, .slice (some ⟨w.heap.size + 1, 0, none⟩) 54 54, .string ⟨#[104, 104, 101, 97]⟩, .slice (some ⟨G2, 0, none⟩) 36 36, .string ⟨#[104, 109, 116, 120]⟩, .slice (some ⟨g, 0, none⟩) (4 * k) c] 48)).alloc (.cells #[.string ⟨#[108, 111, 99, 97]⟩, .slice (some ⟨g2, 0, none⟩) (4 * j) c2] 48)) wr.heap.size wr.heap.size 3 [⟨tagB headTg, some ⟨w.heap.size + 1, 0, none⟩, 54, 54⟩, ⟨tagB hheaTg, some ⟨G2, 0, none⟩, 36, 36⟩, ⟨tagB hmtxTg, some ⟨g, 0, none⟩, 4 * k, c⟩] ⟨tagB locaTg, some ⟨g2, 0, none⟩, 4 * j, c2⟩ (wr.heap.size + 1) 3 rfl rfl rfl HO4.out ht0 ht1 (by simp) HB4.out.size ?_; intro g20 c20 w20 ho20 hg20 hat20; have htc := two_cells w20 ⟨#[109, 97, 120, 112]⟩ (some ⟨w11.heap.size, 0, none⟩) 6 c12; have HB5 := Lib.hid ((grown_below HB4.out hg20 HB4.out.size (Nat.le_refl _)).trans (htc.2.2.1.mono (grown_below HB4.out hg20 HB4.out.size (Nat.le_refl _)).size)); have HO5 := Lib.hid (owns_stay ho20 htc.2.2.1); have ht2 := htc.1; have ht3 := htc.2.1; clear ho20 hg20 hat20 htc)
              | (at_builtin; refine wpList_addP rfl _ _ rfl (w20.alloc (.cells #[.string ⟨#[109, 97, 120, 112]⟩, .slice (some ⟨w11.heap.size, 0, none⟩) 6 c12] 48)) wr.heap.size g20 c20 [⟨tagB headTg, some ⟨w.heap.size + 1, 0, none⟩, 54, 54⟩, ⟨tagB hheaTg, some ⟨G2, 0, none⟩, 36, 36⟩, ⟨tagB hmtxTg, some ⟨g, 0, none⟩, 4 * k, c⟩, ⟨tagB locaTg, some ⟨g2, 0, none⟩, 4 * j, c2⟩] ⟨tagB maxpTg, some ⟨w11.heap.size, 0, none⟩, 6, c12⟩ w20.heap.size 4 rfl rfl rfl HO5.out ht2 ht3 (by simp) HB5.out.size ?_; intro g21 c21 w21 ho21 hg21 hat21; have HB6 := Lib.hid (grown_below HB5.out hg21 HB5.out.size (owns_lt HO5.out).2); have HO6 := Lib.hid ho21; clear ho21 hg21 hat21))
            go_ret
            refine ⟨g21, c21, _, wr.heap.size, rfl, HO6.out, ?_, HBW.out.size, HB6.out.size, HBW.out.trans (HB6.out.mono HBW.out.size)⟩
            intro w30 hb30
            have HB6 := Lib.hid (HB6.out.trans hb30)
            unfold piecesOf
            rw [if_neg (by exact HPL.out)]
            exact ⟨⟨rfl, (head_size _).symm, HQ1.out.below HB6.out⟩, ⟨rfl, (hhea_size _ _ _ _).symm, HQ2.out.below HB6.out⟩, ⟨rfl, HMZ.out.symm, HQ3.out.below HB6.out⟩, ⟨rfl, HLZ2.out.symm, HQ4.out.below HB6.out⟩, ⟨rfl, (maxp_size _).symm, HQ5.out.below HB6.out⟩, trivial⟩

end Go.Proofs.Ytbcjicmledckbaa
