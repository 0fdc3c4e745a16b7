/-
  What the document's heads answers of a font as the document holds it: what head, maxp and hhea say, or the first error.
-/
import Derived.Test.YtbcjicmledckbaaRefT
import Derived.Test.YtbcjicmledckbaaMAlive
namespace Go.Proofs.Ytbcjicmledckbaa
open Go.RowKit Go.PlainAid
set_option linter.unusedSimpArgs false
set_option linter.unusedVariables false

/-- A variable of nine cells that may be written. -/
structure Blk (w : World) (g : Nat) (vs : List Value) : Prop where
  len : vs.length = 9
  c : MVar w g vs
  f : ∀ i, i < 9 → w.frozen? ⟨g, i, none⟩ = false
theorem Blk.below {w w' : World} {g : Nat} {vs : List Value} (h : Blk w g vs) (hb : Below w.heap.size w w') : Blk w' g vs := by
  have hlt : g < w.heap.size := by
    have h0 := h.c 0 (by omega)
    rw [List.getElem?_eq_getElem (by rw [h.len]; omega)] at h0
    exact World.block_lt_of_cell? w _ h0
  exact ⟨h.len, h.c.below h.len hb, fun i hi => by rw [hb.frozen (by exact hlt)]; exact h.f i hi⟩
theorem Blk.set {w : World} {g : Nat} {vs : List Value} (h : Blk w g vs) (i : Nat) (hi : i < 9) (u : Value) : Blk (w.setCell ⟨g, i, none⟩ u) g (vs.set i u) := by
  refine ⟨by simp [h.len], ?_, fun j hj => by simpa using h.f j hj⟩
  intro j hj
  by_cases e : i = j
  · subst e
    have hz := h.c i hi
    rw [List.getElem?_eq_getElem (by rw [h.len]; exact hi)] at hz
    rw [World.cell?_setCell_same _ _ _ hz]
    simp [h.len, hi]
  · rw [World.cell?_setCell_other _ _ _ _ (by simp [e]), h.c j hj]
    simp [e]
theorem Blk.other {w : World} {g : Nat} {vs : List Value} (h : Blk w g vs) (p : Addr) (u : Value) (hne : p.block ≠ g) : Blk (w.setCell p u) g vs :=
  ⟨h.len, fun i hi => by rw [World.cell?_setCell_other _ _ _ _ (by intro q; subst q; exact hne rfl)]; exact h.c i hi, fun i hi => by simpa using h.f i hi⟩
theorem blk_put {w : World} {R : Nat} {vs : List Value} (h : Blk w R vs) (u0 u1 u2 u3 u4 u5 u6 u7 u8 : Value) : MVar (((((((((w.setCell ⟨R, 0, none⟩ u0).setCell ⟨R, 1, none⟩ u1).setCell ⟨R, 2, none⟩ u2).setCell ⟨R, 3, none⟩ u3).setCell ⟨R, 4, none⟩ u4).setCell ⟨R, 5, none⟩ u5).setCell ⟨R, 6, none⟩ u6).setCell ⟨R, 7, none⟩ u7).setCell ⟨R, 8, none⟩ u8) R [u0, u1, u2, u3, u4, u5, u6, u7, u8] ∧ ∀ B w0, B ≤ R → Below B w0 w → Below B w0 (((((((((w.setCell ⟨R, 0, none⟩ u0).setCell ⟨R, 1, none⟩ u1).setCell ⟨R, 2, none⟩ u2).setCell ⟨R, 3, none⟩ u3).setCell ⟨R, 4, none⟩ u4).setCell ⟨R, 5, none⟩ u5).setCell ⟨R, 6, none⟩ u6).setCell ⟨R, 7, none⟩ u7).setCell ⟨R, 8, none⟩ u8) := by
  constructor
  · have h9 := (((((((((h.set 0 (by omega) u0).set 1 (by omega) u1).set 2 (by omega) u2).set 3 (by omega) u3).set 4 (by omega) u4).set 5 (by omega) u5).set 6 (by omega) u6).set 7 (by omega) u7).set 8 (by omega) u8).c
    have hl := h.len
    match vs, hl with
    | [a0, a1, a2, a3, a4, a5, a6, a7, a8], _ => exact h9
  · intro B w0 hB hb
    have hs : ∀ (x : World) (i : Nat) (u : Value), Below B w0 x → Below B w0 (x.setCell ⟨R, i, none⟩ u) := fun x i u hx => hx.setCell (p := ⟨R, i, none⟩) hB u
    exact hs _ _ _ (hs _ _ _ (hs _ _ _ (hs _ _ _ (hs _ _ _ (hs _ _ _ (hs _ _ _ (hs _ _ _ (hs _ _ _ hb))))))))

/-- What heads works with. -/
structure HS (w : World) (kd : Int) (g c bf of cap : Nat) (l : List Row) (s : ByteArray) (vs : List Value) (wr : World) : Prop where
  bel : Below w.heap.size w wr
  b0 : wr.cell? ⟨w.heap.size, 0, none⟩ = some (.int .i64 kd)
  b1 : wr.cell? ⟨w.heap.size, 1, none⟩ = some (.slice (some ⟨g, 0, none⟩) l.length c)
  b2 : wr.cell? ⟨w.heap.size, 2, none⟩ = some (.slice (some ⟨bf, of, none⟩) s.size cap)
  r : Blk wr (w.heap.size + 1) [.int .i64 0, .int .i64 0, .int .i64 0, .int .i64 0, .int .i64 0, .int .i64 0, .slice none 0 0, .slice none 0 0, .slice none 0 0]
  m : Blk wr (w.heap.size + 1 + 1) vs
  rf : RFont w g c bf of cap l s
theorem HS.below {w wr w' : World} {kd : Int} {g c bf of cap : Nat} {l : List Row} {s : ByteArray} {vs : List Value} (h : HS w kd g c bf of cap l s vs wr) (hb : Below wr.heap.size wr w') : HS w kd g c bf of cap l s vs w' :=
  ⟨h.bel.trans (hb.mono h.bel.size), keepC hb h.b0, keepC hb h.b1, keepC hb h.b2, h.r.below hb, h.m.below hb, h.rf⟩
theorem HS.set {w wr : World} {kd : Int} {g c bf of cap : Nat} {l : List Row} {s : ByteArray} {vs : List Value} (h : HS w kd g c bf of cap l s vs wr) (i : Nat) (hi : i < 9) (u : Value) : HS w kd g c bf of cap l s (vs.set i u) (wr.setCell ⟨w.heap.size + 1 + 1, i, none⟩ u) :=
  ⟨h.bel.setCell (p := ⟨w.heap.size + 1 + 1, i, none⟩) (by show w.heap.size ≤ w.heap.size + 1 + 1; omega) u, by rw [World.cell?_setCell_other _ _ _ _ (by intro q; injection q with q1; omega)]; exact h.b0, by rw [World.cell?_setCell_other _ _ _ _ (by intro q; injection q with q1; omega)]; exact h.b1, by rw [World.cell?_setCell_other _ _ _ _ (by intro q; injection q with q1; omega)]; exact h.b2, h.r.other _ _ (by show w.heap.size + 1 + 1 ≠ w.heap.size + 1; omega), h.m.set i hi u, h.rf⟩
theorem HS.rf' {w wr : World} {kd : Int} {g c bf of cap : Nat} {l : List Row} {s : ByteArray} {vs : List Value} (h : HS w kd g c bf of cap l s vs wr) : RFont wr g c bf of cap l s := h.rf.below h.bel
theorem blk_frozen {w : World} {g : Nat} {vs : List Value} (h : Blk w g vs) :
    w.frozen? ⟨g, 0, none⟩ = false ∧ w.frozen? ⟨g, 1, none⟩ = false ∧ w.frozen? ⟨g, 2, none⟩ = false ∧ w.frozen? ⟨g, 3, none⟩ = false ∧ w.frozen? ⟨g, 4, none⟩ = false ∧ w.frozen? ⟨g, 5, none⟩ = false ∧ w.frozen? ⟨g, 6, none⟩ = false ∧ w.frozen? ⟨g, 7, none⟩ = false ∧ w.frozen? ⟨g, 8, none⟩ = false :=
  ⟨h.f 0 (by omega), h.f 1 (by omega), h.f 2 (by omega), h.f 3 (by omega), h.f 4 (by omega), h.f 5 (by omega), h.f 6 (by omega), h.f 7 (by omega), h.f 8 (by omega)⟩
theorem blk_alloc (w : World) (vs : List Value) (t : TypeId) (h : vs.length = 9) : Blk (w.alloc (.cells vs.toArray t)) w.heap.size vs :=
  ⟨h, mvar_alloc w vs t, fun i hi => by have hh := heap_alloc_new w (.cells vs.toArray t); unfold World.frozen?; simp only [hh]; simp⟩

/-- What heads says: an error, or units, glyphs, three measures, the form, the wide rows. -/
def headsOf (l : List Row) (s : ByteArray) : Int × Option (Int × Int × Int × Int × Int × Int × Int) :=
  match tabN l s headTg 54 with
  | none => (41, none)
  | some hd =>
    if (rHead hd).1 ≠ 0 then ((rHead hd).1, none) else
    match tabN l s maxpTg 6 with
    | none => (41, none)
    | some mx =>
      if (rMaxp mx).1 ≠ 0 then ((rMaxp mx).1, none) else
      match tabN l s hheaTg 36 with
      | none => (41, none)
      | some hh =>
        if (rHhea hh (rMaxp mx).2).1 ≠ 0 then ((rHhea hh (rMaxp mx).2).1, none) else
        (0, some ((rHead hd).2.1, (rMaxp mx).2, sign16 (numOr hh 4 2).1, sign16 (numOr hh 6 2).1, sign16 (numOr hh 8 2).1, (rHead hd).2.2, (rHhea hh (rMaxp mx).2).2))
theorem heads_err1 {l : List Row} {s hd : ByteArray} {n : Int} (h1 : tabN l s headTg 54 = some hd) (h : (rHead hd).1 = n) (hn : n ≠ 0) : headsOf l s = (n, none) := by
  unfold headsOf; rw [h1]; simp only; rw [h, if_pos hn]
theorem heads_err2 {l : List Row} {s hd mx : ByteArray} {n : Int} (h1 : tabN l s headTg 54 = some hd) (h0 : (rHead hd).1 = 0) (h2 : tabN l s maxpTg 6 = some mx) (h : (rMaxp mx).1 = n) (hn : n ≠ 0) : headsOf l s = (n, none) := by
  unfold headsOf; rw [h1]; simp only; rw [if_neg (by rw [h0]; decide), h2]; simp only; rw [h, if_pos hn]
theorem heads_err2n {l : List Row} {s hd : ByteArray} (h1 : tabN l s headTg 54 = some hd) (h0 : (rHead hd).1 = 0) (h2 : tabN l s maxpTg 6 = none) : headsOf l s = (41, none) := by
  unfold headsOf; rw [h1]; simp only; rw [if_neg (by rw [h0]; decide), h2]
theorem heads_err3n {l : List Row} {s hd mx : ByteArray} (h1 : tabN l s headTg 54 = some hd) (h0 : (rHead hd).1 = 0) (h2 : tabN l s maxpTg 6 = some mx) (hm : (rMaxp mx).1 = 0) (h3 : tabN l s hheaTg 36 = none) : headsOf l s = (41, none) := by
  unfold headsOf; rw [h1]; simp only; rw [if_neg (by rw [h0]; decide), h2]; simp only; rw [if_neg (by rw [hm]; decide), h3]
theorem heads_all {l : List Row} {s hd mx hh : ByteArray} (h1 : tabN l s headTg 54 = some hd) (h0 : (rHead hd).1 = 0) (h2 : tabN l s maxpTg 6 = some mx) (hm : (rMaxp mx).1 = 0) (h3 : tabN l s hheaTg 36 = some hh) :
    headsOf l s = if (rHhea hh (rMaxp mx).2).1 ≠ 0 then ((rHhea hh (rMaxp mx).2).1, none) else (0, some ((rHead hd).2.1, (rMaxp mx).2, sign16 (numOr hh 4 2).1, sign16 (numOr hh 6 2).1, sign16 (numOr hh 8 2).1, (rHead hd).2.2, (rHhea hh (rMaxp mx).2).2)) := by
  unfold headsOf; rw [h1]; simp only; rw [if_neg (by rw [h0]; decide), h2]; simp only; rw [if_neg (by rw [hm]; decide), h3]
/-- How heads ends. -/
def HeadsPost (w : World) (kd : Int) (r : Int × Option (Int × Int × Int × Int × Int × Int × Int)) (e : Ending) (w' : World) : Prop :=
  match r with
  | (f, none) => (∃ a0 a1 a2 a3 a4 a5 : Int, e = .returned (.tuple #[.agg #[.int .i64 a0, .int .i64 a1, .int .i64 a2, .int .i64 a3, .int .i64 a4, .int .i64 a5, .slice none 0 0, .slice none 0 0, .slice none 0 0], .int .i64 0, .int .i64 0, .int .i64 f])) ∧ Below w.heap.size w w'
  | (f, some (u, g, a, d, gp, fo, wd)) => e = .returned (.tuple #[.agg #[.int .i64 kd, .int .i64 u, .int .i64 g, .int .i64 a, .int .i64 d, .int .i64 gp, .slice none 0 0, .slice none 0 0, .slice none 0 0], .int .i64 fo, .int .i64 wd, .int .i64 f]) ∧ Below w.heap.size w w'
theorem heads_no {w w' : World} {kd f : Int} {r : Int × Option (Int × Int × Int × Int × Int × Int × Int)} {a0 a1 a2 a3 a4 a5 : Int} (h : r = (f, none)) (hb : Below w.heap.size w w') : HeadsPost w kd r (.returned (.tuple #[.agg #[.int .i64 a0, .int .i64 a1, .int .i64 a2, .int .i64 a3, .int .i64 a4, .int .i64 a5, .slice none 0 0, .slice none 0 0, .slice none 0 0], .int .i64 0, .int .i64 0, .int .i64 f])) w' := by subst h; exact ⟨⟨a0, a1, a2, a3, a4, a5, rfl⟩, hb⟩
theorem heads_yes {w w' : World} {kd u g a d gp fo wd : Int} {r : Int × Option (Int × Int × Int × Int × Int × Int × Int)} (h : r = (0, some (u, g, a, d, gp, fo, wd))) (hb : Below w.heap.size w w') : HeadsPost w kd r (.returned (.tuple #[.agg #[.int .i64 kd, .int .i64 u, .int .i64 g, .int .i64 a, .int .i64 d, .int .i64 gp, .slice none 0 0, .slice none 0 0, .slice none 0 0], .int .i64 fo, .int .i64 wd, .int .i64 0])) w' := by subst h; exact ⟨rfl, hb⟩

theorem hs_start (w : World) (kd : Int) (g c bf of cap : Nat) (l : List Row) (s : ByteArray) (hf : RFont w g c bf of cap l s) : HS w kd g c bf of cap l s [.int .i64 kd, .int .i64 0, .int .i64 0, .int .i64 0, .int .i64 0, .int .i64 0, .slice none 0 0, .slice none 0 0, .slice none 0 0] (((w.alloc (.cells #[.int .i64 kd, .slice (some ⟨g, 0, none⟩) l.length c, .slice (some ⟨bf, of, none⟩) s.size cap] 26)).alloc (.cells #[.int .i64 0, .int .i64 0, .int .i64 0, .int .i64 0, .int .i64 0, .int .i64 0, .slice none 0 0, .slice none 0 0, .slice none 0 0] 35)).alloc (.cells #[.int .i64 kd, .int .i64 0, .int .i64 0, .int .i64 0, .int .i64 0, .int .i64 0, .slice none 0 0, .slice none 0 0, .slice none 0 0] 35)) := by
  have b0 : Below w.heap.size w (w.alloc (.cells #[.int .i64 kd, .slice (some ⟨g, 0, none⟩) l.length c, .slice (some ⟨bf, of, none⟩) s.size cap] 26)) := (Below.refl _ _).alloc (Nat.le_refl _) _
  have z0 : (w.alloc (.cells #[.int .i64 kd, .slice (some ⟨g, 0, none⟩) l.length c, .slice (some ⟨bf, of, none⟩) s.size cap] 26)).heap.size = w.heap.size + 1 := by simp [go_sem]
  have c0 : (w.alloc (.cells #[.int .i64 kd, .slice (some ⟨g, 0, none⟩) l.length c, .slice (some ⟨bf, of, none⟩) s.size cap] 26)).cell? ⟨w.heap.size, 0, none⟩ = some (.int .i64 kd) := by simp [go_sem]
  have c1 : (w.alloc (.cells #[.int .i64 kd, .slice (some ⟨g, 0, none⟩) l.length c, .slice (some ⟨bf, of, none⟩) s.size cap] 26)).cell? ⟨w.heap.size, 1, none⟩ = some (.slice (some ⟨g, 0, none⟩) l.length c) := by simp [go_sem]
  have c2 : (w.alloc (.cells #[.int .i64 kd, .slice (some ⟨g, 0, none⟩) l.length c, .slice (some ⟨bf, of, none⟩) s.size cap] 26)).cell? ⟨w.heap.size, 2, none⟩ = some (.slice (some ⟨bf, of, none⟩) s.size cap) := by simp [go_sem]
  generalize (w.alloc (.cells #[.int .i64 kd, .slice (some ⟨g, 0, none⟩) l.length c, .slice (some ⟨bf, of, none⟩) s.size cap] 26)) = w1 at *
  have k1 := blk_alloc w1 [.int .i64 0, .int .i64 0, .int .i64 0, .int .i64 0, .int .i64 0, .int .i64 0, .slice none 0 0, .slice none 0 0, .slice none 0 0] 35 rfl
  have b1 : Below w1.heap.size w1 (w1.alloc (.cells #[.int .i64 0, .int .i64 0, .int .i64 0, .int .i64 0, .int .i64 0, .int .i64 0, .slice none 0 0, .slice none 0 0, .slice none 0 0] 35)) := (Below.refl _ _).alloc (Nat.le_refl _) _
  have z1 : (w1.alloc (.cells #[.int .i64 0, .int .i64 0, .int .i64 0, .int .i64 0, .int .i64 0, .int .i64 0, .slice none 0 0, .slice none 0 0, .slice none 0 0] 35)).heap.size = w.heap.size + 1 + 1 := by simp [go_sem, z0]
  rw [z0] at k1
  have k1' : Blk (w1.alloc (.cells #[.int .i64 0, .int .i64 0, .int .i64 0, .int .i64 0, .int .i64 0, .int .i64 0, .slice none 0 0, .slice none 0 0, .slice none 0 0] 35)) (w.heap.size + 1) [.int .i64 0, .int .i64 0, .int .i64 0, .int .i64 0, .int .i64 0, .int .i64 0, .slice none 0 0, .slice none 0 0, .slice none 0 0] := k1
  clear k1
  generalize (w1.alloc (.cells #[.int .i64 0, .int .i64 0, .int .i64 0, .int .i64 0, .int .i64 0, .int .i64 0, .slice none 0 0, .slice none 0 0, .slice none 0 0] 35)) = w2 at *
  have k2 := blk_alloc w2 [.int .i64 kd, .int .i64 0, .int .i64 0, .int .i64 0, .int .i64 0, .int .i64 0, .slice none 0 0, .slice none 0 0, .slice none 0 0] 35 rfl
  have b2 : Below w2.heap.size w2 (w2.alloc (.cells #[.int .i64 kd, .int .i64 0, .int .i64 0, .int .i64 0, .int .i64 0, .int .i64 0, .slice none 0 0, .slice none 0 0, .slice none 0 0] 35)) := (Below.refl _ _).alloc (Nat.le_refl _) _
  rw [z1] at k2
  exact ⟨(b0.trans (b1.mono (by omega))).trans (b2.mono (by omega)), keepC b2 (keepC b1 c0), keepC b2 (keepC b1 c1), keepC b2 (keepC b1 c2), k1'.below b2, k2, hf⟩

set_option maxHeartbeats 8000000 in
set_option maxRecDepth 20000 in
theorem rheads_c (kd : Int) (g c bf of cap : Nat) (l : List Row) (s : ByteArray) (w : World) (hf : RFont w g c bf of cap l s) :
    Calls Try.prog 31 #[rfVal kd g c bf of cap l.length s.size] w (HeadsPost w kd (headsOf l s)) := by
  unfold rfVal
  have HS0 := Lib.hid (hs_start w kd g c bf of cap l s hf)
  have HSZ := Lib.hid hf.size
  clear hf
  go_enter Try.func31, Try.ntmps31
  go_wp2_with fail
  generalize (((w.alloc (.cells #[.int .i64 kd, .slice (some ⟨g, 0, none⟩) l.length c, .slice (some ⟨bf, of, none⟩) s.size cap] 26)).alloc (.cells #[.int .i64 0, .int .i64 0, .int .i64 0, .int .i64 0, .int .i64 0, .int .i64 0, .slice none 0 0, .slice none 0 0, .slice none 0 0] 35)).alloc (.cells #[.int .i64 kd, .int .i64 0, .int .i64 0, .int .i64 0, .int .i64 0, .int .i64 0, .slice none 0 0, .slice none 0 0, .slice none 0 0] 35)) = w0 at *
  obtain ⟨m0, m1, m2, m3, m4, m5, m6, m7, m8⟩ := mvar_cells HS0.out.m.c
  obtain ⟨r0, r1, r2, r3, r4, r5, r6, r7, r8⟩ := mvar_cells HS0.out.r.c
  obtain ⟨f0, f1, f2, f3, f4, f5, f6, f7, f8⟩ := blk_frozen HS0.out.r
  obtain ⟨e0, e1, e2, e3, e4, e5, e6, e7, e8⟩ := blk_frozen HS0.out.m
  have hb0 := HS0.out.b0
  have hb1 := HS0.out.b1
  have hb2 := HS0.out.b2
  refine (rneed_c kd 54 g c bf of cap l s _ w w0 HS0.out.rf HS0.out.bel).mono ?_
  obtain ⟨v1, HV1⟩ : ∃ v, Hid (tabN l s headTg 54 = v) := ⟨_, rfl⟩
  rw [show (ByteArray.toList ⟨#[104, 101, 97, 100]⟩) = headTg from tl_headTg, HV1.out]
  clear m0 m1 m2 m3 m4 m5 m6 m7 m8 r0 r1 r2 r3 r4 r5 r6 r7 r8 f0 f1 f2 f3 f4 f5 f6 f7 f8 e0 e1 e2 e3 e4 e5 e6 e7 e8 hb0 hb1 hb2
  cases v1 with
  | none =>
    have HE : Hid (headsOf l s = (41, none)) := by unfold Hid headsOf; rw [HV1.out]
    rintro e w1 ⟨⟨aa, nn, cc, rfl⟩, hb1⟩
    have HS1 := Lib.hid (HS0.out.below hb1)
    clear hb1
    obtain ⟨m0, m1, m2, m3, m4, m5, m6, m7, m8⟩ := mvar_cells HS1.out.m.c
    obtain ⟨r0, r1, r2, r3, r4, r5, r6, r7, r8⟩ := mvar_cells HS1.out.r.c
    obtain ⟨f0, f1, f2, f3, f4, f5, f6, f7, f8⟩ := blk_frozen HS1.out.r
    obtain ⟨e0, e1, e2, e3, e4, e5, e6, e7, e8⟩ := blk_frozen HS1.out.m
    have hb0 := HS1.out.b0
    have hb1 := HS1.out.b1
    have hb2 := HS1.out.b2
    have HPUT := Lib.hid (blk_put HS1.out.r (.int .i64 kd) (.int .i64 0) (.int .i64 0) (.int .i64 0) (.int .i64 0) (.int .i64 0) (.slice none 0 0) (.slice none 0 0) (.slice none 0 0))
    go_wp2_with fail
    obtain ⟨q0, q1, q2, q3, q4, q5, q6, q7, q8⟩ := mvar_cells HPUT.out.1
    refine bodyPost_ret (v := .tuple #[.agg #[.int .i64 kd, .int .i64 0, .int .i64 0, .int .i64 0, .int .i64 0, .int .i64 0, .slice none 0 0, .slice none 0 0, .slice none 0 0], .int .i64 0, .int .i64 0, .int .i64 41]) (by simp [results, Try.results31, go_sem, q0, q1, q2, q3, q4, q5, q6, q7, q8]; try rfl) rfl ?_
    exact heads_no HE.out (HPUT.out.2 _ _ (by omega) HS1.out.bel)
  | some hd =>
    rintro e w1 ⟨aa, cc, rfl, hi1, hb1⟩
    have HS1 := Lib.hid (HS0.out.below hb1)
    have HI1 := Lib.hid hi1
    have HZ := Lib.hid (tab_small HV1.out HSZ.out)
    have HZ_hd := HZ
    clear hb1 hi1
    obtain ⟨x1, y1, HX1⟩ := numOr_ex hd 12 4
    obtain ⟨x2, y2, HX2⟩ := numOr_ex hd 18 2
    obtain ⟨x3, y3, HX3⟩ := numOr_ex hd 50 2
    obtain ⟨x4, y4, HX4⟩ := numOr_ex hd 52 2
    have HRH : Hid (rHead hd = if x1 ≠ 1594834165 then (41, 0, 0) else if x2 < 16 then (41, 0, 0) else if 16384 < x2 then (41, 0, 0) else if 1 < x3 then (41, 0, 0) else if x4 ≠ 0 then (42, 0, 0) else (0, x2, x3)) := by unfold Hid rHead; rw [HX1.out, HX2.out, HX3.out, HX4.out]
    obtain ⟨m0, m1, m2, m3, m4, m5, m6, m7, m8⟩ := mvar_cells HS1.out.m.c
    obtain ⟨r0, r1, r2, r3, r4, r5, r6, r7, r8⟩ := mvar_cells HS1.out.r.c
    obtain ⟨f0, f1, f2, f3, f4, f5, f6, f7, f8⟩ := blk_frozen HS1.out.r
    obtain ⟨e0, e1, e2, e3, e4, e5, e6, e7, e8⟩ := blk_frozen HS1.out.m
    have hb0 := HS1.out.b0
    have hb1 := HS1.out.b1
    have hb2 := HS1.out.b2
    go_wp2_with fail
    refine (refu32_c aa hd.size cc hd 12 x1 y1 w1 (HI1.out.below HS1.out.bel) (by have := HZ.out; omega) HX1).mono ?_
    rintro e wq ⟨rfl, rfl⟩
    by_cases h1 : ¬ x1 = 1594834165
    · have h1' : (x1 != 1594834165) = true := by simpa using h1
      have HE : Hid (headsOf l s = (41, none)) := by unfold Hid headsOf; rw [HV1.out]; simp only; rw [HRH.out, if_pos h1]; rfl
      have HPUT := Lib.hid (blk_put HS1.out.r (.int .i64 kd) (.int .i64 0) (.int .i64 0) (.int .i64 0) (.int .i64 0) (.int .i64 0) (.slice none 0 0) (.slice none 0 0) (.slice none 0 0))
      go_wp2_with fail
      obtain ⟨q0, q1, q2, q3, q4, q5, q6, q7, q8⟩ := mvar_cells HPUT.out.1
      refine bodyPost_ret (v := .tuple #[.agg #[.int .i64 kd, .int .i64 0, .int .i64 0, .int .i64 0, .int .i64 0, .int .i64 0, .slice none 0 0, .slice none 0 0, .slice none 0 0], .int .i64 0, .int .i64 0, .int .i64 41]) (by simp [results, Try.results31, go_sem, q0, q1, q2, q3, q4, q5, q6, q7, q8]; try rfl) rfl ?_
      exact heads_no HE.out (HPUT.out.2 _ _ (by omega) HS1.out.bel)
    have H1N : Hid (¬ (x1 ≠ 1594834165)) := h1
    have h1' : (x1 != 1594834165) = false := by simpa using h1
    go_wp2_with fail
    refine (refu16_c aa hd.size cc hd 18 x2 y2 w1 (HI1.out.below HS1.out.bel) (by have := HZ.out; omega) HX2).mono ?_
    rintro e wq ⟨rfl, rfl⟩
    have HS2 := Lib.hid (HS1.out.set 1 (by omega) (.int .i64 x2))
    go_wp2_with fail
    clear m0 m1 m2 m3 m4 m5 m6 m7 m8 r0 r1 r2 r3 r4 r5 r6 r7 r8 f0 f1 f2 f3 f4 f5 f6 f7 f8 e0 e1 e2 e3 e4 e5 e6 e7 e8 hb0 hb1 hb2
    generalize (w1.setCell ⟨w.heap.size + 1 + 1, 1, none⟩ (.int .i64 x2)) = w2 at *
    obtain ⟨m0, m1, m2, m3, m4, m5, m6, m7, m8⟩ := mvar_cells HS2.out.m.c
    obtain ⟨r0, r1, r2, r3, r4, r5, r6, r7, r8⟩ := mvar_cells HS2.out.r.c
    obtain ⟨f0, f1, f2, f3, f4, f5, f6, f7, f8⟩ := blk_frozen HS2.out.r
    obtain ⟨e0, e1, e2, e3, e4, e5, e6, e7, e8⟩ := blk_frozen HS2.out.m
    have hb0 := HS2.out.b0
    have hb1 := HS2.out.b1
    have hb2 := HS2.out.b2
    refine (refu16_c aa hd.size cc hd 50 x3 y3 w2 (HI1.out.below HS2.out.bel) (by have := HZ_hd.out; omega) HX3).mono ?_
    rintro e wq ⟨rfl, rfl⟩
    by_cases h2 : x2 < 16
    · have HE : Hid (headsOf l s = (41, none)) := heads_err1 HV1.out (by rw [HRH.out, if_neg H1N.out, if_pos h2]) (by decide)
      have HPUT := Lib.hid (blk_put HS2.out.r (.int .i64 kd) (.int .i64 x2) (.int .i64 0) (.int .i64 0) (.int .i64 0) (.int .i64 0) (.slice none 0 0) (.slice none 0 0) (.slice none 0 0))
      go_wp2_with fail
      obtain ⟨q0, q1, q2, q3, q4, q5, q6, q7, q8⟩ := mvar_cells HPUT.out.1
      refine bodyPost_ret (v := .tuple #[.agg #[.int .i64 kd, .int .i64 x2, .int .i64 0, .int .i64 0, .int .i64 0, .int .i64 0, .slice none 0 0, .slice none 0 0, .slice none 0 0], .int .i64 0, .int .i64 0, .int .i64 41]) (by simp [results, Try.results31, go_sem, q0, q1, q2, q3, q4, q5, q6, q7, q8]; try rfl) rfl ?_
      exact heads_no HE.out (HPUT.out.2 _ _ (by omega) HS2.out.bel)
    by_cases h3 : 16384 < x2
    · have HE : Hid (headsOf l s = (41, none)) := heads_err1 HV1.out (by rw [HRH.out, if_neg H1N.out, if_neg h2, if_pos h3]) (by decide)
      have HPUT := Lib.hid (blk_put HS2.out.r (.int .i64 kd) (.int .i64 x2) (.int .i64 0) (.int .i64 0) (.int .i64 0) (.int .i64 0) (.slice none 0 0) (.slice none 0 0) (.slice none 0 0))
      go_wp2_with fail
      obtain ⟨q0, q1, q2, q3, q4, q5, q6, q7, q8⟩ := mvar_cells HPUT.out.1
      refine bodyPost_ret (v := .tuple #[.agg #[.int .i64 kd, .int .i64 x2, .int .i64 0, .int .i64 0, .int .i64 0, .int .i64 0, .slice none 0 0, .slice none 0 0, .slice none 0 0], .int .i64 0, .int .i64 0, .int .i64 41]) (by simp [results, Try.results31, go_sem, q0, q1, q2, q3, q4, q5, q6, q7, q8]; try rfl) rfl ?_
      exact heads_no HE.out (HPUT.out.2 _ _ (by omega) HS2.out.bel)
    by_cases h4 : 1 < x3
    · have HE : Hid (headsOf l s = (41, none)) := heads_err1 HV1.out (by rw [HRH.out, if_neg H1N.out, if_neg h2, if_neg h3, if_pos h4]) (by decide)
      have HPUT := Lib.hid (blk_put HS2.out.r (.int .i64 kd) (.int .i64 x2) (.int .i64 0) (.int .i64 0) (.int .i64 0) (.int .i64 0) (.slice none 0 0) (.slice none 0 0) (.slice none 0 0))
      go_wp2_with fail
      obtain ⟨q0, q1, q2, q3, q4, q5, q6, q7, q8⟩ := mvar_cells HPUT.out.1
      refine bodyPost_ret (v := .tuple #[.agg #[.int .i64 kd, .int .i64 x2, .int .i64 0, .int .i64 0, .int .i64 0, .int .i64 0, .slice none 0 0, .slice none 0 0, .slice none 0 0], .int .i64 0, .int .i64 0, .int .i64 41]) (by simp [results, Try.results31, go_sem, q0, q1, q2, q3, q4, q5, q6, q7, q8]; try rfl) rfl ?_
      exact heads_no HE.out (HPUT.out.2 _ _ (by omega) HS2.out.bel)
    have H2N : Hid (16 ≤ x2 ∧ x2 ≤ 16384 ∧ x3 ≤ 1) := by unfold Hid; omega
    go_wp2_with fail
    refine (refu16_c aa hd.size cc hd 52 x4 y4 w2 (HI1.out.below HS2.out.bel) (by have := HZ_hd.out; omega) HX4).mono ?_
    rintro e wq ⟨rfl, rfl⟩
    by_cases h5 : ¬ x4 = 0
    · have h5' : (x4 != 0) = true := by simpa using h5
      have HE : Hid (headsOf l s = (42, none)) := heads_err1 HV1.out (by rw [HRH.out, if_neg H1N.out, if_neg (Int.not_lt.2 H2N.out.1), if_neg (Int.not_lt.2 H2N.out.2.1), if_neg (Int.not_lt.2 H2N.out.2.2), if_pos h5]) (by decide)
      have HPUT := Lib.hid (blk_put HS2.out.r (.int .i64 kd) (.int .i64 x2) (.int .i64 0) (.int .i64 0) (.int .i64 0) (.int .i64 0) (.slice none 0 0) (.slice none 0 0) (.slice none 0 0))
      go_wp2_with fail
      obtain ⟨q0, q1, q2, q3, q4, q5, q6, q7, q8⟩ := mvar_cells HPUT.out.1
      refine bodyPost_ret (v := .tuple #[.agg #[.int .i64 kd, .int .i64 x2, .int .i64 0, .int .i64 0, .int .i64 0, .int .i64 0, .slice none 0 0, .slice none 0 0, .slice none 0 0], .int .i64 0, .int .i64 0, .int .i64 42]) (by simp [results, Try.results31, go_sem, q0, q1, q2, q3, q4, q5, q6, q7, q8]; try rfl) rfl ?_
      exact heads_no HE.out (HPUT.out.2 _ _ (by omega) HS2.out.bel)
    have h5' : (x4 != 0) = false := by simpa using h5
    have HRH2 : Hid (rHead hd = (0, x2, x3)) := by unfold Hid; rw [HRH.out, if_neg H1N.out, if_neg (Int.not_lt.2 H2N.out.1), if_neg (Int.not_lt.2 H2N.out.2.1), if_neg (Int.not_lt.2 H2N.out.2.2), if_neg h5]
    have HRZ : Hid ((rHead hd).1 = 0) := by unfold Hid; rw [HRH2.out]
    clear h1 h2 h3 h4 h5
    go_wp2_with fail
    refine (rneed_c kd 6 g c bf of cap l s _ w w2 HS2.out.rf HS2.out.bel).mono ?_
    obtain ⟨v2, HV2⟩ : ∃ v, Hid (tabN l s maxpTg 6 = v) := ⟨_, rfl⟩
    rw [show (ByteArray.toList ⟨#[109, 97, 120, 112]⟩) = maxpTg from tl_maxpTg, HV2.out]
    clear m0 m1 m2 m3 m4 m5 m6 m7 m8 r0 r1 r2 r3 r4 r5 r6 r7 r8 f0 f1 f2 f3 f4 f5 f6 f7 f8 e0 e1 e2 e3 e4 e5 e6 e7 e8 hb0 hb1 hb2
    clear h1' h5'
    cases v2 with
    | none =>
      have HE : Hid (headsOf l s = (41, none)) := heads_err2n HV1.out HRZ.out HV2.out
      rintro e w3 ⟨⟨aa, nn, cc, rfl⟩, hb1⟩
      have HS3 := Lib.hid (HS2.out.below hb1)
      clear hb1
      obtain ⟨m0, m1, m2, m3, m4, m5, m6, m7, m8⟩ := mvar_cells HS3.out.m.c
      obtain ⟨r0, r1, r2, r3, r4, r5, r6, r7, r8⟩ := mvar_cells HS3.out.r.c
      obtain ⟨f0, f1, f2, f3, f4, f5, f6, f7, f8⟩ := blk_frozen HS3.out.r
      obtain ⟨e0, e1, e2, e3, e4, e5, e6, e7, e8⟩ := blk_frozen HS3.out.m
      have hb0 := HS3.out.b0
      have hb1 := HS3.out.b1
      have hb2 := HS3.out.b2
      have HPUT := Lib.hid (blk_put HS3.out.r (.int .i64 kd) (.int .i64 x2) (.int .i64 0) (.int .i64 0) (.int .i64 0) (.int .i64 0) (.slice none 0 0) (.slice none 0 0) (.slice none 0 0))
      go_wp2_with fail
      obtain ⟨q0, q1, q2, q3, q4, q5, q6, q7, q8⟩ := mvar_cells HPUT.out.1
      refine bodyPost_ret (v := .tuple #[.agg #[.int .i64 kd, .int .i64 x2, .int .i64 0, .int .i64 0, .int .i64 0, .int .i64 0, .slice none 0 0, .slice none 0 0, .slice none 0 0], .int .i64 0, .int .i64 0, .int .i64 41]) (by simp [results, Try.results31, go_sem, q0, q1, q2, q3, q4, q5, q6, q7, q8]; try rfl) rfl ?_
      exact heads_no HE.out (HPUT.out.2 _ _ (by omega) HS3.out.bel)
    | some mx =>
      rintro e w3 ⟨aa, cc, rfl, hi1, hb1⟩
      have HS3 := Lib.hid (HS2.out.below hb1)
      have HI3 := Lib.hid hi1
      have HZ_mx := Lib.hid (tab_small HV2.out HSZ.out)
      clear hb1 hi1
      obtain ⟨z1, q1, HZ1⟩ := numOr_ex mx 0 4
      obtain ⟨z2, q2, HZ2⟩ := numOr_ex mx 4 2
      have HB2 := Lib.hid (num16_bound HZ2.out)
      have HRM : Hid (rMaxp mx = if z1 ≠ 20480 ∧ z1 ≠ 65536 then (42, 0) else if z2 = 0 then (41, 0) else if 4096 < z2 then (43, 0) else (0, z2)) := by unfold Hid rMaxp; rw [HZ1.out, HZ2.out]
      obtain ⟨m0, m1, m2, m3, m4, m5, m6, m7, m8⟩ := mvar_cells HS3.out.m.c
      obtain ⟨r0, r1, r2, r3, r4, r5, r6, r7, r8⟩ := mvar_cells HS3.out.r.c
      obtain ⟨f0, f1, f2, f3, f4, f5, f6, f7, f8⟩ := blk_frozen HS3.out.r
      obtain ⟨e0, e1, e2, e3, e4, e5, e6, e7, e8⟩ := blk_frozen HS3.out.m
      have hb0 := HS3.out.b0
      have hb1 := HS3.out.b1
      have hb2 := HS3.out.b2
      go_wp2_with fail
      refine (refu32_c aa mx.size cc mx 0 z1 q1 w3 (HI3.out.below HS3.out.bel) (by have := HZ_mx.out; omega) HZ1).mono ?_
      rintro e wq ⟨rfl, rfl⟩
      by_cases k1 : z1 ≠ 20480 ∧ z1 ≠ 65536
      · have k1' : (z1 != 20480) = true := by simpa using k1.1
        have k1'' : (z1 != 65536) = true := by simpa using k1.2
        have HE : Hid (headsOf l s = (42, none)) := heads_err2 HV1.out HRZ.out HV2.out (by rw [HRM.out, if_pos k1]) (by decide)
        have HPUT := Lib.hid (blk_put HS3.out.r (.int .i64 kd) (.int .i64 x2) (.int .i64 0) (.int .i64 0) (.int .i64 0) (.int .i64 0) (.slice none 0 0) (.slice none 0 0) (.slice none 0 0))
        go_wp2_with fail
        obtain ⟨q0, q1, q2, q3, q4, q5, q6, q7, q8⟩ := mvar_cells HPUT.out.1
        refine bodyPost_ret (v := .tuple #[.agg #[.int .i64 kd, .int .i64 x2, .int .i64 0, .int .i64 0, .int .i64 0, .int .i64 0, .slice none 0 0, .slice none 0 0, .slice none 0 0], .int .i64 0, .int .i64 0, .int .i64 42]) (by simp [results, Try.results31, go_sem, q0, q1, q2, q3, q4, q5, q6, q7, q8]; try rfl) rfl ?_
        exact heads_no HE.out (HPUT.out.2 _ _ (by omega) HS3.out.bel)
      have HK1 : Hid (¬ (z1 ≠ 20480 ∧ z1 ≠ 65536)) := k1
      have k2 : z1 = 20480 ∨ z1 = 65536 := by omega
      clear k1
      have HS4 := Lib.hid (HS3.out.set 2 (by omega) (.int .i64 z2))
      rcases k2 with rfl | rfl
      all_goals
        go_wp2_with fail
        refine (refu16_c aa mx.size cc mx 4 z2 q2 w3 (HI3.out.below HS3.out.bel) (by have := HZ_mx.out; omega) HZ2).mono ?_
        rintro e wq ⟨rfl, rfl⟩
        by_cases j1 : z2 = 0
        · have HE : Hid (headsOf l s = (41, none)) := heads_err2 HV1.out HRZ.out HV2.out (by rw [HRM.out]; simp [j1]) (by decide)
          subst j1
          have HPUT := Lib.hid (blk_put HS4.out.r (.int .i64 kd) (.int .i64 x2) (.int .i64 0) (.int .i64 0) (.int .i64 0) (.int .i64 0) (.slice none 0 0) (.slice none 0 0) (.slice none 0 0))
          go_wp2_with fail
          obtain ⟨q0, q1, q2, q3, q4, q5, q6, q7, q8⟩ := mvar_cells HPUT.out.1
          refine bodyPost_ret (v := .tuple #[.agg #[.int .i64 kd, .int .i64 x2, .int .i64 0, .int .i64 0, .int .i64 0, .int .i64 0, .slice none 0 0, .slice none 0 0, .slice none 0 0], .int .i64 0, .int .i64 0, .int .i64 41]) (by simp [results, Try.results31, go_sem, q0, q1, q2, q3, q4, q5, q6, q7, q8]; try rfl) rfl ?_
          exact heads_no HE.out (HPUT.out.2 _ _ (by omega) HS4.out.bel)
        have j1' : (z2 == 0) = false := by simpa using j1
        by_cases j2 : 4096 < z2
        · have HE : Hid (headsOf l s = (43, none)) := heads_err2 HV1.out HRZ.out HV2.out (by rw [HRM.out]; simp [j1, j2]) (by decide)
          have HPUT := Lib.hid (blk_put HS4.out.r (.int .i64 kd) (.int .i64 x2) (.int .i64 z2) (.int .i64 0) (.int .i64 0) (.int .i64 0) (.slice none 0 0) (.slice none 0 0) (.slice none 0 0))
          go_wp2_with fail
          obtain ⟨q0, q1, q2, q3, q4, q5, q6, q7, q8⟩ := mvar_cells HPUT.out.1
          refine bodyPost_ret (v := .tuple #[.agg #[.int .i64 kd, .int .i64 x2, .int .i64 z2, .int .i64 0, .int .i64 0, .int .i64 0, .slice none 0 0, .slice none 0 0, .slice none 0 0], .int .i64 0, .int .i64 0, .int .i64 43]) (by simp [results, Try.results31, go_sem, q0, q1, q2, q3, q4, q5, q6, q7, q8]; try rfl) rfl ?_
          exact heads_no HE.out (HPUT.out.2 _ _ (by omega) HS4.out.bel)
        have HRM2 : Hid (rMaxp mx = (0, z2)) := by unfold Hid; rw [HRM.out]; simp [j1]; omega
        have HRMZ : Hid ((rMaxp mx).1 = 0) := by unfold Hid; rw [HRM2.out]
        go_wp2_with fail
        clear m0 m1 m2 m3 m4 m5 m6 m7 m8 r0 r1 r2 r3 r4 r5 r6 r7 r8 f0 f1 f2 f3 f4 f5 f6 f7 f8 e0 e1 e2 e3 e4 e5 e6 e7 e8 hb0 hb1 hb2
        clear j1 j2 j1'
        generalize (w3.setCell ⟨w.heap.size + 1 + 1, 2, none⟩ (.int .i64 z2)) = w4 at *
        refine (rneed_c kd 36 g c bf of cap l s _ w w4 HS4.out.rf HS4.out.bel).mono ?_
        obtain ⟨v3, HV3⟩ : ∃ v, Hid (tabN l s hheaTg 36 = v) := ⟨_, rfl⟩
        rw [show (ByteArray.toList ⟨#[104, 104, 101, 97]⟩) = hheaTg from tl_hheaTg, HV3.out]
        cases v3 with
        | none =>
          have HE : Hid (headsOf l s = (41, none)) := heads_err3n HV1.out HRZ.out HV2.out HRMZ.out HV3.out
          rintro e w5 ⟨⟨aa, nn, cc, rfl⟩, hb1⟩
          have HS5 := Lib.hid (HS4.out.below hb1)
          clear hb1
          obtain ⟨m0, m1, m2, m3, m4, m5, m6, m7, m8⟩ := mvar_cells HS5.out.m.c
          obtain ⟨r0, r1, r2, r3, r4, r5, r6, r7, r8⟩ := mvar_cells HS5.out.r.c
          obtain ⟨f0, f1, f2, f3, f4, f5, f6, f7, f8⟩ := blk_frozen HS5.out.r
          obtain ⟨e0, e1, e2, e3, e4, e5, e6, e7, e8⟩ := blk_frozen HS5.out.m
          have hb0 := HS5.out.b0
          have hb1 := HS5.out.b1
          have hb2 := HS5.out.b2
          have HPUT := Lib.hid (blk_put HS5.out.r (.int .i64 kd) (.int .i64 x2) (.int .i64 z2) (.int .i64 0) (.int .i64 0) (.int .i64 0) (.slice none 0 0) (.slice none 0 0) (.slice none 0 0))
          go_wp2_with fail
          obtain ⟨q0, q1, q2, q3, q4, q5, q6, q7, q8⟩ := mvar_cells HPUT.out.1
          refine bodyPost_ret (v := .tuple #[.agg #[.int .i64 kd, .int .i64 x2, .int .i64 z2, .int .i64 0, .int .i64 0, .int .i64 0, .slice none 0 0, .slice none 0 0, .slice none 0 0], .int .i64 0, .int .i64 0, .int .i64 41]) (by simp [results, Try.results31, go_sem, q0, q1, q2, q3, q4, q5, q6, q7, q8]; try rfl) rfl ?_
          exact heads_no HE.out (HPUT.out.2 _ _ (by omega) HS5.out.bel)
        | some hh =>
          rintro e w5 ⟨aa, cc, rfl, hi1, hb1⟩
          have HS5 := Lib.hid (HS4.out.below hb1)
          have HI5 := Lib.hid hi1
          have HZ_hh := Lib.hid (tab_small HV3.out HSZ.out)
          clear hb1 hi1
          obtain ⟨t1, p1, HT1⟩ := numOr_ex hh 4 2
          obtain ⟨t2, p2, HT2⟩ := numOr_ex hh 6 2
          obtain ⟨t3, p3, HT3⟩ := numOr_ex hh 8 2
          obtain ⟨t4, p4, HT4⟩ := numOr_ex hh 34 2
          have HAL : Hid (headsOf l s = if (if t4 < 1 then ((41 : Int), (0 : Int)) else if z2 < t4 then (41, 0) else (0, t4)).1 ≠ 0 then ((if t4 < 1 then ((41 : Int), (0 : Int)) else if z2 < t4 then (41, 0) else (0, t4)).1, none) else (0, some (x2, z2, sign16 t1, sign16 t2, sign16 t3, x3, (if t4 < 1 then ((41 : Int), (0 : Int)) else if z2 < t4 then (41, 0) else (0, t4)).2))) := by
            unfold Hid; rw [heads_all HV1.out HRZ.out HV2.out HRMZ.out HV3.out, HRM2.out, HRH2.out]; unfold rHhea; rw [HT1.out, HT2.out, HT3.out, HT4.out]
          generalize hy1 : sign16 t1 = y1' at *
          generalize hy2 : sign16 t2 = y2' at *
          generalize hy3 : sign16 t3 = y3' at *
          obtain ⟨m0, m1, m2, m3, m4, m5, m6, m7, m8⟩ := mvar_cells HS5.out.m.c
          obtain ⟨r0, r1, r2, r3, r4, r5, r6, r7, r8⟩ := mvar_cells HS5.out.r.c
          obtain ⟨f0, f1, f2, f3, f4, f5, f6, f7, f8⟩ := blk_frozen HS5.out.r
          obtain ⟨e0, e1, e2, e3, e4, e5, e6, e7, e8⟩ := blk_frozen HS5.out.m
          have hb0 := HS5.out.b0
          have hb1 := HS5.out.b1
          have hb2 := HS5.out.b2
          go_wp2_with fail
          refine (refi16_c aa hh.size cc hh 4 t1 p1 w5 (HI5.out.below HS5.out.bel) (by have := HZ_hh.out; omega) HT1).mono ?_
          rintro e wq ⟨rfl, rfl⟩
          rw [hy1]
          have HS6 := Lib.hid (HS5.out.set 3 (by omega) (.int .i64 y1'))
          go_wp2_with fail
          clear m0 m1 m2 m3 m4 m5 m6 m7 m8 r0 r1 r2 r3 r4 r5 r6 r7 r8 f0 f1 f2 f3 f4 f5 f6 f7 f8 e0 e1 e2 e3 e4 e5 e6 e7 e8 hb0 hb1 hb2
          generalize (w5.setCell ⟨w.heap.size + 1 + 1, 3, none⟩ (.int .i64 y1')) = w6 at *
          obtain ⟨m0, m1, m2, m3, m4, m5, m6, m7, m8⟩ := mvar_cells HS6.out.m.c
          obtain ⟨r0, r1, r2, r3, r4, r5, r6, r7, r8⟩ := mvar_cells HS6.out.r.c
          obtain ⟨f0, f1, f2, f3, f4, f5, f6, f7, f8⟩ := blk_frozen HS6.out.r
          obtain ⟨e0, e1, e2, e3, e4, e5, e6, e7, e8⟩ := blk_frozen HS6.out.m
          have hb0 := HS6.out.b0
          have hb1 := HS6.out.b1
          have hb2 := HS6.out.b2
          refine (refi16_c aa hh.size cc hh 6 t2 p2 w6 (HI5.out.below HS6.out.bel) (by have := HZ_hh.out; omega) HT2).mono ?_
          rintro e wq ⟨rfl, rfl⟩
          rw [hy2]
          have HS7 := Lib.hid (HS6.out.set 4 (by omega) (.int .i64 y2'))
          go_wp2_with fail
          clear m0 m1 m2 m3 m4 m5 m6 m7 m8 r0 r1 r2 r3 r4 r5 r6 r7 r8 f0 f1 f2 f3 f4 f5 f6 f7 f8 e0 e1 e2 e3 e4 e5 e6 e7 e8 hb0 hb1 hb2
          generalize (w6.setCell ⟨w.heap.size + 1 + 1, 4, none⟩ (.int .i64 y2')) = w7 at *
          obtain ⟨m0, m1, m2, m3, m4, m5, m6, m7, m8⟩ := mvar_cells HS7.out.m.c
          obtain ⟨r0, r1, r2, r3, r4, r5, r6, r7, r8⟩ := mvar_cells HS7.out.r.c
          obtain ⟨f0, f1, f2, f3, f4, f5, f6, f7, f8⟩ := blk_frozen HS7.out.r
          obtain ⟨e0, e1, e2, e3, e4, e5, e6, e7, e8⟩ := blk_frozen HS7.out.m
          have hb0 := HS7.out.b0
          have hb1 := HS7.out.b1
          have hb2 := HS7.out.b2
          refine (refi16_c aa hh.size cc hh 8 t3 p3 w7 (HI5.out.below HS7.out.bel) (by have := HZ_hh.out; omega) HT3).mono ?_
          rintro e wq ⟨rfl, rfl⟩
          rw [hy3]
          have HS8 := Lib.hid (HS7.out.set 5 (by omega) (.int .i64 y3'))
          go_wp2_with fail
          clear m0 m1 m2 m3 m4 m5 m6 m7 m8 r0 r1 r2 r3 r4 r5 r6 r7 r8 f0 f1 f2 f3 f4 f5 f6 f7 f8 e0 e1 e2 e3 e4 e5 e6 e7 e8 hb0 hb1 hb2
          generalize (w7.setCell ⟨w.heap.size + 1 + 1, 5, none⟩ (.int .i64 y3')) = w8 at *
          obtain ⟨m0, m1, m2, m3, m4, m5, m6, m7, m8⟩ := mvar_cells HS8.out.m.c
          obtain ⟨r0, r1, r2, r3, r4, r5, r6, r7, r8⟩ := mvar_cells HS8.out.r.c
          obtain ⟨f0, f1, f2, f3, f4, f5, f6, f7, f8⟩ := blk_frozen HS8.out.r
          obtain ⟨e0, e1, e2, e3, e4, e5, e6, e7, e8⟩ := blk_frozen HS8.out.m
          have hb0 := HS8.out.b0
          have hb1 := HS8.out.b1
          have hb2 := HS8.out.b2
          refine (refu16_c aa hh.size cc hh 34 t4 p4 w8 (HI5.out.below HS8.out.bel) (by have := HZ_hh.out; omega) HT4).mono ?_
          rintro e wq ⟨rfl, rfl⟩
          by_cases l1 : t4 < 1
          · have HE : Hid (headsOf l s = (41, none)) := by unfold Hid; rw [HAL.out]; simp [l1]
            have HPUT := Lib.hid (blk_put HS8.out.r (.int .i64 kd) (.int .i64 x2) (.int .i64 z2) (.int .i64 y1') (.int .i64 y2') (.int .i64 y3') (.slice none 0 0) (.slice none 0 0) (.slice none 0 0))
            go_wp2_with fail
            obtain ⟨q0, q1, q2, q3, q4, q5, q6, q7, q8⟩ := mvar_cells HPUT.out.1
            refine bodyPost_ret (v := .tuple #[.agg #[.int .i64 kd, .int .i64 x2, .int .i64 z2, .int .i64 y1', .int .i64 y2', .int .i64 y3', .slice none 0 0, .slice none 0 0, .slice none 0 0], .int .i64 0, .int .i64 0, .int .i64 41]) (by simp [results, Try.results31, go_sem, q0, q1, q2, q3, q4, q5, q6, q7, q8]; try rfl) rfl ?_
            exact heads_no HE.out (HPUT.out.2 _ _ (by omega) HS8.out.bel)
          by_cases l2 : z2 < t4
          · have HE : Hid (headsOf l s = (41, none)) := by unfold Hid; rw [HAL.out]; simp [l1, l2]
            have HPUT := Lib.hid (blk_put HS8.out.r (.int .i64 kd) (.int .i64 x2) (.int .i64 z2) (.int .i64 y1') (.int .i64 y2') (.int .i64 y3') (.slice none 0 0) (.slice none 0 0) (.slice none 0 0))
            go_wp2_with fail
            obtain ⟨q0, q1, q2, q3, q4, q5, q6, q7, q8⟩ := mvar_cells HPUT.out.1
            refine bodyPost_ret (v := .tuple #[.agg #[.int .i64 kd, .int .i64 x2, .int .i64 z2, .int .i64 y1', .int .i64 y2', .int .i64 y3', .slice none 0 0, .slice none 0 0, .slice none 0 0], .int .i64 0, .int .i64 0, .int .i64 41]) (by simp [results, Try.results31, go_sem, q0, q1, q2, q3, q4, q5, q6, q7, q8]; try rfl) rfl ?_
            exact heads_no HE.out (HPUT.out.2 _ _ (by omega) HS8.out.bel)
          have HE : Hid (headsOf l s = (0, some (x2, z2, y1', y2', y3', x3, t4))) := by unfold Hid; rw [HAL.out]; simp [l1, l2]
          have HPUT := Lib.hid (blk_put HS8.out.r (.int .i64 kd) (.int .i64 x2) (.int .i64 z2) (.int .i64 y1') (.int .i64 y2') (.int .i64 y3') (.slice none 0 0) (.slice none 0 0) (.slice none 0 0))
          go_wp2_with fail
          obtain ⟨q0, q1, q2, q3, q4, q5, q6, q7, q8⟩ := mvar_cells HPUT.out.1
          refine bodyPost_ret (v := .tuple #[.agg #[.int .i64 kd, .int .i64 x2, .int .i64 z2, .int .i64 y1', .int .i64 y2', .int .i64 y3', .slice none 0 0, .slice none 0 0, .slice none 0 0], .int .i64 x3, .int .i64 t4, .int .i64 0]) (by simp [results, Try.results31, go_sem, q0, q1, q2, q3, q4, q5, q6, q7, q8]; try rfl) rfl ?_
          exact heads_yes HE.out (HPUT.out.2 _ _ (by omega) HS8.out.bel)
end Go.Proofs.Ytbcjicmledckbaa
