/-
  What Read of package metric answers of any font in memory: what the chapter says, its rows new memory, or the first error.
-/
import Derived.Test.YtbcjicmledckbaaMtG
namespace Go.Proofs.Ytbcjicmledckbaa
open Go.RowKit Go.PlainAid
set_option linter.unusedSimpArgs false
set_option linter.unusedVariables false

/-- Metrics that are none. -/
def noneMet : Value := .agg #[.int .i64 0, .int .i64 0, .int .i64 0, .int .i64 0, .int .i64 0, .int .i64 0, .slice none 0 0, .slice none 0 0, .slice none 0 0]
/-- Metrics as a value, their rows new memory. -/
def MetAt (B : Nat) (w : World) (m : Met) (v : Value) : Prop := ∃ ga gb pv, v = .agg #[.int .i64 m.kind, .int .i64 m.units, .int .i64 m.glyphs, .int .i64 m.ascent, .int .i64 m.descent, .int .i64 m.gap, .slice (some ⟨ga, 0, none⟩) m.adv.length m.adv.length, .slice (some ⟨gb, 0, none⟩) m.bear.length m.bear.length, pv] ∧
  B ≤ ga ∧ ga < gb ∧ IntsAt w ga m.adv ∧ IntsAt w gb m.bear ∧ RowAt (gb + 1) w pv m.places ∧ m.bear.length = m.adv.length ∧ m.adv.length ≤ 4096 ∧ m.places.length ≤ 4097
/-- How Read ends. -/
def ReadPost (w : World) (r : Int × Option Met) (e : Ending) (w' : World) : Prop :=
  match r with
  | (f, none) => e = .returned (.tuple #[noneMet, .int .i64 f]) ∧ Below w.heap.size w w'
  | (f, some m) => ∃ v, e = .returned (.tuple #[v, .int .i64 f]) ∧ MetAt w.heap.size w' m v ∧ Below w.heap.size w w'
theorem readPost_no {w w' : World} {r : Int × Option Met} {f : Int} (h : r = (f, none)) (hb : Below w.heap.size w w') : ReadPost w r (.returned (.tuple #[noneMet, .int .i64 f])) w' := by subst h; exact ⟨rfl, hb⟩
theorem readPost_yes {w w' : World} {r : Int × Option Met} {m : Met} {v : Value} (h : r = (0, some m)) (hm : MetAt w.heap.size w' m v) (hb : Below w.heap.size w w') : ReadPost w r (.returned (.tuple #[v, .int .i64 0])) w' := by subst h; exact ⟨v, rfl, hm, hb⟩

theorem read_start (w : World) (gf : Nat) : Rd (((w.alloc (.cells #[.int .i64 0, .int .i64 0, .int .i64 0, .int .i64 0, .int .i64 0, .int .i64 0, .slice none 0 0, .slice none 0 0, .slice none 0 0] 35)).alloc (.cells #[.int .i64 0] 30)).alloc (.cells #[.pointer (some ⟨gf, 0, none⟩), .int .i64 0, .int .i64 0, .int .i64 0, .int .i64 0, .int .i64 0, .int .i64 0, .slice none 0 0, .slice none 0 0, .slice none 0 0] 79)) (w.heap.size + 1 + 1) gf [.int .i64 0, .int .i64 0, .int .i64 0, .int .i64 0, .int .i64 0, .int .i64 0, .slice none 0 0, .slice none 0 0, .slice none 0 0] ∧
    ResAt (((w.alloc (.cells #[.int .i64 0, .int .i64 0, .int .i64 0, .int .i64 0, .int .i64 0, .int .i64 0, .slice none 0 0, .slice none 0 0, .slice none 0 0] 35)).alloc (.cells #[.int .i64 0] 30)).alloc (.cells #[.pointer (some ⟨gf, 0, none⟩), .int .i64 0, .int .i64 0, .int .i64 0, .int .i64 0, .int .i64 0, .int .i64 0, .slice none 0 0, .slice none 0 0, .slice none 0 0] 79)) w.heap.size noneCells (.int .i64 0) ∧ Below w.heap.size w (((w.alloc (.cells #[.int .i64 0, .int .i64 0, .int .i64 0, .int .i64 0, .int .i64 0, .int .i64 0, .slice none 0 0, .slice none 0 0, .slice none 0 0] 35)).alloc (.cells #[.int .i64 0] 30)).alloc (.cells #[.pointer (some ⟨gf, 0, none⟩), .int .i64 0, .int .i64 0, .int .i64 0, .int .i64 0, .int .i64 0, .int .i64 0, .slice none 0 0, .slice none 0 0, .slice none 0 0] 79)) := by
  have h0 := heap_alloc_new w (.cells #[.int .i64 0, .int .i64 0, .int .i64 0, .int .i64 0, .int .i64 0, .int .i64 0, .slice none 0 0, .slice none 0 0, .slice none 0 0] 35)
  have b0 : Below w.heap.size w (w.alloc (.cells #[.int .i64 0, .int .i64 0, .int .i64 0, .int .i64 0, .int .i64 0, .int .i64 0, .slice none 0 0, .slice none 0 0, .slice none 0 0] 35)) := (Below.refl _ _).alloc (Nat.le_refl _) _
  have z0 : (w.alloc (.cells #[.int .i64 0, .int .i64 0, .int .i64 0, .int .i64 0, .int .i64 0, .int .i64 0, .slice none 0 0, .slice none 0 0, .slice none 0 0] 35)).heap.size = w.heap.size + 1 := by simp [go_sem]
  generalize (w.alloc (.cells #[.int .i64 0, .int .i64 0, .int .i64 0, .int .i64 0, .int .i64 0, .int .i64 0, .slice none 0 0, .slice none 0 0, .slice none 0 0] 35)) = w1 at *
  have h1 := heap_alloc_new w1 (.cells #[.int .i64 0] 30)
  have b1 : Below w1.heap.size w1 (w1.alloc (.cells #[.int .i64 0] 30)) := (Below.refl _ _).alloc (Nat.le_refl _) _
  have z1 : (w1.alloc (.cells #[.int .i64 0] 30)).heap.size = w.heap.size + 2 := by simp [go_sem, z0]
  generalize (w1.alloc (.cells #[.int .i64 0] 30)) = w2 at *
  have h2 := heap_alloc_new w2 (.cells #[.pointer (some ⟨gf, 0, none⟩), .int .i64 0, .int .i64 0, .int .i64 0, .int .i64 0, .int .i64 0, .int .i64 0, .slice none 0 0, .slice none 0 0, .slice none 0 0] 79)
  have b2 : Below w2.heap.size w2 (w2.alloc (.cells #[.pointer (some ⟨gf, 0, none⟩), .int .i64 0, .int .i64 0, .int .i64 0, .int .i64 0, .int .i64 0, .int .i64 0, .slice none 0 0, .slice none 0 0, .slice none 0 0] 79)) := (Below.refl _ _).alloc (Nat.le_refl _) _
  generalize (w2.alloc (.cells #[.pointer (some ⟨gf, 0, none⟩), .int .i64 0, .int .i64 0, .int .i64 0, .int .i64 0, .int .i64 0, .int .i64 0, .slice none 0 0, .slice none 0 0, .slice none 0 0] 79)) = w3 at *
  rw [z1] at h2
  rw [z0] at h1
  have k1 : w3.heap[w.heap.size + 1]? = some (.cells #[.int .i64 0] 30 (0, 0)) := by rw [b2.block _ (by omega)]; exact h1
  have k0 : w3.heap[w.heap.size]? = some (.cells #[.int .i64 0, .int .i64 0, .int .i64 0, .int .i64 0, .int .i64 0, .int .i64 0, .slice none 0 0, .slice none 0 0, .slice none 0 0] 35 (0, 0)) := by rw [b2.block _ (by omega), b1.block _ (by omega)]; exact h0
  have k2 : w3.heap[w.heap.size + 1 + 1]? = _ := h2
  refine ⟨⟨?_, rfl, ?_, ?_⟩, ⟨rfl, ?_, ?_, ?_, ?_⟩, (b0.trans (b1.mono (by omega))).trans (b2.mono (by omega))⟩
  · simp [World.cell?, World.cells?, k2]
  · intro i hi
    have : i = 0 ∨ i = 1 ∨ i = 2 ∨ i = 3 ∨ i = 4 ∨ i = 5 ∨ i = 6 ∨ i = 7 ∨ i = 8 := by omega
    rcases this with rfl | rfl | rfl | rfl | rfl | rfl | rfl | rfl | rfl <;> simp [World.cell?, World.cells?, k2]
  · intro i hi; simp [World.frozen?, k2]
  · intro i hi
    have : i = 0 ∨ i = 1 ∨ i = 2 ∨ i = 3 ∨ i = 4 ∨ i = 5 ∨ i = 6 ∨ i = 7 ∨ i = 8 := by omega
    rcases this with rfl | rfl | rfl | rfl | rfl | rfl | rfl | rfl | rfl <;> simp [World.cell?, World.cells?, k0, noneCells]
  · intro i hi; simp [World.frozen?, k0]
  · simp [World.cell?, World.cells?, k1]
  · simp [World.frozen?, k1]

theorem res_cells {w : World} {gm : Nat} {u0 u1 u2 u3 u4 u5 u6 u7 u8 ev : Value} (h : ResAt w gm [u0, u1, u2, u3, u4, u5, u6, u7, u8] ev) :
    w.cell? ⟨gm, 0, none⟩ = some u0 ∧ w.cell? ⟨gm, 1, none⟩ = some u1 ∧ w.cell? ⟨gm, 2, none⟩ = some u2 ∧ w.cell? ⟨gm, 3, none⟩ = some u3 ∧ w.cell? ⟨gm, 4, none⟩ = some u4 ∧ w.cell? ⟨gm, 5, none⟩ = some u5 ∧ w.cell? ⟨gm, 6, none⟩ = some u6 ∧ w.cell? ⟨gm, 7, none⟩ = some u7 ∧ w.cell? ⟨gm, 8, none⟩ = some u8 ∧ w.cell? ⟨gm + 1, 0, none⟩ = some ev :=
  ⟨h.c 0 (by omega), h.c 1 (by omega), h.c 2 (by omega), h.c 3 (by omega), h.c 4 (by omega), h.c 5 (by omega), h.c 6 (by omega), h.c 7 (by omega), h.c 8 (by omega), h.e⟩
theorem res_frozen {w : World} {gm : Nat} {vs : List Value} {ev : Value} (h : ResAt w gm vs ev) :
    w.frozen? ⟨gm, 0, none⟩ = false ∧ w.frozen? ⟨gm, 1, none⟩ = false ∧ w.frozen? ⟨gm, 2, none⟩ = false ∧ w.frozen? ⟨gm, 3, none⟩ = false ∧ w.frozen? ⟨gm, 4, none⟩ = false ∧ w.frozen? ⟨gm, 5, none⟩ = false ∧ w.frozen? ⟨gm, 6, none⟩ = false ∧ w.frozen? ⟨gm, 7, none⟩ = false ∧ w.frozen? ⟨gm, 8, none⟩ = false ∧ w.frozen? ⟨gm + 1, 0, none⟩ = false :=
  ⟨h.f 0 (by omega), h.f 1 (by omega), h.f 2 (by omega), h.f 3 (by omega), h.f 4 (by omega), h.f 5 (by omega), h.f 6 (by omega), h.f 7 (by omega), h.f 8 (by omega), h.ef⟩
theorem rd_cells {w : World} {gr gf : Nat} {u0 u1 u2 u3 u4 u5 u6 u7 u8 : Value} (h : Rd w gr gf [u0, u1, u2, u3, u4, u5, u6, u7, u8]) :
    w.cell? ⟨gr, 1, none⟩ = some u0 ∧ w.cell? ⟨gr, 2, none⟩ = some u1 ∧ w.cell? ⟨gr, 3, none⟩ = some u2 ∧ w.cell? ⟨gr, 4, none⟩ = some u3 ∧ w.cell? ⟨gr, 5, none⟩ = some u4 ∧ w.cell? ⟨gr, 6, none⟩ = some u5 ∧ w.cell? ⟨gr, 7, none⟩ = some u6 ∧ w.cell? ⟨gr, 8, none⟩ = some u7 ∧ w.cell? ⟨gr, 9, none⟩ = some u8 :=
  ⟨h.c 0 (by omega), h.c 1 (by omega), h.c 2 (by omega), h.c 3 (by omega), h.c 4 (by omega), h.c 5 (by omega), h.c 6 (by omega), h.c 7 (by omega), h.c 8 (by omega)⟩

theorem head_form {b : ByteArray} (h : (rHead b).1 = 0) : (rHead b).2.2 = 0 ∨ (rHead b).2.2 = 1 := by
  have hb := num16_bound (s := b) (at' := 50) (x := (numOr b 50 2).1) (f := (numOr b 50 2).2) rfl
  unfold rHead at h ⊢
  split at h
  · simp at h
  · rename_i h0
    split at h
    · simp at h
    · rename_i h1
      split at h
      · simp at h
      · rename_i h2
        split at h
        · simp at h
        · rename_i h3
          split at h
          · simp at h
          · rename_i h4
            rw [if_neg h0, if_neg h1, if_neg h2, if_neg h3, if_neg h4]
            simp only
            omega
theorem advL_length (b : ByteArray) (wd : Int) (n : Nat) : (advL b wd n).length = n := by simp [advL]
theorem bearL_length (b : ByteArray) (wd : Int) (n : Nat) : (bearL b wd n).length = n := by simp [bearL]
theorem rPlaces_length (kd : Int) (l : List Row) (s : ByteArray) (n : Nat) (form : Int) : (rPlaces kd l s n form).2.length ≤ n + 1 := by
  unfold rPlaces
  split
  · split <;> simp
  · split
    · simp
    · split
      · simp
      · split
        · simp
        · rename_i ps h
          rw [placeL_shape _ h]
          simp [allPlaces_length]
theorem rowAt_heap {B : Nat} {w w' : World} {v : Value} {L : List Int} (h : RowAt B w v L) (hk : ∀ g, B ≤ g → w'.heap[g]? = w.heap[g]?) {B' : Nat} (hB : B' ≤ B) : RowAt B' w' v L := by
  rcases h with h | ⟨g, h1, h2, h3⟩
  · exact .inl h
  · exact .inr ⟨g, h1, by unfold IntsAt; rw [hk g h3]; exact h2, by omega⟩
theorem rowAt_slice {B : Nat} {w : World} {v : Value} {L : List Int} (h : RowAt B w v L) : ∃ a n c, v = .slice a n c := by
  rcases h with ⟨h, _⟩ | ⟨g, h, _⟩
  · exact ⟨_, _, _, h⟩
  · exact ⟨_, _, _, h⟩
theorem maxp_glyphs {b : ByteArray} (h : (rMaxp b).1 = 0) : ∃ n : Nat, (rMaxp b).2 = n ∧ 1 ≤ n ∧ n ≤ 4096 := by
  have hb := num16_bound (s := b) (at' := 4) (x := (numOr b 4 2).1) (f := (numOr b 4 2).2) rfl
  refine ⟨(rMaxp b).2.toNat, ?_⟩
  unfold rMaxp at h ⊢
  split at h
  · simp at h
  · rename_i h0
    split at h
    · simp at h
    · rename_i h1
      split at h
      · simp at h
      · rename_i h2
        rw [if_neg h0, if_neg h1, if_neg h2]
        simp only
        omega
theorem hhea_wide {b : ByteArray} {n : Nat} (h : (rHhea b n).1 = 0) : ∃ wd : Nat, (rHhea b n).2 = wd ∧ 1 ≤ wd ∧ wd ≤ n := by
  refine ⟨(rHhea b n).2.toNat, ?_⟩
  unfold rHhea at h ⊢
  split at h
  · simp at h
  · rename_i h0
    split at h
    · simp at h
    · rename_i h1
      rw [if_neg h0, if_neg h1]
      simp only
      omega

set_option maxHeartbeats 4000000 in
theorem read_c (B gf : Nat) (kd : Int) (hk : kd = 1 ∨ kd = 2) (l : List Row) (s : ByteArray) (w : World) (hF : FontIn B w gf kd l s) (hB : B ≤ w.heap.size) :
    Calls Try.prog 12 #[.pointer (some ⟨gf, 0, none⟩)] w (ReadPost w (readOf kd l s)) := by
  have hmf : ∀ (fn : Fn) (first cap : Array Value) (w : World), (Instr.makeFunc fn first cap).run Try.prog w = .ok (.func fn first cap) w := fun _ _ _ _ => rfl
  have HF := Lib.hid (hF.mono hB)
  have HK := Lib.hid hk
  have hst := read_start w gf
  have HR0 := Lib.hid hst.1
  have HS0 := Lib.hid hst.2.1
  have HB0 := Lib.hid hst.2.2
  clear hF hB hst hk
  go_enter_defers Try.func12, Try.ntmps12
  go_wp2_with fail
  generalize (((w.alloc (.cells #[.int .i64 0, .int .i64 0, .int .i64 0, .int .i64 0, .int .i64 0, .int .i64 0, .slice none 0 0, .slice none 0 0, .slice none 0 0] 35)).alloc (.cells #[.int .i64 0] 30)).alloc (.cells #[.pointer (some ⟨gf, 0, none⟩), .int .i64 0, .int .i64 0, .int .i64 0, .int .i64 0, .int .i64 0, .int .i64 0, .slice none 0 0, .slice none 0 0, .slice none 0 0] 79)) = w0 at *
  clear hmf
  generalize hgr : w.heap.size + 1 + 1 = gr at *
  have HG0 : Hid (w.heap.size + 1 < gr) := by unfold Hid; omega
  have HF0 := Lib.hid ((HF.out.kept HB0.out).mono (by have := HG0.out; omega : w.heap.size ≤ gr))
  clear HF hgr
  have hBW : w.heap.size ≤ gr := by have := HG0.out; omega
  have HBW := Lib.hid hBW
  clear hBW
  refine (head_c gr gf kd l s w0 _ HR0.out HF0.out).mono ?_
  obtain ⟨v1, HV1⟩ : ∃ v, Hid (tabN l s headTg 54 = v) := ⟨_, rfl⟩
  rw [HV1.out]
  cases v1 with
  | none =>
    have HE : Hid (readOf kd l s = (41, none)) := by unfold Hid readOf; rw [HV1.out]
    rintro e w1 ⟨rfl, hb1⟩
    unfold gave
    go_wp2_with fail
    refine leaves_cons (f := 34) (args := #[.pointer (some ⟨w.heap.size, 0, none⟩), .pointer (some ⟨w.heap.size + 1, 0, none⟩)]) (by simp) (by simp [go_sem]) ?_
    refine (catch_panicking w.heap.size 41 [] w1 _ (HS0.out.kept hb1 HG0.out)).mono ?_
    rintro e u' wz ⟨rfl, rfl, hres, hbz⟩
    have HP := Lib.hid (readPost_no HE.out ((HB0.out.trans (hb1.mono HBW.out)).trans hbz))
    obtain ⟨r0, r1, r2, r3, r4, r5, r6, r7, r8, re⟩ := res_cells hres
    simp [Leaves, settle, results, Try.results12, go_sem, r0, r1, r2, r3, r4, r5, r6, r7, r8, re]
    exact HP.out
  | some hd =>
    rintro e w1 (⟨hne, rfl, hb1⟩ | ⟨h0, rfl, hr1, hb1⟩)
    · have HE : Hid (readOf kd l s = ((rHead hd).1, none)) := by unfold Hid readOf; rw [HV1.out]; simp only; rw [if_pos hne]
      generalize (rHead hd).1 = q at *
      unfold gave
      go_wp2_with fail
      refine leaves_cons (f := 34) (args := #[.pointer (some ⟨w.heap.size, 0, none⟩), .pointer (some ⟨w.heap.size + 1, 0, none⟩)]) (by simp) (by simp [go_sem]) ?_
      refine (catch_panicking w.heap.size q [] w1 _ (HS0.out.kept hb1 HG0.out)).mono ?_
      rintro e u' wz ⟨rfl, rfl, hres, hbz⟩
      have HP := Lib.hid (readPost_no HE.out ((HB0.out.trans (hb1.mono HBW.out)).trans hbz))
      obtain ⟨r0, r1, r2, r3, r4, r5, r6, r7, r8, re⟩ := res_cells hres
      simp [Leaves, settle, results, Try.results12, go_sem, r0, r1, r2, r3, r4, r5, r6, r7, r8, re]
      exact HP.out
    have HFM := Lib.hid (head_form h0)
    have HH0 := Lib.hid h0
    have HF1 := Lib.hid (HF0.out.kept hb1)
    have HR1 := Lib.hid hr1
    have HS1 := Lib.hid (HS0.out.kept hb1 HG0.out)
    have HB1 := Lib.hid (HB0.out.trans (hb1.mono HBW.out))
    clear hb1 hr1 h0 HB0 HS0 HF0 HR0
    generalize hfo : (rHead hd).2.2 = form at *
    generalize hun : (rHead hd).2.1 = units at *
    have HFO := Lib.hid hfo
    have HUN := Lib.hid hun
    clear hfo hun
    go_wp2_with fail
    refine (maxp_c gr gf kd l s w1 _ HR1.out HF1.out).mono ?_
    obtain ⟨v2, HV2⟩ : ∃ v, Hid (tabN l s maxpTg 6 = v) := ⟨_, rfl⟩
    rw [HV2.out]
    cases v2 with
    | none =>
      have HE : Hid (readOf kd l s = (41, none)) := by unfold Hid readOf; rw [HV1.out]; simp only; rw [if_neg (by rw [HH0.out]; decide), HV2.out]
      rintro e w2 ⟨rfl, hb2⟩
      unfold gave
      go_wp2_with fail
      refine leaves_cons (f := 34) (args := #[.pointer (some ⟨w.heap.size, 0, none⟩), .pointer (some ⟨w.heap.size + 1, 0, none⟩)]) (by simp) (by simp [go_sem]) ?_
      refine (catch_panicking w.heap.size 41 [] w2 _ (HS1.out.kept hb2 HG0.out)).mono ?_
      rintro e u' wz ⟨rfl, rfl, hres, hbz⟩
      have HP := Lib.hid (readPost_no HE.out ((HB1.out.trans (hb2.mono HBW.out)).trans hbz))
      obtain ⟨r0, r1, r2, r3, r4, r5, r6, r7, r8, re⟩ := res_cells hres
      simp [Leaves, settle, results, Try.results12, go_sem, r0, r1, r2, r3, r4, r5, r6, r7, r8, re]
      exact HP.out
    | some mx =>
      rintro e w2 (⟨hne, rfl, hb2⟩ | ⟨h0, rfl, hr2, hb2⟩)
      · have HE : Hid (readOf kd l s = ((rMaxp mx).1, none)) := by unfold Hid readOf; rw [HV1.out]; simp only; rw [if_neg (by rw [HH0.out]; decide), HV2.out]; simp only; rw [if_pos hne]
        generalize (rMaxp mx).1 = q at *
        unfold gave
        go_wp2_with fail
        refine leaves_cons (f := 34) (args := #[.pointer (some ⟨w.heap.size, 0, none⟩), .pointer (some ⟨w.heap.size + 1, 0, none⟩)]) (by simp) (by simp [go_sem]) ?_
        refine (catch_panicking w.heap.size q [] w2 _ (HS1.out.kept hb2 HG0.out)).mono ?_
        rintro e u' wz ⟨rfl, rfl, hres, hbz⟩
        have HP := Lib.hid (readPost_no HE.out ((HB1.out.trans (hb2.mono HBW.out)).trans hbz))
        obtain ⟨r0, r1, r2, r3, r4, r5, r6, r7, r8, re⟩ := res_cells hres
        simp [Leaves, settle, results, Try.results12, go_sem, r0, r1, r2, r3, r4, r5, r6, r7, r8, re]
        exact HP.out
      obtain ⟨n, hn, hn1, hn2⟩ := maxp_glyphs h0
      rw [hn] at hr2
      have HM0 := Lib.hid h0
      have HN := Lib.hid hn
      have HN2 := Lib.hid (And.intro hn1 hn2)
      have HF2 := Lib.hid (HF1.out.kept hb2)
      have HR2 := Lib.hid hr2
      have HS2 := Lib.hid (HS1.out.kept hb2 HG0.out)
      have HB2 := Lib.hid (HB1.out.trans (hb2.mono HBW.out))
      clear hb2 hr2 h0 HB1 HS1 HF1 HR1 hn hn1 hn2
      go_wp2_with fail
      refine (hhea_c gr gf kd n l s w2 _ HR2.out rfl HF2.out).mono ?_
      obtain ⟨v3, HV3⟩ : ∃ v, Hid (tabN l s hheaTg 36 = v) := ⟨_, rfl⟩
      rw [HV3.out]
      cases v3 with
      | none =>
        have HE : Hid (readOf kd l s = (41, none)) := by unfold Hid readOf; rw [HV1.out]; simp only; rw [if_neg (by rw [HH0.out]; decide), HV2.out]; simp only; rw [if_neg (by rw [HM0.out]; decide), HV3.out]
        rintro e w3 ⟨rfl, hb3⟩
        unfold gave
        go_wp2_with fail
        refine leaves_cons (f := 34) (args := #[.pointer (some ⟨w.heap.size, 0, none⟩), .pointer (some ⟨w.heap.size + 1, 0, none⟩)]) (by simp) (by simp [go_sem]) ?_
        refine (catch_panicking w.heap.size 41 [] w3 _ (HS2.out.kept hb3 HG0.out)).mono ?_
        rintro e u' wz ⟨rfl, rfl, hres, hbz⟩
        have HP := Lib.hid (readPost_no HE.out ((HB2.out.trans (hb3.mono HBW.out)).trans hbz))
        obtain ⟨r0, r1, r2, r3, r4, r5, r6, r7, r8, re⟩ := res_cells hres
        simp [Leaves, settle, results, Try.results12, go_sem, r0, r1, r2, r3, r4, r5, r6, r7, r8, re]
        exact HP.out
      | some hh =>
        rintro e w3 (⟨hne, rfl, hb3⟩ | ⟨h0, rfl, hr3, hb3⟩)
        · have HE : Hid (readOf kd l s = ((rHhea hh n).1, none)) := by unfold Hid readOf; rw [HV1.out]; simp only; rw [if_neg (by rw [HH0.out]; decide), HV2.out]; simp only; rw [if_neg (by rw [HM0.out]; decide), HV3.out]; simp only; rw [HN.out, if_pos hne]
          generalize (rHhea hh n).1 = q at *
          unfold gave
          go_wp2_with fail
          refine leaves_cons (f := 34) (args := #[.pointer (some ⟨w.heap.size, 0, none⟩), .pointer (some ⟨w.heap.size + 1, 0, none⟩)]) (by simp) (by simp [go_sem]) ?_
          refine (catch_panicking w.heap.size q [] w3 _ (HS2.out.kept hb3 HG0.out)).mono ?_
          rintro e u' wz ⟨rfl, rfl, hres, hbz⟩
          have HP := Lib.hid (readPost_no HE.out ((HB2.out.trans (hb3.mono HBW.out)).trans hbz))
          obtain ⟨r0, r1, r2, r3, r4, r5, r6, r7, r8, re⟩ := res_cells hres
          simp [Leaves, settle, results, Try.results12, go_sem, r0, r1, r2, r3, r4, r5, r6, r7, r8, re]
          exact HP.out
        obtain ⟨wd, hw, hw1, hw2⟩ := hhea_wide h0
        have HX0 := Lib.hid h0
        have HWD := Lib.hid hw
        have HW2 := Lib.hid (And.intro hw1 hw2)
        have HF3 := Lib.hid (HF2.out.kept hb3)
        have HR3 := Lib.hid hr3
        have HS3 := Lib.hid (HS2.out.kept hb3 HG0.out)
        have HB3 := Lib.hid (HB2.out.trans (hb3.mono HBW.out))
        rw [hw]
        clear hb3 hr3 h0 HB2 HS2 HF2 HR2 hw hw1 hw2
        go_wp2_with fail
        refine (hmtx_c gr gf n wd kd l s w3 _ HR3.out rfl HF3.out HW2.out.1 HW2.out.2 HN2.out.2).mono ?_
        obtain ⟨v4, HV4⟩ : ∃ v, Hid (tabN l s hmtxTg (2 * n + 2 * wd) = v) := ⟨_, rfl⟩
        rw [HV4.out]
        cases v4 with
        | none =>
          have HE : Hid (readOf kd l s = (41, none)) := by unfold Hid readOf; rw [HV1.out]; simp only; rw [if_neg (by rw [HH0.out]; decide), HV2.out]; simp only; rw [if_neg (by rw [HM0.out]; decide), HV3.out]; simp only; rw [HN.out, if_neg (by rw [HX0.out]; decide), HWD.out, HV4.out]
          rintro e w4 ⟨rfl, hb4⟩
          unfold gave
          go_wp2_with fail
          refine leaves_cons (f := 34) (args := #[.pointer (some ⟨w.heap.size, 0, none⟩), .pointer (some ⟨w.heap.size + 1, 0, none⟩)]) (by simp) (by simp [go_sem]) ?_
          refine (catch_panicking w.heap.size 41 [] w4 _ (HS3.out.kept hb4 HG0.out)).mono ?_
          rintro e u' wz ⟨rfl, rfl, hres, hbz⟩
          have HP := Lib.hid (readPost_no HE.out ((HB3.out.trans (hb4.mono HBW.out)).trans hbz))
          obtain ⟨r0, r1, r2, r3, r4, r5, r6, r7, r8, re⟩ := res_cells hres
          simp [Leaves, settle, results, Try.results12, go_sem, r0, r1, r2, r3, r4, r5, r6, r7, r8, re]
          exact HP.out
        | some hm =>
          rintro e w4 ⟨rfl, hb4, ga, gb, hr4, ha4, hbb4, hl4, hab4⟩
          have HF4 := Lib.hid (HF3.out.kept hb4)
          have HR4 := Lib.hid hr4
          have HS4 := Lib.hid (HS3.out.kept hb4 HG0.out)
          have HB4 := Lib.hid (HB3.out.trans (hb4.mono HBW.out))
          have HA4 := Lib.hid ha4
          have HBB4 := Lib.hid hbb4
          have HL4 : Hid (gr < ga ∧ ga < gb) := by have := HR3.out.lt; unfold Hid; omega
          clear hb4 hr4 ha4 hbb4 hl4 hab4 HB3 HS3 HF3 HR3
          go_wp2_with fail
          have HO : Hid (readOf kd l s = if (rPlaces kd l s n form).1 ≠ 0 then ((rPlaces kd l s n form).1, none) else (0, some ⟨kd, units, n, sign16 (numOr hh 4 2).1, sign16 (numOr hh 6 2).1, sign16 (numOr hh 8 2).1, advL hm wd n, bearL hm wd n, (rPlaces kd l s n form).2⟩)) := by
            unfold Hid readOf; rw [HV1.out]; simp only; rw [if_neg (by rw [HH0.out]; decide), HV2.out]; simp only; rw [if_neg (by rw [HM0.out]; decide), HV3.out]; simp only; rw [HN.out, if_neg (by rw [HX0.out]; decide), HWD.out, HV4.out]; simp only; rw [HFO.out, HUN.out, Int.toNat_natCast]
          refine (outlines_c gr gf n kd form HK.out HFM.out l s w4 _ HR4.out rfl rfl HF4.out HN2.out.2).mono ?_
          rintro e w5 (⟨hne, rfl, hb5⟩ | ⟨h0, rfl, hb5, hk5, pv, hr5, hp5⟩)
          · have HE : Hid (readOf kd l s = ((rPlaces kd l s n form).1, none)) := by unfold Hid; rw [HO.out, if_pos hne]
            generalize (rPlaces kd l s n form).1 = q at *
            unfold gave
            go_wp2_with fail
            refine leaves_cons (f := 34) (args := #[.pointer (some ⟨w.heap.size, 0, none⟩), .pointer (some ⟨w.heap.size + 1, 0, none⟩)]) (by simp) (by simp [go_sem]) ?_
            refine (catch_panicking w.heap.size q [] w5 _ (HS4.out.kept hb5 HG0.out)).mono ?_
            rintro e u' wz ⟨rfl, rfl, hres, hbz⟩
            have HP := Lib.hid (readPost_no HE.out ((HB4.out.trans (hb5.mono HBW.out)).trans hbz))
            obtain ⟨r0, r1, r2, r3, r4, r5, r6, r7, r8, re⟩ := res_cells hres
            simp [Leaves, settle, results, Try.results12, go_sem, r0, r1, r2, r3, r4, r5, r6, r7, r8, re]
            exact HP.out
          have HE : Hid (readOf kd l s = (0, some ⟨kd, units, n, sign16 (numOr hh 4 2).1, sign16 (numOr hh 6 2).1, sign16 (numOr hh 8 2).1, advL hm wd n, bearL hm wd n, (rPlaces kd l s n form).2⟩)) := by unfold Hid; rw [HO.out, if_neg (by rw [h0]; decide)]
          have HS5 := Lib.hid (HS4.out.kept hb5 HG0.out)
          have HB5 := Lib.hid (HB4.out.trans (hb5.mono HBW.out))
          have HI5 : Hid (IntsAt w5 ga (advL hm wd n) ∧ IntsAt w5 gb (bearL hm wd n)) := by
            have := HL4.out
            constructor
            · unfold IntsAt; rw [hk5 ga (by omega) HA4.out.lt]; exact HA4.out
            · unfold IntsAt; rw [hk5 gb (by omega) HBB4.out.lt]; exact HBB4.out
          obtain ⟨pa, pn, pc, rfl⟩ := rowAt_slice hp5
          have HP5 := Lib.hid hp5
          have HGB : Hid (gb + 1 ≤ w4.heap.size) := HBB4.out.lt
          have hr5' : Rd w5 gr gf [.int .i64 kd, .int .i64 units, .int .i64 n, .int .i64 (sign16 (numOr hh 4 2).1), .int .i64 (sign16 (numOr hh 6 2).1), .int .i64 (sign16 (numOr hh 8 2).1), .slice (some ⟨ga, 0, none⟩) n n, .slice (some ⟨gb, 0, none⟩) n n, .slice pa pn pc] := by simpa [hheaSet] using hr5
          generalize sign16 (numOr hh 4 2).1 = y1 at *
          generalize sign16 (numOr hh 6 2).1 = y2 at *
          generalize sign16 (numOr hh 8 2).1 = y3 at *
          obtain ⟨d0, d1, d2, d3, d4, d5, d6, d7, d8⟩ := rd_cells hr5'
          obtain ⟨c0, c1, c2, c3, c4, c5, c6, c7, c8, ce⟩ := res_cells HS5.out
          obtain ⟨f0, f1, f2, f3, f4, f5, f6, f7, f8, fe⟩ := res_frozen HS5.out
          have HPUT := Lib.hid (res_put HS5.out (.int .i64 kd) (.int .i64 units) (.int .i64 n) (.int .i64 y1) (.int .i64 y2) (.int .i64 y3) (.slice (some ⟨ga, 0, none⟩) n n) (.slice (some ⟨gb, 0, none⟩) n n) (.slice pa pn pc) (.int .i64 0))
          have HOTH := Lib.hid (fun (g : Nat) (h1 : g ≠ w.heap.size) (h2 : g ≠ w.heap.size + 1) => res_other (w := w5) h1 h2 (.int .i64 kd) (.int .i64 units) (.int .i64 n) (.int .i64 y1) (.int .i64 y2) (.int .i64 y3) (.slice (some ⟨ga, 0, none⟩) n n) (.slice (some ⟨gb, 0, none⟩) n n) (.slice pa pn pc) (.int .i64 0))
          have HLP := Lib.hid (rPlaces_length kd l s n form)
          generalize (rPlaces kd l s n form).2 = pl at *
          clear hr5 hr5' hb5 hk5 hp5 h0 HO HR4 HS4 HB4
          go_wp2_with fail
          refine leaves_cons (f := 34) (args := #[.pointer (some ⟨w.heap.size, 0, none⟩), .pointer (some ⟨w.heap.size + 1, 0, none⟩)]) (by simp) (by simp [go_sem]) ?_
          refine (catch_idle w.heap.size _).mono ?_
          rintro e u' wz ⟨rfl, rfl, hwz⟩
          rw [← hwz] at HPUT HOTH
          obtain ⟨r0, r1, r2, r3, r4, r5, r6, r7, r8, re⟩ := res_cells HPUT.out.1
          have HP := Lib.hid (readPost_yes (v := .agg #[.int .i64 kd, .int .i64 units, .int .i64 n, .int .i64 y1, .int .i64 y2, .int .i64 y3, .slice (some ⟨ga, 0, none⟩) n n, .slice (some ⟨gb, 0, none⟩) n n, .slice pa pn pc]) HE.out ⟨ga, gb, .slice pa pn pc, (by simp only [advL_length, bearL_length]), (by have := HL4.out; have := HG0.out; omega), HL4.out.2, (by unfold IntsAt; rw [HOTH.out ga (by have := HL4.out; have := HG0.out; omega) (by have := HL4.out; have := HG0.out; omega)]; exact HI5.out.1), (by unfold IntsAt; rw [HOTH.out gb (by have := HL4.out; have := HG0.out; omega) (by have := HL4.out; have := HG0.out; omega)]; exact HI5.out.2), rowAt_heap HP5.out (fun g hg => HOTH.out g (by have := HGB.out; have := HL4.out; have := HG0.out; omega) (by have := HGB.out; have := HL4.out; have := HG0.out; omega)) HGB.out, (by simp only [advL_length, bearL_length]), (by have := HN2.out; simp only [advL_length]; omega), (by have := HLP.out; have := HN2.out; simp only; omega)⟩ (HB5.out.trans HPUT.out.2))
          simp [Leaves, settle, results, Try.results12, go_sem, r0, r1, r2, r3, r4, r5, r6, r7, r8, re]
          exact HP.out

end Go.Proofs.Ytbcjicmledckbaa
