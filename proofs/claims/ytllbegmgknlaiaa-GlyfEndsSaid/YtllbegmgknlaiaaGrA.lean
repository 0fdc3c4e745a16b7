/-
  The reader of package glyf in memory, and what its functions answer where the bytes are there: next, byte, number, signed, signedByte, refuse is not come to. A reader is a block of three cells: its view, its place, its fault (none).
-/
import Derived.Test.YtllbegmgknlaiaaGb
namespace Go.Proofs.Ytllbegmgknlaiaa
open Go.RowKit Go.PlainAid
set_option linter.unusedSimpArgs false
set_option linter.unusedVariables false

/-- The reader R of the view V of these bytes is at place p, without a fault. -/
structure Rdr (w : World) (R V : Nat) (s : ByteArray) (p : Int) : Prop where
  ne : V ≠ R
  view : w.cell? ⟨R, 0, none⟩ = some (.pointer (some ⟨V, 0, none⟩))
  place : w.cell? ⟨R, 1, none⟩ = some (.int .i64 p)
  fault : w.cell? ⟨R, 2, none⟩ = some (.int .i64 0)
  free : w.frozen? ⟨R, 1, none⟩ = false
  text : w.cell? ⟨V, 0, none⟩ = some (.string s)

theorem grown_cell {w w' : World} {D : Nat} (hg : w.grownBy w' (some D)) {b o : Nat} {v : Value} (hb : b ≠ D) (hc : w.cell? ⟨b, o, none⟩ = some v) : w'.cell? ⟨b, o, none⟩ = some v := by
  rw [World.cell?_of_block (w := w) (hg.block b (World.block_lt_of_cell? w _ hc) (fun e => hb (by cases e; rfl)))]; exact hc
theorem grown_frozen {w w' : World} {D : Nat} (hg : w.grownBy w' (some D)) {b o : Nat} {v : Value} {f : Bool} (hb : b ≠ D) (hc : w.cell? ⟨b, o, none⟩ = some v) (hf : w.frozen? ⟨b, o, none⟩ = f) : w'.frozen? ⟨b, o, none⟩ = f := by
  rw [World.frozen?_of_block (w := w) (hg.block b (World.block_lt_of_cell? w _ hc) (fun e => hb (by cases e; rfl)))]; exact hf
theorem grown_set (w : World) (R o : Nat) (u : Value) : w.grownBy (w.setCell ⟨R, o, none⟩ u) (some R) :=
  ⟨rfl, rfl, rfl, by simp, fun k hk hne => Below.heap_setCell w _ u k (fun e => hne (by rw [e]))⟩
theorem grown_trans {a b c : World} {r : Option Nat} (h : a.grownBy b r) (k : b.grownBy c r) : a.grownBy c r :=
  ⟨k.os.trans h.os, k.tape.trans h.tape, k.output.trans h.output, Nat.le_trans h.size k.size, fun i hi hne => (k.block i (Nat.lt_of_lt_of_le hi h.size) hne).trans (h.block i hi hne)⟩
theorem grown_bel {a b : World} (r : Option Nat) (h : Below a.heap.size a b) : a.grownBy b r := ⟨h.os, h.tape, h.output, h.size, fun i hi _ => h.block i hi⟩
theorem bel_grownR {B : Nat} {a w w' : World} {R : Nat} (h : Below B a w) (hg : w.grownBy w' (some R)) (hB : B ≤ w.heap.size) (hr : B ≤ R) : Below B a w' := h.grown hg hB (fun k hk => by cases hk; exact hr)

theorem Rdr.moved {w : World} {R V : Nat} {s : ByteArray} {p : Int} (h : Rdr w R V s p) (q : Int) : Rdr (w.setCell ⟨R, 1, none⟩ (.int .i64 q)) R V s q where
  ne := h.ne
  view := (World.cell?_setCell_other w _ _ _ (fun e => by cases e)).trans h.view
  place := World.cell?_setCell_same w _ _ h.place
  fault := (World.cell?_setCell_other w _ _ _ (fun e => by cases e)).trans h.fault
  free := by simpa using h.free
  text := (World.cell?_setCell_other w _ _ _ (fun e => by cases e)).trans h.text
theorem Rdr.below {w w' : World} {R V : Nat} {s : ByteArray} {p : Int} (h : Rdr w R V s p) (hb : Below w.heap.size w w') : Rdr w' R V s p where
  ne := h.ne
  view := keepC hb h.view
  place := keepC hb h.place
  fault := keepC hb h.fault
  free := keepF hb h.place h.free
  text := keepC hb h.text
theorem Rdr.grown {w w' : World} {R V D : Nat} {s : ByteArray} {p : Int} (h : Rdr w R V s p) (hg : w.grownBy w' (some D)) (h1 : R ≠ D) (h2 : V ≠ D) : Rdr w' R V s p where
  ne := h.ne
  view := grown_cell hg h1 h.view
  place := grown_cell hg h1 h.place
  fault := grown_cell hg h1 h.fault
  free := grown_frozen hg h1 h.place h.free
  text := grown_cell hg h2 h.text

theorem num_small {s : ByteArray} {p k x : Int} (h : numOr s p k = (x, 0)) : 0 ≤ p ∧ p + k ≤ s.size := by
  unfold numOr at h
  split at h
  · rename_i hh; simp [hasB] at hh; omega
  · simp at h

set_option maxHeartbeats 400000 in
theorem next_c (F R V : Nat) (hE : ∀ (args : Array Value) (w : World), (callFunc F args).run Try.prog w = .ok (.enter F args) w) (s : ByteArray) (p x k q : Int) (w : World) (hr : Rdr w R V s p)
    (HN : Hid (Calls Try.prog F #[.pointer (some ⟨V, 0, none⟩), .int .i64 p] w fun e w' => e = .returned (.tuple #[.int .i64 x, .int .i64 0]) ∧ w = w')) (HW : Hid (wrap64 (p + k) = q)) :
    Calls Try.prog 37 #[.pointer (some ⟨R, 0, none⟩), .func (.func F) #[.pointer (some ⟨V, 0, none⟩)] #[], .int .i64 k] w fun e w' => e = .returned (.int .i64 x) ∧ Rdr w' R V s q ∧ w.grownBy w' (some R) := by
  have HR := Lib.hid hr
  have h0 := hr.view
  have h1 := hr.place
  have h2 := hr.free
  clear hr
  go_enter Try.func37, Try.ntmps37
  go_wp2_with fail
  refine HN.out.mono ?_
  rintro e w1 ⟨rfl, rfl⟩
  go_wp2_with fail
  go_ret
  rw [HW.out]
  exact ⟨rfl, HR.out.moved q, grown_set _ _ _ _⟩

set_option maxHeartbeats 400000 in
theorem number_r (R V : Nat) (s : ByteArray) (p x q : Int) (w : World) (hr : Rdr w R V s p) (hs : (s.size : Int) ≤ 1000000) (HX : Hid (numOr s p 2 = (x, 0))) (hq : q = p + 2) :
    Calls Try.prog 34 #[.pointer (some ⟨R, 0, none⟩)] w fun e w' => e = .returned (.int .i64 x) ∧ Rdr w' R V s q ∧ w.grownBy w' (some R) := by
  have HN := Lib.hid (u16_c V p x 0 s w hr.text (by omega) (by have := num_small HX.out; omega) HX)
  have HW : Hid (wrap64 (p + 2) = q) := by have := num_small HX.out; unfold Hid wrap64; omega
  have HC := Lib.hid (next_c 39 R V (fun args w => by kernel_rfl) s p _ 2 q w hr HN HW)
  have h0 := hr.view
  clear hr hs hq
  go_enter Try.func34, Try.ntmps34
  go_wp2_with fail
  refine HC.out.mono ?_
  rintro e w1 ⟨rfl, h1, h2⟩
  have H1 := Lib.hid h1
  have H2 := Lib.hid h2
  clear h1 h2
  go_wp2_with fail
  go_ret
  exact ⟨rfl, H1.out, H2.out⟩

set_option maxHeartbeats 400000 in
theorem signed_r (R V : Nat) (s : ByteArray) (p x q : Int) (w : World) (hr : Rdr w R V s p) (hs : (s.size : Int) ≤ 1000000) (HX : Hid (numOr s p 2 = (x, 0))) (hq : q = p + 2) :
    Calls Try.prog 33 #[.pointer (some ⟨R, 0, none⟩)] w fun e w' => e = .returned (.int .i64 (sign16 x)) ∧ Rdr w' R V s q ∧ w.grownBy w' (some R) := by
  have HN := Lib.hid (i16_c V p x 0 s w hr.text (by omega) (by have := num_small HX.out; omega) HX)
  have HW : Hid (wrap64 (p + 2) = q) := by have := num_small HX.out; unfold Hid wrap64; omega
  have HC := Lib.hid (next_c 38 R V (fun args w => by kernel_rfl) s p _ 2 q w hr HN HW)
  have h0 := hr.view
  clear hr hs hq
  go_enter Try.func33, Try.ntmps33
  go_wp2_with fail
  refine HC.out.mono ?_
  rintro e w1 ⟨rfl, h1, h2⟩
  have H1 := Lib.hid h1
  have H2 := Lib.hid h2
  clear h1 h2
  go_wp2_with fail
  go_ret
  exact ⟨rfl, H1.out, H2.out⟩

set_option maxHeartbeats 400000 in
theorem byte_r (R V : Nat) (s : ByteArray) (p x q : Int) (w : World) (hr : Rdr w R V s p) (hs : (s.size : Int) ≤ 1000000) (HX : Hid (numOr s p 1 = (x, 0))) (hq : q = p + 1) :
    Calls Try.prog 50 #[.pointer (some ⟨R, 0, none⟩)] w fun e w' => e = .returned (.int .i64 x) ∧ Rdr w' R V s q ∧ w.grownBy w' (some R) := by
  have HN := Lib.hid (u8_c V p x 0 s w hr.text (by omega) (by have := num_small HX.out; omega) HX)
  have HW : Hid (wrap64 (p + 1) = q) := by have := num_small HX.out; unfold Hid wrap64; omega
  have HC := Lib.hid (next_c 58 R V (fun args w => by kernel_rfl) s p _ 1 q w hr HN HW)
  have h0 := hr.view
  clear hr hs hq
  go_enter Try.func50, Try.ntmps50
  go_wp2_with fail
  refine HC.out.mono ?_
  rintro e w1 ⟨rfl, h1, h2⟩
  have H1 := Lib.hid h1
  have H2 := Lib.hid h2
  clear h1 h2
  go_wp2_with fail
  go_ret
  exact ⟨rfl, H1.out, H2.out⟩

end Go.Proofs.Ytllbegmgknlaiaa
