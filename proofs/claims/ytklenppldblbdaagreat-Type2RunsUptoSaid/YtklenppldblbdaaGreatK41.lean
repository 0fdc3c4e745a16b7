import Derived.Test.YtklenppldblbdaaGreatK08
import Derived.Test.YtklenppldblbdaaGreatK06
import Derived.Test.YtklenppldblbdaaGreatK05
import Derived.Test.YtklenppldblbdaaGreatK01
import Derived.BigQuiet
import Derived.Deep.QuietTactic
import Derived.Test.YtklenppldblbdaaGreatK37
import Derived.StillTailTactics
import Derived.Maps.Own
import Derived.Maps.OwnOps
import Derived.Maps.OwnSet
import Derived.Deep.RegionWith
import Derived.Test.YtklenppldblbdaaGreatK40
import Derived.Test.YtklenppldblbdaaGreatK38
set_option linter.unusedSimpArgs false
set_option linter.unusedVariables false
namespace Go.Proofs.YtklenppldblbdaaGreat
open Go.RowKit Go.PlainAid
theorem num_one {f : ByteArray} {p : Nat} {x : Int} {s : ByteArray} (h : Seg f p s) (hs : s.size = 1) (hx : bt s 0 = x) : numOr f p 1 = (x, 0) := by
 have h1 := h.1
 have h2 := h.2 0 (by omega)
 rw [Nat.add_zero] at h2
 unfold numOr
 rw [if_pos (by unfold hasB; simp; omega)]
 have e1 : ((p : Int)).toNat = p := by simp
 have e2 : ((1 : Int)).toNat = 1 := rfl
 rw [e1, e2]
 have e3 : numN f p 1 = x := by
  show (0 : Int) * 256 + bt f (p + 0) = x
  rw [Nat.add_zero, h2, hx]; omega
 rw [e3]
theorem seg_data {f : ByteArray} : ∀ (l : List ByteArray) (p i : Nat) (P : ByteArray), Seg f p (dataB l) → l[i]? = some P → Seg f (p + sizeN (l.take i)) P
 | [], _, i, _, _, hi => by simp at hi
 | q :: r, p, 0, P, h, hi => by
   have e : q = P := by simpa using hi
   subst e
   rw [dataB] at h
   simpa [sizeN] using h.left
 | q :: r, p, i + 1, P, h, hi => by
   rw [dataB] at h
   have := seg_data r (p + q.size) i P h.right (by simpa using hi)
   rw [List.take_succ_cons, sizeN, ← Nat.add_assoc]
   exact this
theorem sizeN_take (l : List ByteArray) (i : Nat) (P : ByteArray) (h : l[i]? = some P) : sizeN (l.take (i + 1)) = sizeN (l.take i) + P.size := by
 rw [List.take_add_one, h, Option.toList_some, sizeN_snoc]
theorem sizeN_le : ∀ (l : List ByteArray) (i : Nat), sizeN (l.take i) ≤ sizeN l
 | [], i => by simp
 | q :: r, 0 => by simp [sizeN]
 | q :: r, i + 1 => by rw [List.take_succ_cons, sizeN, sizeN]; have := sizeN_le r i; omega
theorem seg_offs {f : ByteArray} : ∀ (l : List ByteArray) (t p i : Nat), Seg f p (offsB l t) → i < l.length → Seg f (p + 2 * i) (bigB (t + sizeN (l.take i) : Nat) 2)
 | [], _, _, _, _, hi => by simp at hi
 | q :: r, t, p, 0, h, _ => by
   rw [offsB] at h
   have := h.left
   simpa [sizeN] using this
 | q :: r, t, p, i + 1, h, hi => by
   rw [offsB] at h
   have h2 := h.right
   rw [bigB_size] at h2
   have := seg_offs r (t + q.size) (p + 2) i h2 (by simpa using hi)
   rw [show p + 2 * (i + 1) = p + 2 + 2 * i by omega, List.take_succ_cons, sizeN, ← Nat.add_assoc]
   exact this
theorem seg_pack {f : ByteArray} {p : Nat} {l : List ByteArray} (h : Seg f p (packI l)) (hl : 0 < l.length) :
 Seg f p (bigB l.length 2) ∧ Seg f (p + 2) ⟨#[2]⟩ ∧ (∀ i, i ≤ l.length → Seg f (p + 3 + 2 * i) (bigB (1 + sizeN (l.take i) : Nat) 2)) ∧ Seg f (p + 5 + 2 * l.length) (dataB l) := by
 unfold packI at h
 rw [if_neg (by omega)] at h
 have h1 := h.left.left.left
 unfold headB at h1
 have h2 := h.left.left.right
 rw [headB_size] at h2
 have h3 := h.left.right
 rw [ByteArray.size_append, headB_size, offsB_size] at h3
 have h4 := h.right
 rw [ByteArray.size_append, ByteArray.size_append, headB_size, offsB_size, bigB_size] at h4
 refine ⟨h1.left, ?_, ?_, ?_⟩
 ·have := h1.right; rw [bigB_size] at this; exact this
 ·intro i hi
  by_cases e : i = l.length
  ·subst e
   rw [List.take_length, show p + 3 + 2 * l.length = p + (3 + 2 * l.length) by omega]
   exact h3
  ·exact seg_offs l 1 (p + 3) i h2 (by omega)
 ·rw [show p + 5 + 2 * l.length = p + (3 + 2 * l.length + 2) by omega]
  exact h4
theorem seg_none {f : ByteArray} {p : Nat} (h : Seg f p (packI [])) : numOr f p 2 = (0, 0) := num_big2 h (by omega) (by omega)
end Go.Proofs.YtklenppldblbdaaGreat
namespace Go.Proofs.YtklenppldblbdaaGreat
open Go.RowKit Go.PlainAid
theorem grown_over {w a b : World} {R B : Nat} (h : w.grownBy a (some R)) (k : a.grownBy b (some B)) (hB : w.heap.size ≤ B) : w.grownBy b (some R) :=
 ⟨k.os.trans h.os, k.tape.trans h.tape, k.output.trans h.output, Nat.le_trans h.size k.size, fun j hj hne => (k.block j (Nat.lt_of_lt_of_le hj h.size) (by simp; omega)).trans (h.block j hj hne)⟩
theorem grown_bel2 {w a b : World} {R : Nat} (h : w.grownBy a (some R)) (k : Below a.heap.size a b) : w.grownBy b (some R) :=
 ⟨k.os.trans h.os, k.tape.trans h.tape, k.output.trans h.output, Nat.le_trans h.size k.size, fun j hj hne => (k.block j (Nat.lt_of_lt_of_le hj h.size)).trans (h.block j hj hne)⟩
theorem IntsAt.grown {w w' : World} {g R : Nat} {L : List Int} (h : IntsAt w g L) (hg : w.grownBy w' (some R)) (hne : g ≠ R) : IntsAt w' g L := by
 unfold IntsAt; rw [hg.block g h.lt (by simp; omega)]; exact h
set_option maxRecDepth 20000 in
set_option maxHeartbeats 1000000 in
theorem offsets_c (R V : Nat) (s : ByteArray) (p k : Nat) (fn : Nat → Int) (w : World) (hr : RowAt w R V ⟨s, p, false⟩) (hs : s.size ≤ 1000000) (hp : p + 2 * k ≤ 1000000)
 (hf : ∀ i, i < k → numOr s ((p + 2 * i : Nat) : Int) 2 = (fn i, 0)) :
 Calls Tryz.prog 55 #[.pointer (some ⟨R, 0, none⟩), .int .i64 (k : Int), .int .i64 2] w fun e w' => ∃ g, e = .returned (.slice (some ⟨g, 0, none⟩) k k) ∧ w.heap.size ≤ g ∧ IntsAt w' g (partL fn k k) ∧ RowAt w' R V ⟨s, p + 2 * k, false⟩ ∧ w.grownBy w' (some R) := by
 have h0 := hr.c0
 have HRL : Hid (R < w.heap.size) := blk_lt hr.row
 obtain ⟨w0, hmk, hi0, hb0, hz0⟩ := make_ints k (by omega) w
 have HF := Lib.hid hf
 have HS := Lib.hid hs
 have HP := Lib.hid hp
 have HR0 := Lib.hid (hr.below hb0)
 have HI0 : Hid (IntsAt w0 w.heap.size (partL fn k 0)) := by rw [partL_zero]; exact hi0
 have HG0 := Lib.hid (grown_bel2 (grown_refl w (some R)) hb0)
 clear hr hf hs hp hi0 hb0 hz0
 go_enter Tryz.func55, Tryz.ntmps55
 go_wp2_with fail
 go_loopw [43] (fun iv wr => ∃ j : Nat, j ≤ k ∧ iv = .int .i64 (j : Int) ∧ Hid (IntsAt wr w.heap.size (partL fn k j)) ∧ Hid (RowAt wr R V ⟨s, p + 2 * j, false⟩) ∧ Hid (w.grownBy wr (some R))) (fun iv _ => k - (intOf iv).toNat)
 case atStart => exact ⟨0, Nat.zero_le _, rfl, HI0, HR0, HG0⟩
 case round =>
  clear HI0 HR0 HG0 hmk h0
  obtain ⟨j, hj, rfl, HI, HR, HG⟩ := hrel
  by_cases hlt : j < k
  ·have HLT := Lib.hid hlt
   have hlt' : (j : Int) < (k : Int) := by omega
   have hj0 : (0 : Int) ≤ (j : Int) := by omega
   have HX7 : Hid (wrap64 ((j : Int) + 1) = ((j + 1 : Nat) : Int)) := by have := HP.out; unfold Hid wrap64; omega
   have HN := Lib.hid (u16_c V ((p + 2 * j : Nat) : Int) (fn j) 0 s wr HR.out.view (by have := HS.out; omega) (by have := HP.out; omega) (HF.out j hlt))
   clear hj hlt
   go_wp2_with fail
   refine (rnext_c 72 R V (fun args w => by kernel_rfl) ⟨s, p + 2 * j, false⟩ (fn j) 0 2 wr HR.out ⟨HS.out, by have := HP.out; have := HLT.out; show p + 2 * j ≤ _; omega⟩ (by decide) HN (.inl rfl)).mono ?_
   rintro e w1 ⟨rfl, hr1, hg1⟩
   have HNE : Hid (w.heap.size ≠ R) := by have := HRL.out; unfold Hid; omega
   have HI1 := Lib.hid (HI.out.grown hg1 HNE.out)
   have HR1 : Hid (RowAt w1 R V ⟨s, p + 2 * (j + 1), false⟩) := by have := hr1; unfold Hid; simpa [Nat.mul_add, Nat.add_assoc] using this
   have HG1 := Lib.hid (grown_trans HG.out hg1)
   have q1 := HI1.out.cell (i := j) (by rw [partL_length]; exact HLT.out)
   have q2 := HI1.out.frozen j
   clear hr1 hg1
   go_wp2_with fail
   refine ⟨⟨j + 1, HLT.out, by first | rw [HX7.out] | go_num, ?_, ?_, ?_⟩, ?_⟩
   ·have h1 := HI1.out.set j (fn j)
    rw [partL_set] at h1
    exact h1
   ·exact HR1.out.chg (grown_set w1 w.heap.size j _) (typ_blk HI1.out) (by decide) (by decide)
   ·exact grown_over HG1.out (grown_set w1 w.heap.size j _) (Nat.le_refl _)
   ·(try rw [HX7.out]); have := HLT.out; simp only [intOf]; omega
  ·obtain rfl : j = k := by omega
   have h1 : ¬ (j : Int) < (j : Int) := by omega
   go_wp2_with fail
   go_ret
   exact ⟨w.heap.size, rfl, Nat.le_refl _, HI.out, HR.out, HG.out⟩
end Go.Proofs.YtklenppldblbdaaGreat
namespace Go.Proofs.YtklenppldblbdaaGreat
open Go.RowKit Go.PlainAid
set_option maxRecDepth 20000 in
set_option maxHeartbeats 1000000 in
theorem rise_c (g n c : Nat) (L : List Int) (w : World) (h : IntsAt w g L) (hn : L.length = n) (h1 : 0 < n) (h0 : L.getD 0 0 = 1) (hr : ∀ i, i + 1 < n → L.getD i 0 ≤ L.getD (i + 1) 0) (hb : n ≤ 100000) :
 Calls Tryz.prog 56 #[.slice (some ⟨g, 0, none⟩) n c] w fun e w' => e = .returned (.bool true) ∧ Below w.heap.size w w' := by
 have HI := Lib.hid h
 have HR := Lib.hid hr
 have HN := Lib.hid hn
 have HB := Lib.hid hb
 have k0 : w.cell? ⟨g, 0, none⟩ = some (.int .i64 1) := by have := h.cell (i := 0) (by omega); rw [h0] at this; exact this
 have z1 : ((n : Int) == 0) = false := by simp; omega
 have z2 : (0 : Int) < (n : Int) := by omega
 have z3 : wrap64 ((n : Int) - 1) = ((n - 1 : Nat) : Int) := by unfold wrap64; omega
 clear h hr hn hb h0
 go_enter Tryz.func56, Tryz.ntmps56
 go_wp2_with fail
 try rw [z3]
 go_loopw [16] (fun iv wr => ∃ j : Nat, j ≤ n - 1 ∧ iv = .int .i64 (j : Int) ∧ Hid (Below w.heap.size w wr)) (fun iv _ => (n - 1) - (intOf iv).toNat)
 case atStart => exact ⟨0, Nat.zero_le _, rfl, Below.refl _ _⟩
 case round =>
  clear k0 z1
  obtain ⟨j, hj, rfl, HBw⟩ := hrel
  by_cases hlt : j < n - 1
  ·have HLT := Lib.hid hlt
   have hlt' : (j : Int) < ((n - 1 : Nat) : Int) := by omega
   have hj0 : (0 : Int) ≤ (j : Int) := by omega
   have hj1 : (j : Int) < (n : Int) := by omega
   have hw1 : wrap64 ((j : Int) + 1) = ((j + 1 : Nat) : Int) := by have := HB.out; unfold wrap64; omega
   have hw2 : IntKind.i64.wrap ((j : Int) + 1) = ((j + 1 : Nat) : Int) := IntWalk.i64_in _ (by have := HB.out; omega)
   have hj2 : (0 : Int) ≤ ((j + 1 : Nat) : Int) := by omega
   have hj3 : ((j + 1 : Nat) : Int) < (n : Int) := by omega
   have HIw := Lib.hid (HI.out.below HBw.out)
   obtain ⟨x, HX⟩ : ∃ x, Hid (L.getD j 0 = x) := ⟨_, rfl⟩
   obtain ⟨y, HY⟩ : ∃ y, Hid (L.getD (j + 1) 0 = y) := ⟨_, rfl⟩
   have q1 := HIw.out.cell (i := j) (by rw [HN.out]; omega)
   have q2 := HIw.out.cell (i := j + 1) (by rw [HN.out]; omega)
   rw [HX.out] at q1
   rw [HY.out] at q2
   have HXY : Hid (x ≤ y) := by have := HR.out j (by omega); rw [HX.out, HY.out] at this; exact this
   have hxy : decide (y < x) = false := by have := HXY.out; simp; omega
   clear hj hlt
   go_wp2_with fail
   go_big_quiet (fail)
   go_wp2_with fail
   refine ⟨⟨j + 1, by have := HLT.out; omega, by first | rw [hw1] | go_num, bel_drewN HBw.out _⟩, ?_⟩
   (try rw [hw1]); have := HLT.out; simp only [intOf]; omega
  ·obtain rfl : j = n - 1 := by omega
   have h1 : ¬ ((n - 1 : Nat) : Int) < ((n - 1 : Nat) : Int) := by omega
   go_wp2_with fail
   go_ret
   exact ⟨rfl, HBw.out⟩
end Go.Proofs.YtklenppldblbdaaGreat
namespace Go.Proofs.YtklenppldblbdaaGreat
open Go.RowKit Go.PlainAid
theorem rnum2 (R V p : Nat) (s : ByteArray) (x : Int) (w : World) (hr : RowAt w R V ⟨s, p, false⟩) (hs : s.size ≤ 1000000) (hp : p ≤ 1000000) (hx : numOr s p 2 = (x, 0)) :
 Calls Tryz.prog 54 #[.pointer (some ⟨R, 0, none⟩)] w fun e w' => e = .returned (.int .i64 x) ∧ RowAt w' R V ⟨s, p + 2, false⟩ ∧ w.grownBy w' (some R) := by
 have h := rnumber_c R V ⟨s, p, false⟩ w hr ⟨hs, by show p ≤ _; omega⟩
 have e : (Rw.mk s p false).next 2 = (x, ⟨s, p + 2, false⟩) := by show ((numOr s p 2).1, (⟨s, p + 2, false || decide ((numOr s p 2).2 ≠ 0)⟩ : Rw)) = _; rw [hx]; rfl
 rw [e] at h
 exact h
theorem rnum1 (R V p : Nat) (s : ByteArray) (x : Int) (w : World) (hr : RowAt w R V ⟨s, p, false⟩) (hs : s.size ≤ 1000000) (hp : p ≤ 1000000) (hx : numOr s p 1 = (x, 0)) :
 Calls Tryz.prog 47 #[.pointer (some ⟨R, 0, none⟩)] w fun e w' => e = .returned (.int .i64 x) ∧ RowAt w' R V ⟨s, p + 1, false⟩ ∧ w.grownBy w' (some R) := by
 have h := rbyte_c R V ⟨s, p, false⟩ w hr ⟨hs, by show p ≤ _; omega⟩
 have e : (Rw.mk s p false).next 1 = (x, ⟨s, p + 1, false⟩) := by show ((numOr s p 1).1, (⟨s, p + 1, false || decide ((numOr s p 1).2 ≠ 0)⟩ : Rw)) = _; rw [hx]; rfl
 rw [e] at h
 exact h
theorem idx_start (w : World) (V p : Nat) (s : ByteArray) (hv : w.heap[V]? = some (.cells #[.string s] 68 (0, 0))) :
 RowAt ((w.alloc (.cells #[.slice none 0 0, .pointer none] 57)).alloc (.cells #[.pointer (some ⟨V, 0, none⟩), .int .i64 (p : Int), .bool false] 87)) (w.heap.size + 1) V ⟨s, p, false⟩ ∧
 ((w.alloc (.cells #[.slice none 0 0, .pointer none] 57)).alloc (.cells #[.pointer (some ⟨V, 0, none⟩), .int .i64 (p : Int), .bool false] 87)).heap[w.heap.size]? = some (.cells #[.slice none 0 0, .pointer none] 57 (0, 0)) ∧
 Below w.heap.size w ((w.alloc (.cells #[.slice none 0 0, .pointer none] 57)).alloc (.cells #[.pointer (some ⟨V, 0, none⟩), .int .i64 (p : Int), .bool false] 87)) := by
 have hb : Below w.heap.size w ((w.alloc (.cells #[.slice none 0 0, .pointer none] 57)).alloc (.cells #[.pointer (some ⟨V, 0, none⟩), .int .i64 (p : Int), .bool false] 87)) := bel_alloc ((Below.refl _ _).alloc (Nat.le_refl _) _) _
 exact ⟨⟨heap_alloc2_new w _ _, blk_below hv hb⟩, heap_alloc2_old w _ _, hb⟩
set_option maxRecDepth 20000 in
set_option maxHeartbeats 2000000 in
theorem readIndex_none (V p : Nat) (s : ByteArray) (w : World) (hv : w.heap[V]? = some (.cells #[.string s] 68 (0, 0))) (hs : s.size ≤ 1000000) (hp : p ≤ 1000000) (hx : numOr s p 2 = (0, 0)) :
 Calls Tryz.prog 33 #[.pointer (some ⟨V, 0, none⟩), .int .i64 (p : Int)] w fun e w' => e = .returned (.tuple #[.agg #[.slice none 0 0, .pointer none], .int .i64 ((p + 2 : Nat) : Int), .int .i64 0]) ∧ Below w.heap.size w w' := by
 have HST := Lib.hid (idx_start w V p s hv)
 have HS := Lib.hid hs
 have HP := Lib.hid hp
 have HX := Lib.hid hx
 clear hv hs hp hx
 go_enter Tryz.func33, Tryz.ntmps33
 go_wp2_with fail
 generalize ((w.alloc (.cells #[.slice none 0 0, .pointer none] 57)).alloc (.cells #[.pointer (some ⟨V, 0, none⟩), .int .i64 (p : Int), .bool false] 87)) = w1 at *
 obtain ⟨hr1, hx1, hb1⟩ := HST.out
 refine (rnum2 (w.heap.size + 1) V p s 0 w1 hr1 HS.out HP.out HX.out).mono ?_
 rintro e w2 ⟨rfl, hr2, hg2⟩
 have HB2 := Lib.hid (grown_below hb1 hg2 (by have := blk_lt hx1; omega) (Nat.le_succ _))
 have k2 := hr2.c2
 have k1 := hr2.c1
 have hx2 : w2.heap[w.heap.size]? = some (.cells #[.slice none 0 0, .pointer none] 57 (0, 0)) := (grown_other hg2 (blk_lt hx1) (by simp)).trans hx1
 have j0 : w2.cell? ⟨w.heap.size, 0, none⟩ = some (.slice none 0 0) := blk_cell hx2 0 _ rfl
 have j1 : w2.cell? ⟨w.heap.size, 1, none⟩ = some (.pointer none) := blk_cell hx2 1 _ rfl
 have hne : w.heap.size + 1 ≠ w.heap.size := by omega
 have i0 := blk_free hx2 0
 have i1 := blk_free hx2 1
 clear HST hr1 hx1 hb1 hr2 hg2 hx2
 go_wp2_with fail
 go_region_with (fail)
 all_goals go_wp2_with fail
 all_goals
  refine bodyPost_ret (v := .tuple #[.agg #[.slice none 0 0, .pointer none], .int .i64 ((p : Int) + 2), .int .i64 0]) ?_ rfl ⟨rfl, ?_⟩
 all_goals first
  | exact bel_set (bel_set HB2.out.drew (Nat.le_refl _) _) (Nat.le_refl _) _
  | (simp [results, Tryz.results33, go_sem, j0, j1]; done)
  | trace_state
end Go.Proofs.YtklenppldblbdaaGreat
namespace Go.Proofs.YtklenppldblbdaaGreat
open Go.RowKit Go.PlainAid
theorem partL_at (f : Nat → Int) (k i : Nat) (h : i < k) : (partL f k k).getD i 0 = f i := by simp [partL, List.getD, h]
def offN (Ls : List ByteArray) (i : Nat) : Int := ((1 + sizeN (Ls.take i) : Nat) : Int)
theorem seg_sub {s t : ByteArray} {q a b : Nat} (h : Seg s q t) (ha : a ≤ q) (hb : q + t.size ≤ b) (hs : b ≤ s.size) : Seg (s.extract a b) (q - a) t := by
 refine ⟨by rw [ByteArray.size_extract]; omega, fun i hi => ?_⟩
 rw [bt_extract s a b (q - a + i) hs (by omega), show a + (q - a + i) = q + i by omega]
 exact h.2 i hi
theorem partL_cell (f : Nat → Int) (k i : Nat) (h : i < k) : (((partL f k k).map (Value.int .i64)).toArray)[i]? = some (.int .i64 (f i)) := by
 rw [partL_full]; simp [h]
theorem idx_made {w : World} {g vb n p a z c : Nat} {s : ByteArray} {Ls : List ByteArray} (hI : IntsAt w g (partL (offN Ls) (n + 1) (n + 1))) (hV : w.heap[vb]? = some (.cells #[.string (s.extract a (a + z))] 68 (0, 0))) (hn : Ls.length = n) (hz : 1 + sizeN Ls = z) (ha : a + 1 = p + 5 + 2 * n) (hd : Seg s (p + 5 + 2 * Ls.length) (dataB Ls)) (hs : s.size ≤ 1000000) (haz : a + z ≤ s.size) : IdxIs w (some ⟨g, 0, none⟩) (n + 1) c (some ⟨vb, 0, none⟩) Ls := by
 have hd2 : Seg (s.extract a (a + z)) 1 (dataB Ls) := by
  have := seg_sub (a := a) (b := a + z) hd (by omega) (by rw [dataB_size]; omega) haz
  rwa [show p + 5 + 2 * Ls.length - a = 1 by omega] at this
 refine .inr ⟨g, vb, s.extract a (a + z), _, _, rfl, rfl, by rw [hn], hI, hV, by rw [ByteArray.size_extract]; omega, fun i P hP => ?_⟩
 have hi : i < Ls.length := (List.getElem?_eq_some_iff.1 hP).1
 have h1 := seg_data Ls 1 i P hd2 hP
 have h2 := sizeN_take Ls i P hP
 refine ⟨1 + sizeN (Ls.take i), ?_, ?_, h1.1, h1.ext⟩
 ·exact partL_cell _ _ _ (by omega)
 ·rw [partL_cell _ _ _ (by omega)]
  unfold offN
  rw [h2, Nat.add_assoc]
set_option maxRecDepth 20000 in
set_option maxHeartbeats 4000000 in
theorem readIndex_some (V p : Nat) (s : ByteArray) (Ls : List ByteArray) (w : World) (hv : w.heap[V]? = some (.cells #[.string s] 68 (0, 0))) (hs : s.size ≤ 1000000) (hseg : Seg s p (packI Ls)) (hl : 0 < Ls.length) (hn : Ls.length ≤ 60000) (hz : sizeN Ls ≤ 60000) :
 Calls Tryz.prog 33 #[.pointer (some ⟨V, 0, none⟩), .int .i64 (p : Int)] w fun e w' => ∃ a n c d, e = .returned (.tuple #[.agg #[.slice a n c, .pointer d], .int .i64 ((p + (packI Ls).size : Nat) : Int), .int .i64 0]) ∧ IdxIs w' a n c d Ls ∧ n ≤ 60001 ∧ n ≤ c ∧ Below w.heap.size w w' := by
 obtain ⟨n, HN⟩ : ∃ n, Hid (Ls.length = n) := ⟨_, rfl⟩
 have HST := Lib.hid (idx_start w V p s hv)
 have HS := Lib.hid hs
 have HE : Hid (p + (packI Ls).size ≤ s.size) := hseg.1
 have HSZ := Lib.hid (packI_size Ls)
 have HL := Lib.hid hl
 have HZ := Lib.hid hz
 obtain ⟨S1, S2, S3, S4⟩ := seg_pack hseg hl
 have HX : Hid (numOr s p 2 = ((n : Int), 0)) := by have := num_big2 S1 (by omega) (by omega); rw [HN.out] at this; exact this
 have HY : Hid (numOr s ((p + 2 : Nat) : Int) 1 = (2, 0)) := num_one S2 rfl rfl
 have HF : Hid (∀ i, i < n + 1 → numOr s ((p + 2 + 1 + 2 * i : Nat) : Int) 2 = (offN Ls i, 0)) := fun i hi => by
  have := S3 i (by rw [HN.out]; omega)
  have h2 := sizeN_le Ls i
  exact num_big2 (by rw [show p + 2 + 1 + 2 * i = p + 3 + 2 * i by omega]; exact this) (by unfold offN; omega) (by unfold offN; omega)
 have HD := Lib.hid S4
 have HPN : Hid (p + 5 + 2 * n + sizeN Ls ≤ s.size ∧ n ≤ 60000 ∧ 0 < n) := by have h1 := HE.out; rw [HSZ.out, if_neg (by omega), HN.out] at h1; have := HN.out; unfold Hid; omega
 have hw1 : wrap64 ((n : Int) + 1) = ((n + 1 : Nat) : Int) := by have := HPN.out; unfold wrap64; omega
 have hz0 : ((n : Int) == 0) = false := by have := HPN.out; simp; omega
 clear hv hs hl hn hz hseg S1 S2 S3 S4
 go_enter Tryz.func33, Tryz.ntmps33
 go_wp2_with fail
 generalize ((w.alloc (.cells #[.slice none 0 0, .pointer none] 57)).alloc (.cells #[.pointer (some ⟨V, 0, none⟩), .int .i64 (p : Int), .bool false] 87)) = w1 at *
 obtain ⟨hr1, hx1, hb1⟩ := HST.out
 refine (rnum2 (w.heap.size + 1) V p s n w1 hr1 HS.out (by have := HPN.out; have := HS.out; omega) HX.out).mono ?_
 rintro e w2 ⟨rfl, hr2, hg2⟩
 have hB2 := grown_below hb1 hg2 (by have := blk_lt hx1; omega) (Nat.le_succ _)
 have hx2 : w2.heap[w.heap.size]? = some (.cells #[.slice none 0 0, .pointer none] 57 (0, 0)) := (grown_other hg2 (blk_lt hx1) (by simp)).trans hx1
 have k2 := hr2.c2
 go_wp2_with fail
 refine (rnum1 (w.heap.size + 1) V (p + 2) s 2 w2 hr2 HS.out (by have := HPN.out; have := HS.out; omega) HY.out).mono ?_
 rintro e w3 ⟨rfl, hr3, hg3⟩
 have hB3 := grown_below hB2 hg3 (by have := blk_lt hx2; omega) (Nat.le_succ _)
 have hx3 : w3.heap[w.heap.size]? = some (.cells #[.slice none 0 0, .pointer none] 57 (0, 0)) := (grown_other hg3 (blk_lt hx2) (by simp)).trans hx2
 go_wp2_with fail
 try rw [hw1]
 refine (offsets_c (w.heap.size + 1) V s (p + 2 + 1) (n + 1) (offN Ls) w3 hr3 HS.out (by have := HPN.out; have := HS.out; omega) HF.out).mono ?_
 rintro e w4 ⟨g, rfl, hgl, hi4, hr4, hg4⟩
 have hB4 := grown_below hB3 hg4 (by have := blk_lt hx3; omega) (Nat.le_succ _)
 have hx4 : w4.heap[w.heap.size]? = some (.cells #[.slice none 0 0, .pointer none] 57 (0, 0)) := (grown_other hg4 (blk_lt hx3) (by simp)).trans hx3
 have q2 := hr4.c2
 clear k2
 go_wp2_with fail
 refine (rise_c g (n + 1) (n + 1) (partL (offN Ls) (n + 1) (n + 1)) w4 hi4 (partL_length _ _ _) (by omega) (by rw [partL_at _ _ _ (by omega)]; simp [offN, sizeN]) (fun i hi => by rw [partL_at _ _ _ (by omega), partL_at _ _ _ hi]; unfold offN; have h1 : sizeN (Ls.take i) ≤ sizeN (Ls.take (i + 1)) := by { have := sizeN_le (Ls.take (i + 1)) i; rwa [List.take_take, Nat.min_eq_left (Nat.le_succ _)] at this }; omega) (by have := HPN.out; omega)).mono ?_
 rintro e w5 ⟨rfl, hb5⟩
 have hB5 := bel_next hB4 hb5
 have hr5 := hr4.below hb5
 have hx5 := blk_below hx4 hb5
 have hi5 := hi4.below hb5
 obtain ⟨a, HA⟩ : ∃ a, Hid (p + 2 + 1 + 2 * (n + 1) = a + 1) := ⟨p + 4 + 2 * n, by unfold Hid; omega⟩
 obtain ⟨z, HZZ⟩ : ∃ z, Hid (1 + sizeN Ls = z) := ⟨_, rfl⟩
 have k1 := hr5.c1
 have e1 : (((⟨s, p + 2 + 1 + 2 * (n + 1), false⟩ : Rw).p : Nat) : Int) = ((a + 1 : Nat) : Int) := by show ((p + 2 + 1 + 2 * (n + 1) : Nat) : Int) = _; rw [HA.out]
 rw [e1] at k1
 have q1 := hi5.cell (i := n) (by rw [partL_length]; omega)
 rw [partL_at _ _ _ (by omega), show offN Ls n = ((z : Nat) : Int) by unfold offN; rw [← HN.out, List.take_length, HZZ.out]] at q1
 have z1 : (0 : Int) ≤ (n : Int) := by omega
 have z2 : (n : Int) < ((n + 1 : Nat) : Int) := by omega
 have z3 : wrap64 (((a + 1 : Nat) : Int) - 1) = (a : Int) := by have h1 := HA.out; have h2 := HPN.out; have h3 := HS.out; unfold wrap64; omega
 have z4 : wrap64 ((a : Int) + (z : Int)) = ((p + (packI Ls).size : Nat) : Int) := by have h1 := HA.out; have h2 := HPN.out; have h3 := HS.out; have h4 := HSZ.out; rw [if_neg (by have := HL.out; omega), HN.out] at h4; have h5 := HZZ.out; unfold wrap64; omega
 have HAZ : Hid (a + z ≤ s.size) := by have h1 := HA.out; have h2 := HPN.out; have h5 := HZZ.out; unfold Hid; omega
 have hvw := hr5.view
 have HI5 := Lib.hid hi5
 have HX5 := Lib.hid hx5
 have HB5 := Lib.hid hB5
 clear HST hr1 hx1 hb1 hr2 hg2 hB2 hx2 hr3 hg3 hB3 hx3 hi4 hr4 hg4 hB4 hx4 hb5 hr5 hx5 hi5 hB5 q2 e1
 go_wp2_with fail
 go_big_quiet (fail)
 go_wp2_with fail
 rw [show wrap64 (a : Int) = (a : Int) by have h1 := HAZ.out; have h3 := HS.out; unfold wrap64; omega]
 refine (cut_yes V a z s (w5.drewN nq) hvw (by have := HS.out; omega) HAZ.out).mono ?_
 rintro e w6 ⟨rfl, hw6⟩
 have hb6 : Below w5.heap.size w5 w6 := by rw [hw6]; exact bel_alloc (bel_drewN (Below.refl _ _) nq) _
 have hv6 : w6.heap[(w5.drewN nq).heap.size]? = some (.cells #[.string (s.extract a (a + z))] 68 (0, 0)) := by rw [hw6]; exact heap_alloc_new _ _
 have hx6 := blk_below HX5.out hb6
 have HI6 := Lib.hid (HI5.out.below hb6)
 have HB6 := Lib.hid (bel_next HB5.out hb6)
 have j0 : w6.cell? ⟨w.heap.size, 0, none⟩ = some (.slice none 0 0) := blk_cell hx6 0 _ rfl
 have j1 : w6.cell? ⟨w.heap.size, 1, none⟩ = some (.pointer none) := blk_cell hx6 1 _ rfl
 have i0 := blk_free hx6 0
 have i1 := blk_free hx6 1
 have HV6 := Lib.hid hv6
 have HX6 := Lib.hid hx6
 clear hw6 hb6 hx6 hv6 k1 q1 hvw
 generalize (w5.drewN nq).heap.size = vb at *
 go_wp2_with fail
 refine bodyPost_ret (v := .tuple #[.agg #[.slice (some ⟨g, 0, none⟩) (n + 1) (n + 1), .pointer (some ⟨vb, 0, none⟩)], .int .i64 (wrap64 ((a : Int) + (z : Int))), .int .i64 0]) ?_ rfl ?_
 ·simp [results, Tryz.results33, go_sem, j0, j1]
 ·have hgx : w.heap.size ≠ g := fun e => by have h1 := HI6.out; rw [← e] at h1; unfold IntsAt at h1; rw [HX6.out] at h1; exact absurd h1 (by simp)
  have hvx : w.heap.size ≠ vb := fun e => by have h1 := HV6.out; rw [← e, HX6.out] at h1; exact absurd h1 (by simp)
  refine ⟨some ⟨g, 0, none⟩, n + 1, n + 1, some ⟨vb, 0, none⟩, by rw [z4], idx_made ((HI6.out.other _ _ hgx).other _ _ hgx) ?_ HN.out HZZ.out (by have := HA.out; omega) HD.out HS.out HAZ.out, by have := HPN.out; omega, Nat.le_refl _, bel_set (bel_set HB6.out (Nat.le_refl _) _) (Nat.le_refl _) _⟩
  rw [Below.heap_setCell _ _ _ _ (Ne.symm hvx), Below.heap_setCell _ _ _ _ (Ne.symm hvx)]
  exact HV6.out
end Go.Proofs.YtklenppldblbdaaGreat
namespace Go.Proofs.YtklenppldblbdaaGreat
open Go.RowKit Go.PlainAid Go.Maps
def lookL : List (Int × Value) → Int → Option Value
 | [], _ => none
 | p :: r, k => if p.1 = k then some p.2 else lookL r k
def MapL (w : World) (B : Nat) (l : List (Int × Value)) : Prop := ∃ es c, w.heap[B]? = some (.map es c) ∧ es.toList.map (fun e => (e.key, e.val)) = l.map fun p => (Value.int .i64 p.1, p.2)
theorem findNow_l (k : Int) : ∀ (l : List (Int × Value)) (es : List MapEntry) (i : Nat), es.map (fun e => (e.key, e.val)) = l.map (fun p => (Value.int .i64 p.1, p.2)) →
 (Instr.findNow (.int .i64) (.int .i64 k) es i = some none ∧ lookL l k = none) ∨ ∃ j v, Instr.findNow (.int .i64) (.int .i64 k) es i = some (some (j, v)) ∧ lookL l k = some v
 | [], es, i, h => by
   have : es = [] := by simpa using h
   subst this
   exact .inl ⟨rfl, rfl⟩
 | p :: r, [], i, h => by simp at h
 | p :: r, e :: es, i, h => by
   simp only [List.map_cons, List.cons.injEq, Prod.mk.injEq] at h
   obtain ⟨⟨h1, h2⟩, h3⟩ := h
   by_cases hk : p.1 = k
   ·refine .inr ⟨i, e.val, ?_, ?_⟩
    ·simp [Instr.findNow, h1, Instr.sameNow, hk]
    ·rw [lookL, if_pos hk, h2]
   ·have hne : (k == p.1) = false := by simpa using fun e : k = p.1 => hk e.symm
    rcases findNow_l k r es (i + 1) h3 with ⟨a, b⟩ | ⟨j, v, a, b⟩
    ·exact .inl ⟨by simp [Instr.findNow, h1, Instr.sameNow, hne, a], by rw [lookL, if_neg hk, b]⟩
    ·exact .inr ⟨j, v, by simp [Instr.findNow, h1, Instr.sameNow, hne, a], by rw [lookL, if_neg hk, b]⟩
theorem zero_ints (w : World) : (zeroValue 50).run Tryz.prog w = .ok (.slice none 0 0) w := by kernel_rfl
theorem look_run {w : World} {B : Nat} {l : List (Int × Value)} (h : MapL w B l) (k : Int) (c : Bool) :
 (Instr.lookup 72 (.map (some B)) (.int .i64 k) c).run Tryz.prog w = .ok (if c then .tuple #[(lookL l k).getD (.slice none 0 0), .bool (lookL l k).isSome] else (lookL l k).getD (.slice none 0 0)) w := by
 obtain ⟨es, ck, hb, he⟩ := h
 have hck : ∀ em, (Instr.checkKey em 10000 3 (.int .i64 k)).run Tryz.prog w = .ok () w := fun em => MapKept.run_checkKey Tryz.underlying3 (by simp [MapKept.IsKey]) em 9999
 rcases findNow_l k l es.toList 0 he with ⟨h1, h2⟩ | ⟨j, v, h1, h2⟩
 ·have hf := MapKept.run_findKey (P := Tryz.prog) (w := w) Tryz.underlying3 h1
  rw [h2]
  cases c <;> simp [Instr.lookup, run_underlying Tryz.underlying72, MapKept.run_getObj_map hb, hck, hf, zero_ints, Result.andThen]
 ·have hf := MapKept.run_findKey (P := Tryz.prog) (w := w) Tryz.underlying3 h1
  rw [h2]
  cases c <;> simp [Instr.lookup, run_underlying Tryz.underlying72, MapKept.run_getObj_map hb, hck, hf, Result.andThen]
theorem upd_run {w : World} {B : Nat} {l : List (Int × Value)} (h : MapL w B l) (k : Int) (v : Value) (hn : lookL l k = none) :
 ∃ w', (Instr.mapUpdate 72 (.map (some B)) (.int .i64 k) v).run Tryz.prog w = .ok () w' ∧ MapL w' B (l ++ [(k, v)]) ∧ w.grownBy w' (some B) := by
 obtain ⟨es, ck, hb, he⟩ := h
 have hck : ∀ em, (Instr.checkKey em 10000 3 (.int .i64 k)).run Tryz.prog w = .ok () w := fun em => MapKept.run_checkKey Tryz.underlying3 (by simp [MapKept.IsKey]) em 9999
 rcases findNow_l k l es.toList 0 he with ⟨h1, h2⟩ | ⟨j, u, h1, h2⟩
 ·have hf := MapKept.run_findKey (P := Tryz.prog) (w := w) Tryz.underlying3 h1
  refine ⟨{ w with heap := w.heap.setIfInBounds B (.map (es.push ⟨.int .i64 k, v, ck⟩) (ck + 1)) }, ?_, ⟨es.push ⟨.int .i64 k, v, ck⟩, ck + 1, (MapKept.heap_set hb).1, ?_⟩, ⟨rfl, rfl, rfl, by simp, fun i hi hne => (MapKept.heap_set hb).2 i (fun e => hne (by rw [e]))⟩⟩
  ·simp [Instr.mapUpdate, run_underlying Tryz.underlying72, MapKept.run_getObj_map hb, hck, hf, MapKept.run_setObj_map _ hb, Result.andThen]
  ·simp [he]
 ·rw [hn] at h2; cases h2
theorem wpList_mapU {ops : Array Oper} {rest : List Oper} {o : Oper} {a : Act} {Q : Exit → Act → World → Prop} (hg : o.guard = none) (m x v : Operand) (hop : o.op = Op.mapUpdate 72 m x v)
 (w : World) (B : Nat) (l : List (Int × Value)) (k : Int) (val : Value) (hm : a.eval m = .map (some B)) (hx : a.eval x = .int .i64 k) (hv : a.eval v = val) (h : MapL w B l) (hn : lookL l k = none)
 (hK : ∀ w', MapL w' B (l ++ [(k, val)]) → w.grownBy w' (some B) → wpList Tryz.prog ops Q rest (a.put o.dst undef) w') :
 wpList Tryz.prog ops Q (o :: rest) a w := by
 refine wpList_plain hg fun K' hK' => ?_
 obtain ⟨w', hrun, r1, r2⟩ := upd_run h k val hn
 unfold Oper.wp
 simp [execOp, hop, hm, hx, hv, hrun, Result.andThen]
 exact hK' _ _ (hK w' r1 r2)
def EntV (w : World) (v : Value) (L : List Int) : Prop := ∃ g c cs fr, v = .slice (some ⟨g, 0, none⟩) L.length c ∧ L.length ≤ c ∧ w.heap[g]? = some (.cells cs 3 fr) ∧ ∀ (i : Nat) (x : Int), L[i]? = some x → cs[i]? = some (Value.int .i64 x)
theorem EntV.below {w w' : World} {v : Value} {L : List Int} (h : EntV w v L) (hb : Below w.heap.size w w') : EntV w' v L := by
 obtain ⟨g, c, cs, fr, h1, h2, h3, h4⟩ := h
 exact ⟨g, c, cs, fr, h1, h2, blk_below h3 hb, h4⟩
def EntsV (w : World) : List (Int × Value) → List (Int × List Int) → Prop
 | [], [] => True
 | p :: l, q :: D => p.1 = q.1 ∧ EntV w p.2 q.2 ∧ EntsV w l D
 | _, _ => False
theorem EntsV.mono {w w' : World} (hv : ∀ v L, EntV w v L → EntV w' v L) : ∀ {l : List (Int × Value)} {D : List (Int × List Int)}, EntsV w l D → EntsV w' l D
 | [], [], _ => trivial
 | p :: l, q :: D, h => ⟨h.1, hv _ _ h.2.1, EntsV.mono hv h.2.2⟩
 | [], _ :: _, h => h.elim
 | _ :: _, [], h => h.elim
theorem EntsV.snoc {w : World} {k : Int} {v : Value} {L : List Int} (hv : EntV w v L) : ∀ {l : List (Int × Value)} {D : List (Int × List Int)}, EntsV w l D → EntsV w (l ++ [(k, v)]) (D ++ [(k, L)])
 | [], [], _ => ⟨rfl, hv, trivial⟩
 | p :: l, q :: D, h => ⟨h.1, h.2.1, EntsV.snoc hv h.2.2⟩
 | [], _ :: _, h => h.elim
 | _ :: _, [], h => h.elim
def lookD : List (Int × List Int) → Int → Option (List Int)
 | [], _ => none
 | p :: r, k => if p.1 = k then some p.2 else lookD r k
theorem EntsV.look {w : World} (k : Int) : ∀ {l : List (Int × Value)} {D : List (Int × List Int)}, EntsV w l D → (lookD D k = none ∧ lookL l k = none) ∨ ∃ L v, lookD D k = some L ∧ lookL l k = some v ∧ EntV w v L
 | [], [], _ => .inl ⟨rfl, rfl⟩
 | p :: l, q :: D, h => by
   by_cases hk : q.1 = k
   ·exact .inr ⟨q.2, p.2, by rw [lookD, if_pos hk], by rw [lookL, if_pos (h.1.trans hk)], h.2.1⟩
   ·rcases EntsV.look k h.2.2 with ⟨a, b⟩ | ⟨L, v, a, b, c⟩
    ·exact .inl ⟨by rw [lookD, if_neg hk, a], by rw [lookL, if_neg (fun e => hk (h.1.symm.trans e)), b]⟩
    ·exact .inr ⟨L, v, by rw [lookD, if_neg hk, a], by rw [lookL, if_neg (fun e => hk (h.1.symm.trans e)), b], c⟩
 | [], _ :: _, h => h.elim
 | _ :: _, [], h => h.elim
def DictIs (w : World) (B : Nat) (D : List (Int × List Int)) : Prop := ∃ l, MapL w B l ∧ EntsV w l D
theorem DictIs.below {w w' : World} {B : Nat} {D : List (Int × List Int)} (h : DictIs w B D) (hb : Below w.heap.size w w') : DictIs w' B D := by
 obtain ⟨l, ⟨es, c, h1, h2⟩, h3⟩ := h
 exact ⟨l, ⟨es, c, blk_below h1 hb, h2⟩, EntsV.mono (fun v L h => h.below hb) h3⟩
set_option maxRecDepth 20000 in
set_option maxHeartbeats 400000 in
theorem has_c (B : Nat) (D : List (Int × List Int)) (k : Int) (w : World) (h : DictIs w B D) :
 Calls Tryz.prog 35 #[.map (some B), .int .i64 k] w fun e w' => e = .returned (.bool (lookD D k).isSome) ∧ Below w.heap.size w w' := by
 obtain ⟨l, hm, hv⟩ := h
 have hl := look_run hm k true
 have HE : Hid ((lookL l k).isSome = (lookD D k).isSome) := by
  rcases hv.look k with ⟨a, b⟩ | ⟨L, v, a, b, _⟩ <;> (unfold Hid; rw [a, b]; rfl)
 rw [HE.out] at hl
 simp only [if_true] at hl
 generalize (lookL l k).getD (.slice none 0 0) = v at *
 generalize (lookD D k).isSome = b at *
 clear hv hm
 go_enter Tryz.func35, Tryz.ntmps35
 go_wp2_with fail
 go_ret
 exact ⟨rfl, Below.refl _ _⟩
set_option maxRecDepth 20000 in
set_option maxHeartbeats 400000 in
theorem last_c (B : Nat) (D : List (Int × List Int)) (k : Int) (n : Nat) (L : List Int) (w : World) (h : DictIs w B D) (hL : lookD D k = some L) (hn : L.length = n) (hb : n ≤ 1000) :
 Calls Tryz.prog 37 #[.map (some B), .int .i64 k, .int .i64 (n : Int)] w fun e w' => ∃ v, e = .returned (.tuple #[v, .int .i64 0]) ∧ EntV w v L ∧ Below w.heap.size w w' := by
 obtain ⟨l, hm, hv⟩ := h
 have hl := look_run hm k false
 rcases hv.look k with ⟨a, b⟩ | ⟨L', v, a, b, c⟩
 ·rw [hL] at a; cases a
 rw [hL] at a
 cases a
 rw [b] at hl
 simp only [Option.getD_some] at hl
 obtain ⟨g, cp, cs, fr, rfl, h2, h3, h4⟩ := c
 have HB := Lib.hid h3
 have HC := Lib.hid h4
 have HN := Lib.hid hn
 have HP := Lib.hid (And.intro h2 hb)
 rw [hn] at hl h2
 have z1 : ¬ (n : Int) < (n : Int) := by omega
 have z2 : wrap64 ((n : Int) - (n : Int)) = 0 := by unfold wrap64; omega
 clear hv hm hL b h3 h4 hn
 go_enter Tryz.func37, Tryz.ntmps37
 go_wp2_with fail
 try rw [z2]
 go_ret2
 exact ⟨_, rfl, ⟨g, cp, cs, fr, by simp [HN.out], by have := HP.out.1; have := HN.out; omega, HB.out, HC.out⟩, Below.refl _ _⟩
set_option maxRecDepth 20000 in
set_option maxHeartbeats 400000 in
theorem number_none (B : Nat) (D : List (Int × List Int)) (k z : Int) (w : World) (h : DictIs w B D) (hL : lookD D k = none) :
 Calls Tryz.prog 36 #[.map (some B), .int .i64 k, .int .i64 z] w fun e w' => e = .returned (.tuple #[.int .i64 z, .int .i64 0]) ∧ Below w.heap.size w w' := by
 have HH := Lib.hid (has_c B D k w h)
 rw [hL] at HH
 clear h hL
 go_enter Tryz.func36, Tryz.ntmps36
 go_wp2_with fail
 refine HH.out.mono ?_
 rintro e w1 ⟨rfl, hb1⟩
 have HB1 := Lib.hid hb1
 clear hb1
 go_wp2_with fail
 go_ret2
 exact ⟨rfl, HB1.out⟩
set_option maxRecDepth 20000 in
set_option maxHeartbeats 400000 in
theorem number_one (B : Nat) (D : List (Int × List Int)) (k z x : Int) (w : World) (h : DictIs w B D) (hL : lookD D k = some [x]) :
 Calls Tryz.prog 36 #[.map (some B), .int .i64 k, .int .i64 z] w fun e w' => e = .returned (.tuple #[.int .i64 x, .int .i64 0]) ∧ Below w.heap.size w w' := by
 have HH := Lib.hid (has_c B D k w h)
 have HD := Lib.hid h
 have HL := Lib.hid hL
 rw [hL] at HH
 clear h hL
 go_enter Tryz.func36, Tryz.ntmps36
 go_wp2_with fail
 refine HH.out.mono ?_
 rintro e w1 ⟨rfl, hb1⟩
 have HB1 := Lib.hid hb1
 have HD1 := Lib.hid (HD.out.below hb1)
 clear hb1
 go_wp2_with fail
 refine (last_c B D k 1 [x] w1 HD1.out HL.out rfl (by decide)).mono ?_
 rintro e w2 ⟨v, rfl, ⟨g, c, cs, fr, rfl, h2, h3, h4⟩, hb2⟩
 have HB2 := Lib.hid (bel_next HB1.out hb2)
 have h3' := blk_below h3 hb2
 have k0 : w2.cell? ⟨g, 0, none⟩ = some (.int .i64 x) := blk_cell h3' 0 _ (h4 0 x rfl)
 clear h3 h3' h4 hb2
 go_wp2_with fail
 go_ret2
 exact ⟨rfl, HB2.out⟩
end Go.Proofs.YtklenppldblbdaaGreat
namespace Go.Proofs.YtklenppldblbdaaGreat
open Go.RowKit Go.PlainAid Go.Maps
inductive Tok where
 | opd (n : Int)
 | opr (k : Nat)
def Tok.text : Tok → ByteArray
 | .opd n => intB n
 | .opr k => ⟨#[k.toUInt8]⟩
def toksB : List Tok → ByteArray
 | [] => ByteArray.empty
 | t :: r => t.text ++ toksB r
def foldT : List Tok → List (Int × List Int) → List Int → List (Int × List Int)
 | [], D, _ => D
 | .opd n :: r, D, o => foldT r D (o ++ [n])
 | .opr k :: r, D, o => foldT r (D ++ [((k : Int), o)]) []
def TokFit : List Tok → List (Int × List Int) → List Int → Prop
 | [], _, _ => True
 | .opd n :: r, D, o => (-2147483648 ≤ n ∧ n ≤ 2147483647) ∧ o.length < 48 ∧ TokFit r D (o ++ [n])
 | .opr k :: r, D, o => (k ≤ 21 ∧ k ≠ 12) ∧ lookD D (k : Int) = none ∧ (0 < o.length ∧ o.length ≤ 48) ∧ TokFit r (D ++ [((k : Int), o)]) []
theorem opr_byte (k : Nat) (h : k ≤ 21) : bt (⟨#[k.toUInt8]⟩ : ByteArray) 0 = (k : Int) := by
 have : ∀ k : Fin 22, bt (⟨#[k.val.toUInt8]⟩ : ByteArray) 0 = (k.val : Int) := by decide
 exact this ⟨k, by omega⟩
theorem seg_opr {s : ByteArray} {p k : Nat} (h : Seg s p (Tok.opr k).text) (hk : k ≤ 21) : (Rw.mk s p false).next 1 = ((k : Int), ⟨s, p + 1, false⟩) := by
 have e := num_one h rfl (opr_byte k hk)
 show ((numOr s p 1).1, (⟨s, p + 1, false || decide ((numOr s p 1).2 ≠ 0)⟩ : Rw)) = _
 rw [e]; rfl
theorem seg_opd {s : ByteArray} {p : Nat} {n : Int} (h : Seg s p (Tok.opd n).text) (h0 : -2147483648 ≤ n) (h1 : n ≤ 2147483647) :
 (Rw.mk s p false).next 1 = (29, ⟨s, p + 1, false⟩) ∧ ∃ x, (Rw.mk s (p + 1) false).next 4 = (x, ⟨s, p + 5, false⟩) ∧ sign32 x = n := by
 have h' : Seg s p (⟨#[29]⟩ ++ bigB (if n < 0 then n + 4294967296 else n) 4) := h
 have e1 := num_one h'.left rfl (show bt (⟨#[29]⟩ : ByteArray) 0 = 29 by decide)
 have e2 := num_big4 h'.right (by split <;> omega) (by split <;> omega)
 refine ⟨?_, (if n < 0 then n + 4294967296 else n), ?_, ?_⟩
 ·show ((numOr s p 1).1, (⟨s, p + 1, false || decide ((numOr s p 1).2 ≠ 0)⟩ : Rw)) = _
  rw [e1]; rfl
 ·show ((numOr s ((p + 1 : Nat) : Int) 4).1, (⟨s, p + 1 + 4, false || decide ((numOr s ((p + 1 : Nat) : Int) 4).2 ≠ 0)⟩ : Rw)) = ((if n < 0 then n + 4294967296 else n), _)
  have e3 : p + (⟨#[29]⟩ : ByteArray).size = p + 1 := rfl
  rw [e3] at e2
  rw [e2]; rfl
 ·unfold sign32; split <;> split <;> omega
theorem EntsV.keep {w w' : World} : ∀ {l : List (Int × Value)} {D : List (Int × List Int)}, (∀ q ∈ l, ∀ L, EntV w q.2 L → EntV w' q.2 L) → EntsV w l D → EntsV w' l D
 | [], [], _, _ => trivial
 | p :: l, q :: D, hv, h => ⟨h.1, hv p (.head _) _ h.2.1, EntsV.keep (fun q hq => hv q (.tail _ hq)) h.2.2⟩
 | [], _ :: _, _, h => h.elim
 | _ :: _, [], _, h => h.elim
def ValB (N : Nat) (v : Value) : Prop := ∀ g o n c, v = .slice (some ⟨g, o, none⟩) n c → g < N
theorem EntV.grown {w w' : World} {v : Value} {L : List Int} {r : Option Nat} (h : EntV w v L) (hg : w.grownBy w' r) (hr : ∀ g o n c cs fr, v = .slice (some ⟨g, o, none⟩) n c → w.heap[g]? = some (.cells cs 3 fr) → r ≠ some g) : EntV w' v L := by
 obtain ⟨g, c, cs, fr, h1, h2, h3, h4⟩ := h
 exact ⟨g, c, cs, fr, h1, h2, (grown_other hg (blk_lt h3) (hr _ _ _ _ _ _ h1 h3)).trans h3, h4⟩
theorem MapL.grown {w w' : World} {B : Nat} {l : List (Int × Value)} {r : Option Nat} {T : TypeId} (h : MapL w B l) (hg : w.grownBy w' r) (ht : TypAt w r T) : MapL w' B l := by
 obtain ⟨es, c, h1, h2⟩ := h
 refine ⟨es, c, (grown_other hg (blk_lt h1) (fun e => ?_)).trans h1, h2⟩
 obtain ⟨cs, fr, h3⟩ := ht B e
 rw [h1] at h3; cases h3
theorem MapL.typ {w : World} {B : Nat} {l : List (Int × Value)} (h : MapL w B l) {A : Nat} {cs : Array Value} {T : TypeId} {fr : Nat × Nat} (hA : w.heap[A]? = some (.cells cs T fr)) : A ≠ B := by
 rintro rfl
 obtain ⟨es, c, h1, h2⟩ := h
 rw [hA] at h1; cases h1
structure DW (w0 : World) (R V B : Nat) (s : ByteArray) (p : Nat) (D : List (Int × List Int)) (l : List (Int × Value)) (N : Nat) (oa : Option Addr) (oc : Nat) (o : List Int) (w : World) : Prop where
 bel : Below w0.heap.size w0 w
 row : RowAt w R V ⟨s, p, false⟩
 rB : w0.heap.size ≤ R
 bB : w0.heap.size ≤ B
 map : MapL w B l
 ent : EntsV w l D
 low : ∀ q ∈ l, ValB N q.2
 n0 : w0.heap.size ≤ N
 n1 : N ≤ w.heap.size
 own : w.ownsRow N 3 1 (.slice oa o.length oc) o.length (o.map (Value.int .i64))
section
variable {w0 w w' : World} {R V B p N oc : Nat} {s : ByteArray} {D : List (Int × List Int)} {l : List (Int × Value)} {oa : Option Addr} {o : List Int}
theorem DW.below (h : DW w0 R V B s p D l N oa oc o w) (hb : Below w.heap.size w w') : DW w0 R V B s p D l N oa oc o w' := by
 obtain ⟨es, c, h1, h2⟩ := h.map
 exact ⟨bel_next h.bel hb, h.row.below hb, h.rB, h.bB, ⟨es, c, blk_below h1 hb, h2⟩, EntsV.mono (fun v L k => k.below hb) h.ent, h.low, h.n0, Nat.le_trans h.n1 hb.size, h.own.kept (grown_bel none hb) (by
  rcases hq : (Value.slice oa o.length oc).ownBlock with _ | k
  ·exact .inl rfl
  ·exact .inr (by simp))⟩
theorem DW.rowed {p' : Nat} (h : DW w0 R V B s p D l N oa oc o w) (hg : w.grownBy w' (some R)) (hr : RowAt w' R V ⟨s, p', false⟩) : DW w0 R V B s p' D l N oa oc o w' :=
 ⟨grown_below h.bel hg (by have := h.n0; have := h.n1; omega) h.rB, hr, h.rB, h.bB, h.map.grown hg h.row.typ,
  EntsV.mono (fun v L k => k.grown hg (fun g o n c cs fr _ hx e => by cases e; rw [h.row.row] at hx; cases hx)) h.ent, h.low, h.n0, Nat.le_trans h.n1 hg.size, own_chg h.own hg h.row.typ (by decide)⟩
theorem DW.app {g' c' : Nat} {n : Int} (h : DW w0 R V B s p D l N oa oc o w) (ho : w'.ownsRow N 3 1 (.slice (some ⟨g', 0, none⟩) (o.length + 1) c') (o.length + 1) (o.map (Value.int .i64) ++ [.int .i64 n])) (hg : w.grownBy w' (Value.slice oa o.length oc).ownBlock) :
 DW w0 R V B s p D l N (some ⟨g', 0, none⟩) c' (o ++ [n]) w' := by
 have ht := typ_own h.own
 have hN : ∀ g, (Value.slice oa o.length oc).ownBlock = some g → N ≤ g := fun g e => (h.own.lt g e).1
 refine ⟨h.bel.grown hg (by have := h.n0; have := h.n1; omega) (fun k hk => by have := hN k hk; have := h.n0; omega), h.row.chg hg ht (by decide) (by decide), h.rB, h.bB, h.map.grown hg ht,
  EntsV.keep (fun q hq L k => k.grown hg (fun g o n c cs fr e _ e2 => by have := hN g e2; have := h.low q hq g o n c e; omega)) h.ent, h.low, h.n0, Nat.le_trans h.n1 hg.size, ?_⟩
 rw [List.length_append, List.length_singleton, List.map_append]
 exact ho
theorem own_entV (h : w.ownsRow N 3 1 (.slice oa o.length oc) o.length (o.map (Value.int .i64))) (h0 : 0 < o.length) : EntV w (.slice oa o.length oc) o ∧ ValB w.heap.size (.slice oa o.length oc) := by
 obtain ⟨g, hg, hgB, hgl, hgc⟩ := own_some h h0
 subst hg
 refine ⟨?_, fun g' o' n c e => by cases e; exact hgl⟩
 rcases h.2 with ⟨hx, _⟩ | ⟨g', cap, cur, hx, hb, hgg, hnc, hcm, hcs, htk⟩
 ·cases hx
 ·cases hx
  refine ⟨g, oc, cur, (0, 0), rfl, hnc, hgg, fun i v hv => ?_⟩
  rw [← Array.getElem?_toList]
  have h2 : (o.map (Value.int .i64))[i]? = some (.int .i64 v) := by rw [List.getElem?_map, hv]; rfl
  rw [← htk] at h2
  have hil := (List.getElem?_eq_some_iff.1 hv).1
  rwa [List.getElem?_take_of_lt (by omega)] at h2
theorem DW.stored {k : Int} (h : DW w0 R V B s p D l N oa oc o w) (h0 : 0 < o.length) (hm : MapL w' B (l ++ [(k, .slice oa o.length oc)])) (hg : w.grownBy w' (some B)) :
 DW w0 R V B s p (D ++ [(k, o)]) (l ++ [(k, .slice oa o.length oc)]) w'.heap.size none 0 [] w' := by
 obtain ⟨he, hv⟩ := own_entV h.own h0
 have hk : ∀ v L, EntV w v L → EntV w' v L := fun v L k => k.grown hg (fun g o n c cs fr _ hx e => by cases e; exact h.map.typ hx rfl)
 refine ⟨grown_below h.bel hg (by have := h.n0; have := h.n1; omega) h.bB, ⟨(grown_other hg (blk_lt h.row.row) (fun e => by cases e; exact h.map.typ h.row.row rfl)).trans h.row.row, (grown_other hg (blk_lt h.row.text) (fun e => by cases e; exact h.map.typ h.row.text rfl)).trans h.row.text⟩, h.rB, h.bB, hm,
  EntsV.snoc (hk _ _ he) (EntsV.mono hk h.ent), fun q hq g o' n c e => ?_, Nat.le_trans h.n0 (Nat.le_trans h.n1 hg.size), Nat.le_refl _, World.ownsRow_nil _ _ _ _⟩
 rcases List.mem_append.1 hq with hq | hq
 ·exact Nat.lt_of_lt_of_le (h.low q hq g o' n c e) (Nat.le_trans h.n1 hg.size)
 ·have : q = (k, .slice oa o.length oc) := by simpa using hq
  subst this
  exact Nat.lt_of_lt_of_le (hv g o' n c e) hg.size
end
theorem EntsV.none {w : World} (k : Int) {l : List (Int × Value)} {D : List (Int × List Int)} (h : EntsV w l D) (hD : lookD D k = none) : lookL l k = none := by
 rcases h.look k with ⟨a, b⟩ | ⟨L, v, a, b, c⟩
 ·exact b
 ·rw [hD] at a; cases a
set_option maxHeartbeats 400000 in
theorem rdict_opd (R V p : Nat) (s : ByteArray) (x : Int) (w : World) (hr : RowAt w R V ⟨s, p, false⟩) (hs : s.size ≤ 1000000) (hp : p ≤ 1000000) (hx : (Rw.mk s p false).next 4 = (x, ⟨s, p + 4, false⟩)) :
 Calls Tryz.prog 57 #[.pointer (some ⟨R, 0, none⟩), .int .i64 29] w fun e w' => e = .returned (.tuple #[.int .i64 (sign32 x), .bool true]) ∧ RowAt w' R V ⟨s, p + 4, false⟩ ∧ w.grownBy w' (some R) := by
 have HC := Lib.hid (rlong_c R V ⟨s, p, false⟩ w hr ⟨hs, by show p ≤ _; omega⟩)
 rw [hx] at HC
 clear hr hx
 go_enter Tryz.func57, Tryz.ntmps57
 go_wp2_with fail
 refine HC.out.mono ?_
 rintro e w1 ⟨rfl, h1, h2⟩
 have H1 := Lib.hid h1
 have H2 := Lib.hid h2
 clear h1 h2
 go_wp2_with fail
 go_ret2
 exact ⟨rfl, H1.out, H2.out⟩
set_option maxHeartbeats 400000 in
theorem rdict_opr (R V p k : Nat) (s : ByteArray) (w : World) (hr : RowAt w R V ⟨s, p, false⟩) (hs : s.size ≤ 1000000) (hp : p ≤ 1000000) (hk : k ≤ 21) :
 Calls Tryz.prog 57 #[.pointer (some ⟨R, 0, none⟩), .int .i64 (k : Int)] w fun e w' => e = .returned (.tuple #[.int .i64 0, .bool false]) ∧ RowAt w' R V ⟨s, p, false⟩ ∧ w.grownBy w' (some R) := by
 have HC := Lib.hid (roperand_c R V ⟨s, p, false⟩ (k : Int) w hr ⟨hs, by show p ≤ _; omega⟩ (by omega) (by omega))
 rw [operand_no _ _ (by omega) (.inl (by omega))] at HC
 have z1 : ((k : Int) == 29) = false := by simp; omega
 have z2 : ((k : Int) == 30) = false := by simp; omega
 clear hr
 go_enter Tryz.func57, Tryz.ntmps57
 go_wp2_with fail
 refine HC.out.mono ?_
 rintro e w1 ⟨rfl, h1, h2⟩
 have H1 := Lib.hid h1
 have H2 := Lib.hid h2
 clear h1 h2
 go_wp2_with fail
 go_ret2
 exact ⟨rfl, H1.out, H2.out⟩
end Go.Proofs.YtklenppldblbdaaGreat
namespace Go.Proofs.YtklenppldblbdaaGreat
open Go.RowKit Go.PlainAid Go.Maps
theorem make_dict (w : World) : (Instr.makeMap 72 none).run Tryz.prog w = .ok (.map (some w.heap.size)) (w.alloc (.map #[] 0)) := by
 simp [Instr.makeMap, run_underlying Tryz.underlying72]
theorem toks_cons {s : ByteArray} {p : Nat} {t : Tok} {r : List Tok} (h : Seg s p (toksB (t :: r))) (he : p + (toksB (t :: r)).size = s.size) : Seg s p t.text ∧ Seg s (p + t.text.size) (toksB r) ∧ p + t.text.size + (toksB r).size = s.size := by
 rw [toksB] at h he
 rw [ByteArray.size_append] at he
 exact ⟨h.left, h.right, by omega⟩
def leftN (R : Nat) (s : ByteArray) (w : World) : Nat := match w.cell? ⟨R, 1, none⟩ with
 | some (.int _ p) => s.size - p.toNat
 | _ => 0
theorem leftN_row {R V p : Nat} {s : ByteArray} {w : World} (h : RowAt w R V ⟨s, p, false⟩) : leftN R s w = s.size - p := by
 unfold leftN; rw [h.c1]; simp
set_option maxRecDepth 20000 in
set_option maxHeartbeats 4000000 in
theorem readDict_c (V : Nat) (s : ByteArray) (ts : List Tok) (w : World) (hv : w.heap[V]? = some (.cells #[.string s] 68 (0, 0))) (hs : s.size ≤ 1000000) (ht : s = toksB ts) (hf : TokFit ts [] []) :
 Calls Tryz.prog 34 #[.pointer (some ⟨V, 0, none⟩)] w fun e w' => ∃ B, e = .returned (.tuple #[.map (some B), .int .i64 0]) ∧ DictIs w' B (foldT ts [] []) ∧ Below w.heap.size w w' := by
 have HS := Lib.hid hs
 obtain ⟨B, HBV⟩ : ∃ B, Hid (w.heap.size = B) := ⟨_, rfl⟩
 have hmk := make_dict w
 have HW : Hid (DW w (B + 1) V B s 0 [] [] B none 0 [] ((w.alloc (.map #[] 0)).alloc (.cells #[.pointer (some ⟨V, 0, none⟩), .int .i64 0, .bool false] 87))) := by
  have hb : Below w.heap.size w ((w.alloc (.map #[] 0)).alloc (.cells #[.pointer (some ⟨V, 0, none⟩), .int .i64 0, .bool false] 87)) := bel_alloc ((Below.refl _ _).alloc (Nat.le_refl _) _) _
  subst HBV
  exact ⟨hb, ⟨heap_alloc2_new w _ _, blk_below hv hb⟩, by omega, by omega, ⟨#[], 0, heap_alloc2_old w _ _, rfl⟩, trivial, fun q hq => by simp at hq, by omega, hb.size, World.ownsRow_nil _ _ _ _⟩
 have HT : Hid (∃ r : List Tok, Seg s 0 (toksB r) ∧ 0 + (toksB r).size = s.size ∧ TokFit r [] [] ∧ foldT r [] [] = foldT ts [] []) :=
  ⟨ts, by rw [ht]; exact ⟨by omega, fun i _ => by rw [Nat.zero_add]⟩, by rw [ht]; omega, hf, rfl⟩
 generalize foldT ts [] [] = F at *
 clear hv hs ht hf
 go_enter Tryz.func34, Tryz.ntmps34
 rw [HBV.out] at hmk
 go_wp2_with fail
 generalize ((w.alloc (.map #[] 0)).alloc (.cells #[.pointer (some ⟨V, 0, none⟩), .int .i64 0, .bool false] 87)) = w1 at *
 try rw [HBV.out]
 clear hmk
 go_loopw [6] (fun ov wr => ∃ (p N oc : Nat) (D : List (Int × List Int)) (l : List (Int × Value)) (oa : Option Addr) (o : List Int), ov = .slice oa o.length oc ∧ Hid (DW w (B + 1) V B s p D l N oa oc o wr) ∧ Hid (o.length ≤ oc ∨ o.length = 0) ∧ Hid (∃ r : List Tok, Seg s p (toksB r) ∧ p + (toksB r).size = s.size ∧ TokFit r D o ∧ foldT r D o = F)) (fun _ wr => leftN (B + 1) s wr)
 case atStart => exact ⟨0, B, 0, [], [], none, [], rfl, HW, .inr rfl, HT⟩
 case round =>
  clear HW HT
  obtain ⟨p, N, oc, D, l, oa, o, rfl, HW, HOC, HT⟩ := hrel
  obtain ⟨r, h1, h2, h3, h4⟩ := HT.out
  clear HT
  have HPS : Hid (p ≤ s.size) := by unfold Hid; omega
  have HLW := Lib.hid (leftN_row HW.out.row)
  have HL := Lib.hid (left_c (B + 1) V ⟨s, p, false⟩ wr HW.out.row)
  rcases r with _ | ⟨t, r⟩
  ·have hlt : decide (p < s.size) = false := by have : (toksB []).size = 0 := rfl; simp; omega
   simp only [hlt] at HL
   have HF : Hid (D = F) := h4
   clear h1 h2 h3 h4 hlt
   go_wp2_with fail
   refine HL.out.mono ?_
   rintro e w2 ⟨rfl, hb2⟩
   have HW2 := Lib.hid (HW.out.below hb2)
   have k2 := HW2.out.row.c2
   clear hb2 HL
   go_wp2_with fail
   go_ret2
   exact ⟨B, rfl, by rw [← HF.out]; exact ⟨l, HW2.out.map, HW2.out.ent⟩, HW2.out.bel⟩
  ·obtain ⟨g1, g2, g3⟩ := toks_cons h1 h2
   have HG := Lib.hid (And.intro g1 (And.intro g2 g3))
   have HFO := Lib.hid (And.intro h3 h4)
   have htz : 0 < t.text.size := by cases t with | opd n => rw [show (Tok.opd n).text = intB n from rfl, intB_size]; decide | opr k => exact Nat.zero_lt_one
   have hlt : decide (p < s.size) = true := by simp; omega
   simp only [hlt] at HL
   clear h1 h2 h3 h4 hlt g1 g2 g3
   go_wp2_with fail
   refine HL.out.mono ?_
   rintro e w2 ⟨rfl, hb2⟩
   have HW2 := Lib.hid (HW.out.below hb2)
   clear hb2 HL HW
   cases t with
   | opd n =>
     obtain ⟨⟨n0, n1⟩, hol, h3⟩ := HFO.out.1
     have h4 : foldT r D (o ++ [n]) = F := HFO.out.2
     obtain ⟨hy, x, hx, hxn⟩ := seg_opd HG.out.1 n0 n1
     have HB := Lib.hid (rbyte_c (B + 1) V ⟨s, p, false⟩ w2 HW2.out.row ⟨HS.out, by show p ≤ _; have := HPS.out; have := HS.out; omega⟩)
     rw [hy] at HB
     have HX := Lib.hid hx
     have HXN := Lib.hid hxn
     have HN := Lib.hid (And.intro h3 h4)
     have HOL := Lib.hid hol
     have HP5 : Hid (p + 5 ≤ s.size) := by have h := HG.out.2.2; have e : (Tok.opd n).text.size = 5 := intB_size n; rw [e] at h; unfold Hid; omega
     clear n0 n1 hol h3 h4 hy hx hxn HFO
     go_wp2_with fail
     refine HB.out.mono ?_
     rintro e w3 ⟨rfl, hr3, hg3⟩
     have HW3 := Lib.hid (HW2.out.rowed hg3 hr3)
     clear hr3 hg3 HW2 HB
     go_wp2_with fail
     refine (rdict_opd (B + 1) V (p + 1) s x w3 HW3.out.row HS.out (by have := HP5.out; have := HS.out; omega) HX.out).mono ?_
     rintro e w4 ⟨rfl, hr4, hg4⟩
     rw [HXN.out]
     have HW4 := Lib.hid (HW3.out.rowed hg4 hr4)
     have HB4 : Hid (Below w4.heap.size w4 (w4.alloc (.cells #[.int .i64 n] 3))) := (Below.refl _ _).alloc (Nat.le_refl _) _
     have HW5 := Lib.hid (HW4.out.below HB4.out)
     have HOW := Lib.hid HW5.out.own
     obtain ⟨m, HM⟩ : ∃ m, Hid (o.length = m) := ⟨_, rfl⟩
     rw [HM.out] at HOW HOL ⊢
     have hmz : m + 1 ≤ 1000 := by have := HOL.out; omega
     clear hr4 hg4 HW3
     go_wp2_with (at_builtin; refine wpList_appA elI rfl _ _ rfl (w4.alloc (.cells #[.int .i64 n] 3)) N oa m oc (o.map (Value.int .i64)) w4.heap.size 1 1 [.int .i64 n] rfl rfl HOW.out rfl lies_new (by simp [Value.oneCell']) (by decide) (by omega) (by omega) HW5.out.n1 ?_; intro g9 c9 w9 ho9 hg9 hat9)
     have hg9' : (w4.alloc (.cells #[.int .i64 n] 3)).grownBy w9 (Value.slice oa o.length oc).ownBlock := by rw [HM.out]; exact hg9
     have HO9 := Lib.hid ho9
     rw [← HM.out] at ho9
     have HW9 := Lib.hid (HW5.out.app ho9 hg9')
     clear ho9 hg9 hg9' hat9
     refine ⟨⟨p + 1 + 4, N, c9, D, l, some ⟨g9, 0, none⟩, o ++ [n], by rw [List.length_append, List.length_singleton, HM.out], HW9, .inl ?_, ⟨r, ?_, ?_, HN.out.1, HN.out.2⟩⟩, ?_⟩
     ·obtain ⟨_, _, _, _, hc⟩ := own_some HO9.out (Nat.succ_pos _)
      rw [List.length_append, List.length_singleton, HM.out]; exact hc
     ·have h := HG.out.2.1
      rw [show (Tok.opd n).text.size = 5 from intB_size n] at h
      rwa [Nat.add_assoc]
     ·have h := HG.out.2.2
      rw [show (Tok.opd n).text.size = 5 from intB_size n] at h
      omega
     ·rw [leftN_row HW9.out.row, HLW.out]; have := HP5.out; omega
   | opr k =>
     obtain ⟨⟨k0, k1⟩, hno, ⟨o0, o1⟩, h3⟩ := HFO.out.1
     have h4 : foldT r (D ++ [((k : Int), o)]) [] = F := HFO.out.2
     have hy := seg_opr HG.out.1 k0
     have HB := Lib.hid (rbyte_c (B + 1) V ⟨s, p, false⟩ w2 HW2.out.row ⟨HS.out, by show p ≤ _; have := HPS.out; have := HS.out; omega⟩)
     rw [hy] at HB
     have HN := Lib.hid (And.intro h3 h4)
     have HK := Lib.hid (And.intro k0 k1)
     have HNO := Lib.hid hno
     have HO0 := Lib.hid o0
     have HP1 : Hid (p + 1 ≤ s.size) := by have h := HG.out.2.2; have e : (Tok.opr k).text.size = 1 := rfl; rw [e] at h; unfold Hid; omega
     have z1 : ¬ (21 : Int) < (k : Int) := by omega
     have z2 : ¬ (48 : Int) < (o.length : Int) := by omega
     clear k0 k1 hno o0 o1 h3 h4 hy HFO
     go_wp2_with fail
     refine HB.out.mono ?_
     rintro e w3 ⟨rfl, hr3, hg3⟩
     have HW3 := Lib.hid (HW2.out.rowed hg3 hr3)
     clear hr3 hg3 HW2 HB
     go_wp2_with fail
     refine (rdict_opr (B + 1) V (p + 1) k s w3 HW3.out.row HS.out (by have := HP1.out; have := HS.out; omega) HK.out.1).mono ?_
     rintro e w4 ⟨rfl, hr4, hg4⟩
     have HW4 := Lib.hid (HW3.out.rowed hg4 hr4)
     clear hr4 hg4 HW3
     go_wp2_with fail
     have HC := Lib.hid (roper_c (B + 1) V ⟨s, p + 1, false⟩ (k : Int) w4 HW4.out.row ⟨HS.out, by show p + 1 ≤ _; have := HP1.out; have := HS.out; omega⟩)
     have he : (Rw.mk s (p + 1) false).oper (k : Int) = ((k : Int), ⟨s, p + 1, false⟩) := by unfold Rw.oper; rw [if_neg (by have := HK.out.2; omega)]
     rw [he] at HC
     refine HC.out.mono ?_
     rintro e w5 ⟨rfl, hr5, hg5⟩
     have HW5 := Lib.hid (HW4.out.rowed hg5 hr5)
     clear hr5 hg5 HW4 HC he z1 z2
     go_wp2_with (at_mapUpdate; refine wpList_mapU rfl _ _ _ rfl w5 B l (k : Int) (.slice oa o.length oc) rfl rfl rfl HW5.out.map (HW5.out.ent.none _ HNO.out) ?_; intro w6 hm6 hg6)
     have HW6 := Lib.hid (HW5.out.stored HO0.out hm6 hg6)
     clear hm6 hg6
     refine ⟨⟨p + 1, _, 0, _, _, none, [], rfl, HW6, .inr rfl, ⟨r, HG.out.2.1, HG.out.2.2, HN.out.1, HN.out.2⟩⟩, ?_⟩
     rw [leftN_row HW6.out.row, HLW.out]; have := HP1.out; omega
end Go.Proofs.YtklenppldblbdaaGreat
namespace Go.Proofs.YtklenppldblbdaaGreat
open Go.RowKit Go.PlainAid
def IdxOk (w : World) (a : Option Addr) (n c : Nat) (d : Option Addr) (Ls : List ByteArray) : Prop := IdxIs w a n c d Ls ∧ n ≤ 60001 ∧ n ≤ c
theorem IdxOk.below {w w' : World} {a : Option Addr} {n c : Nat} {d : Option Addr} {Ls : List ByteArray} (h : IdxOk w a n c d Ls) (hb : Below w.heap.size w w') : IdxOk w' a n c d Ls := ⟨h.1.below hb, h.2⟩
theorem readIndex_c (V p : Nat) (s : ByteArray) (Ls : List ByteArray) (w : World) (hv : w.heap[V]? = some (.cells #[.string s] 68 (0, 0))) (hs : s.size ≤ 1000000) (hseg : Seg s p (packI Ls)) (hn : Ls.length ≤ 60000) (hz : sizeN Ls ≤ 60000) :
 Calls Tryz.prog 33 #[.pointer (some ⟨V, 0, none⟩), .int .i64 (p : Int)] w fun e w' => ∃ a n c d, e = .returned (.tuple #[.agg #[.slice a n c, .pointer d], .int .i64 ((p + (packI Ls).size : Nat) : Int), .int .i64 0]) ∧ IdxOk w' a n c d Ls ∧ Below w.heap.size w w' := by
 by_cases hl : 0 < Ls.length
 ·refine (readIndex_some V p s Ls w hv hs hseg hl hn hz).mono ?_
  rintro e w' ⟨a, n, c, d, h1, h2, h3, h4, h5⟩
  exact ⟨a, n, c, d, h1, ⟨h2, h3, h4⟩, h5⟩
 ·have hnil : Ls = [] := List.eq_nil_of_length_eq_zero (by omega)
  subst hnil
  have h1 := hseg.1
  refine (readIndex_none V p s w hv hs (by omega) (seg_none hseg)).mono ?_
  rintro e w' ⟨h1, h2⟩
  refine ⟨none, 0, 0, none, ?_, ⟨.inl ⟨rfl, rfl⟩, by omega, by omega⟩, h2⟩
  rw [h1, packI_size]; rfl
structure HeadF (s : ByteArray) (Ls : Nat → List ByteArray) (ps : Nat → Nat) : Prop where
 p0 : ps 0 = 4
 seg : ∀ i, i < 4 → Seg s (ps i) (packI (Ls i))
 nxt : ∀ i, i < 4 → ps i + (packI (Ls i)).size = ps (i + 1)
 len : ∀ i, i < 4 → (Ls i).length ≤ 60000 ∧ sizeN (Ls i) ≤ 60000
 h0 : numOr s 0 1 = (1, 0)
 h2 : numOr s 2 1 = (4, 0)
def HeadW (w : World) (X : Nat) (Ls : Nat → List ByteArray) (j : Nat) : Prop :=
 ∃ cs : Array Value, w.heap[X]? = some (.cells cs 92 (0, 0)) ∧ cs.size = 8 ∧ ∀ i, i < j → ∃ a n c d, cs[2 * i]? = some (.slice a n c) ∧ cs[2 * i + 1]? = some (.pointer d) ∧ IdxOk w a n c d (Ls i)
theorem HeadW.below {w w' : World} {X j : Nat} {Ls : Nat → List ByteArray} (h : HeadW w X Ls j) (hb : Below w.heap.size w w') : HeadW w' X Ls j := by
 obtain ⟨cs, h1, h2, h3⟩ := h
 exact ⟨cs, blk_below h1 hb, h2, fun i hi => by obtain ⟨a, n, c, d, k1, k2, k3⟩ := h3 i hi; exact ⟨a, n, c, d, k1, k2, k3.below hb⟩⟩
theorem IdxOk.chg {w w' : World} {a : Option Addr} {n c : Nat} {d : Option Addr} {Ls : List ByteArray} {r : Option Nat} {T : TypeId} (h : IdxOk w a n c d Ls) (hg : w.grownBy w' r) (ht : TypAt w r T) (h1 : 3 ≠ T) (h2 : 68 ≠ T) : IdxOk w' a n c d Ls := by
 refine ⟨?_, h.2⟩
 rcases h.1 with h | ⟨ob, vb, s, cs, fr, k1, k2, k3, k4, k5, k6⟩
 ·exact .inl h
 ·exact .inr ⟨ob, vb, s, cs, fr, k1, k2, k3, blk_chg k4 hg ht h1, blk_chg k5 hg ht h2, k6⟩
theorem HeadW.put {w : World} {X j n c : Nat} {a d : Option Addr} {Ls : Nat → List ByteArray} {cs : Array Value} (h1 : w.heap[X]? = some (.cells cs 92 (0, 0))) (h2 : cs.size = 8)
 (h3 : ∀ i, i < j → ∃ a n c d, cs[2 * i]? = some (.slice a n c) ∧ cs[2 * i + 1]? = some (.pointer d) ∧ IdxOk w a n c d (Ls i)) (hj : j < 4) (hi : IdxOk w a n c d (Ls j)) :
 HeadW ((w.setCell ⟨X, j * 2, none⟩ (.slice a n c)).setCell ⟨X, j * 2 + 1, none⟩ (.pointer d)) X Ls (j + 1) := by
 have hb := blk_set (blk_set h1 (j * 2) (.slice a n c)) (j * 2 + 1) (.pointer d)
 have hg := grown_trans (grown_set w X (j * 2) (.slice a n c)) (grown_set _ X (j * 2 + 1) (.pointer d))
 have ht := typ_blk h1
 refine ⟨_, hb, by simp [h2], fun i hi' => ?_⟩
 by_cases e : i = j
 ·subst e
  refine ⟨a, n, c, d, ?_, ?_, hi.chg hg ht (by decide) (by decide)⟩
  ·rw [show 2 * i = i * 2 by omega, Array.getElem?_setIfInBounds_ne (by omega), Array.getElem?_setIfInBounds_self_of_lt (by omega)]
  ·rw [show 2 * i = i * 2 by omega, Array.getElem?_setIfInBounds_self_of_lt (by rw [Array.size_setIfInBounds]; omega)]
 ·obtain ⟨a', n', c', d', k1, k2, k3⟩ := h3 i (by omega)
  refine ⟨a', n', c', d', ?_, ?_, k3.chg hg ht (by decide) (by decide)⟩
  ·rw [Array.getElem?_setIfInBounds_ne (by omega), Array.getElem?_setIfInBounds_ne (by omega)]; exact k1
  ·rw [Array.getElem?_setIfInBounds_ne (by omega), Array.getElem?_setIfInBounds_ne (by omega)]; exact k2
theorem IdxOk.set {w : World} {a : Option Addr} {n c : Nat} {d : Option Addr} {Ls : List ByteArray} {A : Nat} {cs : Array Value} {fr : Nat × Nat} (h : IdxOk w a n c d Ls) (hA : w.heap[A]? = some (.cells cs 57 fr)) (i : Nat) (u : Value) : IdxOk (w.setCell ⟨A, i, none⟩ u) a n c d Ls :=
 h.chg (grown_set w A i u) (typ_blk hA) (by decide) (by decide)
theorem head_end {wr : World} {A : Nat} {cs es : Array Value} (hX : wr.heap[A]? = some (.cells cs 57 (0, 0))) (hY : wr.heap[A + 1]? = some (.cells es 57 (0, 0))) (u1 u2 u3 u4 : Value) {a : Option Addr} {n c : Nat} {d : Option Addr} {Ls : List ByteArray} (h : IdxOk wr a n c d Ls) :
 IdxOk ((((wr.setCell ⟨A, 0, none⟩ u1).setCell ⟨A, 1, none⟩ u2).setCell ⟨A + 1, 0, none⟩ u3).setCell ⟨A + 1, 1, none⟩ u4) a n c d Ls := by
 have hne : A + 1 ≠ A := by omega
 have h1 := h.set hX 0 u1
 have h2 := h1.set (blk_set hX 0 u1) 1 u2
 have hy2 : ((wr.setCell ⟨A, 0, none⟩ u1).setCell ⟨A, 1, none⟩ u2).heap[A + 1]? = some (.cells es 57 (0, 0)) := by
  rw [Below.heap_setCell _ _ _ _ hne, Below.heap_setCell _ _ _ _ hne]; exact hY
 exact (h2.set hy2 0 u3).set (blk_set hy2 0 u3) 1 u4
set_option maxRecDepth 20000 in
set_option maxHeartbeats 4000000 in
theorem readHead_c (V : Nat) (s : ByteArray) (Ls : Nat → List ByteArray) (ps : Nat → Nat) (w : World) (hv : w.heap[V]? = some (.cells #[.string s] 68 (0, 0))) (hs : s.size ≤ 1000000) (hh : HeadF s Ls ps) :
 Calls Tryz.prog 20 #[.pointer (some ⟨V, 0, none⟩)] w fun e w' => ∃ a n c d a3 n3 c3 d3, e = .returned (.tuple #[.agg #[.slice a n c, .pointer d], .agg #[.slice a3 n3 c3, .pointer d3], .int .i64 0]) ∧ IdxOk w' a n c d (Ls 1) ∧ IdxOk w' a3 n3 c3 d3 (Ls 3) ∧ Below w.heap.size w w' := by
 have HS := Lib.hid hs
 have HH := Lib.hid hh
 have HST : Hid (∀ T, ((w.alloc (.cells #[.slice none 0 0, .pointer none] T)).alloc (.cells #[.slice none 0 0, .pointer none] T)).heap[w.heap.size]? = some (.cells #[.slice none 0 0, .pointer none] T (0, 0)) ∧
  ((w.alloc (.cells #[.slice none 0 0, .pointer none] T)).alloc (.cells #[.slice none 0 0, .pointer none] T)).heap[w.heap.size + 1]? = some (.cells #[.slice none 0 0, .pointer none] T (0, 0)) ∧
  Below w.heap.size w ((w.alloc (.cells #[.slice none 0 0, .pointer none] T)).alloc (.cells #[.slice none 0 0, .pointer none] T))) :=
  fun T => ⟨heap_alloc2_old w _ _, heap_alloc2_new w _ _, bel_alloc ((Below.refl _ _).alloc (Nat.le_refl _) _) _⟩
 obtain ⟨A, HA⟩ : ∃ A, Hid (w.heap.size = A) := ⟨_, rfl⟩
 have HV := Lib.hid hv
 clear hv hs hh
 go_enter Tryz.func20, Tryz.ntmps20
 go_wp2_with fail
 rw [HA.out] at HST ⊢
 obtain ⟨hx, hy, hb⟩ := HST.out 57
 generalize ((w.alloc (.cells #[.slice none 0 0, .pointer none] 57)).alloc (.cells #[.slice none 0 0, .pointer none] 57)) = w1 at *
 have hv1 := blk_below HV.out (by rw [HA.out]; exact hb)
 have HA2 : Hid (A + 2 ≤ w1.heap.size) := by have := blk_lt hy; unfold Hid; omega
 refine (u8_c V 0 1 0 s w1 (blk_cell hv1 0 _ rfl) (by have := HS.out; omega) (by decide) HH.out.h0).mono ?_
 rintro e w2 ⟨rfl, rfl⟩
 go_wp2_with fail
 refine (u8_c V 2 4 0 s w1 (blk_cell hv1 0 _ rfl) (by have := HS.out; omega) (by decide) HH.out.h2).mono ?_
 rintro e w2 ⟨rfl, rfl⟩
 have HXL : Hid (HeadW (w1.alloc (.cells #[.slice none 0 0, .pointer none, .slice none 0 0, .pointer none, .slice none 0 0, .pointer none, .slice none 0 0, .pointer none] 92)) w1.heap.size Ls 0) :=
  ⟨_, heap_alloc_new w1 _, rfl, fun i hi => absurd hi (Nat.not_lt_zero _)⟩
 have hb2 : Below w1.heap.size w1 (w1.alloc (.cells #[.slice none 0 0, .pointer none, .slice none 0 0, .pointer none, .slice none 0 0, .pointer none, .slice none 0 0, .pointer none] 92)) := (Below.refl _ _).alloc (Nat.le_refl _) _
 have HV2 := Lib.hid (blk_below hv1 hb2)
 have HX2 := Lib.hid (blk_below hx hb2)
 have HY2 := Lib.hid (blk_below hy hb2)
 have HB2 : Hid (Below A w (w1.alloc (.cells #[.slice none 0 0, .pointer none, .slice none 0 0, .pointer none, .slice none 0 0, .pointer none, .slice none 0 0, .pointer none] 92))) := hb.alloc (by have := HA2.out; omega) _
 have HP0 : Hid (ps 0 = 4) := HH.out.p0
 clear HST hx hy hb hv1 hb2
 go_wp2_with fail
 generalize hX : w1.heap.size = X at *
 generalize (w1.alloc (.cells #[.slice none 0 0, .pointer none, .slice none 0 0, .pointer none, .slice none 0 0, .pointer none, .slice none 0 0, .pointer none] 92)) = w2 at *
 clear hX
 go_loopw [35, 6, 4] (fun iv av ev wr => ∃ j : Nat, j ≤ 4 ∧ iv = .int .i64 (j : Int) ∧ av = .int .i64 ((ps j : Nat) : Int) ∧ ev = .int .i64 0 ∧ Hid (HeadW wr X Ls j) ∧ Hid (wr.heap[V]? = some (.cells #[.string s] 68 (0, 0))) ∧
  Hid (wr.heap[A]? = some (.cells #[.slice none 0 0, .pointer none] 57 (0, 0))) ∧ Hid (wr.heap[A + 1]? = some (.cells #[.slice none 0 0, .pointer none] 57 (0, 0))) ∧ Hid (Below A w wr) ∧ Hid (A + 2 ≤ wr.heap.size)) (fun iv _ _ _ => 4 - (intOf iv).toNat)
 case atStart => exact ⟨0, by omega, rfl, by rw [HP0.out]; rfl, rfl, HXL, HV2, HX2, HY2, HB2, by have := HB2.out.size; have := blk_lt HY2.out; unfold Hid; omega⟩
 case round =>
  clear HXL HV2 HX2 HY2 HB2 HP0 HV
  obtain ⟨j, hj, rfl, rfl, rfl, HXL, HV, HX, HY, HB, HSZ⟩ := hrel
  by_cases hlt : j < 4
  ·have HLT := Lib.hid hlt
   have hlt' : (j : Int) < 4 := by omega
   have hj0 : (0 : Int) ≤ (j : Int) := by omega
   have hw1 : wrap64 ((j : Int) + 1) = ((j + 1 : Nat) : Int) := by unfold wrap64; omega
   clear hj hlt
   go_wp2_with fail
   refine (readIndex_c V (ps j) s (Ls j) wr HV.out HS.out (HH.out.seg j HLT.out) (HH.out.len j HLT.out).1 (HH.out.len j HLT.out).2).mono ?_
   rintro e w3 ⟨a, n, c, d, rfl, hok, hb3⟩
   rw [HH.out.nxt j HLT.out]
   have HOK := Lib.hid hok
   have HXL3 := Lib.hid (HXL.out.below hb3)
   have HV3 := Lib.hid (blk_below HV.out hb3)
   have HX3 := Lib.hid (blk_below HX.out hb3)
   have HY3 := Lib.hid (blk_below HY.out hb3)
   have HB3 := Lib.hid (HB.out.trans (hb3.mono (by have := HSZ.out; omega)))
   clear hok hb3 HXL HV HX HY HB
   obtain ⟨cs, hc1, hc2, hc3⟩ := HXL3.out
   have hf1 := blk_free hc1 (j * 2)
   have hf2 := blk_free hc1 (j * 2 + 1)
   obtain ⟨v1, hv1⟩ : ∃ v, cs[j * 2]? = some v := ⟨_, Array.getElem?_eq_getElem (by have := HLT.out; omega)⟩
   obtain ⟨v2, hv2⟩ : ∃ v, cs[j * 2 + 1]? = some v := ⟨_, Array.getElem?_eq_getElem (by have := HLT.out; omega)⟩
   have q1 := blk_cell hc1 (j * 2) v1 hv1
   have q2 := blk_cell hc1 (j * 2 + 1) v2 hv2
   go_wp2_with fail
   have hg := grown_trans (grown_set w3 X (j * 2) (.slice a n c)) (grown_set _ X (j * 2 + 1) (.pointer d))
   have ht := typ_blk hc1
   refine ⟨⟨j + 1, HLT.out, by go_num, rfl, rfl, HeadW.put hc1 hc2 hc3 HLT.out HOK.out, blk_chg HV3.out hg ht (by decide), blk_chg HX3.out hg ht (by decide), blk_chg HY3.out hg ht (by decide), grown_below HB3.out hg (by have := blk_lt HY3.out; omega) (by have := HA2.out; omega), ?_⟩, ?_⟩
   ·have h1 := hg.size; have h2 := blk_lt HY3.out; unfold Hid; omega
   ·have := HLT.out; simp only [intOf]; omega
  ·obtain rfl : j = 4 := by omega
   have h1 : ¬ ((4 : Nat) : Int) < 4 := by omega
   obtain ⟨cs, hc1, hc2, hc3⟩ := HXL.out
   obtain ⟨a, n, c, d, a1, a2, a3⟩ := hc3 1 (by omega)
   obtain ⟨b, m, k, f, b1, b2, b3⟩ := hc3 3 (by omega)
   have q2 := blk_cell hc1 2 _ a1
   have q3 := blk_cell hc1 3 _ a2
   have q6 := blk_cell hc1 6 _ b1
   have q7 := blk_cell hc1 7 _ b2
   have hA0 := blk_cell HX.out 0 (.slice none 0 0) rfl
   have hA1 := blk_cell HX.out 1 (.pointer none) rfl
   have hB0 := blk_cell HY.out 0 (.slice none 0 0) rfl
   have hB1 := blk_cell HY.out 1 (.pointer none) rfl
   have fA0 := blk_free HX.out 0
   have fA1 := blk_free HX.out 1
   have fB0 := blk_free HY.out 0
   have fB1 := blk_free HY.out 1
   have HA3 := Lib.hid a3
   have HB3 := Lib.hid b3
   have HC1 := Lib.hid hc1
   have hne1 : X ≠ A := by have := HA2.out; omega
   have hne2 : X ≠ A + 1 := by have := HA2.out; omega
   have hne3 : A + 1 ≠ A := by omega
   clear a1 a2 a3 b1 b2 b3 hc1 hc2 hc3
   go_wp2_with fail
   go_region_with (fail)
   all_goals go_wp2_with fail
   all_goals
    refine bodyPost_ret (v := .tuple #[.agg #[.slice a n c, .pointer d], .agg #[.slice b m k, .pointer f], .int .i64 0]) ?_ rfl ?_
   all_goals first
    | (simp [results, Tryz.results20, go_sem, hA0, hA1, hB0, hB1, fA0, fA1, fB0, fB1, hne3]; done)
    | exact ⟨a, n, c, d, b, m, k, f, rfl, head_end HX.out HY.out _ _ _ _ HA3.out, head_end HX.out HY.out _ _ _ _ HB3.out, by
     rw [HA.out]
     exact (((((HB.out.setCell (Nat.le_refl _) _).setCell (Nat.le_refl _) _).setCell (Nat.le_succ _) _).setCell (Nat.le_succ _) _).drew)⟩
end Go.Proofs.YtklenppldblbdaaGreat
namespace Go.Proofs.YtklenppldblbdaaGreat
open Go.RowKit Go.PlainAid Go.Maps
def topT (f : FS) : List Tok := [.opd (atF f : Nat), .opr 17, .opd ((privF f).size : Nat), .opd (atF f + (packI f.glyphs).size : Nat), .opr 18]
def privT (f : FS) : List Tok := [.opd f.w0, .opr 20, .opd f.w1, .opr 21] ++ (if f.locals.length = 0 then [] else [.opd 18, .opr 19])
def topD (f : FS) : List (Int × List Int) := [(17, [((atF f : Nat) : Int)]), (18, [(((privF f).size : Nat) : Int), ((atF f + (packI f.glyphs).size : Nat) : Int)])]
def privD (f : FS) : List (Int × List Int) := [(20, [f.w0]), (21, [f.w1])] ++ (if f.locals.length = 0 then [] else [(19, [18])])
theorem top_text (f : FS) : topF f = toksB (topT f) := by
 unfold topF topT
 simp only [toksB, Tok.text, join_empty, join_assoc]
 rfl
theorem priv_text (f : FS) : privF f = toksB (privT f) := by
 unfold privF privT
 by_cases h : f.locals.length = 0
 ·rw [if_pos h, if_pos h]
  simp only [List.append_nil, toksB, Tok.text, join_empty, join_assoc]
  rfl
 ·rw [if_neg h, if_neg h]
  simp only [List.cons_append, List.nil_append, toksB, Tok.text, join_empty, join_assoc]
  rfl
theorem top_fold (f : FS) : foldT (topT f) [] [] = topD f := rfl
theorem priv_fold (f : FS) : foldT (privT f) [] [] = privD f := by
 unfold privT privD
 by_cases h : f.locals.length = 0
 ·rw [if_pos h, if_pos h]; rfl
 ·rw [if_neg h, if_neg h]; rfl
theorem priv_size (f : FS) : (privF f).size = if f.locals.length = 0 then 12 else 18 := by
 unfold privF
 split
 ·simp only [ByteArray.size_append, intB_size]; rfl
 ·simp only [ByteArray.size_append, intB_size]; rfl
structure FOk (f : FS) : Prop where
 n1 : f.glyphs.length ≤ 60000 ∧ f.locals.length ≤ 60000 ∧ f.globals.length ≤ 60000
 n2 : sizeN f.glyphs ≤ 60000 ∧ sizeN f.locals ≤ 60000 ∧ sizeN f.globals ≤ 60000
 w0 : -2147483648 ≤ f.w0 ∧ f.w0 ≤ 2147483647
 w1 : -2147483648 ≤ f.w1 ∧ f.w1 ≤ 2147483647
 some : 0 < f.glyphs.length
theorem packI_le (l : List ByteArray) (h1 : l.length ≤ 60000) (h2 : sizeN l ≤ 60000) : (packI l).size ≤ 180005 := by rw [packI_size]; split <;> omega
theorem restF_le {f : FS} (h : FOk f) : (restF f).size ≤ 180007 := by
 have := packI_le f.globals h.n1.2.2 h.n2.2.2
 unfold restF; rw [ByteArray.size_append, packI_size]; simp; omega
theorem atF_le {f : FS} (h : FOk f) : atF f ≤ 180100 := by
 have := restF_le h
 unfold atF; rw [headF_size]; omega
theorem top_fit {f : FS} (h : FOk f) : TokFit (topT f) [] [] := by
 have h1 := atF_le h
 have h2 := packI_le f.glyphs h.n1.1 h.n2.1
 have h3 : (privF f).size ≤ 18 := by rw [priv_size]; split <;> omega
 unfold topT
 simp only [TokFit, List.nil_append, List.cons_append, List.length_cons, List.length_nil, lookD]
 refine ⟨by omega, by omega, by omega, trivial, by omega, by omega, by omega, by omega, by omega, by omega, ?_, by omega, trivial⟩
 rw [if_neg (by decide)]
theorem priv_fit {f : FS} (h : FOk f) : TokFit (privT f) [] [] := by
 have h1 := h.w0
 have h2 := h.w1
 unfold privT
 by_cases hl : f.locals.length = 0
 ·rw [if_pos hl]
  simp only [TokFit, List.nil_append, List.cons_append, List.append_nil, List.length_cons, List.length_nil, lookD]
  refine ⟨by omega, by omega, by omega, trivial, by omega, by omega, by omega, by omega, ?_, by omega, trivial⟩
  rw [if_neg (by decide)]
 ·rw [if_neg hl]
  simp only [TokFit, List.nil_append, List.cons_append, List.append_nil, List.length_cons, List.length_nil, lookD]
  refine ⟨by omega, by omega, by omega, trivial, by omega, by omega, by omega, by omega, ?_, by omega, by omega, by omega, by omega, ?_, by omega, trivial⟩
  ·rw [if_neg (by decide)]
  ·rw [if_neg (by decide), if_neg (by decide)]
theorem look_top17 (f : FS) : lookD (topD f) 17 = some [((atF f : Nat) : Int)] := by unfold topD; simp [lookD]
theorem look_top18 (f : FS) : lookD (topD f) 18 = some [(((privF f).size : Nat) : Int), ((atF f + (packI f.glyphs).size : Nat) : Int)] := by unfold topD; simp [lookD]
theorem look_topKeyed (f : FS) : lookD (topD f) 1230 = none := by unfold topD; simp [lookD]
theorem look_topKind (f : FS) : lookD (topD f) 1206 = none := by unfold topD; simp [lookD]
theorem look_priv20 (f : FS) : lookD (privD f) 20 = some [f.w0] := by unfold privD; split <;> simp [lookD]
theorem look_priv21 (f : FS) : lookD (privD f) 21 = some [f.w1] := by unfold privD; split <;> simp [lookD]
theorem look_priv19 (f : FS) : lookD (privD f) 19 = if f.locals.length = 0 then none else some [18] := by unfold privD; split <;> simp [lookD]
def FontC (w : World) (F : Nat) (fl : FLay) (u0 u1 : Int) : Prop := w.heap[F]? = some (.cells #[.slice fl.pa fl.pn fl.pc, .pointer fl.pd, .slice fl.ga fl.gn fl.gc, .pointer fl.gd, .slice fl.la fl.ln fl.lc, .pointer fl.ld, .int .i64 u0, .int .i64 u1] 59 (0, 0))
theorem DictIs.chg {w w' : World} {B : Nat} {D : List (Int × List Int)} {r : Option Nat} {T : TypeId} (h : DictIs w B D) (hg : w.grownBy w' r) (ht : TypAt w r T) (hT : 3 ≠ T) : DictIs w' B D := by
 obtain ⟨l, h1, h2⟩ := h
 refine ⟨l, h1.grown hg ht, EntsV.mono (fun v L k => k.grown hg (fun g o n c cs fr _ hx e => ?_)) h2⟩
 obtain ⟨cs', fr', hq⟩ := ht g e
 rw [hx] at hq; cases hq; exact hT rfl
set_option maxRecDepth 20000 in
set_option maxHeartbeats 1000000 in
theorem readTop_c (f : FS) (hf : FOk f) (a : Option Addr) (n c : Nat) (d : Option Addr) (w : World) (h : IdxOk w a n c d [topF f]) :
 Calls Tryz.prog 21 #[.agg #[.slice a n c, .pointer d]] w fun e w' => ∃ B, e = .returned (.tuple #[.map (some B), .int .i64 0]) ∧ DictIs w' B (topD f) ∧ Below w.heap.size w w' := by
 have HF := Lib.hid hf
 have hb0 : Below w.heap.size w (w.alloc (.cells #[.slice a n c, .pointer d] 57)) := (Below.refl _ _).alloc (Nat.le_refl _) _
 have HI0 := Lib.hid (h.below hb0)
 have HX0 : Hid ((w.alloc (.cells #[.slice a n c, .pointer d] 57)).heap[w.heap.size]? = some (.cells #[.slice a n c, .pointer d] 57 (0, 0))) := heap_alloc_new _ _
 have HB0 := Lib.hid hb0
 have HN : Hid (n - 1 = 1) := h.1.count
 have HNB : Hid (n ≤ 60001 ∧ n ≤ c) := h.2
 clear h hb0
 go_enter Tryz.func21, Tryz.ntmps21
 have q0 := blk_cell HX0.out 0 _ rfl
 have q1 := blk_cell HX0.out 1 _ rfl
 go_wp2_with fail
 generalize (w.alloc (.cells #[.slice a n c, .pointer d] 57)) = w1 at *
 refine (count_c a n c (.pointer d) w1 (by have := HNB.out; omega)).mono ?_
 rintro e w2 ⟨rfl, hb2⟩
 have HX2 := Lib.hid (blk_below HX0.out hb2)
 have HI2 := Lib.hid (HI0.out.below hb2)
 have HB2 := Lib.hid (bel_next HB0.out hb2)
 rw [HN.out]
 clear HX0 HI0 HB0 hb2 q0 q1
 have q0 := blk_cell HX2.out 0 _ rfl
 have q1 := blk_cell HX2.out 1 _ rfl
 go_wp2_with fail
 refine (piece_c a n c d [topF f] 0 (topF f) w2 HI2.out.1 rfl (by have := HNB.out; omega) HNB.out.2).mono ?_
 rintro e w3 ⟨⟨v, rfl, _, hv⟩, hb3⟩
 have HV3 := Lib.hid hv
 have HB3 := Lib.hid (bel_next HB2.out hb3)
 have HTS : Hid ((topF f).size ≤ 1000000) := by unfold Hid topF; simp only [ByteArray.size_append, intB_size]; exact (by decide : 5 + 1 + (5 + 5 + 1) ≤ 1000000)
 clear hv hb3 q0 q1
 go_wp2_with fail
 refine (readDict_c v (topF f) (topT f) w3 HV3.out HTS.out (top_text f) (top_fit HF.out)).mono ?_
 rintro e w4 ⟨B, rfl, hd4, hb4⟩
 rw [top_fold] at hd4
 have HD4 := Lib.hid hd4
 have HB4 := Lib.hid (bel_next HB3.out hb4)
 have HH := Lib.hid (has_c B (topD f) 1230 w4 hd4)
 rw [look_topKeyed] at HH
 clear hd4 hb4
 go_wp2_with fail
 refine HH.out.mono ?_
 rintro e w5 ⟨rfl, hb5⟩
 have HD5 := Lib.hid (HD4.out.below hb5)
 have HB5 := Lib.hid (bel_next HB4.out hb5)
 clear hb5
 go_wp2_with fail
 refine (number_none B (topD f) 1206 2 w5 HD5.out (look_topKind f)).mono ?_
 rintro e w6 ⟨rfl, hb6⟩
 have HD6 := Lib.hid (HD5.out.below hb6)
 have HB6 := Lib.hid (bel_next HB5.out hb6)
 clear hb6
 go_wp2_with fail
 go_ret2
 exact ⟨B, rfl, HD6.out, HB6.out⟩
end Go.Proofs.YtklenppldblbdaaGreat
namespace Go.Proofs.YtklenppldblbdaaGreat
open Go.RowKit Go.PlainAid Go.Maps
theorem FontC.below {w w' : World} {F : Nat} {fl : FLay} {u0 u1 : Int} (h : FontC w F fl u0 u1) (hb : Below w.heap.size w w') : FontC w' F fl u0 u1 := blk_below h hb
set_option maxRecDepth 20000 in
set_option maxHeartbeats 1000000 in
theorem readPrograms_c (f : FS) (hf : FOk f) (V F B : Nat) (s : ByteArray) (fl : FLay) (u0 u1 : Int) (w : World) (hv : w.heap[V]? = some (.cells #[.string s] 68 (0, 0))) (hs : s.size ≤ 1000000) (hseg : Seg s (atF f) (packI f.glyphs)) (hF : FontC w F fl u0 u1) (hD : DictIs w B (topD f)) :
 Calls Tryz.prog 22 #[.pointer (some ⟨F, 0, none⟩), .pointer (some ⟨V, 0, none⟩), .map (some B)] w fun e w' => ∃ a n c d, e = .returned (.int .i64 0) ∧ FontC w' F { fl with pa := a, pn := n, pc := c, pd := d } u0 u1 ∧ IdxOk w' a n c d f.glyphs ∧ w.grownBy w' (some F) := by
 have HOK := Lib.hid hf
 have HV := Lib.hid hv
 have HS := Lib.hid hs
 have HSEG := Lib.hid hseg
 have HF := Lib.hid hF
 have HD := Lib.hid hD
 obtain ⟨p, HP⟩ : ∃ p, Hid (atF f = p) := ⟨_, rfl⟩
 have HL := Lib.hid (last_c B (topD f) 17 1 [((p : Nat) : Int)] w hD (by rw [← HP.out]; exact look_top17 f) rfl (by decide))
 clear hf hv hs hseg hF hD
 go_enter Tryz.func22, Tryz.ntmps22
 go_wp2_with fail
 refine HL.out.mono ?_
 rintro e w1 ⟨v, rfl, ⟨g, c, cs, fr, rfl, h2, h3, h4⟩, hb1⟩
 have k0 := blk_cell (blk_below h3 hb1) 0 _ (h4 0 _ rfl)
 have HF1 := Lib.hid (HF.out.below hb1)
 have HV1 := Lib.hid (blk_below HV.out hb1)
 have HB1 := Lib.hid hb1
 clear h2 h3 h4 hb1
 go_wp2_with fail
 refine (readIndex_c V p s f.glyphs w1 HV1.out HS.out (by rw [← HP.out]; exact HSEG.out) HOK.out.n1.1 HOK.out.n2.1).mono ?_
 rintro e w2 ⟨a, n, c, d, rfl, hok, hb2⟩
 have HI2 := Lib.hid hok
 have HF2 := Lib.hid (HF1.out.below hb2)
 have HB2 := Lib.hid (bel_next HB1.out hb2)
 have q0 := blk_cell HF2.out 0 _ rfl
 have q1 := blk_cell HF2.out 1 _ rfl
 have f0 := blk_free HF2.out 0
 have f1 := blk_free HF2.out 1
 have HG3 : Hid (w2.grownBy ((w2.setCell ⟨F, 0, none⟩ (.slice a n c)).setCell ⟨F, 1, none⟩ (.pointer d)) (some F)) := grown_trans (grown_set w2 F 0 (.slice a n c)) (grown_set _ F 1 (.pointer d))
 have HF3 : Hid (FontC ((w2.setCell ⟨F, 0, none⟩ (.slice a n c)).setCell ⟨F, 1, none⟩ (.pointer d)) F { fl with pa := a, pn := n, pc := c, pd := d } u0 u1) := blk_set (blk_set HF2.out 0 (.slice a n c)) 1 (.pointer d)
 have HI3 : Hid (IdxOk ((w2.setCell ⟨F, 0, none⟩ (.slice a n c)).setCell ⟨F, 1, none⟩ (.pointer d)) a n c d f.glyphs) := hok.chg HG3.out (typ_blk HF2.out) (by decide) (by decide)
 clear hok hb2 k0
 go_wp2_with fail
 generalize ((w2.setCell ⟨F, 0, none⟩ (.slice a n c)).setCell ⟨F, 1, none⟩ (.pointer d)) = w3 at *
 have HN : Hid (n - 1 = f.glyphs.length) := HI3.out.1.count
 have HC : Hid (Calls Tryz.prog 11 #[.pointer (some ⟨F, 0, none⟩)] w3 fun e w' => e = .returned (.int .i64 ((n - 1 : Nat) : Int)) ∧ Below w3.heap.size w3 w') := by
  have HC := Lib.hid (count_c a n c (.pointer d) w3 (by have := HI3.out.2; omega))
  have k0 := blk_cell HF3.out 0 (.slice a n c) rfl
  have k1 := blk_cell HF3.out 1 (.pointer d) rfl
  clear HL HF HV HD HF1 HV1 HB1 HI2 HF2 HB2 q0 q1 f0 f1 HG3 HF3 HI3 HN HOK HSEG HP HS
  unfold Hid
  go_enter Tryz.func11, Tryz.ntmps11
  go_wp2_with fail
  refine HC.out.mono ?_
  rintro e w4 ⟨rfl, hb4⟩
  have HB4 := Lib.hid hb4
  clear hb4
  go_wp2_with fail
  go_ret
  exact ⟨rfl, HB4.out⟩
 refine HC.out.mono ?_
 rintro e w4 ⟨rfl, hb4⟩
 have hz : (((n - 1 : Nat) : Int) == 0) = false := by have := HN.out; have := HOK.out.some; simp; omega
 have HB4 := Lib.hid hb4
 clear hb4 q0 q1 f0 f1
 go_wp2_with fail
 go_ret
 exact ⟨a, n, c, d, rfl, HF3.out.below HB4.out, HI3.out.below HB4.out, grown_trans (grown_trans (grown_bel _ HB2.out) HG3.out) (grown_bel _ HB4.out)⟩
set_option maxRecDepth 20000 in
set_option maxHeartbeats 1000000 in
theorem readLocals_none (f : FS) (V F B p : Nat) (w : World) (hl : f.locals.length = 0) (hD : DictIs w B (privD f)) :
 Calls Tryz.prog 38 #[.pointer (some ⟨F, 0, none⟩), .pointer (some ⟨V, 0, none⟩), .int .i64 (p : Int), .map (some B)] w fun e w' => e = .returned (.int .i64 0) ∧ Below w.heap.size w w' := by
 have HH := Lib.hid (has_c B (privD f) 19 w hD)
 rw [look_priv19, if_pos hl] at HH
 clear hD hl
 go_enter Tryz.func38, Tryz.ntmps38
 go_wp2_with fail
 refine HH.out.mono ?_
 rintro e w1 ⟨rfl, hb1⟩
 have HB1 := Lib.hid hb1
 clear hb1
 go_wp2_with fail
 go_ret
 exact ⟨rfl, HB1.out⟩
set_option maxRecDepth 20000 in
set_option maxHeartbeats 1000000 in
theorem readLocals_some (f : FS) (hf : FOk f) (V F B p : Nat) (s : ByteArray) (fl : FLay) (u0 u1 : Int) (w : World) (hv : w.heap[V]? = some (.cells #[.string s] 68 (0, 0))) (hs : s.size ≤ 1000000) (hl : ¬ f.locals.length = 0) (hp : p + 18 ≤ 1000000) (hseg : Seg s (p + 18) (packI f.locals)) (hF : FontC w F fl u0 u1) (hD : DictIs w B (privD f)) :
 Calls Tryz.prog 38 #[.pointer (some ⟨F, 0, none⟩), .pointer (some ⟨V, 0, none⟩), .int .i64 (p : Int), .map (some B)] w fun e w' => ∃ a n c d, e = .returned (.int .i64 0) ∧ FontC w' F { fl with la := a, ln := n, lc := c, ld := d } u0 u1 ∧ IdxOk w' a n c d f.locals ∧ w.grownBy w' (some F) := by
 have HOK := Lib.hid hf
 have HV := Lib.hid hv
 have HS := Lib.hid hs
 have HSEG := Lib.hid hseg
 have HF := Lib.hid hF
 have HD := Lib.hid hD
 have HH := Lib.hid (has_c B (privD f) 19 w hD)
 rw [look_priv19, if_neg hl] at HH
 have HK : Hid (lookD (privD f) 19 = some [18]) := by unfold Hid; rw [look_priv19, if_neg hl]
 have hw : wrap64 ((p : Int) + 18) = ((p + 18 : Nat) : Int) := by unfold wrap64; omega
 clear hf hv hs hseg hF hD hl hp
 go_enter Tryz.func38, Tryz.ntmps38
 go_wp2_with fail
 refine HH.out.mono ?_
 rintro e w1 ⟨rfl, hb1⟩
 have HB1 := Lib.hid hb1
 have HL := Lib.hid (last_c B (privD f) 19 1 [18] w1 (HD.out.below hb1) HK.out rfl (by decide))
 clear hb1
 go_wp2_with fail
 refine HL.out.mono ?_
 rintro e w2 ⟨v, rfl, ⟨g, c, cs, fr, rfl, h2, h3, h4⟩, hb2⟩
 have k0 := blk_cell (blk_below h3 hb2) 0 _ (h4 0 _ rfl)
 have HB2 := Lib.hid (bel_next HB1.out hb2)
 have HF2 := Lib.hid (HF.out.below HB2.out)
 have HV2 := Lib.hid (blk_below HV.out HB2.out)
 clear h2 h3 h4 hb2
 go_wp2_with fail
 try rw [hw]
 refine (readIndex_c V (p + 18) s f.locals w2 HV2.out HS.out HSEG.out HOK.out.n1.2.1 HOK.out.n2.2.1).mono ?_
 rintro e w3 ⟨a, n, c, d, rfl, hok, hb3⟩
 have HI3 := Lib.hid hok
 have HF3 := Lib.hid (HF2.out.below hb3)
 have HB3 := Lib.hid (bel_next HB2.out hb3)
 have q0 := blk_cell HF3.out 4 _ rfl
 have q1 := blk_cell HF3.out 5 _ rfl
 have f0 := blk_free HF3.out 4
 have f1 := blk_free HF3.out 5
 have HG4 : Hid (w3.grownBy ((w3.setCell ⟨F, 4, none⟩ (.slice a n c)).setCell ⟨F, 5, none⟩ (.pointer d)) (some F)) := grown_trans (grown_set w3 F 4 (.slice a n c)) (grown_set _ F 5 (.pointer d))
 have HF4 : Hid (FontC ((w3.setCell ⟨F, 4, none⟩ (.slice a n c)).setCell ⟨F, 5, none⟩ (.pointer d)) F { fl with la := a, ln := n, lc := c, ld := d } u0 u1) := blk_set (blk_set HF3.out 4 (.slice a n c)) 5 (.pointer d)
 have HI4 : Hid (IdxOk ((w3.setCell ⟨F, 4, none⟩ (.slice a n c)).setCell ⟨F, 5, none⟩ (.pointer d)) a n c d f.locals) := hok.chg HG4.out (typ_blk HF3.out) (by decide) (by decide)
 clear hok hb3 k0
 go_wp2_with fail
 go_ret
 exact ⟨a, n, c, d, rfl, HF4.out, HI4.out, grown_trans (grown_bel _ HB3.out) HG4.out⟩
end Go.Proofs.YtklenppldblbdaaGreat
namespace Go.Proofs.YtklenppldblbdaaGreat
open Go.RowKit Go.PlainAid Go.Maps
theorem readLocals_c (f : FS) (hf : FOk f) (V F B p : Nat) (s : ByteArray) (fl : FLay) (u0 u1 : Int) (w : World) (hv : w.heap[V]? = some (.cells #[.string s] 68 (0, 0))) (hs : s.size ≤ 1000000) (hp : p + 18 ≤ 1000000) (hseg : ¬ f.locals.length = 0 → Seg s (p + 18) (packI f.locals)) (hF : FontC w F fl u0 u1) (hz : fl.la = none ∧ fl.ln = 0 ∧ fl.lc = 0 ∧ fl.ld = none) (hD : DictIs w B (privD f)) :
 Calls Tryz.prog 38 #[.pointer (some ⟨F, 0, none⟩), .pointer (some ⟨V, 0, none⟩), .int .i64 (p : Int), .map (some B)] w fun e w' => ∃ a n c d, e = .returned (.int .i64 0) ∧ FontC w' F { fl with la := a, ln := n, lc := c, ld := d } u0 u1 ∧ IdxOk w' a n c d f.locals ∧ w.grownBy w' (some F) := by
 by_cases hl : f.locals.length = 0
 ·refine (readLocals_none f V F B p w hl hD).mono ?_
  rintro e w' ⟨h1, h2⟩
  refine ⟨fl.la, fl.ln, fl.lc, fl.ld, h1, hF.below h2, ?_, grown_bel _ h2⟩
  rw [List.eq_nil_of_length_eq_zero hl, hz.1, hz.2.1, hz.2.2.1, hz.2.2.2]
  exact ⟨.inl ⟨rfl, rfl⟩, by omega, by omega⟩
 ·exact readLocals_some f hf V F B p s fl u0 u1 w hv hs hl hp (hseg hl) hF hD
set_option maxRecDepth 20000 in
set_option maxHeartbeats 2000000 in
theorem readPrivate_c (f : FS) (hf : FOk f) (V F B : Nat) (s : ByteArray) (fl : FLay) (u0 u1 : Int) (w : World) (hv : w.heap[V]? = some (.cells #[.string s] 68 (0, 0))) (hs : s.size ≤ 1000000)
 (hpr : Seg s (atF f + (packI f.glyphs).size) (privF f)) (hseg : ¬ f.locals.length = 0 → Seg s (atF f + (packI f.glyphs).size + 18) (packI f.locals)) (hF : FontC w F fl u0 u1) (hz : fl.la = none ∧ fl.ln = 0 ∧ fl.lc = 0 ∧ fl.ld = none) (hD : DictIs w B (topD f)) :
 Calls Tryz.prog 23 #[.pointer (some ⟨F, 0, none⟩), .pointer (some ⟨V, 0, none⟩), .map (some B)] w fun e w' => ∃ a n c d, e = .returned (.int .i64 0) ∧ FontC w' F { fl with la := a, ln := n, lc := c, ld := d } f.w0 f.w1 ∧ IdxOk w' a n c d f.locals ∧ w.grownBy w' (some F) := by
 have HOK := Lib.hid hf
 have HV := Lib.hid hv
 have HS := Lib.hid hs
 have HF := Lib.hid hF
 have HZ := Lib.hid hz
 have HD := Lib.hid hD
 have HH := Lib.hid (has_c B (topD f) 18 w hD)
 rw [look_top18] at HH
 obtain ⟨p, HP⟩ : ∃ p, Hid (atF f + (packI f.glyphs).size = p) := ⟨_, rfl⟩
 obtain ⟨z, HZZ⟩ : ∃ z, Hid ((privF f).size = z) := ⟨_, rfl⟩
 have HK : Hid (lookD (topD f) 18 = some [((z : Nat) : Int), ((p : Nat) : Int)]) := by unfold Hid; rw [look_top18, HP.out, HZZ.out]
 have HPR := Lib.hid hpr
 have HSEG := Lib.hid hseg
 rw [HP.out] at HPR HSEG
 have HPZ : Hid (p + z ≤ s.size) := by have := HPR.out.1; rw [HZZ.out] at this; exact this
 have HP18 : Hid (p + 18 ≤ 1000000) := by have h1 := atF_le hf; have h2 := packI_le f.glyphs hf.n1.1 hf.n2.1; have := HP.out; unfold Hid; omega
 have HEX : Hid (s.extract p (p + z) = privF f) := by rw [← HZZ.out]; exact HPR.out.ext
 have HPS : Hid ((privF f).size ≤ 1000000) := by have := priv_size f; unfold Hid; rw [this]; split <;> omega
 clear hf hv hs hpr hseg hF hz hD
 go_enter Tryz.func23, Tryz.ntmps23
 go_wp2_with fail
 refine HH.out.mono ?_
 rintro e w1 ⟨rfl, hb1⟩
 have HB1 := Lib.hid hb1
 have HL := Lib.hid (last_c B (topD f) 18 2 _ w1 (HD.out.below hb1) HK.out rfl (by decide))
 clear hb1
 go_wp2_with fail
 refine HL.out.mono ?_
 rintro e w2 ⟨v, rfl, ⟨g, c, cs, fr, rfl, h2, h3, h4⟩, hb2⟩
 have k0 := blk_cell (blk_below h3 hb2) 0 _ (h4 0 _ rfl)
 have k1 := blk_cell (blk_below h3 hb2) 1 _ (h4 1 _ rfl)
 have HB2 := Lib.hid (bel_next HB1.out hb2)
 have HF2 := Lib.hid (HF.out.below HB2.out)
 have HV2 := Lib.hid (blk_below HV.out HB2.out)
 clear h2 h3 h4 hb2
 go_wp2_with fail
 go_big_quiet (fail)
 go_wp2_with fail
 have hvw := blk_cell HV2.out 0 (.string s) rfl
 refine (cut_yes V p z s (w2.drewN nq) hvw (by have := HS.out; omega) HPZ.out).mono ?_
 rintro e w3 ⟨rfl, hw3⟩
 rw [HEX.out] at hw3
 have hb3 : Below w2.heap.size w2 w3 := by rw [hw3]; exact bel_alloc (bel_drewN (Below.refl _ _) nq) _
 have HX3 : Hid (w3.heap[(w2.drewN nq).heap.size]? = some (.cells #[.string (privF f)] 68 (0, 0))) := by rw [hw3]; exact heap_alloc_new _ _
 have HB3 := Lib.hid (bel_next HB2.out hb3)
 have HF3 := Lib.hid (HF2.out.below hb3)
 have HV3 := Lib.hid (blk_below HV2.out hb3)
 clear hw3 hb3 hvw k0 k1
 generalize (w2.drewN nq).heap.size = vb at *
 go_wp2_with fail
 refine (readDict_c vb (privF f) (privT f) w3 HX3.out HPS.out (priv_text f) (priv_fit HOK.out)).mono ?_
 rintro e w4 ⟨B4, rfl, hd4, hb4⟩
 rw [priv_fold] at hd4
 have HD4 := Lib.hid hd4
 have HB4 := Lib.hid (bel_next HB3.out hb4)
 have HF4 := Lib.hid (HF3.out.below hb4)
 have HV4 := Lib.hid (blk_below HV3.out hb4)
 clear hd4 hb4
 go_wp2_with fail
 refine (readLocals_c f HOK.out V F B4 p s fl u0 u1 w4 HV4.out HS.out HP18.out HSEG.out HF4.out HZ.out HD4.out).mono ?_
 rintro e w5 ⟨a, n, c', d, rfl, hF5, hi5, hg5⟩
 have HD5 := Lib.hid (HD4.out.chg hg5 (typ_blk HF4.out) (by decide))
 have HF5 := Lib.hid hF5
 have HI5 := Lib.hid hi5
 have HG5 : Hid (w.grownBy w5 (some F)) := grown_trans (grown_bel _ HB4.out) hg5
 clear hF5 hi5 hg5
 go_wp2_with fail
 refine (number_one B4 (privD f) 20 0 f.w0 w5 HD5.out (look_priv20 f)).mono ?_
 rintro e w6 ⟨rfl, hb6⟩
 have HF6 := Lib.hid (HF5.out.below hb6)
 have q0 := blk_cell HF6.out 6 _ rfl
 have f0 := blk_free HF6.out 6
 have HG7 : Hid (w6.grownBy (w6.setCell ⟨F, 6, none⟩ (.int .i64 f.w0)) (some F)) := grown_set _ _ _ _
 have HF7 : Hid (FontC (w6.setCell ⟨F, 6, none⟩ (.int .i64 f.w0)) F { fl with la := a, ln := n, lc := c', ld := d } f.w0 u1) := blk_set HF6.out 6 (.int .i64 f.w0)
 have HI7 : Hid (IdxOk (w6.setCell ⟨F, 6, none⟩ (.int .i64 f.w0)) a n c' d f.locals) := (HI5.out.below hb6).chg HG7.out (typ_blk HF6.out) (by decide) (by decide)
 have HD7 : Hid (DictIs (w6.setCell ⟨F, 6, none⟩ (.int .i64 f.w0)) B4 (privD f)) := (HD5.out.below hb6).chg HG7.out (typ_blk HF6.out) (by decide)
 have HG7' : Hid (w.grownBy (w6.setCell ⟨F, 6, none⟩ (.int .i64 f.w0)) (some F)) := grown_trans (grown_trans HG5.out (grown_bel _ hb6)) HG7.out
 clear hb6
 go_wp2_with fail
 generalize (w6.setCell ⟨F, 6, none⟩ (.int .i64 f.w0)) = w7 at *
 clear q0 f0
 refine (number_one B4 (privD f) 21 0 f.w1 w7 HD7.out (look_priv21 f)).mono ?_
 rintro e w8 ⟨rfl, hb8⟩
 have HF8 := Lib.hid (HF7.out.below hb8)
 have q0 := blk_cell HF8.out 7 _ rfl
 have f0 := blk_free HF8.out 7
 have HG9 : Hid (w8.grownBy (w8.setCell ⟨F, 7, none⟩ (.int .i64 f.w1)) (some F)) := grown_set _ _ _ _
 have HF9 : Hid (FontC (w8.setCell ⟨F, 7, none⟩ (.int .i64 f.w1)) F { fl with la := a, ln := n, lc := c', ld := d } f.w0 f.w1) := blk_set HF8.out 7 (.int .i64 f.w1)
 have HI9 : Hid (IdxOk (w8.setCell ⟨F, 7, none⟩ (.int .i64 f.w1)) a n c' d f.locals) := (HI7.out.below hb8).chg HG9.out (typ_blk HF8.out) (by decide) (by decide)
 have HG9' : Hid (w.grownBy (w8.setCell ⟨F, 7, none⟩ (.int .i64 f.w1)) (some F)) := grown_trans (grown_trans HG7'.out (grown_bel _ hb8)) HG9.out
 clear hb8
 go_wp2_with fail
 go_ret
 exact ⟨a, n, c', d, rfl, HF9.out, HI9.out, HG9'.out⟩
theorem seg_byte {f t : ByteArray} {p : Nat} (h : Seg f p t) (i : Nat) (hi : i < t.size) (x : Int) (hx : bt t i = x) : numOr f ((p + i : Nat) : Int) 1 = (x, 0) := by
 have h1 := h.2 i hi
 have h0 := h.1
 have hs : Seg f (p + i) (t.extract i (i + 1)) := by
  refine ⟨by rw [ByteArray.size_extract]; omega, fun j hj => ?_⟩
  rw [ByteArray.size_extract] at hj
  have hj0 : j = 0 := by omega
  subst hj0
  rw [bt_extract t i (i + 1) 0 (by omega) (by omega), Nat.add_zero, Nat.add_zero]; exact h1
 exact num_one hs (by rw [ByteArray.size_extract]; omega) (by rw [bt_extract t i (i + 1) 0 (by omega) (by omega), Nat.add_zero]; exact hx)
def lists4 (f : FS) : Nat → List ByteArray
 | 0 => [⟨#[102]⟩]
 | 1 => [topF f]
 | 2 => []
 | _ => f.globals
def places4 (f : FS) : Nat → Nat
 | 0 => 4
 | 1 => 12
 | 2 => 36
 | 3 => 38
 | _ => 38 + (packI f.globals).size
theorem topF_size (f : FS) : (topF f).size = 17 := by unfold topF; simp only [ByteArray.size_append, intB_size]; rfl
theorem packTop_size (f : FS) : (packI [topF f]).size = 24 := by rw [packI_size]; simp [sizeN, topF_size]
theorem packNone_size : (packI []).size = 2 := rfl
theorem pack_parts (f : FS) : Seg (packF f) 0 ⟨#[1, 0, 4, 2]⟩ ∧ Seg (packF f) 4 (packI [⟨#[102]⟩]) ∧ Seg (packF f) 12 (packI [topF f]) ∧ Seg (packF f) 36 (packI []) ∧ Seg (packF f) 38 (packI f.globals) ∧ Seg (packF f) (atF f) (packI f.glyphs) ∧
 Seg (packF f) (atF f + (packI f.glyphs).size) (privF f) ∧ (¬ f.locals.length = 0 → Seg (packF f) (atF f + (packI f.glyphs).size + 18) (packI f.locals)) := by
 have h : Seg (packF f) 0 (packF f) := ⟨by omega, fun i _ => by rw [Nat.zero_add]⟩
 have hA : atF f = 0 + (headF ++ packI [topF f] ++ restF f).size := by unfold atF; simp only [ByteArray.size_append, packTop_size]; omega
 have h' := h
 unfold packF at h'
 have e : packF f = headF ++ packI [topF f] ++ restF f ++ packI f.glyphs ++ privF f ++ (if f.locals.length = 0 then ByteArray.empty else packI f.locals) := rfl
 rw [← e] at h'
 have g : Seg (packF f) 0 (headF ++ packI [topF f] ++ restF f ++ packI f.glyphs ++ privF f ++ (if f.locals.length = 0 then ByteArray.empty else packI f.locals)) := by rw [← e]; exact h
 have g1 := g.left
 have g2 := g1.left
 have g3 := g2.left
 have g4 := g3.left
 have g5 : Seg (packF f) 0 (⟨#[1, 0, 4, 2]⟩ ++ packI [⟨#[102]⟩]) := g4.left
 have hr : Seg (packF f) 36 (packI [] ++ packI f.globals) := by
  have := g3.right
  rw [ByteArray.size_append, headF_size, packTop_size] at this
  exact this
 refine ⟨g5.left, g5.right, ?_, hr.left, ?_, ?_, ?_, fun hl => ?_⟩
 ·have := g4.right; rw [headF_size] at this; exact this
 ·have := hr.right; rw [packNone_size] at this; exact this
 ·have := g2.right; rw [← hA] at this; exact this
 ·have := g1.right; rw [ByteArray.size_append, ← Nat.add_assoc, ← hA] at this; exact this
 ·have := g.right
  rw [if_neg hl] at this
  rw [ByteArray.size_append, ByteArray.size_append, ← Nat.add_assoc, ← Nat.add_assoc, ← hA, priv_size, if_neg hl] at this
  exact this
theorem pack_size {f : FS} (h : FOk f) : (packF f).size ≤ 1000000 := by
 have h1 := atF_le h
 have h2 := packI_le f.glyphs h.n1.1 h.n2.1
 have h3 := packI_le f.locals h.n1.2.1 h.n2.2.1
 have h4 : (privF f).size ≤ 18 := by rw [priv_size]; split <;> omega
 have hA : atF f = (headF ++ packI [topF f] ++ restF f).size := by unfold atF; simp only [ByteArray.size_append, packTop_size]
 unfold packF
 rw [ByteArray.size_append, ByteArray.size_append, ByteArray.size_append, ← hA]
 have h5 : (if f.locals.length = 0 then ByteArray.empty else packI f.locals).size ≤ 180005 := by
  split
  ·exact Nat.zero_le _
  ·exact h3
 omega
theorem pack_head {f : FS} (h : FOk f) : HeadF (packF f) (lists4 f) (places4 f) := by
 obtain ⟨p0, p1, p2, p3, p4, _⟩ := pack_parts f
 refine ⟨rfl, fun i hi => ?_, fun i hi => ?_, fun i hi => ?_, seg_byte p0 0 (by decide) 1 (by decide), seg_byte p0 2 (by decide) 4 (by decide)⟩
 ·match i, hi with
  | 0, _ => exact p1
  | 1, _ => exact p2
  | 2, _ => exact p3
  | 3, _ => exact p4
 ·match i, hi with
  | 0, _ => rfl
  | 1, _ => show 12 + (packI [topF f]).size = 36; rw [packTop_size]
  | 2, _ => rfl
  | 3, _ => rfl
 ·match i, hi with
  | 0, _ => exact ⟨by show 1 ≤ 60000; decide, by show 1 + 0 ≤ 60000; decide⟩
  | 1, _ => exact ⟨by show 1 ≤ 60000; decide, by show (topF f).size + 0 ≤ 60000; rw [topF_size]; decide⟩
  | 2, _ => exact ⟨by show 0 ≤ 60000; decide, by show 0 ≤ 60000; decide⟩
  | 3, _ => exact ⟨h.n1.2.2, h.n2.2.2⟩
end Go.Proofs.YtklenppldblbdaaGreat
namespace Go.Proofs.YtklenppldblbdaaGreat
open Go.RowKit Go.PlainAid Go.Maps
theorem mem_size (P : ByteArray) : ∀ l : List ByteArray, P ∈ l → P.size ≤ sizeN l
 | [], h => by simp at h
 | q :: r, h => by
   rw [sizeN]
   rcases List.mem_cons.1 h with rfl | h
   ·omega
   ·have := mem_size P r h; omega
theorem FOk.fit {f : FS} (h : FOk f) : FSFit f :=
 ⟨fun P hP => by have := mem_size P _ hP; have := h.n2.1; omega, fun P hP => by have := mem_size P _ hP; have := h.n2.2.1; omega, fun P hP => by have := mem_size P _ hP; have := h.n2.2.2; omega⟩
set_option maxRecDepth 20000 in
set_option maxHeartbeats 2000000 in
theorem open_c (f : FS) (hf : FOk f) (V : Nat) (w : World) (hv : w.heap[V]? = some (.cells #[.string (packF f)] 68 (0, 0))) :
 Calls Tryz.prog 13 #[.pointer (some ⟨V, 0, none⟩)] w fun e w' => ∃ F fl, e = .returned (.tuple #[.pointer (some ⟨F, 0, none⟩), .int .i64 0]) ∧ FontAt w' F fl f ∧ Below w.heap.size w w' := by
 obtain ⟨s, HSS⟩ : ∃ s, Hid (packF f = s) := ⟨_, rfl⟩
 have HOK := Lib.hid hf
 have HPP := Lib.hid (pack_parts f)
 have HS : Hid (s.size ≤ 1000000) := by have := pack_size hf; rwa [HSS.out] at this
 have HH := Lib.hid (pack_head hf)
 rw [HSS.out] at HPP HH hv
 have HV := Lib.hid hv
 have HL := Lib.hid (readHead_c V s (lists4 f) (places4 f) w hv HS.out HH.out)
 clear hf hv
 go_enter Tryz.func13, Tryz.ntmps13
 go_wp2_with fail
 refine HL.out.mono ?_
 rintro e w1 ⟨a, n, c, d, a3, n3, c3, d3, rfl, hi, hg, hb1⟩
 have HI1 := Lib.hid hi
 have HG1 := Lib.hid hg
 have HB1 := Lib.hid hb1
 clear hi hg hb1
 go_wp2_with fail
 obtain ⟨A, HA⟩ : ∃ A, Hid (w1.heap.size = A) := ⟨_, rfl⟩
 have hb2 : Below w1.heap.size w1 ((w1.alloc (.cells #[.slice a n c, .pointer d] 57)).alloc (.cells #[.slice a3 n3 c3, .pointer d3] 57)) := bel_alloc ((Below.refl _ _).alloc (Nat.le_refl _) _) _
 have HI2 := Lib.hid (HI1.out.below hb2)
 have HG2 := Lib.hid (HG1.out.below hb2)
 have HY2 : Hid (((w1.alloc (.cells #[.slice a n c, .pointer d] 57)).alloc (.cells #[.slice a3 n3 c3, .pointer d3] 57)).heap[A + 1]? = some (.cells #[.slice a3 n3 c3, .pointer d3] 57 (0, 0))) := by rw [← HA.out]; exact heap_alloc2_new w1 _ _
 have HB2 := Lib.hid (bel_next HB1.out hb2)
 rw [HA.out]
 generalize ((w1.alloc (.cells #[.slice a n c, .pointer d] 57)).alloc (.cells #[.slice a3 n3 c3, .pointer d3] 57)) = w2 at *
 clear HI1 HG1 HB1 hb2
 refine (readTop_c f HOK.out a n c d w2 HI2.out).mono ?_
 rintro e w3 ⟨B, rfl, hd3, hb3⟩
 have HD3 := Lib.hid hd3
 have HY3 := Lib.hid (blk_below HY2.out hb3)
 have HG3 := Lib.hid (HG2.out.below hb3)
 have HB3 := Lib.hid (bel_next HB2.out hb3)
 have q0 := blk_cell HY3.out 0 _ rfl
 have q1 := blk_cell HY3.out 1 _ rfl
 have hb4 : Below w3.heap.size w3 (w3.alloc (.cells #[.slice none 0 0, .pointer none, .slice a3 n3 c3, .pointer d3, .slice none 0 0, .pointer none, .int .i64 0, .int .i64 0] 59)) := (Below.refl _ _).alloc (Nat.le_refl _) _
 have HF4 : Hid (FontC (w3.alloc (.cells #[.slice none 0 0, .pointer none, .slice a3 n3 c3, .pointer d3, .slice none 0 0, .pointer none, .int .i64 0, .int .i64 0] 59)) w3.heap.size ⟨none, 0, 0, none, a3, n3, c3, d3, none, 0, 0, none⟩ 0 0) := heap_alloc_new w3 _
 have HD4 := Lib.hid (HD3.out.below hb4)
 have HG4 := Lib.hid (HG3.out.below hb4)
 have HB4 := Lib.hid (bel_next HB3.out hb4)
 have HFW : Hid (w.heap.size ≤ w3.heap.size) := HB3.out.size
 clear hd3 hb3 hb4
 go_wp2_with fail
 generalize (w3.alloc (.cells #[.slice none 0 0, .pointer none, .slice a3 n3 c3, .pointer d3, .slice none 0 0, .pointer none, .int .i64 0, .int .i64 0] 59)) = w4 at *
 generalize w3.heap.size = F at *
 clear q0 q1
 refine (readPrograms_c f HOK.out V F B s _ 0 0 w4 (blk_below HV.out HB4.out) HS.out HPP.out.2.2.2.2.2.1 HF4.out HD4.out).mono ?_
 rintro e w5 ⟨pa, pn, pc, pd, rfl, hF5, hi5, hg5⟩
 have ht4 := typ_blk HF4.out
 have HD5 := Lib.hid (HD4.out.chg hg5 ht4 (by decide))
 have HG5 := Lib.hid (HG4.out.chg hg5 ht4 (by decide) (by decide))
 have HV5 := Lib.hid (blk_chg (blk_below HV.out HB4.out) hg5 ht4 (by decide))
 have HB5 := Lib.hid (grown_below HB4.out hg5 HB4.out.size HFW.out)
 have HF5 := Lib.hid hF5
 have HP5 := Lib.hid hi5
 clear hF5 hi5 hg5 ht4
 go_wp2_with fail
 refine (readPrivate_c f HOK.out V F B s _ 0 0 w5 HV5.out HS.out HPP.out.2.2.2.2.2.2.1 HPP.out.2.2.2.2.2.2.2 HF5.out ⟨rfl, rfl, rfl, rfl⟩ HD5.out).mono ?_
 rintro e w6 ⟨la, ln, lc, ld, rfl, hF6, hi6, hg6⟩
 have ht5 := typ_blk HF5.out
 have HG6 := Lib.hid (HG5.out.chg hg6 ht5 (by decide) (by decide))
 have HP6 := Lib.hid (HP5.out.chg hg6 ht5 (by decide) (by decide))
 have HB6 := Lib.hid (grown_below HB5.out hg6 HB5.out.size HFW.out)
 have HF6 := Lib.hid hF6
 have HL6 := Lib.hid hi6
 clear hF6 hi6 hg6 ht5
 go_wp2_with fail
 go_ret2
 have hb : ∀ {x : Nat}, x ≤ 60001 → x ≤ 100000 := fun h => by omega
 exact ⟨F, _, rfl, ⟨HF6.out, ⟨HP6.out.1, hb HP6.out.2.1, HP6.out.2.2⟩, ⟨HG6.out.1, hb HG6.out.2.1, HG6.out.2.2⟩, ⟨HL6.out.1, hb HL6.out.2.1, HL6.out.2.2⟩, by have := HOK.out.w1; omega, HOK.out.fit⟩, HB6.out⟩
end Go.Proofs.YtklenppldblbdaaGreat
namespace Go.Proofs.YtklenppldblbdaaGreat
open Go.RowKit Go.PlainAid Go.Maps
set_option maxRecDepth 20000 in
set_option maxHeartbeats 1000000 in
theorem lawOpen_c (f : FS) (hf : FOk f) (a : Option Addr) (c : Nat) (w : World) (hB : IsB w a (packF f).size c (packF f)) :
 Calls Tryz.prog 6 #[.slice a (packF f).size c] w fun e w' => ∃ F fl, e = .returned (.tuple #[.pointer (some ⟨F, 0, none⟩), .int .i64 0]) ∧ FontAt w' F fl f ∧ Below w.heap.size w w' := by
 have HOK := Lib.hid hf
 have HBB := Lib.hid hB
 have HS := Lib.hid (pack_size hf)
 obtain ⟨s, HSS⟩ : ∃ s, Hid (packF f = s) := ⟨_, rfl⟩
 rw [HSS.out] at HBB HS ⊢
 clear hf hB
 go_enter Tryz.func6, Tryz.ntmps6
 go_wp2_with (at_builtin; refine wpList_copy rfl _ _ rfl w a s.size c s rfl rfl HBB.out (by have := HS.out; omega) ?_; intro g1 c1 w1 ho1 hb1)
 have HI1 := Lib.hid (isB_of_owns ho1)
 have HB1 := Lib.hid hb1
 clear ho1 hb1
 refine (new_c (some ⟨g1, 0, none⟩) s.size c1 s w1 HI1.out).mono ?_
 rintro e w2 ⟨rfl, hw2⟩
 have hb2 : Below w1.heap.size w1 w2 := by rw [hw2]; exact (Below.refl _ _).alloc (Nat.le_refl _) _
 have HV2 : Hid (w2.heap[w1.heap.size]? = some (.cells #[.string s] 68 (0, 0))) := by rw [hw2]; exact heap_alloc_new _ _
 have HB2 := Lib.hid (bel_next HB1.out hb2)
 generalize w1.heap.size = V at *
 clear hw2 hb2
 go_wp2_with fail
 have hv := HV2.out
 rw [← HSS.out] at hv
 refine (open_c f HOK.out V w2 hv).mono ?_
 rintro e w3 ⟨F, fl, rfl, hF, hb3⟩
 have HF3 := Lib.hid hF
 have HB3 := Lib.hid (bel_next HB2.out hb3)
 clear hF hb3 hv
 go_wp2_with fail
 go_ret2
 exact ⟨F, fl, rfl, HF3.out, HB3.out⟩
end Go.Proofs.YtklenppldblbdaaGreat
