/-
  What the document's Table answers, and that a table of groups is read as its groups.
-/
import Derived.Test.YtfbgddigedgpfaaDoorCmO
import Derived.Test.YtfbgddigedgpfaaDoorCmP
namespace Go.Proofs.YtfbgddigedgpfaaDoor
open Go.RowKit Go.PlainAid
set_option linter.unusedSimpArgs false
set_option linter.unusedVariables false

/-- A table with one subtable. -/
def tableB (p q : Int) (S : ByteArray) : ByteArray := twoB [0, 1, p, q] ++ at12 ++ S
theorem tableB_size (p q : Int) (S : ByteArray) : (tableB p q S).size = 12 + S.size := by
  simp only [tableB, ByteArray.size_append, twoB_size]; rfl

set_option maxHeartbeats 2000000 in
theorem table_c (p q : Int) (a : Option Addr) (cap : Nat) (S : ByteArray) (w : World) (hB : IsB w a S.size cap S) (hS : S.size ≤ 1000000) (hp : 0 ≤ p ∧ p ≤ 65535) (hq : 0 ≤ q ∧ q ≤ 65535) :
    Calls Tryd.prog 8 #[.int .i64 p, .int .i64 q, .slice a S.size cap] w (RowPost (tableB p q S) w) := by
  have HB := Lib.hid hB
  have HS := Lib.hid hS
  have HPQ := Lib.hid (And.intro hp hq)
  have hb0 := (Below.refl w.heap.size w).alloc (Nat.le_refl _) (.cells #[.int .i64 0, .int .i64 1, .int .i64 p, .int .i64 q] 3)
  have HB0 := Lib.hid hb0
  have HI0 : Hid (IsI (w.alloc (.cells #[.int .i64 0, .int .i64 1, .int .i64 p, .int .i64 q] 3)) (some ⟨w.heap.size, 0, none⟩) 4 4 [0, 1, p, q]) := (intsAt_alloc w [0, 1, p, q]).isI rfl 4
  have HZ8 : Hid ((twoB [0, 1, p, q]).size = 8) := by unfold Hid; rw [twoB_size]; rfl
  clear hB hS hp hq hb0
  go_enter Tryd.func8, Tryd.ntmps8
  go_wp2_with fail
  generalize (w.alloc (.cells #[.int .i64 0, .int .i64 1, .int .i64 p, .int .i64 q] 3)) = w0 at *
  refine (two_c (some ⟨w.heap.size, 0, none⟩) 4 4 [0, 1, p, q] w0 HI0.out (by decide) (fun x hx => by have := HPQ.out; simp at hx; omega)).mono ?_
  rintro e w1 ⟨g1, c1, rfl, ho1, hb1⟩
  have HF1 : Hid (F12 w g1 c1 (twoB [0, 1, p, q]) w1) := ⟨HB0.out.trans (hb1.mono HB0.out.size), owns_base ho1 HB0.out.size⟩
  have hba := (Below.refl w1.heap.size w1).alloc (Nat.le_refl _) (.cells #[.int .u8 0, .int .u8 0, .int .u8 0, .int .u8 12] 5)
  have HF2 := Lib.hid (HF1.out.below hba)
  clear ho1 hb1 hba
  have HE : Hid ((twoB [0, 1, p, q] ++ at12 ++ S).size = 8 + 4 + S.size) := by unfold Hid; rw [ByteArray.size_append, ByteArray.size_append, HZ8.out]; rfl
  go_wp2_with (first
    | (at_builtin; refine wpList_add rfl _ _ rfl (w1.alloc (.cells #[.int .u8 0, .int .u8 0, .int .u8 0, .int .u8 12] 5)) w.heap.size g1 c1 (twoB [0, 1, p, q]) at12 (some ⟨w1.heap.size, 0, none⟩) 4 8 4 HZ8.out.symm rfl rfl rfl HF2.out.own (isB_at12 w1) (by rw [HZ8.out]; decide) HF2.out.bel.size ?_; intro g3 c3 w3 ho3 hg3 hat3; have HF3 := Lib.hid (HF2.out.add ho3 hg3); clear ho3 hg3 hat3)
    | (at_builtin; refine wpList_add rfl _ _ rfl w3 w.heap.size g3 c3 (twoB [0, 1, p, q] ++ at12) S a cap 12 S.size (by rw [ByteArray.size_append, HZ8.out]; rfl) rfl rfl rfl HF3.out.own (HB.out.below HF3.out.bel) (by rw [ByteArray.size_append, HZ8.out]; have := HS.out; have : at12.size = 4 := rfl; omega) HF3.out.bel.size ?_; intro g4 c4 w4 ho4 hg4 hat4; have HF4 := Lib.hid (HF3.out.add ho4 hg4); clear ho4 hg4 hat4))
  go_ret
  refine ⟨g4, c4, ?_, HF4.out.own, HF4.out.bel⟩
  show _ = Ending.returned (.slice (some ⟨g4, 0, none⟩) (twoB [0, 1, p, q] ++ at12 ++ S).size c4)
  rw [HE.out]
  rfl

theorem numN_cut (s : ByteArray) (a b i : Nat) (hb : b ≤ s.size) : ∀ k, a + i + k ≤ b → numN (s.extract a b) i k = numN s (a + i) k
  | 0, _ => rfl
  | k + 1, h => by rw [numN, numN, numN_cut s a b i hb k (by omega), bt_extract s a b (i + k) hb (by omega), Nat.add_assoc]
theorem numOr_cut (s : ByteArray) (a b i n : Nat) (hb : b ≤ s.size) (h : a + i + n ≤ b) : numOr (s.extract a b) (i : Int) (n : Int) = numOr s ((a + i : Nat) : Int) (n : Int) := by
  have hz : (s.extract a b).size = b - a := by rw [ByteArray.size_extract]; omega
  unfold numOr
  rw [if_pos (by simp [hasB, hz]; omega), if_pos (by simp [hasB]; omega)]
  simp only [Int.toNat_natCast]
  rw [numN_cut s a b i hb n h]

theorem grps_seg (f : Nat → Int) : ∀ M m, m < M → Seg (grpsB f M) (4 * m) (bigB (f m) 4)
  | 0, m, h => by omega
  | M + 1, m, h => by
    by_cases e : m = M
    · subst e
      have := (seg_self (grpsB f (m + 1))).right
      rwa [grpsB_size, Nat.zero_add] at this
    · have h1 : Seg (grpsB f (M + 1)) 0 (grpsB f M) := (seg_self (grpsB f (M + 1))).left
      have := h1.trans (grps_seg f M m (by omega))
      rwa [Nat.zero_add] at this

section
variable {form : Int} {n : Nat} {f : Nat → Int}
theorem head_seg (form : Int) (n : Nat) (f : Nat → Int) (M : Nat) : Seg (form12B form n f M) 0 (twoB [form, 0]) ∧ Seg (form12B form n f M) 12 (bigB (n : Int) 4) ∧ Seg (form12B form n f M) 16 (grpsB f M) := by
  have h0 := seg_self (form12B form n f M)
  have hh : Seg (form12B form n f M) 0 (head12 form n) := h0.left
  have hg : Seg (form12B form n f M) (0 + (head12 form n).size) (grpsB f M) := h0.right
  rw [head12_size, Nat.zero_add] at hg
  have h1 : Seg (form12B form n f M) 0 (twoB [form, 0] ++ bigB (16 + 12 * (n : Int)) 4 ++ zeros4) := hh.left
  have h2 : Seg (form12B form n f M) (0 + (twoB [form, 0] ++ bigB (16 + 12 * (n : Int)) 4 ++ zeros4).size) (bigB (n : Int) 4) := hh.right
  have e : (twoB [form, 0] ++ bigB (16 + 12 * (n : Int)) 4 ++ zeros4).size = 12 := by simp only [ByteArray.size_append, bigB_size, twoB_size]; rfl
  rw [e, Nat.zero_add] at h2
  exact ⟨h1.left.left, h2, hg⟩
theorem num_grp (form : Int) (n : Nat) (f : Nat → Int) (M m : Nat) (hm : m < M) (h0 : 0 ≤ f m) (h1 : f m ≤ 4294967295) : numOr (form12B form n f M) ((16 + 4 * m : Nat) : Int) 4 = (f m, 0) :=
  num_big4 ((head_seg form n f M).2.2.trans (grps_seg f M m hm)) h0 h1
end

end Go.Proofs.YtfbgddigedgpfaaDoor
