/-
  appendNumbers of package glyf: numbers of two bytes behind a row of bytes; slices.Concat of one row of knots.
-/
import Derived.Test.YtllbegmgknlaiaaEnA
namespace Go.Proofs.Ytllbegmgknlaiaa
open Go.RowKit Go.PlainAid
set_option linter.unusedSimpArgs false
set_option linter.unusedVariables false

/-- Numbers that lie in a block from its first cell on. -/
def IntsIn (w : World) (b : Nat) (L : List Int) : Prop := ∀ (i : Nat) (x : Int), L[i]? = some x → w.cell? ⟨b, i, none⟩ = some (.int .i64 x)
theorem IntsAt.ins {w : World} {b : Nat} {L : List Int} (h : IntsAt w b L) : IntsIn w b L := by
  intro i x hx
  have hi := (List.getElem?_eq_some_iff.1 hx).1
  have := h.cell hi
  simp [List.getD, hx] at this
  exact this
theorem two_cells (x : Int) : cellsOfStr (bigB ((if x < 0 then x + 65536 else x) % 65536) 2) = [.int .u8 (x / 256 % 256), .int .u8 (x % 256)] := by
  have e : ∀ y : Int, lowL y 2 = [y / 256 % 256, y % 256] := fun y => by rw [lowL_snoc, lowL_snoc]; rfl
  rw [← bytesL_cells, bytesL_big, e]
  have h1 : (if x < 0 then x + 65536 else x) % 65536 / 256 % 256 = x / 256 % 256 := by split <;> omega
  have h2 : (if x < 0 then x + 65536 else x) % 65536 % 256 = x % 256 := by split <;> omega
  rw [h1, h2]
  rfl
theorem own_some {w : World} {B : Nat} {e : TypeId} {s n : Nat} {a : Option Addr} {c : Nat} {xs : List Value} (h : w.ownsRow B e s (.slice a n c) n xs) (hn : 0 < n) : ∃ g, a = some ⟨g, 0, none⟩ := by
  rcases h.2 with ⟨hv, h0⟩ | ⟨g, cap, cur, hv, _⟩
  · omega
  · cases hv; exact ⟨g, rfl⟩
/-- What appendNumbers answers. -/
def AppPost (w : World) (B : Nat) (s : ByteArray) (e : Ending) (w' : World) : Prop := ∃ g c, e = .returned (.slice (some ⟨g, 0, none⟩) s.size c) ∧ OwnB B w' g c s ∧ Below B w w'

set_option maxRecDepth 20000 in
set_option maxHeartbeats 2000000 in
theorem appNums_c (B b : Nat) (a : Option Addr) (c cap m : Nat) (s : ByteArray) (L : List Int) (w : World) (hm : L.length = m) (ho : w.ownsRow B 5 1 (.slice a s.size c) s.size (cellsOfStr s)) (hi : IntsIn w b L) (hb : (Value.slice a s.size c).ownBlock ≠ some b)
    (hL : ∀ x ∈ L, -32768 ≤ x ∧ x ≤ 65535) (hz : s.size + 2 * L.length ≤ 100000) (hB : B ≤ w.heap.size) (hne : 0 < m) :
    Calls Try.prog 19 #[.slice a s.size c, .slice (some ⟨b, 0, none⟩) m cap] w (AppPost w B (s ++ twoB L)) := by
  have HM := Lib.hid hm
  have HO := Lib.hid ho
  have HI := Lib.hid hi
  have HBb := Lib.hid hb
  have HL := Lib.hid hL
  have HZ := Lib.hid hz
  have HB := Lib.hid hB
  have HNE := Lib.hid hne
  obtain ⟨n, HN⟩ : ∃ n, Hid (s.size = n) := ⟨_, rfl⟩
  rw [HN.out]
  clear hm ho hi hb hL hz hB hne
  go_enter Try.func19, Try.ntmps19
  go_wp2_with fail
  go_loopw [0, 9] (fun v x wr => ∃ j : Nat, ∃ a' c', j ≤ m ∧ v = .slice a' (n + 2 * j) c' ∧ x = .int .i64 j ∧ Hid (wr.ownsRow B 5 1 (.slice a' (n + 2 * j) c') (n + 2 * j) (cellsOfStr (s ++ twoB (L.take j)))) ∧ Hid ((Value.slice a' (n + 2 * j) c').ownBlock ≠ some b) ∧ Hid (IntsIn wr b L) ∧ Hid (B ≤ wr.heap.size) ∧ Hid (Below B w wr)) (fun _ x _ => m - (intOf x).toNat)
  case atStart => exact ⟨0, a, c, Nat.zero_le _, rfl, rfl, by have := HO.out; rw [HN.out] at this; rw [List.take_zero, twoB, ByteArray.append_empty]; exact this, by have := HBb.out; rw [HN.out] at this; exact this, HI, HB, Below.refl _ _⟩
  case round =>
    obtain ⟨j, a', c', hj, rfl, rfl, HO1, HB1, HI1, HS1, HW1⟩ := hrel
    by_cases hlt : j < m
    · have hlt' : (j : Int) < (m : Int) := by omega
      have hx : L[j]? = some (L.getD j 0) := by simp [List.getD, show j < L.length by have := HM.out; omega]
      have hck := HI1.out j _ hx
      have HT : Hid (L.take (j + 1) = L.take j ++ [L.getD j 0]) := by unfold Hid; rw [List.take_add_one, hx]; rfl
      have HXB := Lib.hid (HL.out _ (List.mem_of_getElem? hx))
      generalize L.getD j 0 = x at *
      clear hx
      have HOA := Lib.hid (HO1.out.alloc (.cells #[.int .u8 (x / 256 % 256), .int .u8 (x % 256)] 5))
      have HLI := Lib.hid (lies_new (w := wr) (cs := #[.int .u8 (x / 256 % 256), .int .u8 (x % 256)]) (T := 5))
      have HJ := Lib.hid hlt
      have HX := Lib.hid (next64 (j := j) (by have := HZ.out; have := HM.out; omega))
      have HQ : Hid (n + 2 * j + 2 ≤ 100000) := by have := HZ.out; have := HM.out; have := HN.out; unfold Hid; omega
      go_wp2_with (at_builtin; refine wpList_appA elB rfl _ _ rfl (wr.alloc (.cells #[.int .u8 (x / 256 % 256), .int .u8 (x % 256)] 5)) B a' (n + 2 * j) c' (cellsOfStr (s ++ twoB (L.take j))) wr.heap.size 2 2 [.int .u8 (x / 256 % 256), .int .u8 (x % 256)] rfl rfl HOA.out rfl HLI.out (by simp [Value.oneCell']) (by decide) (by have := HQ.out; omega) (by have := HQ.out; omega) (by have := HS1.out; simp; omega) ?_; intro g2 c2 w2 o2 k2 hat2)
      have HO2 : Hid (w2.ownsRow B 5 1 (.slice (some ⟨g2, 0, none⟩) (n + 2 * (j + 1)) c2) (n + 2 * (j + 1)) (cellsOfStr (s ++ twoB (L.take (j + 1))))) := by
        unfold Hid
        rw [HT.out, twoB_snoc, ← join_assoc, cellsOfStr_join, two_cells, show n + 2 * (j + 1) = n + 2 * j + 2 by omega]
        exact o2
      have hbl := World.block_lt_of_cell? wr _ hck
      have HB2 : Hid ((Value.slice (some ⟨g2, 0, none⟩) (n + 2 * (j + 1)) c2).ownBlock ≠ some b) := by
        intro e
        have e2 : g2 = b := by simpa [Value.ownBlock] using e
        rcases hat2 with h | h
        · exact HB1.out (by rw [h, e2])
        · simp at h; simp at hbl; omega
      have HI2 : Hid (IntsIn w2 b L) := fun i y hy => by
        have h1 := HI1.out i y hy
        have h2 := keepC ((Below.refl wr.heap.size wr).alloc (Nat.le_refl _) (.cells #[.int .u8 (x / 256 % 256), .int .u8 (x % 256)] 5)) h1
        rw [World.cell?_of_block (w := wr.alloc (.cells #[.int .u8 (x / 256 % 256), .int .u8 (x % 256)] 5)) (k2.block b (World.block_lt_of_cell? _ _ h2) (fun e => HB1.out e.symm))]
        exact h2
      have HS2 : Hid (B ≤ w2.heap.size) := by have := HS1.out; have := k2.size; simp at this; unfold Hid; omega
      have HW2 : Hid (Below B w w2) := (HW1.out.alloc HS1.out _).grown k2 (by have := HS1.out; simp; omega) (fun k hk => (HO1.out.lt k hk).1)
      clear o2 k2 hat2 hbl hck hlt
      go_wp2_with fail
      go_roundw
      case rel => exact ⟨j + 1, some ⟨g2, 0, none⟩, c2, HJ.out, by rw [show n + 2 * (j + 1) = n + 2 * j + 2 by omega], by rw [HX.out], HO2, HB2, HI2, HS2, HW2⟩
      case measure => rw [HX.out]; have := HJ.out; simp only [intOf]; omega
    · have hlt' : ¬ (j : Int) < (m : Int) := by omega
      have e : j = m := by omega
      subst e
      have HE : Hid (L.take j = L) := by unfold Hid; exact List.take_of_length_le (by rw [HM.out]; omega)
      obtain ⟨g, rfl⟩ := own_some HO1.out (by have := HNE.out; omega)
      have HSZ : Hid ((s ++ twoB L).size = n + 2 * j) := by unfold Hid; rw [ByteArray.size_append, twoB_size, HN.out, HM.out]
      clear hlt hj
      go_wp2_with fail
      go_ret
      have h1 := HO1.out
      rw [HE.out, ← HSZ.out] at h1
      exact ⟨g, c', by rw [HSZ.out]; rfl, h1, HW1.out⟩

set_option maxRecDepth 20000 in
set_option maxHeartbeats 2000000 in
theorem concat1_c (g h c ch : Nat) (w : World) (hc : w.cell? ⟨g, 0, none⟩ = some (.slice (some ⟨h, 0, none⟩) 3 ch)) (ht : Lies w h 0 (triK.flatMap clK)) :
    Calls Try.prog 18 #[.slice (some ⟨g, 0, none⟩) 1 c] w fun e w' => ∃ g' c', e = .returned (.slice (some ⟨g', 0, none⟩) 3 c') ∧ Tri w' g' ∧ Below w.heap.size w w' := by
  have HC := Lib.hid hc
  have HL := Lib.hid ht
  clear ht
  go_enter Try.func18, Try.ntmps18
  go_wp2_with fail
  refine wp_loop_rounds 2 ?_
  rw [rounds_succ]
  go_wp2_with fail
  rw [rounds_succ]
  go_wp2_with fail
  refine (grow_some 3 _ (by rfl) w (by omega) (by omega)).mono ?_
  rintro e w1 ⟨c0, rfl, hc0, ho, hb⟩
  have HO := Lib.hid ho
  have HB := Lib.hid hb
  have s0 := keepC hb hc
  clear ho hb hc0 hc
  go_wp2_with fail
  refine wp_loop_rounds 2 ?_
  rw [rounds_succ]
  go_wp2_with (at_builtin; refine wpList_app elK rfl _ _ rfl w1 w.heap.size w.heap.size c0 0 [] (some ⟨h, 0, none⟩) 3 ch (triK.flatMap clK) rfl rfl HO.out rfl (.inr ⟨h, 0, rfl, HL.out.below HB.out⟩) clK_one (by omega) (by omega) HB.out.size ?_; intro g2 c2' w2 ho2 hg2 hat2)
  have HB2 : Hid (Below w.heap.size w w2) := HB.out.grown hg2 HB.out.size (fun k hk => by cases hk; exact Nat.le_refl _)
  have HT2 : Hid (Tri w2 g2) := tri_of (own_lies (by simpa using ho2))
  clear ho2 hg2 hat2 s0
  rw [rounds_succ]
  go_wp2_with fail
  go_ret
  exact ⟨g2, c2', rfl, HT2.out, HB2.out⟩

end Go.Proofs.Ytllbegmgknlaiaa
