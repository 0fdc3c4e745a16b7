/-
  What count, piece and bias answer; the list of pieces in memory.
-/
import Derived.Test.YtklenppldblbdaaTe
import Derived.Test.YtklenppldblbdaaTf
import Derived.BigQuiet
import Derived.Deep.QuietTactic
namespace Go.Proofs.Ytklenppldblbdaa
open Go.RowKit Go.PlainAid
set_option linter.unusedSimpArgs false
set_option linter.unusedVariables false

/-- The offsets of pieces, the first one at t. -/
def offsL : List ByteArray → Int → List Int
  | [], t => [t]
  | p :: r, t => t :: offsL r (t + p.size)

/-- The list of pieces lies there: no offsets, or the offsets and the text that they count in. -/
def IdxIs (w : World) (a : Option Addr) (n c : Nat) (d : Option Addr) (Ps : List ByteArray) : Prop :=
  (Ps = [] ∧ n = 0) ∨ ∃ ob vb s cs fr, a = some ⟨ob, 0, none⟩ ∧ d = some ⟨vb, 0, none⟩ ∧ n = Ps.length + 1 ∧ w.heap[ob]? = some (.cells cs 3 fr) ∧ w.heap[vb]? = some (.cells #[.string s] 63 (0, 0)) ∧ s.size ≤ 1000000 ∧
    ∀ (i : Nat) (P : ByteArray), Ps[i]? = some P → ∃ o : Nat, cs[i]? = some (.int .i64 (o : Int)) ∧ cs[i + 1]? = some (.int .i64 ((o + P.size : Nat) : Int)) ∧ o + P.size ≤ s.size ∧ s.extract o (o + P.size) = P

theorem IdxIs.below {w w' : World} {a : Option Addr} {n c : Nat} {d : Option Addr} {Ps : List ByteArray} (h : IdxIs w a n c d Ps) (hb : Below w.heap.size w w') : IdxIs w' a n c d Ps := by
  rcases h with h | ⟨ob, vb, s, cs, fr, h1, h2, h3, h4, h5, h6⟩
  · exact .inl h
  · exact .inr ⟨ob, vb, s, cs, fr, h1, h2, h3, blk_below h4 hb, blk_below h5 hb, h6⟩

theorem IdxIs.count {w : World} {a : Option Addr} {n c : Nat} {d : Option Addr} {Ps : List ByteArray} (h : IdxIs w a n c d Ps) : n - 1 = Ps.length := by
  rcases h with h | ⟨ob, vb, s, cs, fr, h1, h2, h3, _⟩
  · rw [h.1, h.2]; rfl
  · omega

set_option maxHeartbeats 400000 in
theorem count_c (a : Option Addr) (n c : Nat) (d : Value) (w : World) (hn : n ≤ 100000) :
    Calls Try.prog 21 #[.agg #[.slice a n c, d]] w fun e w' => e = .returned (.int .i64 ((n - 1 : Nat) : Int)) ∧ Below w.heap.size w w' := by
  by_cases h : 2 ≤ n
  · have HE : Hid (((n - 1 : Nat) : Int) = (n : Int) - 1) := by unfold Hid; omega
    have h1 : (0 : Int) < (n : Int) - 1 := by omega
    have h3 : ¬ (n : Int) ≤ 1 := by omega
    go_enter Try.func21, Try.ntmps21
    go_wp2_with fail
    all_goals first
      | (go_ret; rw [HE.out]; exact ⟨rfl, (Below.refl _ _).alloc (Nat.le_refl _) _⟩)
      | (exfalso; omega)
  by_cases h1 : n = 1
  · subst h1
    go_enter Try.func21, Try.ntmps21
    go_wp2_with fail
    go_ret
    exact ⟨rfl, (Below.refl _ _).alloc (Nat.le_refl _) _⟩
  · obtain rfl : n = 0 := by omega
    go_enter Try.func21, Try.ntmps21
    go_wp2_with fail
    go_ret
    exact ⟨rfl, (Below.refl _ _).alloc (Nat.le_refl _) _⟩

theorem biasN_bound (n : Nat) : 107 ≤ biasN n ∧ biasN n ≤ 32768 := by unfold biasN; split; { omega }; { split <;> omega }

set_option maxHeartbeats 400000 in
theorem bias_c (n : Nat) (w : World) (hn : n ≤ 100000) :
    Calls Try.prog 62 #[.int .i64 (n : Int)] w fun e w' => e = .returned (.int .i64 (biasN n)) ∧ w = w' := by
  by_cases h1 : n < 1240
  · have HE : Hid (biasN n = 107) := by unfold Hid biasN; rw [if_pos h1]
    have z : (n : Int) < 1240 := by omega
    rw [HE.out]
    go_enter Try.func62, Try.ntmps62
    go_wp2_with fail
    go_ret
    exact ⟨rfl, rfl⟩
  · by_cases h2 : n < 33900
    · have HE : Hid (biasN n = 1131) := by unfold Hid biasN; rw [if_neg h1, if_pos h2]
      have z : ¬ (n : Int) < 1240 := by omega
      have z2 : (n : Int) < 33900 := by omega
      rw [HE.out]
      go_enter Try.func62, Try.ntmps62
      go_wp2_with fail
      go_ret
      exact ⟨rfl, rfl⟩
    · have HE : Hid (biasN n = 32768) := by unfold Hid biasN; rw [if_neg h1, if_neg h2]
      have z : ¬ (n : Int) < 1240 := by omega
      have z2 : ¬ (n : Int) < 33900 := by omega
      rw [HE.out]
      go_enter Try.func62, Try.ntmps62
      go_wp2_with fail
      go_ret
      exact ⟨rfl, rfl⟩

set_option maxRecDepth 20000 in
set_option maxHeartbeats 1000000 in
theorem piece_c (a : Option Addr) (n c : Nat) (d : Option Addr) (Ps : List ByteArray) (i : Nat) (P : ByteArray) (w : World) (h : IdxIs w a n c d Ps) (hi : Ps[i]? = some P) (hn : n ≤ 100000) (hc : n ≤ c) :
    Calls Try.prog 20 #[.agg #[.slice a n c, .pointer d], .int .i64 (i : Int)] w fun e w' => (∃ v, e = .returned (.pointer (some ⟨v, 0, none⟩)) ∧ w.heap.size ≤ v ∧ w'.heap[v]? = some (.cells #[.string P] 63 (0, 0))) ∧ Below w.heap.size w w' := by
  have hil := (List.getElem?_eq_some_iff.1 hi).1
  rcases h with h | ⟨ob, vb, s, cs, fr, rfl, rfl, rfl, h4, h5, h6, h7⟩
  · rw [h.1] at hil; simp at hil
  obtain ⟨o, o1, o2, o3, o4⟩ := h7 i P hi
  have c0 : w.cell? ⟨ob, i, none⟩ = some (.int .i64 (o : Int)) := by simp only [World.cell?, h4]; exact o1
  have c1 : w.cell? ⟨ob, i + 1, none⟩ = some (.int .i64 ((o + P.size : Nat) : Int)) := by simp only [World.cell?, h4]; exact o2
  have hlt : ob < w.heap.size := blk_lt h4
  have HV := Lib.hid h5
  have HP := Lib.hid (And.intro o3 (And.intro h6 o4))
  have b0 : (0 : Int) ≤ (i : Int) := by omega
  have b1 : (i : Int) < (Ps.length : Int) + 1 := by omega
  have b2 : (i : Int) + 1 < (Ps.length : Int) + 1 := by omega
  have b3 : (0 : Int) ≤ (i : Int) + 1 := by omega
  have bi : (i : Int) ≤ 100000 := by omega
  have e2 : ((i : Int) + 1).toNat = i + 1 := by omega
  have es : IntKind.i64.wrap ((i : Int) + 1) = (i : Int) + 1 := IntWalk.i64_in _ (by omega)
  obtain ⟨q, HQ⟩ : ∃ q, Hid (o + P.size = q) := ⟨_, rfl⟩
  rw [HQ.out] at c1
  have HW : Hid (wrap64 ((q : Int) - (o : Int)) = (P.size : Int)) := by have := HP.out.1; have := HP.out.2.1; have := HQ.out; unfold Hid wrap64; omega
  clear h4 h5 h6 h7 hi o1 o2 o3 o4 hil
  go_enter Try.func20, Try.ntmps20
  go_wp2_with fail
  go_quiet (fail)
  have HB : Hid (Below w.heap.size w ((w.alloc (.cells #[.slice (some ⟨ob, 0, none⟩) (Ps.length + 1) c, .pointer (some ⟨vb, 0, none⟩)] 52)).drewN nq)) := bel_drewN ((Below.refl _ _).alloc (Nat.le_refl _) _) nq
  have HV2 := Lib.hid (blk_cell (blk_below HV.out HB.out) 0 _ rfl)
  clear c0 c1 b0 b1 b2 b3 bi e2 es
  go_wp2_with fail
  rw [HW.out]
  refine (cut_yes vb o P.size s _ HV2.out (by have := HP.out; omega) HP.out.1).mono ?_
  rintro e w2 ⟨rfl, rfl⟩
  rw [HP.out.2.2]
  generalize HGW : (w.alloc (.cells #[.slice (some ⟨ob, 0, none⟩) (Ps.length + 1) c, .pointer (some ⟨vb, 0, none⟩)] 52)).drewN nq = W at *
  have HWW := Lib.hid HGW
  clear HGW
  go_wp2_with fail
  go_ret
  exact ⟨⟨_, rfl, HB.out.size, heap_alloc_new W _⟩, HB.out.alloc HB.out.size _⟩

end Go.Proofs.Ytklenppldblbdaa
