/-
  A step of the document's Open: the row appended; when a row is refused.
-/
import Derived.Test.YtbcjicmledckbaaTrip
import Derived.Test.YtbcjicmledckbaaRefT
namespace Go.Proofs.Ytbcjicmledckbaa
open Go.RowKit Go.PlainAid
set_option linter.unusedSimpArgs false
set_option linter.unusedVariables false

theorem RO.add {w wr w' : World} {kd : Int} {rv : Value} {a : Option Addr} {len cap : Nat} {l l' : List Row} {g' n' c' : Nat} (h : RO w kd rv a len cap l wr) (ho : OwnT (w.heap.size + 1 + 1) w' (.slice (some ⟨g', 0, none⟩) n' c') l') (hg : wr.grownBy w' rv.ownBlock) :
    RO w kd (.slice (some ⟨g', 0, none⟩) n' c') a len cap l' (w'.setCell ⟨w.heap.size + 1, 1, none⟩ (.slice (some ⟨g', 0, none⟩) n' c')) := by
  have hne : ∀ k, k ≤ w.heap.size + 1 → ∀ r, rv.ownBlock = some r → k ≠ r := by
    intro k hk r hr
    have := (ownT_lt h.own hr).1
    omega
  have hb : Below w.heap.size w w' := h.bel.grown hg h.bel.size (fun k hk => by have := (ownT_lt h.own hk).1; omega)
  have k0 : w'.heap[w.heap.size]? = wr.heap[w.heap.size]? := hg.block _ h.r.lt (by intro hr; exact hne _ (by first | exact Nat.le_succ _ | exact Nat.le_refl _) _ hr.symm rfl)
  have k1 : w'.heap[w.heap.size + 1]? = wr.heap[w.heap.size + 1]? := hg.block _ h.f.lt (by intro hr; exact hne _ (by first | exact Nat.le_succ _ | exact Nat.le_refl _) _ hr.symm rfl)
  have hlt := (ownT_lt ho (g := g') rfl).1
  refine ⟨hb.setCell (p := ⟨w.heap.size + 1, 1, none⟩) (by show w.heap.size ≤ w.heap.size + 1; omega) _, (h.r.heap k0).other _ _ (by show w.heap.size + 1 ≠ w.heap.size; omega), (h.f.heap k1).set1 _, ownT_keep ho (fun g hg2 _ => Below.heap_setCell _ _ _ _ (by cases hg2; show g' ≠ w.heap.size + 1; omega))⟩

theorem RO.addF {w wr w' : World} {kd : Int} {rv : Value} {a : Option Addr} {len cap : Nat} {l : List Row} (h : RO w kd rv a len cap l wr) (hg : wr.grownBy w' rv.ownBlock) : Trip w' (w.heap.size + 1) (.int .i64 kd) rv (.slice a len cap) :=
  h.f.heap (hg.block _ h.f.lt (by intro hr; have := (ownT_lt h.own hr.symm).1; omega))
theorem RO.len {w wr : World} {kd : Int} {rv : Value} {a : Option Addr} {len cap : Nat} {l : List Row} (h : RO w kd rv a len cap l wr) : w.heap.size + 1 + 1 ≤ wr.heap.size := h.f.lt
theorem RO.done {w wr : World} {kd : Int} {rv : Value} {a : Option Addr} {len cap : Nat} {l : List Row} (h : RO w kd rv a len cap l wr) : OwnT w.heap.size (((wr.setCell ⟨w.heap.size, 0, none⟩ (.int .i64 kd)).setCell ⟨w.heap.size, 1, none⟩ rv).setCell ⟨w.heap.size, 2, none⟩ (.slice a len cap)) rv l := by
  have h1 := owns_base (B' := w.heap.size) (by omega) h.own
  refine ownT_keep h1 (fun g hg _ => ?_)
  have := (ownT_lt h.own hg).1
  have hne : g ≠ w.heap.size := by omega
  rw [Below.heap_setCell _ _ _ _ hne, Below.heap_setCell _ _ _ _ hne, Below.heap_setCell _ _ _ _ hne]
theorem zero_len {w : World} {a : Option Addr} {p n : Nat} {s : ByteArray} (h : IsB w a s.size p s) (hp : p + n ≤ s.size) : n = 0 := by have := h.2.1; omega
theorem wrap_len {w : World} {a : Option Addr} {cap p : Nat} {s : ByteArray} (h : IsB w a s.size cap s) (hs : (s.size : Int) ≤ 1048576) (hp : p + 0 ≤ s.size) : wrap64 (p : Int) = (p : Int) := by unfold wrap64; omega
theorem few {l : List Row} {k n gk : Nat} (h : l.length = k) (h1 : gk + k = n) (h2 : 1 ≤ n ∧ n ≤ 64) : l.length ≤ 100000 ∧ wrap64 ((k : Int) + 1) = ((k + 1 : Nat) : Int) := by unfold wrap64; omega
theorem round_1 {gk k n : Nat} (h : gk + k = n) (hlt : k < n) : gk - 1 + (k + 1) = n ∧ gk - 1 < gk := by omega
theorem len_1 {l : List Row} {r : Row} {k : Nat} (h : l.length = k) : (l ++ [r]).length = k + 1 := by simp [h]
theorem tagLe_last {tg : ByteArray} {l : List Row} (hs : tg.size = 4) : tagLe tg (lastTag l) = (decide (0 < l.length) && !(Op.bytesLess (lastTag l).toList tg.toList)) := by
  cases l with
  | nil => rw [tagLe_first hs]; simp
  | cons r q => rw [tagLe_less]; simp
theorem rnx_bad {s tg : ByteArray} {l : List Row} {k : Nat} {x8 x12 x4 : Int} (hs : tg.size = 4) (hl : l.length = k)
    (hb : true = ((decide (0 < k) && !(Op.bytesLess (lastTag l).toList tg.toList)) || (x8 % 4 != 0) || !hasB s x8 x12)) :
    (if hasB s x8 x12 = false then none else if x8 % 4 ≠ 0 then none else if (tg.toList == [104, 101, 97, 100]) = false ∧ sumB (s.extract x8.toNat (x8.toNat + x12.toNat)) ≠ x4 then none else if tagLe tg (lastTag l) = true then none else some (l ++ [⟨tg, x8, x12⟩])) = none := by
  subst hl
  rw [tagLe_last hs]
  generalize (decide (0 < l.length) && !(Op.bytesLess (lastTag l).toList tg.toList)) = u at *
  cases h1 : hasB s x8 x12
  · rfl
  · by_cases h2 : x8 % 4 = 0
    · have hu : u = true := by simp [h1, h2] at hb; exact hb
      subst hu
      by_cases h3 : (tg.toList == [104, 101, 97, 100]) = false ∧ sumB (s.extract x8.toNat (x8.toNat + x12.toNat)) ≠ x4
      · rw [if_neg (by decide), if_neg (by simp [h2]), if_pos h3]
      · rw [if_neg (by decide), if_neg (by simp [h2]), if_neg h3, if_pos rfl]
    · rw [if_neg (by decide), if_pos h2]
theorem rnx_good {s tg : ByteArray} {l : List Row} {k : Nat} {x8 x12 x4 : Int} (hs : tg.size = 4) (hl : l.length = k)
    (hb : false = ((decide (0 < k) && !(Op.bytesLess (lastTag l).toList tg.toList)) || (x8 % 4 != 0) || !hasB s x8 x12)) :
    hasB s x8 x12 = true ∧ (if hasB s x8 x12 = false then none else if x8 % 4 ≠ 0 then none else if (tg.toList == [104, 101, 97, 100]) = false ∧ sumB (s.extract x8.toNat (x8.toNat + x12.toNat)) ≠ x4 then none else if tagLe tg (lastTag l) = true then none else some (l ++ [⟨tg, x8, x12⟩])) =
      if (!(tg.toList == [104, 101, 97, 100]) && (sumB (s.extract x8.toNat (x8.toNat + x12.toNat)) != x4)) = true then none else some (l ++ [⟨tg, x8, x12⟩]) := by
  subst hl
  rw [tagLe_last hs]
  generalize (decide (0 < l.length) && !(Op.bytesLess (lastTag l).toList tg.toList)) = u at *
  cases h1 : hasB s x8 x12
  · simp [h1] at hb
  · cases u
    · by_cases h2 : x8 % 4 = 0
      · refine ⟨rfl, ?_⟩
        rw [if_neg (by decide), if_neg (by simp [h2])]
        cases h3 : (tg.toList == [104, 101, 97, 100])
        · by_cases h4 : sumB (s.extract x8.toNat (x8.toNat + x12.toNat)) = x4
          · simp [h4]
          · simp [h4]
        · simp
      · simp [h2] at hb
    · simp at hb
theorem isB_addr {w : World} {a : Option Addr} {len cap : Nat} {s : ByteArray} (h : IsB w a len cap s) (hp : 0 < len) : ∃ bf of, a = some ⟨bf, of, none⟩ := by
  obtain ⟨_, _, h3 | ⟨b, off, h4, _⟩⟩ := h
  · omega
  · exact ⟨b, off, h4⟩
theorem has_nat {s : ByteArray} {x y : Int} (h : hasB s x y = true) : ∃ p n : Nat, x = p ∧ y = n ∧ p + n ≤ s.size := by
  simp [hasB] at h
  exact ⟨x.toNat, y.toNat, by omega, by omega, by omega⟩
theorem bne_t {a b : List UInt8} (h : (a == b) = false) : (a != b) = true := by simp [bne, h]
theorem bne_f {a b : List UInt8} (h : (a == b) = true) : (a != b) = false := by simp [bne, h]
theorem fit_facts {s : ByteArray} {w : World} {a : Option Addr} {p8 n12 cap : Nat} (hB : IsB w a s.size cap s) (hsz : (s.size : Int) ≤ 1048576) (hpn : p8 + n12 ≤ s.size) :
    wrap64 ((p8 : Int) + (n12 : Int)) = (p8 : Int) + (n12 : Int) ∧ (0 : Int) ≤ (p8 : Int) ∧ (p8 : Int) ≤ (p8 : Int) + (n12 : Int) ∧ (p8 : Int) + (n12 : Int) ≤ (cap : Int) ∧ (n12 : Int) ≤ 140737488355328 := by
  have := hB.2.1
  refine ⟨by unfold wrap64; omega, by omega, by omega, by omega, by omega⟩
theorem pos_16 {s : ByteArray} {p : Nat} (h : p + 16 ≤ s.size) : 0 < s.size := by omega
theorem and_t {a b : List UInt8} {x y : Int} (h : (a == b) = false) : (x != y) = (!(a == b) && (x != y)) := by simp [h]
theorem and_t0 {a b : List UInt8} {s : ByteArray} {p : Nat} {y : Int} (h : (a == b) = false) : (sumB ByteArray.empty != y) = (!(a == b) && (sumB (s.extract (p : Int).toNat ((p : Int).toNat + ((0 : Nat) : Int).toNat)) != y)) := by simp [h]
theorem and_f {a b : List UInt8} {x y : Int} (h : (a == b) = true) : false = (!(a == b) && (x != y)) := by simp [h]
theorem cut_1 {w : World} {bf of p n : Nat} {s : ByteArray} (h : IsB w (some ⟨bf, of, none⟩) s.size p s) (hp : p + n ≤ s.size) : IsB w (some ⟨bf, of, none⟩) n 0 (s.extract p (p + n)) := by
  have h9 := cut_if h hp
  have hz : (s.extract p (p + n)).size = n := by rw [ByteArray.size_extract]; omega
  rw [hz, if_pos rfl, Nat.sub_self] at h9
  exact h9
theorem cut_2 {w : World} {bf of cap p n : Nat} {s : ByteArray} (h : IsB w (some ⟨bf, of, none⟩) s.size cap s) (hp : p + n ≤ s.size) (hc : ¬ cap = p) : IsB w (some ⟨bf, of + p, none⟩) n (cap - p) (s.extract p (p + n)) := by
  have h9 := cut_if h hp
  have hz : (s.extract p (p + n)).size = n := by rw [ByteArray.size_extract]; omega
  rw [hz, if_neg hc] at h9
  exact h9

end Go.Proofs.Ytbcjicmledckbaa
