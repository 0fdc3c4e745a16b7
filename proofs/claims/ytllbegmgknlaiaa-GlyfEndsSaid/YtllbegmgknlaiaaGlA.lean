/-
  The table that the statement on glyphs that hold themselves writes: its bytes, its places, and that each of its glyphs is put together of parts whose first is again one of them. Pure.
-/
import Derived.Test.YtllbegmgknlaiaaGrC
namespace Go.Proofs.Ytllbegmgknlaiaa
open Go.RowKit Go.PlainAid
set_option linter.unusedSimpArgs false
set_option linter.unusedVariables false

def hdB : ByteArray := twoB [-1, 0, 0, 0, 0]
def partB (fl g : Int) : ByteArray := twoB [fl, g] ++ twoB [0, 0]
def flagI (m j : Nat) : Int := if j = m then 3 else 35
/-- The parts of one glyph, as many as j, of m. -/
def pB (m : Nat) (g : Int) : Nat → ByteArray
  | 0 => ByteArray.empty
  | j + 1 => pB m g j ++ partB (flagI m (j + 1)) g
def gB (m : Nat) (g : Int) : ByteArray := hdB ++ pB m g m
def nxt (n i : Nat) : Int := (((i + 1) % n : Nat) : Int)
/-- The table of i glyphs of n. -/
def tB (n m : Nat) : Nat → ByteArray
  | 0 => ByteArray.empty
  | i + 1 => tB n m i ++ hdB ++ pB m (nxt n i) m
def plL (m i : Nat) : List Int := (List.range (i + 1)).map fun k => ((k * (10 + 8 * m) : Nat) : Int)

theorem hdB_size : hdB.size = 10 := by rw [hdB, twoB_size]; rfl
theorem partB_size (fl g : Int) : (partB fl g).size = 8 := by rw [partB, ByteArray.size_append, twoB_size, twoB_size]; rfl
theorem pB_size (m : Nat) (g : Int) : ∀ j, (pB m g j).size = 8 * j
  | 0 => rfl
  | j + 1 => by rw [pB, ByteArray.size_append, pB_size m g j, partB_size]; omega
theorem gB_size (m : Nat) (g : Int) : (gB m g).size = 10 + 8 * m := by rw [gB, ByteArray.size_append, hdB_size, pB_size]
theorem tB_succ (n m i : Nat) : tB n m (i + 1) = tB n m i ++ gB m (nxt n i) := by rw [tB, gB, join_assoc]
theorem tB_size (n m : Nat) : ∀ i, (tB n m i).size = i * (10 + 8 * m)
  | 0 => by rw [tB, Nat.zero_mul]; rfl
  | i + 1 => by rw [tB_succ, ByteArray.size_append, tB_size n m i, gB_size, Nat.add_mul, Nat.one_mul]
theorem seg_app {f s : ByteArray} {p : Nat} (h : Seg f p s) (u : ByteArray) : Seg (f ++ u) p s :=
  ⟨by rw [ByteArray.size_append]; have := h.1; omega, fun i hi => by rw [bt_join_left f u (by have := h.1; omega)]; exact h.2 i hi⟩
theorem seg_tB (n m : Nat) : ∀ i g, g < i → Seg (tB n m i) (g * (10 + 8 * m)) (gB m (nxt n g))
  | 0, g, h => by omega
  | i + 1, g, h => by
    rw [tB_succ]
    by_cases hg : g < i
    · exact seg_app (seg_tB n m i g hg) _
    · have e : g = i := by omega
      subst e
      have := (seg_self (tB n m g ++ gB m (nxt n g))).right
      rwa [Nat.zero_add, tB_size] at this
theorem pB_first (m : Nat) (g : Int) : ∀ j, 1 ≤ j → Seg (pB m g j) 0 (partB (flagI m 1) g)
  | 0, h => by omega
  | 1, _ => by rw [pB, pB, join_empty]; exact seg_self _
  | j + 2, _ => by rw [pB]; exact seg_app (pB_first m g (j + 1) (by omega)) _
theorem flag_plain (m : Nat) : Plain (flagI m 1) := by unfold flagI; split; exact plain3; exact plain35
theorem flag_bd (m : Nat) : 0 ≤ flagI m 1 ∧ flagI m 1 ≤ 65535 := by unfold flagI; split <;> omega
theorem hd_eq : hdB = twoB [65535, 0, 0, 0, 0] := by simp [hdB, twoB]

theorem glyT_gB (m : Nat) (g N : Int) (hm : 1 ≤ m) (hm2 : m ≤ 6) (h0 : 0 ≤ g) (h1 : g + 1 < N) (h2 : g ≤ 65535) : GlyT (gB m g) N (flagI m 1) g 0 0 0 0 0 0 := by
  have hA : Seg (gB m g) 0 (twoB [65535, 0, 0, 0, 0]) := by rw [← hd_eq]; exact (seg_self (gB m g)).left
  have hP : Seg (gB m g) (10 + 0) (partB (flagI m 1) g) := by
    have := (seg_self (gB m g)).right
    rw [Nat.zero_add, hdB_size] at this
    exact this.trans (pB_first m g m hm)
  have hQ : Seg (gB m g) 10 (twoB [flagI m 1, g]) := hP.left
  have hS : Seg (gB m g) 14 (twoB [0, 0]) := by have := hP.right; rw [twoB_size] at this; exact this
  exact {
    small := by rw [gB_size]; omega
    sign := two_num hA (by omega) (by omega)
    box0 := two_num (two_next hA) (by omega) (by omega)
    box1 := two_num (two_next (two_next hA)) (by omega) (by omega)
    box2 := two_num (two_next (two_next (two_next hA))) (by omega) (by omega)
    box3 := two_num (two_next (two_next (two_next (two_next hA)))) (by omega) (by omega)
    flag := two_num hQ (flag_bd m).1 (flag_bd m).2
    glyph := two_num (two_next hQ) h0 h2
    sx := two_num hS (by omega) (by omega)
    sy := two_num (two_next hS) (by omega) (by omega)
    plain := flag_plain m
    lo := h0
    hi := h1 }

theorem plL_length (m i : Nat) : (plL m i).length = i + 1 := by simp [plL]
theorem plL_get (m i k : Nat) (h : k ≤ i) : (plL m i)[k]? = some ((k * (10 + 8 * m) : Nat) : Int) := by simp [plL, show k < i + 1 by omega]
theorem plL_succ (m i : Nat) : plL m (i + 1) = plL m i ++ [(((i + 1) * (10 + 8 * m) : Nat) : Int)] := by simp [plL, List.range_succ]

theorem tbl_tB (n m : Nat) (hn : 1 ≤ n) (hn2 : n ≤ 20) (hm : 1 ≤ m) (hm2 : m ≤ 6) : Tbl (tB n m n) (plL m n) := by
  have hsz : n * (10 + 8 * m) ≤ 20 * 58 := Nat.mul_le_mul hn2 (by omega)
  refine ⟨by rw [tB_size]; omega, by rw [plL_length]; omega, fun g hg => ?_⟩
  rw [plL_length] at hg
  have hseg := seg_tB n m n g (by omega)
  have hq : (g + 1) * (10 + 8 * m) = g * (10 + 8 * m) + (10 + 8 * m) := by rw [Nat.add_mul, Nat.one_mul]
  have hx := hseg.ext
  rw [gB_size] at hx
  refine ⟨g * (10 + 8 * m), (g + 1) * (10 + 8 * m), plL_get m n g (by omega), plL_get m n (g + 1) (by omega), by omega, ?_, flagI m 1, nxt n g, 0, 0, 0, 0, 0, 0, ?_⟩
  · have := hseg.1; rw [gB_size] at this; omega
  · rw [hq, hx, plL_length]
    have hlt := Nat.mod_lt (g + 1) (show 0 < n by omega)
    exact glyT_gB m (nxt n g) _ hm hm2 (by unfold nxt; omega) (by unfold nxt; omega) (by unfold nxt; omega)

end Go.Proofs.Ytllbegmgknlaiaa
