/-
  A font file made of pieces, as the chapter's Build lays it out, is opened to the same kind and the same tables. It hangs on no function of the program. Conditions: one to 64 pieces, tags of four bytes that rise, a file of at most 1048576 bytes.
-/
import Derived.Test.YtbcjicmledckbaaSeg
import Derived.Test.YtbcjicmledckbaaSfOpen
namespace Go.Proofs.Ytbcjicmledckbaa
open Go.RowKit Go.PlainAid
set_option linter.unusedSimpArgs false
set_option linter.unusedVariables false

/-- A piece: its tag and its bytes. -/
abbrev Pce := ByteArray × ByteArray

/-- As many bytes 0. -/
def zerosB : Nat → ByteArray
  | 0 => ByteArray.empty
  | n + 1 => zerosB n ++ ⟨#[0]⟩
theorem zerosB_size : ∀ n, (zerosB n).size = n
  | 0 => rfl
  | n + 1 => by rw [zerosB, ByteArray.size_append, zerosB_size n]; rfl

/-- The least multiple of four that isn't below. -/
def upto4 (n : Nat) : Nat := (n + 3) / 4 * 4
def padB (b : ByteArray) : ByteArray := b ++ zerosB (upto4 b.size - b.size)
theorem padB_size (b : ByteArray) : (padB b).size = upto4 b.size := by
  rw [padB, ByteArray.size_append, zerosB_size]; unfold upto4; omega

/-- A row. -/
def rowB (t : ByteArray) (sum place len : Int) : ByteArray := t ++ (bigB sum 4 ++ (bigB place 4 ++ bigB len 4))
theorem rowB_size (t : ByteArray) (sum place len : Int) (ht : t.size = 4) : (rowB t sum place len).size = 16 := by
  simp only [rowB, ByteArray.size_append, bigB_size, ht]
/-- The rows, their tables from a place on. -/
def rowsB (at' : Nat) : List Pce → ByteArray
  | [] => ByteArray.empty
  | p :: r => rowB p.1 (sumB p.2) at' p.2.size ++ rowsB (at' + upto4 p.2.size) r
/-- The tables. -/
def dataB : List Pce → ByteArray
  | [] => ByteArray.empty
  | p :: r => padB p.2 ++ dataB r
/-- How long the tables are. -/
def dataN : List Pce → Nat
  | [] => 0
  | p :: r => upto4 p.2.size + dataN r
def rowsL (at' : Nat) : List Pce → List Row
  | [] => []
  | p :: r => ⟨p.1, at', p.2.size⟩ :: rowsL (at' + upto4 p.2.size) r

theorem dataB_size : ∀ l, (dataB l).size = dataN l
  | [] => rfl
  | p :: r => by rw [dataB, ByteArray.size_append, padB_size, dataB_size r, dataN]
theorem rowsB_size : ∀ (l : List Pce) (a : Nat), (∀ p ∈ l, p.1.size = 4) → (rowsB a l).size = 16 * l.length
  | [], a, _ => rfl
  | p :: r, a, h => by
    rw [rowsB, ByteArray.size_append, rowB_size _ _ _ _ (h p (by simp)), rowsB_size r _ (fun q hq => h q (by simp [hq])), List.length_cons]
    omega
theorem rowsL_length : ∀ (l : List Pce) (a : Nat), (rowsL a l).length = l.length
  | [], a => rfl
  | p :: r, a => by rw [rowsL, List.length_cons, rowsL_length r, List.length_cons]
theorem join_assoc (a b c : ByteArray) : a ++ b ++ c = a ++ (b ++ c) := by
  apply ByteArray.ext; simp [ByteArray.data_append, Array.append_assoc]
theorem join_empty (a : ByteArray) : ByteArray.empty ++ a = a := by
  apply ByteArray.ext; simp [ByteArray.data_append]
theorem rowsB_join : ∀ (l m : List Pce) (a : Nat), rowsB a (l ++ m) = rowsB a l ++ rowsB (a + dataN l) m
  | [], m, a => by rw [rowsB, join_empty, dataN]; rfl
  | p :: r, m, a => by rw [List.cons_append, rowsB, rowsB_join r m, rowsB, dataN, join_assoc, Nat.add_assoc]
theorem dataB_join : ∀ (l m : List Pce), dataB (l ++ m) = dataB l ++ dataB m
  | [], m => by rw [dataB, join_empty]; rfl
  | p :: r, m => by rw [List.cons_append, dataB, dataB_join r m, dataB, join_assoc]
theorem rowsL_join : ∀ (l m : List Pce) (a : Nat), rowsL a (l ++ m) = rowsL a l ++ rowsL (a + dataN l) m
  | [], m, a => by rw [rowsL, dataN]; rfl
  | p :: r, m, a => by rw [List.cons_append, rowsL, rowsL_join r m, rowsL, dataN, Nat.add_assoc, List.cons_append]
theorem dataN_four : ∀ l, dataN l % 4 = 0
  | [] => rfl
  | p :: r => by have := dataN_four r; rw [dataN]; unfold upto4; omega

def scalerB (kind : Int) : ByteArray := if kind = 1 then ⟨#[0, 1, 0, 0]⟩ else ⟨#[79, 84, 84, 79]⟩
theorem scalerB_size (kind : Int) : (scalerB kind).size = 4 := by unfold scalerB; split <;> rfl
/-- The file. -/
def madeB (kind : Int) (l : List Pce) : ByteArray := scalerB kind ++ (bigB l.length 2 ++ (zerosB 6 ++ (rowsB (12 + 16 * l.length) l ++ dataB l)))
theorem madeB_size (kind : Int) (l : List Pce) (h : ∀ p ∈ l, p.1.size = 4) : (madeB kind l).size = 12 + 16 * l.length + dataN l := by
  simp only [madeB, ByteArray.size_append, scalerB_size, bigB_size, zerosB_size, rowsB_size l _ h, dataB_size]
  omega

/-- Each tag is greater than the one ahead of it. -/
def Rises : ByteArray → List Pce → Bool
  | _, [] => true
  | a, p :: r => !tagLe p.1 a && Rises p.1 r

theorem lastTag_rows : ∀ (l : List Pce) (a : Nat) (p : Pce), lastTag (rowsL a (l ++ [p])) = p.1
  | l, a, p => by rw [rowsL_join]; exact lastTag_snoc _ _
theorem rises_next : ∀ (l : List Pce) (a : ByteArray) (p : Pce) (m : List Pce) (n : Nat), Rises a (l ++ p :: m) = true → tagLe p.1 (if l = [] then a else lastTag (rowsL n l)) = false
  | [], a, p, m, n, h => by simp [Rises] at h; simpa using h.1
  | q :: r, a, p, m, n, h => by
    have h2 : Rises q.1 (r ++ p :: m) = true := by simp [Rises] at h; simpa using h.2
    have := rises_next r q.1 p m (n + upto4 q.2.size) h2
    rw [if_neg (by simp)]
    cases r with
    | nil => simpa [rowsL, lastTag] using this
    | cons b r => simpa [rowsL, lastTag] using this

theorem seg_rows {kind : Int} {l : List Pce} (h : ∀ p ∈ l, p.1.size = 4) : Seg (madeB kind l) 12 (rowsB (12 + 16 * l.length) l) ∧ Seg (madeB kind l) (12 + 16 * l.length) (dataB l) := by
  have h1 := (seg_self (madeB kind l)).right.right.right
  simp only [scalerB_size, bigB_size, zerosB_size, Nat.zero_add] at h1
  have h2 := h1.right
  rw [rowsB_size l _ h] at h2
  exact ⟨h1.left, h2⟩

theorem row_made {kind : Int} {l m : List Pce} {p : Pce} (h : ∀ q ∈ l ++ p :: m, q.1.size = 4) (hz : (madeB kind (l ++ p :: m)).size ≤ 1048576) :
    rowOf (madeB kind (l ++ p :: m)) (12 + 16 * (l.length : Int)) = some ⟨p.1, ((12 + 16 * (l ++ p :: m).length + dataN l : Nat) : Int), p.2.size⟩ := by
  obtain ⟨h1, h2⟩ := seg_rows (kind := kind) h
  have hp := h p (by simp)
  have hl : ∀ q ∈ l, q.1.size = 4 := fun q hq => h q (by simp [hq])
  have hz2 := madeB_size kind (l ++ p :: m) h
  have hA : ∃ A, A = 12 + 16 * (l ++ p :: m).length := ⟨_, rfl⟩
  obtain ⟨A, hA⟩ := hA
  rw [← hA] at h1 h2 hz2 ⊢
  have hA4 : A % 4 = 0 := by rw [hA]; omega
  have hd : dataN (l ++ p :: m) = dataN l + (upto4 p.2.size + dataN m) := by
    rw [← dataB_size, dataB_join, ByteArray.size_append, dataB_size, dataB_size, dataN]
  generalize madeB kind (l ++ p :: m) = f at *
  rw [rowsB_join, rowsB] at h1
  rw [dataB_join, dataB, padB] at h2
  have hr := h1.right.left
  rw [rowsB_size l _ hl] at hr
  have hb := h2.right.left.left
  rw [dataB_size] at hb
  have hd4 := dataN_four l
  have hle : p.2.size ≤ upto4 p.2.size := by unfold upto4; omega
  have hr1 := hr.1
  rw [rowB_size _ _ _ _ hp] at hr1
  have hs0 := sumB_lo p.2
  have hs1 := sumB_hi p.2
  have ht : tagOr (rowB p.1 (sumB p.2) ((A + dataN l : Nat) : Int) p.2.size) 0 = (p.1, 0) := tag_seg (seg_self (rowB _ _ _ _)).left hp
  have q1 : Seg (rowB p.1 (sumB p.2) ((A + dataN l : Nat) : Int) p.2.size) 4 (bigB (sumB p.2) 4 ++ (bigB ((A + dataN l : Nat) : Int) 4 ++ bigB p.2.size 4)) := by
    have := (seg_self (rowB p.1 (sumB p.2) ((A + dataN l : Nat) : Int) p.2.size)).right
    rwa [hp] at this
  have n1 := num_big4 q1.left hs0 (by omega)
  have q2 := q1.right
  rw [bigB_size] at q2
  have n2 := num_big4 q2.left (by omega) (by omega)
  have q3 := q2.right
  rw [bigB_size] at q3
  have n3 := num_big4 q3 (by omega) (by omega)
  have hrow : f.extract (12 + 16 * l.length) (12 + 16 * l.length + 16) = rowB p.1 (sumB p.2) ((A + dataN l : Nat) : Int) p.2.size := by
    have := hr.ext
    rwa [rowB_size _ _ _ _ hp] at this
  have hbe := hb.ext
  have e1 : (12 + 16 * (l.length : Int)).toNat = 12 + 16 * l.length := by omega
  unfold rowOf
  rw [if_neg (by simp [hasB]; omega), e1, hrow]
  unfold rowIn
  simp only [Nat.reduceAdd, Int.reduceAdd] at n1 n2 n3
  have n1' : numOr (rowB p.1 (sumB p.2) ((A + dataN l : Nat) : Int) p.2.size) 4 4 = (sumB p.2, 0) := n1
  have n2' : numOr (rowB p.1 (sumB p.2) ((A + dataN l : Nat) : Int) p.2.size) 8 4 = (((A + dataN l : Nat) : Int), 0) := n2
  have n3' : numOr (rowB p.1 (sumB p.2) ((A + dataN l : Nat) : Int) p.2.size) 12 4 = ((p.2.size : Int), 0) := n3
  rw [n1', n2', n3', ht]
  simp only [Int.toNat_natCast, hbe]
  rw [if_neg (by simp [hasB]; have := hb.1; omega), if_neg (by omega)]
  simp

theorem rows_made {kind : Int} (l : List Pce) (h : ∀ q ∈ l, q.1.size = 4) (hr : Rises ByteArray.empty l = true) (hz : (madeB kind l).size ≤ 1048576) : ∀ k, k ≤ l.length →
    rowsOf (madeB kind l) 12 k = some (rowsL (12 + 16 * l.length) (l.take k))
  | 0, _ => by rw [rowsOf]; simp [rowsL]
  | k + 1, hk => by
    have ih := rows_made l h hr hz k (by omega)
    obtain ⟨p, hp⟩ : ∃ p, l[k]? = some p := ⟨l[k]'(by omega), by simp [show k < l.length by omega]⟩
    have hsplit : l = l.take k ++ p :: l.drop (k + 1) := by
      have hk' : k < l.length := by omega
      have e : l[k] = p := by simpa [hk'] using hp
      rw [← e]; simp
    have hlen : (l.take k).length = k := by simp; omega
    have htake : l.take (k + 1) = l.take k ++ [p] := by rw [List.take_add_one, hp]; rfl
    rw [rowsOf_next ih, htake, rowsL_join]
    have hrow : rowOf (madeB kind l) (12 + 16 * (k : Int)) = some ⟨p.1, ((12 + 16 * l.length + dataN (l.take k) : Nat) : Int), p.2.size⟩ := by
      have := row_made (kind := kind) (l := l.take k) (m := l.drop (k + 1)) (p := p) (by rw [← hsplit]; exact h) (by rw [← hsplit]; exact hz)
      rwa [← hsplit, hlen] at this
    rw [hrow]
    have hle : tagLe p.1 (lastTag (rowsL (12 + 16 * l.length) (l.take k))) = false := by
      have h2 := hr
      rw [hsplit] at h2
      have := rises_next (l.take k) ByteArray.empty p (l.drop (k + 1)) (12 + 16 * l.length) h2
      by_cases h0 : l.take k = []
      · rw [if_pos h0] at this; rw [h0]; exact this
      · rwa [if_neg h0] at this
    simp only [hle]
    rfl

/-- Open of a made file. -/
theorem open_made (kind : Int) (l : List Pce) (hk : kind = 1 ∨ kind = 2) (h1 : 1 ≤ l.length) (h64 : l.length ≤ 64) (h : ∀ q ∈ l, q.1.size = 4) (hr : Rises ByteArray.empty l = true) (hz : (madeB kind l).size ≤ 1048576) :
    openOf (madeB kind l) 0 = (0, some (kind, rowsL (12 + 16 * l.length) l)) := by
  have hs : tagOr (madeB kind l) 0 = (scalerB kind, 0) := tag_seg (seg_self (madeB kind l)).left (scalerB_size kind)
  have hn : numOr (madeB kind l) (0 + 4) 2 = ((l.length : Int), 0) := by
    have := (seg_self (madeB kind l)).right.left
    rw [scalerB_size] at this
    exact num_big2 this (by omega) (by omega)
  have hd : dirOf (madeB kind l) 0 = (0, 0) := by
    have e : ((scalerB kind).toList == [116, 116, 99, 102]) = false := by rcases hk with rfl | rfl <;> decide +kernel
    unfold dirOf
    rw [hs]
    simp [e]
  have hh : headOf (madeB kind l) 0 = (kind, (l.length : Int), 0) := by
    unfold headOf
    rw [hs, hn]
    have e : kindB (scalerB kind) = kind := by rcases hk with rfl | rfl <;> decide +kernel
    simp only [e]
    rw [if_neg (by simp), if_neg (by omega), if_neg (by simp), if_neg (by omega), if_neg (by omega)]
  have hrows := rows_made (kind := kind) l h hr hz l.length (Nat.le_refl _)
  rw [List.take_length] at hrows
  unfold openOf
  rw [if_neg (by omega), hd]
  simp only [hh, ne_eq, not_true_eq_false, if_false, Int.toNat_natCast, Int.zero_add, hrows]

/-- A table of a made file. -/
theorem table_made {kind : Int} {l m : List Pce} {p : Pce} (h : ∀ q ∈ l ++ p :: m, q.1.size = 4) : Seg (madeB kind (l ++ p :: m)) (12 + 16 * (l ++ p :: m).length + dataN l) p.2 := by
  have h2 := (seg_rows (kind := kind) h).2
  rw [dataB_join, dataB, padB] at h2
  have hb := h2.right.left.left
  rwa [dataB_size] at hb

end Go.Proofs.Ytbcjicmledckbaa
