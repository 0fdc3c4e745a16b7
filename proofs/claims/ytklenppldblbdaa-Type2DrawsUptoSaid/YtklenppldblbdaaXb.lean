/-
  A row of bytes that fills its block; append of bytes to an owned row; what the document's Big answers; U24 and U32 of package peek.
-/
import Derived.Test.YtklenppldblbdaaGt
import Derived.Deep.AppendLies
import Derived.Deep.QuietTactic
namespace Go.Proofs.Ytklenppldblbdaa
open Go.RowKit Go.PlainAid
set_option linter.unusedSimpArgs false
set_option linter.unusedVariables false

/-- A row of numbers that can be read. -/
def IsI (w : World) (a : Option Addr) (len cap : Nat) (L : List Int) : Prop :=
  L.length = len ∧ (len = 0 ∨ ∃ b off, a = some ⟨b, off, none⟩ ∧ ∀ i, i < len → w.cell? ⟨b, off + i, none⟩ = some (.int .i64 (L.getD i 0)))

theorem IsI.below {w w' : World} {a : Option Addr} {len cap : Nat} {L : List Int} (h : IsI w a len cap L) (hb : Below w.heap.size w w') : IsI w' a len cap L := by
  obtain ⟨h1, h2 | ⟨b, off, h3, h4⟩⟩ := h
  · exact ⟨h1, .inl h2⟩
  · exact ⟨h1, .inr ⟨b, off, h3, fun i hi => keepC hb (h4 i hi)⟩⟩

theorem IntsAt.isI {w : World} {g n : Nat} {L : List Int} (h : IntsAt w g L) (hn : L.length = n) (c : Nat) : IsI w (some ⟨g, 0, none⟩) n c L :=
  ⟨hn, .inr ⟨g, 0, rfl, fun i hi => by rw [Nat.zero_add]; exact h.cell (by omega)⟩⟩

/-- The block holds these bytes and nothing else, and may be written. -/
def BytL (w : World) (g : Nat) (L : List Int) : Prop := w.heap[g]? = some (.cells (L.map (Value.int .u8)).toArray 5 (0, 0))

/-- A text's bytes. -/
def bytesL (s : ByteArray) : List Int := (List.range s.size).map (bt s)

theorem bytesL_length (s : ByteArray) : (bytesL s).length = s.size := by simp [bytesL]

theorem bytesL_cells (s : ByteArray) : (bytesL s).map (Value.int .u8) = cellsOfStr s := by simp [bytesL, cellsOfStr, List.map_map, Function.comp_def]

theorem bytesL_join (s t : ByteArray) : bytesL (s ++ t) = bytesL s ++ bytesL t := by
  apply List.ext_getElem
  · simp [bytesL]
  · intro i h1 h2
    simp [bytesL] at h1
    rw [List.getElem_append]
    simp only [bytesL, List.length_map, List.length_range, List.getElem_map, List.getElem_range]
    split
    · rename_i h; exact bt_join_left s t h
    · rename_i h
      have := bt_join_right s t (i := i - s.size) (by omega)
      rwa [show s.size + (i - s.size) = i by omega] at this

theorem BytL.lt {w : World} {g : Nat} {L : List Int} (h : BytL w g L) : g < w.heap.size := (Array.getElem?_eq_some_iff.1 h).1

theorem BytL.cell {w : World} {g : Nat} {L : List Int} (h : BytL w g L) {i : Nat} (hi : i < L.length) : w.cell? ⟨g, i, none⟩ = some (.int .u8 (L.getD i 0)) := by
  have h' : w.heap[g]? = _ := h
  simp [World.cell?, World.cells?, h', hi, List.getD]

theorem BytL.frozen {w : World} {g : Nat} {L : List Int} (h : BytL w g L) (i : Nat) : w.frozen? ⟨g, i, none⟩ = false := by
  have h' : w.heap[g]? = _ := h
  simp [World.frozen?, h']

theorem BytL.kept {w w' : World} {g B : Nat} {L : List Int} (h : BytL w g L) (hb : Below B w w') (hB : g < B) : BytL w' g L := by
  unfold BytL; rw [hb.block g hB]; exact h

theorem BytL.below {w w' : World} {g : Nat} {L : List Int} (h : BytL w g L) (hb : Below w.heap.size w w') : BytL w' g L := h.kept hb h.lt

theorem BytL.set {w : World} {g : Nat} {L : List Int} (h : BytL w g L) (j : Nat) (v : Int) : BytL (w.setCell ⟨g, j, none⟩ (.int .u8 v)) g (L.set j v) := by
  have h' : w.heap[g]? = _ := h
  unfold BytL
  simp [World.setCell, Array.getElem?_modify, h', List.map_set]

theorem BytL.other {w : World} {g : Nat} {L : List Int} (h : BytL w g L) (p : Addr) (v : Value) (hne : p.block ≠ g) : BytL (w.setCell p v) g L := by
  unfold BytL; rw [Below.heap_setCell _ _ _ _ (Ne.symm hne)]; exact h

theorem BytL.owns {w : World} {g base : Nat} {s : ByteArray} (h : BytL w g (bytesL s)) (hb : base ≤ g) (hl : s.size ≤ 140737488355328) : w.ownsRow base 5 1 (.slice (some ⟨g, 0, none⟩) s.size s.size) s.size (cellsOfStr s) := by
  have h' : w.heap[g]? = _ := h
  rw [bytesL_cells] at h'
  exact ⟨by rw [cellsOfStr_length]; omega, .inr ⟨g, s.size, (cellsOfStr s).toArray, rfl, hb, h', Nat.le_refl _, by unfold maxLen; omega, by simp [cellsOfStr_length], by simp [List.take_of_length_le, cellsOfStr_length]⟩⟩

theorem BytL.isB {w : World} {g : Nat} {s : ByteArray} (h : BytL w g (bytesL s)) (hl : s.size ≤ 140737488355328) : IsB w (some ⟨g, 0, none⟩) s.size s.size s := isB_of_owns (h.owns (Nat.le_refl _) hl)

theorem made_zero8 : ∀ k, madeCells #[.int .u8 0] k = ((List.replicate k (0 : Int)).map (Value.int .u8)).toArray := by
  intro k
  apply Array.ext
  · simp [size_madeCells]
  · intro i h1 h2
    simp [madeCells, Nat.mod_one]

/-- make of so many bytes, the world behind it named. -/
theorem make_bytes (k : Nat) (hk : k ≤ 1048577) (u : World) : ∃ w', (Instr.makeSlice 23 (.int .i64 (k : Int)) (.int .i64 (k : Int))).run Try.prog u = .ok (.slice (some ⟨u.heap.size, 0, none⟩) k k) w' ∧
    BytL w' u.heap.size (List.replicate k 0) ∧ Below u.heap.size u w' ∧ w'.heap.size = u.heap.size + 1 := by
  obtain ⟨i0, hi, hz0, hz1, hz2⟩ := info_parts infoU8
  have h := run_make (P := Try.prog) u 23 5 i0 (.int .u8 0) Try.underlying23 hi hz0 .i64 .i64 (k : Int) (k : Int) (by omega) (Int.le_refl _) (by rw [hz2]; omega) (by omega)
  rw [Int.toNat_natCast] at h
  refine ⟨u.alloc (.cells ((List.replicate k (0 : Int)).map (Value.int .u8)).toArray 5), ?_, heap_alloc_new u _, (Below.refl _ _).alloc (Nat.le_refl _) _, by simp [go_sem]⟩
  rw [← made_zero8]
  simpa [hz1, Value.cells] using h

/-- The low k bytes, the highest first. -/
def lowL (x : Int) : Nat → List Int
  | 0 => []
  | k + 1 => (x / 256 ^ k) % 256 :: lowL x k

theorem lowL_length (x : Int) : ∀ k, (lowL x k).length = k
  | 0 => rfl
  | k + 1 => by rw [lowL, List.length_cons, lowL_length x k]

theorem lowL_snoc (x : Int) : ∀ k, lowL x (k + 1) = lowL (x / 256) k ++ [x % 256]
  | 0 => by simp [lowL]
  | k + 1 => by
    rw [lowL, lowL_snoc x k, lowL, List.cons_append]
    congr 1
    rw [Int.pow_succ, Int.mul_comm, Int.ediv_ediv_of_nonneg (by omega)]

theorem bytesL_big : ∀ (k : Nat) (x : Int), bytesL (bigB x k) = lowL x k
  | 0, x => rfl
  | k + 1, x => by
    rw [bigB, bytesL_join, bytesL_big k, lowL_snoc]
    congr 1
    have := bt_one (x % 256) (by omega) (by omega)
    simp only [bytesL]
    show List.map _ (List.range 1) = _
    simpa using this

theorem part_set (x : Int) (n k : Nat) (h : k < n) : (List.replicate (n - k) 0 ++ lowL x k).set (n - 1 - k) ((x / 256 ^ k) % 256) = List.replicate (n - (k + 1)) 0 ++ lowL x (k + 1) := by
  obtain ⟨m, rfl⟩ : ∃ m, n = m + 1 + k := ⟨n - 1 - k, by omega⟩
  rw [show m + 1 + k - k = m + 1 by omega, show m + 1 + k - 1 - k = m by omega, show m + 1 + k - (k + 1) = m by omega, lowL, List.set_append_left _ _ (by simp), List.replicate_succ']
  rw [List.set_append_right _ _ (by simp)]
  simp

set_option maxHeartbeats 1000000 in
theorem big_c (x : Int) (n : Nat) (w : World) (h0 : 0 ≤ x) (h1 : x ≤ 9223372036854775807) (hn : n ≤ 8) :
    Calls Try.prog 26 #[.int .i64 x, .int .i64 n] w fun e w' => e = .returned (.slice (some ⟨w.heap.size, 0, none⟩) n n) ∧ BytL w' w.heap.size (bytesL (bigB x n)) ∧ Below w.heap.size w w' := by
  obtain ⟨w0, hmk, hb0, hbel0, hz0⟩ := make_bytes n (by omega) w
  have HL0 : Hid (BytL w0 w.heap.size (List.replicate (n - 0) 0 ++ lowL x 0)) := by unfold Hid; simpa [lowL] using hb0
  have HB0 := Lib.hid hbel0
  have HX := Lib.hid (And.intro h0 h1)
  have HN := Lib.hid hn
  have hw : wrap64 ((n : Int) - 1) = (n : Int) - 1 := by unfold wrap64; omega
  clear h0 h1 hn hb0 hbel0 hz0
  go_enter Try.func26, Try.ntmps26
  go_wp2_with fail
  go_loopw [0, 6] (fun y i wr => ∃ j : Nat, ∃ yy : Int, j ≤ n ∧ y = .int .i64 yy ∧ i = .int .i64 ((j : Int) - 1) ∧ Hid (x / 256 ^ (n - j) = yy ∧ 0 ≤ yy ∧ yy ≤ 9223372036854775807) ∧ Hid (BytL wr w.heap.size (List.replicate j 0 ++ lowL x (n - j))) ∧ Hid (Below w.heap.size w wr)) (fun _ i _ => ((intOf i) + 1).toNat)
  case atStart => exact ⟨n, x, Nat.le_refl _, rfl, by rw [hw], ⟨by simp, HX.out⟩, (by unfold Hid; simpa [lowL] using HL0.out), HB0⟩
  case round =>
    clear HL0 HB0 hmk hw
    obtain ⟨j, y, hj, rfl, rfl, HY, HL, HB⟩ := hrel
    cases j with
    | succ m =>
      have hge : (0 : Int) ≤ (m : Int) := by omega
      have hlt : (m : Int) < (n : Int) := by omega
      rw [show ((m + 1 : Nat) : Int) - 1 = (m : Int) by omega]
      have hc := HL.out.cell (i := m) (by simp; omega)
      have hf := HL.out.frozen m
      have hr : y.tmod 256 % 256 = y % 256 := by
        have := HY.out
        rw [Int.tmod_eq_emod_of_nonneg (by omega)]
        omega
      have hq : wrap64 (y.tdiv 256) = y / 256 := by
        have := HY.out
        rw [Int.tdiv_eq_ediv_of_nonneg (by omega)]
        unfold wrap64; omega
      have HL1 : Hid (BytL (wr.setCell ⟨w.heap.size, m, none⟩ (.int .u8 (y % 256))) w.heap.size (List.replicate m 0 ++ lowL x (n - m))) := by
        have h3 := HL.out.set m (y % 256)
        have h4 := part_set x n (n - (m + 1)) (by omega)
        rw [show n - (n - (m + 1)) = m + 1 by omega, show n - 1 - (n - (m + 1)) = m by omega, show n - (n - (m + 1) + 1) = m by omega, show n - (m + 1) + 1 = n - m by omega, HY.out.1] at h4
        rwa [h4] at h3
      have HB1 := Lib.hid (HB.out.setCell (p := ⟨w.heap.size, m, none⟩) (Nat.le_refl _) (.int .u8 (y % 256)))
      have HY1 : Hid (x / 256 ^ (n - m) = y / 256 ∧ 0 ≤ y / 256 ∧ y / 256 ≤ 9223372036854775807) := by
        have := HY.out
        refine ⟨?_, by omega, by omega⟩
        rw [← this.1, show n - m = n - (m + 1) + 1 by omega, Int.pow_succ, Int.ediv_ediv_of_nonneg (by exact Int.le_of_lt (Int.pow_pos (by omega)))]
      clear HL HB
      go_wp2_with fail
      have hw1 : wrap64 ((m : Int) - 1) = (m : Int) - 1 := by have := HN.out; unfold wrap64; omega
      refine ⟨⟨m, y / 256, by omega, by rw [hq], by rw [hw1], HY1, HL1, HB1⟩, ?_⟩
      rw [hw1]
      simp only [intOf]
      omega
    | zero =>
      have hge : ¬ (0 : Int) ≤ ((0 : Nat) : Int) - 1 := by omega
      have HE : Hid (BytL wr w.heap.size (bytesL (bigB x n))) := by
        unfold Hid; rw [bytesL_big]; simpa using HL.out
      go_wp2_with fail
      go_ret
      exact ⟨rfl, HE.out, HB.out⟩

theorem grown_refl (w : World) (row : Option Nat) : w.grownBy w row := ⟨rfl, rfl, rfl, Nat.le_refl _, fun _ _ _ => rfl⟩

/-- append of a row of bytes to an owned one: where all else stays as it was. -/
theorem append_add (w : World) (base : Nat) (ty : TypeId) (g c : Nat) (s u : ByteArray) (a : Option Addr) (cap : Nat) (hown : w.ownsRow base 5 1 (.slice (some ⟨g, 0, none⟩) s.size c) s.size (cellsOfStr s))
    (hB : IsB w a u.size cap u) (hs : s.size + u.size ≤ 140737488355328) (hbase : base ≤ w.heap.size) :
    ∃ g' c' w', (Builtin.append_ #[23, 23] ty #[.slice (some ⟨g, 0, none⟩) s.size c, .slice a u.size cap]).run Try.prog w = .ok (.slice (some ⟨g', 0, none⟩) (s.size + u.size) c') w' ∧
      w'.ownsRow base 5 1 (.slice (some ⟨g', 0, none⟩) (s.size + u.size) c') (s.size + u.size) (cellsOfStr (s ++ u)) ∧ w.grownBy w' (some g) ∧ (g' = g ∨ w.heap.size ≤ g') := by
  obtain ⟨i0, hi, hz0, hz1, hz2⟩ := info_parts infoU8
  have hnc : s.size ≤ c := by
    rcases hown.2 with ⟨hv, _⟩ | ⟨g', cap', cur, hv, _, _, hnc, _⟩
    · cases hv
    · cases hv; exact hnc
  by_cases h0 : u.size = 0
  · refine ⟨g, c, w, ?_, ?_, grown_refl _ _, .inl rfl⟩
    · cases a <;> simp [Builtin.append_, run_underlying Try.underlying23, sizeOf, typeInfo, hi, Builtin.lenOf, Builtin.firstCells, loadCells, loadCellsFrom, storeCells, h0, hnc]
    · have e : cellsOfStr u = [] := by simp [cellsOfStr, h0]
      rw [cellsOfStr_join, e, List.append_nil, h0, Nat.add_zero]
      exact hown
  · obtain ⟨_, _, h | ⟨b, off, rfl, hc⟩⟩ := hB
    · omega
    obtain ⟨g', c', w', hr, ho, hg, hat, hlt⟩ := run_append_lies (P := Try.prog) w 23 ty base 5 i0 (.int .u8 0) 1 1 Try.underlying23 hi hz0 hz1 hz2 rfl (by decide) _ s.size (cellsOfStr s) hown
      ⟨b, off, none⟩ u.size cap (cellsOfStr u) (by rw [cellsOfStr_length]; omega)
      (fun j x hj => by
        have hjl : j < u.size := by
          rcases Nat.lt_or_ge j u.size with h | h
          · exact h
          · rw [List.getElem?_eq_none (by rw [cellsOfStr_length]; exact h)] at hj; cases hj
        rw [cellsOfStr_get u j hjl] at hj
        rw [Addr.add_lit, hc j hjl]
        exact hj)
      (fun x hx => by
        simp [cellsOfStr] at hx
        obtain ⟨_, _, rfl⟩ := hx
        rfl)
      (by omega) (by unfold maxLen; omega) (by omega) hbase w.heap.size rfl
    refine ⟨g', c', w', hr, by rw [cellsOfStr_join]; exact ho, hg, ?_⟩
    rcases hat with h | h
    · left; simpa [Value.ownBlock] using h.symm
    · right; omega

theorem wpList_add {ops : Array Oper} {rest : List Oper} {o : Oper} {t : Act} {Q : Exit → Act → World → Prop} (hgd : o.guard = none) (sl x : Operand)
    (ho : o.op = .call { callee := .builtin .append, args := #[sl, x], argTypes := #[23, 23] })
    (w : World) (base g c : Nat) (s u : ByteArray) (a : Option Addr) (cap n m : Nat) (hn : n = s.size) (hm : m = u.size) (hs : t.eval sl = .slice (some ⟨g, 0, none⟩) n c) (hx : t.eval x = .slice a m cap)
    (hown : w.ownsRow base 5 1 (.slice (some ⟨g, 0, none⟩) s.size c) s.size (cellsOfStr s)) (hB : IsB w a u.size cap u) (hl : s.size + u.size ≤ 140737488355328) (hbase : base ≤ w.heap.size)
    (h : ∀ g' c' w', w'.ownsRow base 5 1 (.slice (some ⟨g', 0, none⟩) (s ++ u).size c') (s ++ u).size (cellsOfStr (s ++ u)) → w.grownBy w' (some g) → (g' = g ∨ w.heap.size ≤ g') → wpList Try.prog ops Q rest (t.put o.dst (.slice (some ⟨g', 0, none⟩) (n + m) c')) w') :
    wpList Try.prog ops Q (o :: rest) t w :=
  wpList_plain hgd fun _ hK => by
    subst hn hm
    obtain ⟨g', c', w', hr, h2, h3, h4⟩ := append_add w base o.type g c s u a cap hown hB hl hbase
    have e : s.size + u.size = (s ++ u).size := by rw [ByteArray.size_append]
    have h2' := h2
    rw [e] at h2'
    unfold Oper.wp execOp
    simp only [ho, resolve, invoke, builtin, Sem.run_bind, Sem.run_pure, Result.andThen_ok, List.map_toArray, List.map_cons, List.map_nil, hs, hx, hr]
    exact hK _ _ (h g' c' w' h2' h3 h4)

theorem big2_c (x : Int) (w : World) (h0 : 0 ≤ x) (h1 : x ≤ 9223372036854775807) :
    Calls Try.prog 26 #[.int .i64 x, .int .i64 2] w fun e w' => e = .returned (.slice (some ⟨w.heap.size, 0, none⟩) 2 2) ∧ BytL w' w.heap.size (bytesL (bigB x 2)) ∧ Below w.heap.size w w' := big_c x 2 w h0 h1 (by omega)

theorem big4_c (x : Int) (w : World) (h0 : 0 ≤ x) (h1 : x ≤ 9223372036854775807) :
    Calls Try.prog 26 #[.int .i64 x, .int .i64 4] w fun e w' => e = .returned (.slice (some ⟨w.heap.size, 0, none⟩) 4 4) ∧ BytL w' w.heap.size (bytesL (bigB x 4)) ∧ Below w.heap.size w w' := big_c x 4 w h0 h1 (by omega)

theorem bigIs {w : World} {g k : Nat} {x : Int} (h : BytL w g (bytesL (bigB x k))) (hk : k ≤ 8) : IsB w (some ⟨g, 0, none⟩) (bigB x k).size k (bigB x k) := by
  have := h.isB (by rw [bigB_size]; omega)
  rwa [bigB_size] at this ⊢

/-- What is owned is kept where nothing that was there has changed. -/
theorem owns_keep {w w' : World} {B : Nat} {e : TypeId} {size n g c : Nat} {xs : List Value} (h : w.ownsRow B e size (.slice (some ⟨g, 0, none⟩) n c) n xs) (hk : g < w.heap.size → w'.heap[g]? = w.heap[g]?) : w'.ownsRow B e size (.slice (some ⟨g, 0, none⟩) n c) n xs := by
  refine ⟨h.1, ?_⟩
  rcases h.2 with hn | ⟨g', cap, cur, hv, hb, hg, rest⟩
  · exact .inl hn
  · simp only [Value.slice.injEq, Option.some.injEq, Addr.mk.injEq] at hv
    obtain ⟨⟨rfl, _⟩, _, rfl⟩ := hv
    exact .inr ⟨g, c, cur, rfl, hb, by rw [hk (Array.getElem?_eq_some_iff.1 hg).1]; exact hg, rest⟩

theorem owns_stay {w w' : World} {B : Nat} {e : TypeId} {size n g c : Nat} {xs : List Value} (h : w.ownsRow B e size (.slice (some ⟨g, 0, none⟩) n c) n xs) (hb : Below w.heap.size w w') : w'.ownsRow B e size (.slice (some ⟨g, 0, none⟩) n c) n xs := owns_keep h (fun hl => hb.block g hl)

theorem owns_lt {w : World} {B : Nat} {e : TypeId} {size n g c : Nat} {xs : List Value} (h : w.ownsRow B e size (.slice (some ⟨g, 0, none⟩) n c) n xs) : g < w.heap.size ∧ B ≤ g := by
  rcases h.2 with ⟨hn, _⟩ | ⟨g', cap, cur, hv, hb, hg, rest⟩
  · cases hn
  · simp only [Value.slice.injEq, Option.some.injEq, Addr.mk.injEq] at hv
    obtain ⟨⟨rfl, _⟩, _, rfl⟩ := hv
    exact ⟨(Array.getElem?_eq_some_iff.1 hg).1, hb⟩

theorem grown_below {B : Nat} {w0 w w' : World} {g : Nat} (h : Below B w0 w) (hg : w.grownBy w' (some g)) (hB : B ≤ w.heap.size) (hr : B ≤ g) : Below B w0 w' := h.grown hg hB (fun k hk => by cases hk; exact hr)

/-- An owned row of bytes. -/
abbrev OwnB (B : Nat) (w : World) (g c : Nat) (s : ByteArray) : Prop := w.ownsRow B 5 1 (.slice (some ⟨g, 0, none⟩) s.size c) s.size (cellsOfStr s)

theorem isB_cells {w : World} {b off len cap : Nat} {s : ByteArray} (h : IsB w (some ⟨b, off, none⟩) len cap s) : ∀ j v, (cellsOfStr s)[j]? = some v → w.cell? ((⟨b, off, none⟩ : Addr).add j) = some v := by
  intro j v hj
  have hjl : j < s.size := by
    rcases Nat.lt_or_ge j s.size with h | h
    · exact h
    · rw [List.getElem?_eq_none (by rw [cellsOfStr_length]; exact h)] at hj; cases hj
  obtain ⟨h1, _, h0 | ⟨b', off', e, hc⟩⟩ := h
  · omega
  · cases e
    rw [cellsOfStr_get s j hjl] at hj
    rw [Addr.add_lit, hc j (by omega)]
    exact hj

/-- append of a row of bytes to one that has no room: a new row, and nothing that was there has changed. -/
theorem append_new (w : World) (ty : TypeId) (b : Nat) (c : Nat) (s u : ByteArray) (b2 off2 cap : Nat) (hA : IsB w (some ⟨b, 0, none⟩) s.size c s)
    (hB : IsB w (some ⟨b2, off2, none⟩) u.size cap u) (hs : s.size + u.size ≤ 1000000000) (hc : c < s.size + u.size) :
    ∃ c' w', (Builtin.append_ #[23, 23] ty #[.slice (some ⟨b, 0, none⟩) s.size c, .slice (some ⟨b2, off2, none⟩) u.size cap]).run Try.prog w = .ok (.slice (some ⟨w.heap.size, 0, none⟩) (s.size + u.size) c') w' ∧
      OwnB w.heap.size w' w.heap.size c' (s ++ u) ∧ Below w.heap.size w w' := by
  obtain ⟨i0, hi, hz0, hz1, hz2⟩ := info_parts infoU8
  have hr := run_append_grow (P := Try.prog) w 23 ty 5 i0 (.int .u8 0) Try.underlying23 hi hz0 ⟨b, 0, none⟩ s.size c (cellsOfStr s) (by rw [hz1, cellsOfStr_length]; omega) (isB_cells hA) ⟨b2, off2, none⟩ u.size cap (cellsOfStr u) (by rw [hz1, cellsOfStr_length]; omega) (isB_cells hB) hc (by omega) (by rw [hz2]; exact growslice_fits (by have := hA.2.1; omega) (by omega))
  have e : s.size + u.size = (s ++ u).size := by rw [ByteArray.size_append]
  refine ⟨_, _, hr, ?_, (Below.refl w.heap.size w).drew.alloc (Nat.le_refl _) _⟩
  refine ⟨by rw [cellsOfStr_length]; omega, .inr ⟨w.heap.size, _, _, rfl, Nat.le_refl _, heap_alloc_new w.drew _, ?_, ?_, ?_, ?_⟩⟩
  · rw [← e]; exact grownCap_ge w _ _ _
  · exact grownCap_le_maxLen w _ _ _ (by unfold maxLen; omega)
  · have hz1 : (Value.int IntKind.u8 0).cells.size = 1 := rfl
    have := grownCap_ge w (s.size + u.size) c 5
    simp only [Array.size_append, List.size_toArray, size_zeroCells, hz1, cellsOfStr_length]
    omega
  · rw [cellsOfStr_join]
    simp only [Array.toList_append, List.append_assoc]
    rw [← List.append_assoc, ← e]
    have : (s.size + u.size) * 1 = (cellsOfStr s ++ cellsOfStr u).length := by rw [List.length_append, cellsOfStr_length, cellsOfStr_length]; omega
    rw [this]
    exact List.take_left

theorem wpList_new {ops : Array Oper} {rest : List Oper} {o : Oper} {t : Act} {Q : Exit → Act → World → Prop} (hgd : o.guard = none) (sl x : Operand)
    (ho : o.op = .call { callee := .builtin .append, args := #[sl, x], argTypes := #[23, 23] })
    (w : World) (b c : Nat) (s u : ByteArray) (b2 off2 cap n m : Nat) (hn : n = s.size) (hm : m = u.size) (hs : t.eval sl = .slice (some ⟨b, 0, none⟩) n c) (hx : t.eval x = .slice (some ⟨b2, off2, none⟩) m cap)
    (hA : IsB w (some ⟨b, 0, none⟩) s.size c s) (hB : IsB w (some ⟨b2, off2, none⟩) u.size cap u) (hl : s.size + u.size ≤ 1000000000) (hc : c < s.size + u.size)
    (h : ∀ c' w', OwnB w.heap.size w' w.heap.size c' (s ++ u) → Below w.heap.size w w' → wpList Try.prog ops Q rest (t.put o.dst (.slice (some ⟨w.heap.size, 0, none⟩) (n + m) c')) w') :
    wpList Try.prog ops Q (o :: rest) t w :=
  wpList_plain hgd fun _ hK => by
    subst hn hm
    obtain ⟨c', w', hr, h2, h3⟩ := append_new w o.type b c s u b2 off2 cap hA hB hl hc
    unfold Oper.wp execOp
    simp only [ho, resolve, invoke, builtin, Sem.run_bind, Sem.run_pure, Result.andThen_ok, List.map_toArray, List.map_cons, List.map_nil, hs, hx, hr]
    exact hK _ _ (h c' w' h2 h3)

set_option maxHeartbeats 400000 in
theorem u24_c (g : Nat) (at' x f : Int) (s : ByteArray) (w : World) (hc : w.cell? ⟨g, 0, none⟩ = some (.string s)) (hs : (s.size : Int) ≤ 140737488355328) (ha : at' ≤ 9223372036854775807) (HX : Hid (numOr s at' 3 = (x, f))) :
    Calls Try.prog 58 #[.pointer (some ⟨g, 0, none⟩), .int .i64 at'] w fun e w' => e = .returned (.tuple #[.int .i64 x, .int .i64 f]) ∧ w = w' := by
  have HN := Lib.hid (number_c g at' 3 x f s w hc hs ha (by decide) HX)
  clear hs ha
  go_enter Try.func58, Try.ntmps58
  go_wp2_with fail
  refine HN.out.mono ?_
  rintro e w1 ⟨rfl, rfl⟩
  go_wp2_with fail
  go_ret2
  exact ⟨rfl, rfl⟩

set_option maxHeartbeats 400000 in
theorem u32_c (g : Nat) (at' x f : Int) (s : ByteArray) (w : World) (hc : w.cell? ⟨g, 0, none⟩ = some (.string s)) (hs : (s.size : Int) ≤ 140737488355328) (ha : at' ≤ 9223372036854775807) (HX : Hid (numOr s at' 4 = (x, f))) :
    Calls Try.prog 59 #[.pointer (some ⟨g, 0, none⟩), .int .i64 at'] w fun e w' => e = .returned (.tuple #[.int .i64 x, .int .i64 f]) ∧ w = w' := by
  have HN := Lib.hid (number_c g at' 4 x f s w hc hs ha (by decide) HX)
  clear hs ha
  go_enter Try.func59, Try.ntmps59
  go_wp2_with fail
  refine HN.out.mono ?_
  rintro e w1 ⟨rfl, rfl⟩
  go_wp2_with fail
  go_ret2
  exact ⟨rfl, rfl⟩

theorem num32_bound {s : ByteArray} {at' x f : Int} (h : numOr s at' 4 = (x, f)) : 0 ≤ x ∧ x ≤ 4294967295 := by
  unfold numOr at h
  have hb := numN_bound s at'.toNat 4
  split at h <;> simp at h <;> omega

theorem num24_bound {s : ByteArray} {at' x f : Int} (h : numOr s at' 3 = (x, f)) : 0 ≤ x ∧ x ≤ 16777215 := by
  unfold numOr at h
  have hb := numN_bound s at'.toNat 3
  split at h <;> simp at h <;> omega

end Go.Proofs.Ytklenppldblbdaa
