/-
  What the functions of package sfnt answer that read all rows of a directory and open a font, as contracts over the translated program. Nothing that was there is changed. Condition: the bytes are at most 1048576 where more is not refused.
-/
import Derived.Test.YtbcjicmledckbaaSfRow
import Derived.Laws.Cover1
namespace Go.Proofs.Ytbcjicmledckbaa
open Go.RowKit Go.PlainAid
set_option linter.unusedSimpArgs false
set_option linter.unusedVariables false

theorem infoTable : (Try.prog.info? 64).map (fun i => (i.zero, i.size, i.bytes)) = some (some (.agg #[.string ⟨#[]⟩, .int .i64 0, .int .i64 0]), 3, 32) := by kernel_rfl

/-- The tag of the last row; nothing, if there is none. -/
def lastTag : List Row → ByteArray
  | [] => ByteArray.empty
  | [r] => r.tag
  | _ :: l => lastTag l
theorem lastTag_snoc (l : List Row) (r : Row) : lastTag (l ++ [r]) = r.tag := by
  induction l with
  | nil => rfl
  | cons a l ih =>
    cases l with
    | nil => rfl
    | cons b l => exact ih
/-- The cells of rows. -/
def rowCells : List Row → List Value
  | [] => []
  | r :: l => .string r.tag :: .int .i64 r.place :: .int .i64 r.len :: rowCells l
theorem rowCells_snoc (l : List Row) (r : Row) : rowCells (l ++ [r]) = rowCells l ++ [.string r.tag, .int .i64 r.place, .int .i64 r.len] := by
  induction l with
  | nil => rfl
  | cons a l ih => simp [rowCells, ih]

/-- Is one tag not greater than the other? -/
def tagLe (a b : ByteArray) : Bool := Op.bytesLess a.toList b.toList || a.toList == b.toList

/-- The first k rows, or refused. -/
def rowsOf (s : ByteArray) (at' : Int) : Nat → Option (List Row)
  | 0 => some []
  | k + 1 =>
    match rowsOf s at' k with
    | none => none
    | some l =>
      match rowOf s (at' + 16 * k) with
      | none => none
      | some r => if tagLe r.tag (lastTag l) = true then none else some (l ++ [r])

theorem owns_below {w w' : World} {base : Nat} {e : TypeId} {size g n cap : Nat} {xs : List Value} (h : w.ownsRow base e size (.slice (some ⟨g, 0, none⟩) n cap) n xs) (hb : Below w.heap.size w w') :
    w'.ownsRow base e size (.slice (some ⟨g, 0, none⟩) n cap) n xs := by
  refine ⟨h.1, ?_⟩
  rcases h.2 with ⟨hv, _⟩ | ⟨g', cap', cur, hv, hbg, hg, rest⟩
  · cases hv
  · refine .inr ⟨g', cap', cur, hv, hbg, ?_, rest⟩
    have hlt : g' < w.heap.size := by
      rcases Nat.lt_or_ge g' w.heap.size with h | h
      · exact h
      · rw [Array.getElem?_eq_none (by omega)] at hg; cases hg
    rw [hb.block g' hlt]; exact hg

/-- What is kept while rows are read. -/
structure Tabs (w : World) (g : Nat) (s : ByteArray) (gl cnt : Nat) (l : List Row) (wr : World) : Prop where
  bel : Below w.heap.size w wr
  v : wr.cell? ⟨g, 0, none⟩ = some (.string s)
  ne : g ≠ gl
  own : wr.ownsRow w.heap.size 64 3 (.slice (some ⟨gl, 0, none⟩) l.length cnt) l.length (rowCells l)
theorem Tabs.below {w wr w' : World} {g : Nat} {s : ByteArray} {gl cnt : Nat} {l : List Row} (h : Tabs w g s gl cnt l wr) (hb : Below wr.heap.size wr w') : Tabs w g s gl cnt l w' :=
  ⟨h.bel.trans (hb.mono h.bel.size), keepC hb h.v, h.ne, owns_below h.own hb⟩

theorem Tabs.lt {w wr : World} {g : Nat} {s : ByteArray} {gl cnt : Nat} {l : List Row} (h : Tabs w g s gl cnt l wr) : gl < wr.heap.size := by
  rcases h.own.2 with ⟨hv, _⟩ | ⟨g', cap', cur, hv, hbg, hg, rest⟩
  · cases hv
  · cases hv
    rcases Nat.lt_or_ge gl wr.heap.size with h | h
    · exact h
    · rw [Array.getElem?_eq_none (by omega)] at hg; cases hg
theorem grown_cell {w w' : World} {gl : Nat} (h : w.grownBy w' (some gl)) {p : Addr} (hp : p.block ≠ gl) (hl : p.block < w.heap.size) : w'.cell? p = w.cell? p :=
  World.cell?_of_block (w := w) (h.block p.block hl (by intro e; cases e; exact hp rfl))

theorem wpList_row {ops : Array Oper} {rest : List Oper} {o : Oper} {t : Act} {Q : Exit → Act → World → Prop} (hgd : o.guard = none) (sl x : Operand)
    (ho : o.op = .call { callee := .builtin .append, args := #[sl, x], argTypes := #[24, 24] })
    (w wa : World) (g : Nat) (s : ByteArray) (gl cnt k : Nat) (l : List Row) (r : Row) (hs : t.eval sl = .slice (some ⟨gl, 0, none⟩) k cnt) (nb : Nat) (hx : t.eval x = .slice (some ⟨nb, 0, none⟩) 1 1) (hnb : nb = wa.heap.size)
    (hT : Tabs w g s gl cnt l wa) (hl : l.length = k) (hk : k < cnt) (hb : w.heap.size ≤ gl) (vb : Nat) (hv : wa.cell? ⟨vb, 0, none⟩ = some (.string r.tag)) (hvg : vb ≠ gl)
    (h : ∀ w', Tabs w g s gl cnt (l ++ [r]) w' → w'.cell? ⟨vb, 0, none⟩ = some (.string r.tag) → wpList Try.prog ops Q rest (t.put o.dst (.slice (some ⟨gl, 0, none⟩) (k + 1) cnt)) w') :
    wpList Try.prog ops Q (o :: rest) t (wa.alloc (.cells #[.string r.tag, .int .i64 r.place, .int .i64 r.len] 64)) := by
  subst hl
  subst hnb
  obtain ⟨i0, hi, hz0, hz1, hz2⟩ := info_parts infoTable
  have hT1 := hT.below ((Below.refl _ _).alloc (Nat.le_refl _) (.cells #[.string r.tag, .int .i64 r.place, .int .i64 r.len] 64))
  have hnew : ∀ j u, ([.string r.tag, .int .i64 r.place, .int .i64 r.len] : List Value)[j]? = some u → (wa.alloc (.cells #[.string r.tag, .int .i64 r.place, .int .i64 r.len] 64)).cell? ((⟨wa.heap.size, 0, none⟩ : Addr).add j) = some u := by
    intro j u hj
    rw [Addr.add_lit, Nat.zero_add, cell_of_row _ wa.heap.size j _ _ (0, 0) (heap_alloc_new wa _)]
    simpa using hj
  have hold : ∀ p : Addr, p.block < wa.heap.size → (wa.alloc (.cells #[.string r.tag, .int .i64 r.place, .int .i64 r.len] 64)).cell? p = wa.cell? p :=
    fun p hp => ((Below.refl wa.heap.size wa).alloc (Nat.le_refl _) _).cell hp
  have hsz : wa.heap.size ≤ (wa.alloc (.cells #[.string r.tag, .int .i64 r.place, .int .i64 r.len] 64)).heap.size := by simp
  generalize wa.alloc (.cells #[.string r.tag, .int .i64 r.place, .int .i64 r.len] 64) = wb at *
  refine wpList_append_fits (P := Try.prog) wb hgd sl x 24 ho w.heap.size 64 i0 3 Try.underlying24 hi hz1 gl l.length cnt (rowCells l) hs hT1.own ⟨wa.heap.size, 0, none⟩ 1 1
    [.string r.tag, .int .i64 r.place, .int .i64 r.len] hx rfl hnew (fun u hu => by simp at hu; rcases hu with rfl | rfl | rfl <;> rfl) (by omega) (fun w' ho' hg' => ?_)
  have hbel : Below w.heap.size w w' := hT1.bel.grown hg' hT1.bel.size (fun q hq => by cases hq; exact hb)
  refine h w' ⟨hbel, ?_, hT.ne, ?_⟩ ?_
  · rw [grown_cell hg' (p := ⟨g, 0, none⟩) hT.ne (World.block_lt_of_cell? wb _ hT1.v)]; exact hT1.v
  · rw [List.length_append, rowCells_snoc]; exact ho'
  · have hlt := World.block_lt_of_cell? wa _ hv
    rw [grown_cell hg' (p := ⟨vb, 0, none⟩) hvg (by omega), hold ⟨vb, 0, none⟩ hlt]; exact hv

/-- How the reading of the rows ends. -/
def TabsPost (w : World) (g : Nat) (s : ByteArray) (at' : Int) (cnt : Nat) (e : Ending) (w' : World) : Prop :=
  match rowsOf s at' cnt with
  | none => e = .returned (.tuple #[.slice none 0 0, .int .i64 31]) ∧ Below w.heap.size w w'
  | some l => e = .returned (.tuple #[.slice (some ⟨w.heap.size, 0, none⟩) cnt cnt, .int .i64 0]) ∧ l.length = cnt ∧ Tabs w g s w.heap.size cnt l w'
theorem tabsPost_no {w : World} {g : Nat} {s : ByteArray} {at' : Int} {cnt : Nat} {w' : World} (h : rowsOf s at' cnt = none) (hb : Below w.heap.size w w') : TabsPost w g s at' cnt (.returned (.tuple #[.slice none 0 0, .int .i64 31])) w' := by
  unfold TabsPost
  rw [h]
  exact ⟨rfl, hb⟩
theorem tabsPost_yes {w : World} {g : Nat} {s : ByteArray} {at' : Int} {cnt : Nat} {w' : World} {l : List Row} (h : rowsOf s at' cnt = some l) (hl : l.length = cnt) (ht : Tabs w g s w.heap.size cnt l w') :
    TabsPost w g s at' cnt (.returned (.tuple #[.slice (some ⟨w.heap.size, 0, none⟩) cnt cnt, .int .i64 0])) w' := by
  unfold TabsPost
  rw [h]
  exact ⟨rfl, hl, ht⟩
theorem rowsOf_none {s : ByteArray} {at' : Int} {k : Nat} (h : rowsOf s at' k = none) : ∀ j, rowsOf s at' (k + j) = none
  | 0 => h
  | j + 1 => by rw [← Nat.add_assoc, rowsOf, rowsOf_none h j]
theorem rowsOf_stop {s : ByteArray} {at' : Int} {k cnt : Nat} (h : rowsOf s at' (k + 1) = none) (hk : k < cnt) : rowsOf s at' cnt = none := by
  have := rowsOf_none h (cnt - (k + 1))
  rwa [show k + 1 + (cnt - (k + 1)) = cnt by omega] at this
theorem rowsOf_next {s : ByteArray} {at' : Int} {k : Nat} {l : List Row} (h : rowsOf s at' k = some l) : rowsOf s at' (k + 1) = (match rowOf s (at' + 16 * k) with
      | none => none
      | some r => if tagLe r.tag (lastTag l) = true then none else some (l ++ [r])) := by
  rw [rowsOf, h]

set_option maxHeartbeats 1000000 in
theorem tables_c (g cnt : Nat) (at' : Int) (s : ByteArray) (w : World) (hc : w.cell? ⟨g, 0, none⟩ = some (.string s)) (hs : (s.size : Int) ≤ 1048576) (h0 : 0 ≤ at') (h1 : at' ≤ 4294967307) (hn : cnt ≤ 64) :
    Calls Try.prog 30 #[.pointer (some ⟨g, 0, none⟩), .int .i64 at', .int .i64 cnt] w (TabsPost w g s at' cnt) := by
  obtain ⟨i0, hi, hz0, hz1, hz2⟩ := info_parts infoTable
  obtain ⟨w0, hmk, hown, hgrow⟩ := run_make_own (P := Try.prog) w w.heap.size 24 64 i0 _ 3 Try.underlying24 hi hz0 hz1 .i64 .i64 cnt (by rw [hz2]; omega) (by unfold maxLen; omega) (Nat.le_refl _)
  have hb0 : Below w.heap.size w w0 := (Below.refl _ _).grown hgrow (Nat.le_refl _) (fun k hk => by cases hk)
  have HT0 : Hid (Tabs w g s w.heap.size cnt [] w0) := ⟨hb0, keepC hb0 hc, by have := World.block_lt_of_cell? w _ hc; simp at this; omega, hown⟩
  have HS := Lib.hid hs
  have HA := Lib.hid (And.intro h0 h1)
  have HN := Lib.hid hn
  have HI := Lib.hid hi
  have HZ1 := Lib.hid hz1
  clear hs h0 h1 hn hc hown hgrow hb0 hi hz0 hz1 hz2
  go_enter Try.func30, Try.ntmps30
  go_wp2_with fail
  go_loopw [8, 9, 16] (fun rows ahead i wr => ∃ k : Nat, ∃ l : List Row, k ≤ cnt ∧ rows = .slice (some ⟨w.heap.size, 0, none⟩) k cnt ∧ ahead = .string (lastTag l) ∧ i = .int .i64 k ∧ Hid (rowsOf s at' k = some l) ∧ Hid (l.length = k) ∧ Hid (Tabs w g s w.heap.size cnt l wr)) (fun _ _ i _ => cnt - (intOf i).toNat)
  case atStart => exact ⟨0, [], Nat.zero_le _, rfl, rfl, rfl, rfl, rfl, HT0⟩
  case round =>
    clear HT0
    obtain ⟨k, l, hk, rfl, rfl, rfl, HR, HL, HT⟩ := hrel
    by_cases hlt : k < cnt
    · have hlt' : (k : Int) < (cnt : Int) := by omega
      have hw1 : wrap64 (16 * (k : Int)) = 16 * (k : Int) := by have := HN.out; unfold wrap64; omega
      have hw2 : wrap64 (at' + 16 * (k : Int)) = at' + 16 * (k : Int) := by have := HN.out; have := HA.out; unfold wrap64; omega
      obtain ⟨rr, HRR⟩ : ∃ rr, Hid (rowOf s (at' + 16 * k) = rr) := ⟨_, rfl⟩
      go_wp2_with fail
      rw [hw2]
      refine (table_c g (at' + 16 * (k : Int)) s wr rr HT.out.v HS.out (by have := HN.out; have := HA.out; omega) HRR).mono ?_
      rintro e w1 ⟨rfl, hb1⟩
      have HT1 := Lib.hid (HT.out.below hb1)
      clear HT hb1
      cases rr with
      | none =>
        have HE : Hid (rowsOf s at' cnt = none) := rowsOf_stop (by rw [rowsOf_next HR.out, HRR.out]) hlt
        rw [rowVal]
        go_wp2_with fail
        go_ret2
        exact tabsPost_no HE.out (HT1.out.bel.alloc HT1.out.bel.size _)
      | some r =>
        rw [rowVal]
        cases hle : tagLe r.tag (lastTag l)
        · have HE : Hid (rowsOf s at' (k + 1) = some (l ++ [r])) := by unfold Hid; rw [rowsOf_next HR.out, HRR.out]; simp [hle]
          unfold tagLe at hle
          have HT2 := Lib.hid (HT1.out.below ((Below.refl _ _).alloc (Nat.le_refl _) (.cells #[.string r.tag, .int .i64 r.place, .int .i64 r.len] 64)))
          have HV2 : Hid (w1.heap.size ≠ w.heap.size) := by
            have h1 := HT1.out.lt
            unfold Hid; omega
          have HV3 : Hid ((w1.alloc (.cells #[.string r.tag, .int .i64 r.place, .int .i64 r.len] 64)).cell? ⟨w1.heap.size, 0, none⟩ = some (.string r.tag)) := by unfold Hid; simp [go_sem]
          go_wp2_with (at_builtin; refine wpList_row rfl _ _ rfl w (w1.alloc (.cells #[.string r.tag, .int .i64 r.place, .int .i64 r.len] 64)) g s w.heap.size cnt k l r rfl _ rfl (by simp) HT2.out HL.out hlt (Nat.le_refl _) w1.heap.size HV3.out HV2.out ?_; intro w2 hT2 hv2; have HT3 := Lib.hid hT2; clear hT2)
          have HW7 : Hid (wrap64 ((k : Int) + 1) = ((k + 1 : Nat) : Int)) := by have := HN.out; unfold Hid wrap64; omega
          go_roundw
          case rel => exact ⟨k + 1, l ++ [r], by omega, rfl, by rw [lastTag_snoc], by rw [HW7.out], HE, by have := HL.out; unfold Hid; simp; omega, HT3⟩
          case measure => rw [HW7.out]; simp only [intOf]; omega
        · have HE : Hid (rowsOf s at' cnt = none) := rowsOf_stop (by rw [rowsOf_next HR.out, HRR.out]; simp [hle]) hlt
          unfold tagLe at hle
          go_wp2_with fail
          go_ret2
          exact tabsPost_no HE.out (HT1.out.bel.alloc HT1.out.bel.size _)
    · have hlt' : ¬ (k : Int) < (cnt : Int) := by omega
      have e : k = cnt := by omega
      subst e
      go_wp2_with fail
      go_ret2
      exact tabsPost_yes HR.out HL.out HT.out

end Go.Proofs.Ytbcjicmledckbaa
