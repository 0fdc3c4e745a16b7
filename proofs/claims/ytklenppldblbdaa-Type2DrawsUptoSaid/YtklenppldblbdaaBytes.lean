/-
  Slices of bytes, told by the text of their bytes: what is kept, copies, how an argument is opened, its sizes, cells that may be written. It hangs on no function of the program. No conditions but those that each theorem names.
-/
import Derived.Test.YtklenppldblbdaaRows
import Derived.WalkKit
import Derived.ProofKit
import Derived.Below
import Derived.WalkSmall
import Derived.IntWalk
import Derived.Lib.Hide
import Derived.Outline
import Derived.PlainAid
import Derived.WalkSpells
import Derived.Laws.BytesArg
import Derived.Lib.ConvBytes
import Derived.Laws.AppendOwn
import Derived.OwnWalk
import Derived.OpenShut
import Derived.SizedLaws
import Derived.ArgAppend
import Derived.Laws.IdiomCopy
namespace Go.Proofs.Ytklenppldblbdaa
open Go.RowKit Go.PlainAid
set_option linter.unusedSimpArgs false
set_option linter.unusedVariables false

/-- The slice holds, in this world, the bytes of the text. -/
def IsB (w : World) (a : Option Addr) (len cap : Nat) (s : ByteArray) : Prop :=
  s.size = len ∧ len ≤ cap ∧ (len = 0 ∨ ∃ b off, a = some ⟨b, off, none⟩ ∧ ∀ i, i < len → w.cell? ⟨b, off + i, none⟩ = some (.int .u8 (bt s i)))

theorem IsB.kept {w w' : World} {B : Nat} {a : Option Addr} {len cap : Nat} {s : ByteArray} (h : IsB w a len cap s) (hb : Below B w w') (hB : ∀ b off, a = some ⟨b, off, none⟩ → b < B) : IsB w' a len cap s := by
  obtain ⟨h1, h2, h3⟩ := h
  refine ⟨h1, h2, ?_⟩
  rcases h3 with h3 | ⟨b, off, rfl, hc⟩
  · exact .inl h3
  · exact .inr ⟨b, off, rfl, fun i hi => by rw [hb.cell (p := ⟨b, off + i, none⟩) (hB b off rfl)]; exact hc i hi⟩

theorem IsB.below {w w' : World} {a : Option Addr} {len cap : Nat} {s : ByteArray} (h : IsB w a len cap s) (hb : Below w.heap.size w w') : IsB w' a len cap s := by
  obtain ⟨h1, h2, h3⟩ := h
  refine ⟨h1, h2, ?_⟩
  rcases h3 with h3 | ⟨b, off, rfl, hc⟩
  · exact .inl h3
  · refine .inr ⟨b, off, rfl, fun i hi => ?_⟩
    have := World.block_lt_of_cell? w _ (hc i hi)
    rw [hb.cell (p := ⟨b, off + i, none⟩) this]
    exact hc i hi

theorem bt_eq (s : ByteArray) {i : Nat} (h : i < s.size) : bt s i = ((s.data[i]'h).toNat : Int) := by
  rw [← get_bt s i h]; rfl

theorem str_of_bt (s : ByteArray) : strOfNums ((List.range s.size).map (bt s)) = s := by
  apply ByteArray.ext
  apply Array.ext
  · simp [strOfNums]
  · intro i h1 h2
    have h3 : i < s.size := h2
    simp [strOfNums, bt_eq s h3]

theorem IsB.conv {w : World} {a : Option Addr} {len cap : Nat} {s : ByteArray} (h : IsB w a len cap s) : (convert 23 9 (.slice a len cap)).run Try.prog w = .ok (.string s) w := by
  obtain ⟨h1, h2, rfl | ⟨b, off, rfl, hc⟩⟩ := h
  · have e : s = ByteArray.empty := by
      apply ByteArray.ext
      apply Array.ext
      · have : s.data.size = 0 := h1
        simp [this]
      · intro i q1 q2
        have : s.data.size = 0 := h1
        omega
    subst e
    rw [run_convert_bytes_string w 23 9 5 a 0 cap Try.underlying23 Try.underlying5 Try.underlying9]
    cases a with
    | none => simp [Conv.bytesToString]
    | some x => rw [run_bytesToString w x 0 cap [] (by simp [loadCells, loadCellsFrom])]; rfl
  · rw [run_convert_bytes_arg w 23 5 Try.underlying23 Try.underlying5 b off len cap ((List.range s.size).map (bt s)) (by simpa using h1) (fun i hi => by rw [hc i hi]; simp [List.getD, show i < s.size by omega]) 9 Try.underlying9, str_of_bt]

theorem bt_extract (s : ByteArray) (p q i : Nat) (hq : q ≤ s.size) (hi : p + i < q) : bt (s.extract p q) i = bt s (p + i) := by
  have h1 : i < (s.extract p q).size := by rw [ByteArray.size_extract]; omega
  rw [bt_eq _ h1, bt_eq _ (show p + i < s.size by omega)]
  simp [ByteArray.data_extract]

theorem IsB.cut {w : World} {b off len cap : Nat} {s : ByteArray} (h : IsB w (some ⟨b, off, none⟩) len cap s) {p q c : Nat} (hpq : p ≤ q) (hq : q ≤ len) (hc : q - p ≤ c) : IsB w (some ⟨b, off + p, none⟩) (q - p) c (s.extract p q) := by
  obtain ⟨h1, h2, h3 | ⟨b', off', h3, hcell⟩⟩ := h
  · exact ⟨by rw [ByteArray.size_extract]; omega, hc, .inl (by omega)⟩
  · cases h3
    refine ⟨by rw [ByteArray.size_extract]; omega, hc, .inr ⟨b, off + p, rfl, fun i hi => ?_⟩⟩
    rw [bt_extract s p q i (by omega) (by omega), Nat.add_assoc]
    exact hcell (p + i) (by omega)

theorem isB_bytes (w : World) (s : ByteArray) (e : TypeId) : IsB (Lib.bytesWorld w e s) (some ⟨w.heap.size, 0, none⟩) s.size (grownCap w s.size 0 e) s := by
  refine ⟨rfl, grownCap_ge _ _ _ _, .inr ⟨w.heap.size, 0, rfl, fun i hi => ?_⟩⟩
  rw [Nat.zero_add, Lib.bytesWorld_cell w e s i hi, bt_eq s hi]
  have : i < s.data.size := hi
  simp [List.getD, Array.getElem?_eq_getElem this]

theorem below_bytes (w : World) (s : ByteArray) (e : TypeId) : Below w.heap.size w (Lib.bytesWorld w e s) :=
  ⟨rfl, rfl, rfl, by rw [Lib.bytesWorld_size]; omega, fun k hk => Lib.bytesWorld_at_old w e s k hk⟩

theorem infoU8 : (Try.prog.info? 5).map (fun i => (i.zero, i.size, i.bytes)) = some (some (.int .u8 0), 1, 1) := by kernel_rfl

/-- The cells of a text's bytes. -/
def cellsOfStr (s : ByteArray) : List Value := (List.range s.size).map fun i => .int .u8 (bt s i)

theorem cellsOfStr_length (s : ByteArray) : (cellsOfStr s).length = s.size := by simp [cellsOfStr]

theorem cellsOfStr_get (s : ByteArray) (i : Nat) (h : i < s.size) : (cellsOfStr s)[i]? = some (.int .u8 (bt s i)) := by simp [cellsOfStr, h]

theorem isB_of_owns {w : World} {base : Nat} {a : Option Addr} {n c : Nat} {s : ByteArray} (h : w.ownsRow base 5 1 (.slice a n c) s.size (cellsOfStr s)) : IsB w a n c s := by
  have h0 := h
  rcases h.2 with ⟨hv, hn⟩ | ⟨g, cap, cur, hv, _, _, hnc, _, _, _⟩
  · cases hv
    exact ⟨hn, Nat.le_refl _, .inl rfl⟩
  · cases hv
    refine ⟨rfl, hnc, .inr ⟨g, 0, rfl, fun i hi => ?_⟩⟩
    have := h0.cells (g := g) rfl i _ (cellsOfStr_get s i hi)
    have hplain : (⟨g, 0, none⟩ : Addr).add i = ⟨g, 0 + i, none⟩ := by unfold Addr.add; split <;> simp_all
    rw [hplain] at this
    exact this

theorem append_copy (w : World) (ty : TypeId) (a : Option Addr) (len cap : Nat) (s : ByteArray) (hB : IsB w a len cap s) (hs : len ≤ 140737488355328) :
    ∃ g c' w', (Builtin.append_ #[23, 23] ty #[.slice (some ⟨w.heap.size, 0, none⟩) 0 0, .slice a len cap]).run Try.prog (w.alloc (.cells #[] 5)) = .ok (.slice (some ⟨g, 0, none⟩) len c') w' ∧
      w'.ownsRow w.heap.size 5 1 (.slice (some ⟨g, 0, none⟩) len c') s.size (cellsOfStr s) ∧ Below w.heap.size w w' := by
  obtain ⟨i0, hi, hz0, hz1, hz2⟩ := info_parts infoU8
  have hown : (w.alloc (.cells #[] 5)).ownsRow w.heap.size 5 1 (.slice (some ⟨w.heap.size, 0, none⟩) 0 0) 0 [] := World.ownsRow_made w #[] 0 (Nat.le_refl _) (by decide) rfl
  obtain ⟨h1, h2, rfl | ⟨b, off, rfl, hc⟩⟩ := hB
  · refine ⟨w.heap.size, 0, w.alloc (.cells #[] 5), ?_, ?_, (Below.refl _ _).alloc (Nat.le_refl _) _⟩
    · cases a <;> simp [Builtin.append_, run_underlying Try.underlying23, sizeOf, typeInfo, hi, Builtin.lenOf, Builtin.firstCells, loadCells, loadCellsFrom, storeCells]
    · have e : cellsOfStr s = [] := by simp [cellsOfStr, h1]
      rw [e, h1]
      exact hown
  · have hbelow : Below w.heap.size w (w.alloc (.cells #[] 5)) := (Below.refl _ _).alloc (Nat.le_refl _) _
    obtain ⟨v', w', hr, ho, hg, hn⟩ := run_append_own (P := Try.prog) (w.alloc (.cells #[] 5)) w.heap.size 23 ty 5 i0 (.int .u8 0) 1 1 Try.underlying23 hi hz0 hz1 hz2 rfl (by decide) _ 0 [] hown
      ⟨b, off, none⟩ len cap (cellsOfStr s) (by rw [cellsOfStr_length]; omega)
      (fun j u hj => by
        have hjl : j < s.size := by
          rcases Nat.lt_or_ge j s.size with h | h
          · exact h
          · rw [List.getElem?_eq_none (by rw [cellsOfStr_length]; exact h)] at hj; cases hj
        rw [cellsOfStr_get s j hjl] at hj
        have hcj := hc j (by omega)
        have hlt := World.block_lt_of_cell? w _ hcj
        have hplain : (⟨b, off, none⟩ : Addr).add j = ⟨b, off + j, none⟩ := by unfold Addr.add; split <;> simp_all
        rw [hplain, hbelow.cell (p := ⟨b, off + j, none⟩) hlt, hcj]
        exact hj)
      (fun u hu => by
        simp [cellsOfStr] at hu
        obtain ⟨_, _, rfl⟩ := hu
        rfl)
      (by unfold maxLen; omega) (by omega) (by simp)
    simp only [Nat.zero_add, List.nil_append] at ho
    have hv : ∃ g c', v' = .slice (some ⟨g, 0, none⟩) len c' := by
      rcases ho.2 with ⟨hv, _⟩ | ⟨g, cap, cur, hv, _⟩
      · have := (hn.1 hv).1
        cases this
      · exact ⟨_, _, hv⟩
    obtain ⟨g, c', rfl⟩ := hv
    refine ⟨g, c', w', hr, by rw [h1]; exact ho, hbelow.grown hg (by simp) ?_⟩
    intro k hk
    simp [Value.ownBlock] at hk
    omega

theorem wpList_copy {ops : Array Oper} {rest : List Oper} {o : Oper} {t : Act} {Q : Exit → Act → World → Prop} (hgd : o.guard = none) (sl x : Operand)
    (ho : o.op = .call { callee := .builtin .append, args := #[sl, x], argTypes := #[23, 23] })
    (w : World) (a : Option Addr) (len cap : Nat) (s : ByteArray) (hs : t.eval sl = .slice (some ⟨w.heap.size, 0, none⟩) 0 0) (hx : t.eval x = .slice a len cap) (hB : IsB w a len cap s) (hl : len ≤ 140737488355328)
    (h : ∀ g c' w', w'.ownsRow w.heap.size 5 1 (.slice (some ⟨g, 0, none⟩) len c') s.size (cellsOfStr s) → Below w.heap.size w w' → wpList Try.prog ops Q rest (t.put o.dst (.slice (some ⟨g, 0, none⟩) len c')) w') :
    wpList Try.prog ops Q (o :: rest) t (w.alloc (.cells #[] 5)) :=
  wpList_plain hgd fun _ hK => by
    obtain ⟨g, c', w', hr, h2, h3⟩ := append_copy w o.type a len cap s hB hl
    unfold Oper.wp execOp
    simp only [ho, resolve, invoke, builtin, Sem.run_bind, Sem.run_pure, Result.andThen_ok, List.map_toArray, List.map_cons, List.map_nil, hs, hx, hr]
    exact hK _ _ (h g c' w' h2 h3)

/-- The first n cells of the block are bytes that may be written. -/
def Room (w : World) (g n : Nat) : Prop := ∀ i, i < n → (∃ z, w.cell? ⟨g, i, none⟩ = some (.int .u8 z)) ∧ w.frozen? ⟨g, i, none⟩ = false

theorem Room.set {w : World} {g n : Nat} (h : Room w g n) (b j : Nat) (z : Int) : Room (w.setCell ⟨b, j, none⟩ (.int .u8 z)) g n := by
  intro i hi
  obtain ⟨⟨y, hy⟩, hf⟩ := h i hi
  refine ⟨?_, by simpa using hf⟩
  by_cases e : (⟨b, j, none⟩ : Addr) = ⟨g, i, none⟩
  · exact ⟨z, by rw [← e]; exact World.cell?_setCell_same w _ _ (u := .int .u8 y) (by rw [e]; exact hy)⟩
  · exact ⟨y, by rw [World.cell?_setCell_other w _ _ _ e]; exact hy⟩

theorem Room.below {w w' : World} {g n : Nat} (h : Room w g n) (hb : Below w.heap.size w w') : Room w' g n := by
  intro i hi
  obtain ⟨⟨y, hy⟩, hf⟩ := h i hi
  have hlt := World.block_lt_of_cell? w _ hy
  exact ⟨⟨y, by rw [hb.cell (p := ⟨g, i, none⟩) hlt]; exact hy⟩, by rw [hb.frozen (p := ⟨g, i, none⟩) hlt]; exact hf⟩

theorem Room.mono {w : World} {g n m : Nat} (h : Room w g n) (hm : m ≤ n) : Room w g m := fun i hi => h i (by omega)

theorem Room.alloc {w : World} {g n : Nat} (h : Room w g n) (o : Obj) : Room (w.alloc o) g n := h.below ((Below.refl _ _).alloc (Nat.le_refl _) _)

theorem room_owns {w : World} {base g c n : Nat} {xs : List Value} (h : w.ownsRow base 5 1 (.slice (some ⟨g, 0, none⟩) n c) n xs) (hx : ∀ (i : Nat) (u : Value), xs[i]? = some u → ∃ z, u = Value.int .u8 z) : Room w g n := by
  intro i hi
  have hl := h.1
  obtain ⟨u, hu⟩ : ∃ u, xs[i]? = some u := ⟨xs[i]'(by omega), by simp [show i < xs.length by omega]⟩
  have hc := h.cells (g := g) rfl i u hu
  obtain ⟨z, rfl⟩ := hx i u hu
  rw [Addr.add_lit, Nat.zero_add] at hc
  refine ⟨⟨z, hc⟩, ?_⟩
  rcases h.2 with ⟨hv, _⟩ | ⟨g', cap, cur, hv, _, hg, _⟩
  · cases hv
  · cases hv
    simp [World.frozen?, hg]

theorem room_bytes (w : World) (s : ByteArray) : Room (Lib.bytesWorld w 5 s) w.heap.size (grownCap w s.size 0 5) := by
  intro i hi
  have hge := grownCap_ge w s.size 0 5
  have hsz : (Lib.bytesCells w 5 s).size = grownCap w s.size 0 5 := by
    have h1 : s.data.size = s.size := rfl
    simp [Lib.bytesCells, h1]; omega
  constructor
  · simp only [World.cell?, Lib.bytesWorld_at_new]
    by_cases h : i < s.size
    · have h2 : i < s.data.size := h
      refine ⟨((s.data[i]'h2).toNat : Int), ?_⟩
      simp [Lib.bytesCells, Array.getElem?_append, h, Array.getElem?_eq_getElem h2]
    · have h2 : ¬ i < s.data.size := h
      have h3 : i - s.size < grownCap w s.size 0 5 - s.size := by omega
      refine ⟨0, ?_⟩
      simp [Lib.bytesCells, Array.getElem?_append, h, Array.getElem?_replicate, h3]
  · simp [World.frozen?, Lib.bytesWorld_at_new, hsz]
    omega

/-- The first n cells of the block are there and may be written. -/
def Slots (w : World) (g n : Nat) : Prop := ∀ i, i < n → (w.cell? ⟨g, i, none⟩).isSome = true ∧ w.frozen? ⟨g, i, none⟩ = false

theorem Room.slots {w : World} {g n : Nat} (h : Room w g n) : Slots w g n := fun i hi => by
  obtain ⟨⟨z, hz⟩, hf⟩ := h i hi
  exact ⟨by rw [hz]; rfl, hf⟩

theorem Slots.set {w : World} {g n : Nat} (h : Slots w g n) (b j : Nat) (u : Value) : Slots (w.setCell ⟨b, j, none⟩ u) g n := by
  intro i hi
  obtain ⟨hy, hf⟩ := h i hi
  obtain ⟨y, hy⟩ := Option.isSome_iff_exists.1 hy
  obtain ⟨y', hy'⟩ := cell?_setCell_some (p := ⟨b, j, none⟩) (x := u) hy
  exact ⟨by rw [hy']; rfl, by simpa using hf⟩

theorem Slots.below {w w' : World} {g n : Nat} (h : Slots w g n) (hb : Below w.heap.size w w') : Slots w' g n := by
  intro i hi
  obtain ⟨hy, hf⟩ := h i hi
  obtain ⟨y, hy⟩ := Option.isSome_iff_exists.1 hy
  have hlt := World.block_lt_of_cell? w _ hy
  exact ⟨by rw [hb.cell (p := ⟨g, i, none⟩) hlt, hy]; rfl, by rw [hb.frozen (p := ⟨g, i, none⟩) hlt]; exact hf⟩

theorem Slots.alloc {w : World} {g n : Nat} (h : Slots w g n) (o : Obj) : Slots (w.alloc o) g n := h.below ((Below.refl _ _).alloc (Nat.le_refl _) _)

theorem setCells_one (w : World) (b o : Nat) (u : Value) : w.setCells b o [u] = w.setCell ⟨b, o, none⟩ u := by simp [World.setCells]

section
open Go.ChangeShapes Go.WideShapes Go.ChangeAt

theorem bytesU8 : Try.checked.prog.bytesOf 5 = 1 := by kernel_rfl

theorem cellsU8 : Try.prog.cellsOf 5 = 1 := by kernel_rfl

set_option maxRecDepth 20000 in
theorem open_bytes {H : Type} {enc : TypeId × Value → H} {w : World} {r : Reach} {b0 : Nat} {v : Value} {d : DataW H} {p : List MemPlace}
    (hv : Value.okWide Try.prog w r b0 23 v) (h : DataW.Trod enc Try.prog w 0 (fun _ => true) true 23 v d p) :
    ∃ a cap s, v = .slice a s.size cap ∧ IsB w a s.size cap s ∧ ((d = .nil ∧ s.size = 0) ∨ ∃ elems spare, d = .slice elems spare ∧ elems.length + spare.length = cap) := by
  obtain ⟨a, len, cap, rfl⟩ := okWide_slice Try.underlying23 hv
  obtain ⟨fuel, hf⟩ := h
  rcases open_ints Try.underlying23 Try.underlying5 cellsU8 hf with ⟨hcs, hx⟩ | ⟨x, l, c, zs, hcs, _, hl, hm, hz, hx, hcell, hwz⟩
  · simp [Value.cells] at hcs
    obtain ⟨rfl, rfl, rfl⟩ := hcs
    cases hx
    exact ⟨none, 0, ByteArray.empty, rfl, ⟨rfl, Nat.le_refl _, .inl rfl⟩, .inl ⟨rfl, rfl⟩⟩
  · simp [Value.cells] at hcs
    obtain ⟨rfl, rfl, rfl⟩ := hcs
    cases hx
    simp at hz
    have hsz : (strOfNums (zs.take len)).size = len := by rw [strOfNums_size]; simp; omega
    refine ⟨some x, cap, strOfNums (zs.take len), by rw [hsz], ?_, .inr ⟨_, _, rfl, by simp [lits]; omega⟩⟩
    rw [hsz]
    refine ⟨hsz, hl, ?_⟩
    by_cases h0 : len = 0
    · exact .inl h0
    · right
      obtain ⟨b, off, spot⟩ := x
      have hc := hcell 0 (by omega)
      have hspot : spot = none := by simpa [Addr.add] using World.cell?_spot hc
      subst hspot
      refine ⟨b, off, rfl, fun i hi => ?_⟩
      have hplain : (⟨b, off, none⟩ : Addr).add i = ⟨b, off + i, none⟩ := by unfold Addr.add; split <;> simp_all
      rw [← hplain, hcell i (by omega)]
      have hi2 : i < zs.length := by omega
      have hmem := hwz (zs[i]) (List.getElem_mem _)
      simp [Lit.wf, IntKind.min, IntKind.max, IntKind.signed, IntKind.bits] at hmem
      rw [bt_eq _ (by rw [hsz]; exact hi)]
      simp [strOfNums, List.getD, hi2]
      omega

theorem sized_bytes {H : Type} {ts : List TypeId} {ds : List (DataW H)} {j cap n : Nat} {d : DataW H} (hsz : (DataW.weightsEach Try.checked.prog ts ds).all (· ≤ reachBytes) = true) (ht : ts[j]? = some 23) (hd : ds[j]? = some d)
    (hn : n ≤ cap) (h : (d = .nil ∧ n = 0) ∨ ∃ elems spare, d = .slice elems spare ∧ elems.length + spare.length = cap) : (n : Int) ≤ 140737488351232 := by
  rcases h with ⟨_, h⟩ | ⟨elems, spare, rfl, h⟩
  · omega
  · have := sized_slice hsz ht hd Try.underlying23
    rw [bytesU8, h] at this
    have h2 : reachBytes = 140737488351232 := by decide
    omega

theorem bulk_part {H : Type} {d : DataW H} : ∀ {l : List (DataW H)} {j : Nat}, l[j]? = some d → Rows.uptoBulk d ≤ Rows.uptoBulkAll l
  | x :: r, 0, h => by
    simp at h; subst h; simp only [Rows.uptoBulkAll]; omega
  | x :: r, j + 1, h => by
    simp at h
    have := bulk_part h
    simp only [Rows.uptoBulkAll]; omega
  | [], _, h => by simp at h

theorem bulk_one {H : Type} (d : DataW H) : 0 < Rows.uptoBulk d := by
  match d with
  | .lit l => cases l <;> exact Nat.succ_pos _
  | .nil | .held _ | .ptr _ | .agg _ | .iface _ _ | .map _ | .slice _ _ => simp [Rows.uptoBulk]

theorem bulk_length {H : Type} : ∀ (l : List (DataW H)), l.length ≤ Rows.uptoBulkAll l
  | [] => by simp [Rows.uptoBulkAll]
  | x :: r => by
    have h1 := bulk_one x
    have h2 := bulk_length r
    simp only [Rows.uptoBulkAll, List.length_cons]; omega

theorem small_bytes {H : Type} {ds : List (DataW H)} {j cap n : Nat} {d : DataW H} (hk : Rows.uptoSmall H ds = true) (hd : ds[j]? = some d)
    (hn : n ≤ cap) (h : (d = .nil ∧ n = 0) ∨ ∃ elems spare, d = .slice elems spare ∧ elems.length + spare.length = cap) : n ≤ 1048576 := by
  have hb : Rows.uptoBulkAll ds ≤ 1048576 := of_decide_eq_true hk
  rcases h with ⟨_, h⟩ | ⟨elems, spare, rfl, h⟩
  · omega
  · have h1 := bulk_part hd
    have h2 := bulk_length elems
    have h3 := bulk_length spare
    simp only [Rows.uptoBulk] at h1
    omega

end
end Go.Proofs.Ytklenppldblbdaa
