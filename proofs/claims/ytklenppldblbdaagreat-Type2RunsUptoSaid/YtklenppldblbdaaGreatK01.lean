import Derived.Test.YtklenppldblbdaaGreatRows
import Derived.WalkKit
import Derived.ProofKit
import Derived.Below
import Derived.WalkSmall
import Derived.IntWalk
import Derived.Lib.Hide
import Derived.Outline
import Derived.PlainAid
import Derived.WalkSpells
import Derived.Laws.BytesArg
import Derived.Lib.ConvBytes
import Derived.Laws.AppendOwn
import Derived.OwnWalk
import Derived.OpenShut
import Derived.SizedLaws
import Derived.ArgAppend
import Derived.Laws.IdiomCopy
import Derived.Laws.OwnMore
import Derived.Deep.AppendLies
import Derived.Deep.Onto
import Derived.Deep.QuietTactic
import Derived.BigQuiet
set_option linter.unusedSimpArgs false
set_option linter.unusedVariables false
namespace Go.Proofs.YtklenppldblbdaaGreat
open Go.RowKit Go.PlainAid
def IsB (w : World) (a : Option Addr) (len cap : Nat) (s : ByteArray) : Prop :=
 s.size = len ∧ len ≤ cap ∧ (len = 0 ∨ ∃ b off, a = some ⟨b, off, none⟩ ∧ ∀ i, i < len → w.cell? ⟨b, off + i, none⟩ = some (.int .u8 (bt s i)))
theorem IsB.kept {w w' : World} {B : Nat} {a : Option Addr} {len cap : Nat} {s : ByteArray} (h : IsB w a len cap s) (hb : Below B w w') (hB : ∀ b off, a = some ⟨b, off, none⟩ → b < B) : IsB w' a len cap s := by
 obtain ⟨h1, h2, h3⟩ := h
 refine ⟨h1, h2, ?_⟩
 rcases h3 with h3 | ⟨b, off, rfl, hc⟩
 ·exact .inl h3
 ·exact .inr ⟨b, off, rfl, fun i hi => by rw [hb.cell (p := ⟨b, off + i, none⟩) (hB b off rfl)]; exact hc i hi⟩
theorem IsB.below {w w' : World} {a : Option Addr} {len cap : Nat} {s : ByteArray} (h : IsB w a len cap s) (hb : Below w.heap.size w w') : IsB w' a len cap s := by
 obtain ⟨h1, h2, h3⟩ := h
 refine ⟨h1, h2, ?_⟩
 rcases h3 with h3 | ⟨b, off, rfl, hc⟩
 ·exact .inl h3
 ·refine .inr ⟨b, off, rfl, fun i hi => ?_⟩
  have := World.block_lt_of_cell? w _ (hc i hi)
  rw [hb.cell (p := ⟨b, off + i, none⟩) this]
  exact hc i hi
theorem bt_eq (s : ByteArray) {i : Nat} (h : i < s.size) : bt s i = ((s.data[i]'h).toNat : Int) := by
 rw [← get_bt s i h]; rfl
theorem str_of_bt (s : ByteArray) : strOfNums ((List.range s.size).map (bt s)) = s := by
 apply ByteArray.ext
 apply Array.ext
 ·simp [strOfNums]
 ·intro i h1 h2
  have h3 : i < s.size := h2
  simp [strOfNums, bt_eq s h3]
theorem IsB.conv {w : World} {a : Option Addr} {len cap : Nat} {s : ByteArray} (h : IsB w a len cap s) : (convert 22 9 (.slice a len cap)).run Tryz.prog w = .ok (.string s) w := by
 obtain ⟨h1, h2, rfl | ⟨b, off, rfl, hc⟩⟩ := h
 ·have e : s = ByteArray.empty := by
   apply ByteArray.ext
   apply Array.ext
   ·have : s.data.size = 0 := h1
    simp [this]
   ·intro i q1 q2
    have : s.data.size = 0 := h1
    omega
  subst e
  rw [run_convert_bytes_string w 22 9 5 a 0 cap Tryz.underlying22 Tryz.underlying5 Tryz.underlying9]
  cases a with
  | none => simp [Conv.bytesToString]
  | some x => rw [run_bytesToString w x 0 cap [] (by simp [loadCells, loadCellsFrom])]; rfl
 ·rw [run_convert_bytes_arg w 22 5 Tryz.underlying22 Tryz.underlying5 b off len cap ((List.range s.size).map (bt s)) (by simpa using h1) (fun i hi => by rw [hc i hi]; simp [List.getD, show i < s.size by omega]) 9 Tryz.underlying9, str_of_bt]
theorem bt_extract (s : ByteArray) (p q i : Nat) (hq : q ≤ s.size) (hi : p + i < q) : bt (s.extract p q) i = bt s (p + i) := by
 have h1 : i < (s.extract p q).size := by rw [ByteArray.size_extract]; omega
 rw [bt_eq _ h1, bt_eq _ (show p + i < s.size by omega)]
 simp [ByteArray.data_extract]
theorem IsB.cut {w : World} {b off len cap : Nat} {s : ByteArray} (h : IsB w (some ⟨b, off, none⟩) len cap s) {p q c : Nat} (hpq : p ≤ q) (hq : q ≤ len) (hc : q - p ≤ c) : IsB w (some ⟨b, off + p, none⟩) (q - p) c (s.extract p q) := by
 obtain ⟨h1, h2, h3 | ⟨b', off', h3, hcell⟩⟩ := h
 ·exact ⟨by rw [ByteArray.size_extract]; omega, hc, .inl (by omega)⟩
 ·cases h3
  refine ⟨by rw [ByteArray.size_extract]; omega, hc, .inr ⟨b, off + p, rfl, fun i hi => ?_⟩⟩
  rw [bt_extract s p q i (by omega) (by omega), Nat.add_assoc]
  exact hcell (p + i) (by omega)
theorem infoU8 : (Tryz.prog.info? 5).map (fun i => (i.zero, i.size, i.bytes)) = some (some (.int .u8 0), 1, 1) := by kernel_rfl
def cellsOfStr (s : ByteArray) : List Value := (List.range s.size).map fun i => .int .u8 (bt s i)
theorem cellsOfStr_length (s : ByteArray) : (cellsOfStr s).length = s.size := by simp [cellsOfStr]
theorem cellsOfStr_get (s : ByteArray) (i : Nat) (h : i < s.size) : (cellsOfStr s)[i]? = some (.int .u8 (bt s i)) := by simp [cellsOfStr, h]
theorem isB_of_owns {w : World} {base : Nat} {a : Option Addr} {n c : Nat} {s : ByteArray} (h : w.ownsRow base 5 1 (.slice a n c) s.size (cellsOfStr s)) : IsB w a n c s := by
 have h0 := h
 rcases h.2 with ⟨hv, hn⟩ | ⟨g, cap, cur, hv, _, _, hnc, _, _, _⟩
 ·cases hv
  exact ⟨hn, Nat.le_refl _, .inl rfl⟩
 ·cases hv
  refine ⟨rfl, hnc, .inr ⟨g, 0, rfl, fun i hi => ?_⟩⟩
  have := h0.cells (g := g) rfl i _ (cellsOfStr_get s i hi)
  have hplain : (⟨g, 0, none⟩ : Addr).add i = ⟨g, 0 + i, none⟩ := by unfold Addr.add; split <;> simp_all
  rw [hplain] at this
  exact this
theorem append_copy (w : World) (ty : TypeId) (a : Option Addr) (len cap : Nat) (s : ByteArray) (hB : IsB w a len cap s) (hs : len ≤ 140737488355328) :
 ∃ g c' w', (Builtin.append_ #[22, 22] ty #[.slice (some ⟨w.heap.size, 0, none⟩) 0 0, .slice a len cap]).run Tryz.prog (w.alloc (.cells #[] 5)) = .ok (.slice (some ⟨g, 0, none⟩) len c') w' ∧
  w'.ownsRow w.heap.size 5 1 (.slice (some ⟨g, 0, none⟩) len c') s.size (cellsOfStr s) ∧ Below w.heap.size w w' := by
 obtain ⟨i0, hi, hz0, hz1, hz2⟩ := info_parts infoU8
 have hown : (w.alloc (.cells #[] 5)).ownsRow w.heap.size 5 1 (.slice (some ⟨w.heap.size, 0, none⟩) 0 0) 0 [] := World.ownsRow_made w #[] 0 (Nat.le_refl _) (by decide) rfl
 obtain ⟨h1, h2, rfl | ⟨b, off, rfl, hc⟩⟩ := hB
 ·refine ⟨w.heap.size, 0, w.alloc (.cells #[] 5), ?_, ?_, (Below.refl _ _).alloc (Nat.le_refl _) _⟩
  ·cases a <;> simp [Builtin.append_, run_underlying Tryz.underlying22, sizeOf, typeInfo, hi, Builtin.lenOf, Builtin.firstCells, loadCells, loadCellsFrom, storeCells]
  ·have e : cellsOfStr s = [] := by simp [cellsOfStr, h1]
   rw [e, h1]
   exact hown
 ·have hbelow : Below w.heap.size w (w.alloc (.cells #[] 5)) := (Below.refl _ _).alloc (Nat.le_refl _) _
  obtain ⟨v', w', hr, ho, hg, hn⟩ := run_append_own (P := Tryz.prog) (w.alloc (.cells #[] 5)) w.heap.size 22 ty 5 i0 (.int .u8 0) 1 1 Tryz.underlying22 hi hz0 hz1 hz2 rfl (by decide) _ 0 [] hown
   ⟨b, off, none⟩ len cap (cellsOfStr s) (by rw [cellsOfStr_length]; omega)
   (fun j u hj => by
    have hjl : j < s.size := by
     rcases Nat.lt_or_ge j s.size with h | h
     ·exact h
     ·rw [List.getElem?_eq_none (by rw [cellsOfStr_length]; exact h)] at hj; cases hj
    rw [cellsOfStr_get s j hjl] at hj
    have hcj := hc j (by omega)
    have hlt := World.block_lt_of_cell? w _ hcj
    have hplain : (⟨b, off, none⟩ : Addr).add j = ⟨b, off + j, none⟩ := by unfold Addr.add; split <;> simp_all
    rw [hplain, hbelow.cell (p := ⟨b, off + j, none⟩) hlt, hcj]
    exact hj)
   (fun u hu => by
    simp [cellsOfStr] at hu
    obtain ⟨_, _, rfl⟩ := hu
    rfl)
   (by unfold maxLen; omega) (by omega) (by simp)
  simp only [Nat.zero_add, List.nil_append] at ho
  have hv : ∃ g c', v' = .slice (some ⟨g, 0, none⟩) len c' := by
   rcases ho.2 with ⟨hv, _⟩ | ⟨g, cap, cur, hv, _⟩
   ·have := (hn.1 hv).1
    cases this
   ·exact ⟨_, _, hv⟩
  obtain ⟨g, c', rfl⟩ := hv
  refine ⟨g, c', w', hr, by rw [h1]; exact ho, hbelow.grown hg (by simp) ?_⟩
  intro k hk
  simp [Value.ownBlock] at hk
  omega
theorem wpList_copy {ops : Array Oper} {rest : List Oper} {o : Oper} {t : Act} {Q : Exit → Act → World → Prop} (hgd : o.guard = none) (sl x : Operand)
 (ho : o.op = .call { callee := .builtin .append, args := #[sl, x], argTypes := #[22, 22] })
 (w : World) (a : Option Addr) (len cap : Nat) (s : ByteArray) (hs : t.eval sl = .slice (some ⟨w.heap.size, 0, none⟩) 0 0) (hx : t.eval x = .slice a len cap) (hB : IsB w a len cap s) (hl : len ≤ 140737488355328)
 (h : ∀ g c' w', w'.ownsRow w.heap.size 5 1 (.slice (some ⟨g, 0, none⟩) len c') s.size (cellsOfStr s) → Below w.heap.size w w' → wpList Tryz.prog ops Q rest (t.put o.dst (.slice (some ⟨g, 0, none⟩) len c')) w') :
 wpList Tryz.prog ops Q (o :: rest) t (w.alloc (.cells #[] 5)) :=
 wpList_plain hgd fun _ hK => by
  obtain ⟨g, c', w', hr, h2, h3⟩ := append_copy w o.type a len cap s hB hl
  unfold Oper.wp execOp
  simp only [ho, resolve, invoke, builtin, Sem.run_bind, Sem.run_pure, Result.andThen_ok, List.map_toArray, List.map_cons, List.map_nil, hs, hx, hr]
  exact hK _ _ (h g c' w' h2 h3)
def Room (w : World) (g n : Nat) : Prop := ∀ i, i < n → (∃ z, w.cell? ⟨g, i, none⟩ = some (.int .u8 z)) ∧ w.frozen? ⟨g, i, none⟩ = false
theorem Room.set {w : World} {g n : Nat} (h : Room w g n) (b j : Nat) (z : Int) : Room (w.setCell ⟨b, j, none⟩ (.int .u8 z)) g n := by
 intro i hi
 obtain ⟨⟨y, hy⟩, hf⟩ := h i hi
 refine ⟨?_, by simpa using hf⟩
 by_cases e : (⟨b, j, none⟩ : Addr) = ⟨g, i, none⟩
 ·exact ⟨z, by rw [← e]; exact World.cell?_setCell_same w _ _ (u := .int .u8 y) (by rw [e]; exact hy)⟩
 ·exact ⟨y, by rw [World.cell?_setCell_other w _ _ _ e]; exact hy⟩
theorem Room.below {w w' : World} {g n : Nat} (h : Room w g n) (hb : Below w.heap.size w w') : Room w' g n := by
 intro i hi
 obtain ⟨⟨y, hy⟩, hf⟩ := h i hi
 have hlt := World.block_lt_of_cell? w _ hy
 exact ⟨⟨y, by rw [hb.cell (p := ⟨g, i, none⟩) hlt]; exact hy⟩, by rw [hb.frozen (p := ⟨g, i, none⟩) hlt]; exact hf⟩
theorem Room.mono {w : World} {g n m : Nat} (h : Room w g n) (hm : m ≤ n) : Room w g m := fun i hi => h i (by omega)
theorem Room.alloc {w : World} {g n : Nat} (h : Room w g n) (o : Obj) : Room (w.alloc o) g n := h.below ((Below.refl _ _).alloc (Nat.le_refl _) _)
def Slots (w : World) (g n : Nat) : Prop := ∀ i, i < n → (w.cell? ⟨g, i, none⟩).isSome = true ∧ w.frozen? ⟨g, i, none⟩ = false
theorem Slots.set {w : World} {g n : Nat} (h : Slots w g n) (b j : Nat) (u : Value) : Slots (w.setCell ⟨b, j, none⟩ u) g n := by
 intro i hi
 obtain ⟨hy, hf⟩ := h i hi
 obtain ⟨y, hy⟩ := Option.isSome_iff_exists.1 hy
 obtain ⟨y', hy'⟩ := cell?_setCell_some (p := ⟨b, j, none⟩) (x := u) hy
 exact ⟨by rw [hy']; rfl, by simpa using hf⟩
theorem Slots.below {w w' : World} {g n : Nat} (h : Slots w g n) (hb : Below w.heap.size w w') : Slots w' g n := by
 intro i hi
 obtain ⟨hy, hf⟩ := h i hi
 obtain ⟨y, hy⟩ := Option.isSome_iff_exists.1 hy
 have hlt := World.block_lt_of_cell? w _ hy
 exact ⟨by rw [hb.cell (p := ⟨g, i, none⟩) hlt, hy]; rfl, by rw [hb.frozen (p := ⟨g, i, none⟩) hlt]; exact hf⟩
theorem Slots.alloc {w : World} {g n : Nat} (h : Slots w g n) (o : Obj) : Slots (w.alloc o) g n := h.below ((Below.refl _ _).alloc (Nat.le_refl _) _)
section
open Go.ChangeShapes Go.WideShapes Go.ChangeAt
theorem cellsU8 : Tryz.prog.cellsOf 5 = 1 := by kernel_rfl
theorem bulk_part {H : Type} {d : DataW H} : ∀ {l : List (DataW H)} {j : Nat}, l[j]? = some d → Rows.uptoBulk d ≤ Rows.uptoBulkAll l
 | x :: r, 0, h => by
   simp at h; subst h; simp only [Rows.uptoBulkAll]; omega
 | x :: r, j + 1, h => by
   simp at h
   have := bulk_part h
   simp only [Rows.uptoBulkAll]; omega
 | [], _, h => by simp at h
theorem bulk_one {H : Type} (d : DataW H) : 0 < Rows.uptoBulk d := by
 match d with
 | .lit l => cases l <;> exact Nat.succ_pos _
 | .nil | .held _ | .ptr _ | .agg _ | .iface _ _ | .map _ | .slice _ _ => simp [Rows.uptoBulk]
theorem bulk_length {H : Type} : ∀ (l : List (DataW H)), l.length ≤ Rows.uptoBulkAll l
 | [] => by simp [Rows.uptoBulkAll]
 | x :: r => by
   have h1 := bulk_one x
   have h2 := bulk_length r
   simp only [Rows.uptoBulkAll, List.length_cons]; omega
end
end Go.Proofs.YtklenppldblbdaaGreat
namespace Go.Proofs.YtklenppldblbdaaGreat
open Go.RowKit Go.PlainAid
theorem infoInt : (Tryz.prog.info? 3).map (fun i => (i.zero, i.size, i.bytes)) = some (some (.int .i64 0), 1, 8) := by kernel_rfl
def IntsAt (w : World) (g : Nat) (L : List Int) : Prop := w.heap[g]? = some (.cells (L.map (Value.int .i64)).toArray 3 (0, 0))
theorem IntsAt.lt {w : World} {g : Nat} {L : List Int} (h : IntsAt w g L) : g < w.heap.size := (Array.getElem?_eq_some_iff.1 h).1
theorem IntsAt.cell {w : World} {g : Nat} {L : List Int} (h : IntsAt w g L) {i : Nat} (hi : i < L.length) : w.cell? ⟨g, i, none⟩ = some (.int .i64 (L.getD i 0)) := by
 have h' : w.heap[g]? = _ := h
 simp [World.cell?, World.cells?, h', hi, List.getD]
theorem IntsAt.frozen {w : World} {g : Nat} {L : List Int} (h : IntsAt w g L) (i : Nat) : w.frozen? ⟨g, i, none⟩ = false := by
 have h' : w.heap[g]? = _ := h
 simp [World.frozen?, h']
theorem IntsAt.kept {w w' : World} {g B : Nat} {L : List Int} (h : IntsAt w g L) (hb : Below B w w') (hB : g < B) : IntsAt w' g L := by
 unfold IntsAt; rw [hb.block g hB]; exact h
theorem IntsAt.below {w w' : World} {g : Nat} {L : List Int} (h : IntsAt w g L) (hb : Below w.heap.size w w') : IntsAt w' g L := h.kept hb h.lt
theorem IntsAt.set {w : World} {g : Nat} {L : List Int} (h : IntsAt w g L) (j : Nat) (v : Int) : IntsAt (w.setCell ⟨g, j, none⟩ (.int .i64 v)) g (L.set j v) := by
 have h' : w.heap[g]? = _ := h
 unfold IntsAt
 simp [World.setCell, Array.getElem?_modify, h', List.map_set]
theorem IntsAt.other {w : World} {g : Nat} {L : List Int} (h : IntsAt w g L) (p : Addr) (v : Value) (hne : p.block ≠ g) : IntsAt (w.setCell p v) g L := by
 unfold IntsAt; rw [Below.heap_setCell _ _ _ _ (Ne.symm hne)]; exact h
theorem IntsAt.drew {w : World} {g : Nat} {L : List Int} (h : IntsAt w g L) : IntsAt w.drew g L := h
theorem IntsAt.owns {w : World} {g base : Nat} {L : List Int} (h : IntsAt w g L) (hb : base ≤ g) (hl : L.length ≤ 140737488355328) : w.ownsRow base 3 1 (.slice (some ⟨g, 0, none⟩) L.length L.length) L.length (L.map (Value.int .i64)) := by
 refine ⟨by simp, .inr ⟨g, L.length, (L.map (Value.int .i64)).toArray, rfl, hb, h, Nat.le_refl _, by unfold maxLen; omega, by simp, ?_⟩⟩
 simp [List.take_of_length_le]
theorem intsAt_alloc (w : World) (L : List Int) : IntsAt (w.alloc (.cells (L.map (Value.int .i64)).toArray 3)) w.heap.size L := heap_alloc_new w _
theorem made_zero : ∀ k, madeCells #[.int .i64 0] k = ((List.replicate k (0 : Int)).map (Value.int .i64)).toArray := by
 intro k
 apply Array.ext
 ·simp [size_madeCells]
 ·intro i h1 h2
  simp [madeCells, Nat.mod_one]
theorem run_make_ints (k : Nat) (hk : k ≤ 1048577) (u : World) : (Instr.makeSlice 50 (.int .i64 (k : Int)) (.int .i64 (k : Int))).run Tryz.prog u =
 .ok (.slice (some ⟨u.heap.size, 0, none⟩) k k) (u.alloc (.cells ((List.replicate k (0 : Int)).map (Value.int .i64)).toArray 3)) := by
 obtain ⟨i0, hi, hz0, hz1, hz2⟩ := info_parts infoInt
 have h := run_make (P := Tryz.prog) u 50 3 i0 (.int .i64 0) Tryz.underlying50 hi hz0 .i64 .i64 (k : Int) (k : Int) (by omega) (Int.le_refl _) (by rw [hz2]; omega) (by omega)
 rw [Int.toNat_natCast] at h
 rw [← made_zero]
 simpa [hz1, Value.cells] using h
theorem make_ints (k : Nat) (hk : k ≤ 1048577) (u : World) : ∃ w', (Instr.makeSlice 50 (.int .i64 (k : Int)) (.int .i64 (k : Int))).run Tryz.prog u = .ok (.slice (some ⟨u.heap.size, 0, none⟩) k k) w' ∧
 IntsAt w' u.heap.size (List.replicate k 0) ∧ Below u.heap.size u w' ∧ w'.heap.size = u.heap.size + 1 :=
 ⟨_, run_make_ints k hk u, intsAt_alloc u _, (Below.refl _ _).alloc (Nat.le_refl _) _, by simp [go_sem]⟩
end Go.Proofs.YtklenppldblbdaaGreat
namespace Go.Proofs.YtklenppldblbdaaGreat
open Go.RowKit Go.PlainAid
structure Kn where
 x : Int
 y : Int
 k : Int
theorem bel_next {w a b : World} (h : Below w.heap.size w a) (k : Below a.heap.size a b) : Below w.heap.size w b := h.trans (k.mono h.size)
theorem bel_alloc {w a : World} (h : Below w.heap.size w a) (o : Obj) : Below w.heap.size w (a.alloc o) := h.alloc h.size o
theorem bel_to {B : Nat} {w0 a b : World} (h : Below B w0 a) (k : Below a.heap.size a b) (hB : B ≤ a.heap.size) : Below B w0 b := h.trans (k.mono hB)
theorem bel_drewN {B : Nat} {a w : World} (h : Below B a w) (n : Nat) : Below B a (w.drewN n) := ⟨h.os, h.tape, h.output, h.size, h.block⟩
theorem bel_set {B : Nat} {a w : World} (h : Below B a w) {b o : Nat} (hb : B ≤ b) (u : Value) : Below B a (w.setCell ⟨b, o, none⟩ u) := h.setCell hb u
theorem keepC {w w' : World} {p : Addr} {v : Value} (hb : Below w.heap.size w w') (hc : w.cell? p = some v) : w'.cell? p = some v := by
 rw [hb.cell (World.block_lt_of_cell? w _ hc)]; exact hc
theorem keepS {w : World} {b o b' o' : Nat} {u : Value} (h : b ≠ b') : (w.setCell ⟨b, o, none⟩ u).cell? ⟨b', o', none⟩ = w.cell? ⟨b', o', none⟩ := World.cell?_setCell_other w _ _ _ (fun e => h (by cases e; rfl))
theorem keepF {w w' : World} {p : Addr} {v : Value} {f : Bool} (hb : Below w.heap.size w w') (hc : w.cell? p = some v) (hf : w.frozen? p = f) : w'.frozen? p = f := by
 rw [hb.frozen (World.block_lt_of_cell? w _ hc)]; exact hf
def Lies (w : World) (b off : Nat) (cs : List Value) : Prop := ∀ j u, cs[j]? = some u → w.cell? ⟨b, off + j, none⟩ = some u
theorem Lies.below {w w' : World} {b off : Nat} {cs : List Value} (h : Lies w b off cs) (hb : Below w.heap.size w w') : Lies w' b off cs := fun j u hj => keepC hb (h j u hj)
def clK (k : Kn) : List Value := [.int .i64 k.x, .int .i64 k.y, .int .i64 k.k]
def IsR {α : Type} (cl : α → List Value) (w : World) (a : Option Addr) (L : List α) : Prop := L = [] ∨ ∃ b off, a = some ⟨b, off, none⟩ ∧ Lies w b off (L.flatMap cl)
def IsO {α : Type} (cl : α → List Value) (w : World) (a : Option Addr) (O : List (List α)) : Prop :=
 O = [] ∨ ∃ b off, a = some ⟨b, off, none⟩ ∧ ∀ i c, O[i]? = some c → ∃ ai ci, w.cell? ⟨b, off + i, none⟩ = some (.slice ai c.length ci) ∧ c.length ≤ ci ∧ IsR cl w ai c
theorem IsR.below {α : Type} {cl : α → List Value} {w w' : World} {a : Option Addr} {L : List α} (h : IsR cl w a L) (hb : Below w.heap.size w w') : IsR cl w' a L := by
 rcases h with h | ⟨b, off, h1, h2⟩
 ·exact .inl h
 ·exact .inr ⟨b, off, h1, h2.below hb⟩
theorem IsO.below {α : Type} {cl : α → List Value} {w w' : World} {a : Option Addr} {O : List (List α)} (h : IsO cl w a O) (hb : Below w.heap.size w w') : IsO cl w' a O := by
 rcases h with h | ⟨b, off, h1, h2⟩
 ·exact .inl h
 ·refine .inr ⟨b, off, h1, fun i c hc => ?_⟩
  obtain ⟨ai, ci, h3, h4, h5⟩ := h2 i c hc
  exact ⟨ai, ci, keepC hb h3, h4, h5.below hb⟩
theorem IsO.at {α : Type} {cl : α → List Value} {w : World} {a : Option Addr} {O : List (List α)} (h : IsO cl w a O) {i : Nat} {c : List α} (hc : O[i]? = some c) : ∃ b off ai ci, a = some ⟨b, off, none⟩ ∧ w.cell? ⟨b, off + i, none⟩ = some (.slice ai c.length ci) ∧ c.length ≤ ci ∧ IsR cl w ai c := by
 rcases h with h | ⟨b, off, h1, h2⟩
 ·subst h; simp at hc
 ·obtain ⟨ai, ci, h3, h4, h5⟩ := h2 i c hc
  exact ⟨b, off, ai, ci, h1, h3, h4, h5⟩
theorem flat_at {α : Type} {cl : α → List Value} {s : Nat} (hcl : ∀ x, (cl x).length = s) : ∀ (L : List α) (i : Nat) (x : α), L[i]? = some x → ∀ r, r < s → (L.flatMap cl)[i * s + r]? = (cl x)[r]?
 | [], i, x, h, r, hr => by simp at h
 | a :: L, 0, x, h, r, hr => by
   simp at h; subst h
   rw [List.flatMap_cons, Nat.zero_mul, Nat.zero_add, List.getElem?_append_left (by rw [hcl]; exact hr)]
 | a :: L, i + 1, x, h, r, hr => by
   have h' : L[i]? = some x := by simpa using h
   rw [List.flatMap_cons, List.getElem?_append_right (by rw [hcl, Nat.add_mul]; omega), hcl, show (i + 1) * s + r - s = i * s + r by rw [Nat.add_mul]; omega]
   exact flat_at hcl L i x h' r hr
theorem flat_length {α : Type} {cl : α → List Value} {s : Nat} (hcl : ∀ x, (cl x).length = s) : ∀ (L : List α), (L.flatMap cl).length = L.length * s
 | [] => by simp
 | a :: L => by rw [List.flatMap_cons, List.length_append, hcl, flat_length hcl L, List.length_cons, Nat.add_mul]; omega
theorem clK_length (k : Kn) : (clK k).length = 3 := rfl
theorem IsR.knot {w : World} {a : Option Addr} {L : List Kn} (h : IsR clK w a L) {i : Nat} {k : Kn} (hk : L[i]? = some k) : ∃ b off, a = some ⟨b, off, none⟩ ∧ w.cell? ⟨b, off + i * 3, none⟩ = some (.int .i64 k.x) ∧ w.cell? ⟨b, off + i * 3 + 1, none⟩ = some (.int .i64 k.y) ∧ w.cell? ⟨b, off + i * 3 + 2, none⟩ = some (.int .i64 k.k) := by
 rcases h with h | ⟨b, off, h1, h2⟩
 ·subst h; simp at hk
 ·refine ⟨b, off, h1, ?_, ?_, ?_⟩
  ·have := h2 (i * 3 + 0) _ (flat_at clK_length L i k hk 0 (by decide)); simpa using this
  ·have := h2 (i * 3 + 1) _ (flat_at clK_length L i k hk 1 (by decide)); simpa [Nat.add_assoc] using this
  ·have := h2 (i * 3 + 2) _ (flat_at clK_length L i k hk 2 (by decide)); simpa [Nat.add_assoc] using this
def ElT (t e : TypeId) (s by' : Nat) : Prop := Tryz.prog.underlying t = some (.slice e) ∧ 0 < s ∧ ∃ z, (Tryz.prog.info? e).map (fun i => (i.zero, i.size, i.bytes)) = some (some z, s, by') ∧ z.cells.size = s
theorem elK : ElT 41 43 3 24 := ⟨Tryz.underlying41, by decide, .agg #[.int .i64 0, .int .i64 0, .int .i64 0], by kernel_rfl, rfl⟩
theorem elKK : ElT 35 41 1 24 := ⟨Tryz.underlying35, by decide, .slice none 0 0, by kernel_rfl, rfl⟩
theorem ownsRow_cap {w : World} {base : Nat} {e : TypeId} {s g n c : Nat} {xs : List Value} (h : w.ownsRow base e s (.slice (some ⟨g, 0, none⟩) n c) n xs) : n ≤ c ∧ base ≤ g ∧ g < w.heap.size := by
 rcases h.2 with ⟨hv, _⟩ | ⟨g', cap', cur, hv, hb, hg, hnc, _⟩
 ·cases hv
 ·cases hv; exact ⟨hnc, hb, (Array.getElem?_eq_some_iff.1 hg).1⟩
theorem app_run {t e : TypeId} {s by' : Nat} (H : ElT t e s by') (w : World) (base : Nat) (ty : TypeId) (g c n : Nat) (xs : List Value) (a : Option Addr) (m cap : Nat) (news : List Value)
 (hown : w.ownsRow base e s (.slice (some ⟨g, 0, none⟩) n c) n xs) (hl : news.length = m * s) (hsrc : m = 0 ∨ ∃ b off, a = some ⟨b, off, none⟩ ∧ Lies w b off news) (h1 : ∀ u ∈ news, u.oneCell' = true)
 (hb : (n + m) * by' ≤ 140737488355328) (hm : n + m ≤ 140737488355328) (hbase : base ≤ w.heap.size) :
 ∃ g' c' w', (Builtin.append_ #[t, t] ty #[.slice (some ⟨g, 0, none⟩) n c, .slice a m cap]).run Tryz.prog w = .ok (.slice (some ⟨g', 0, none⟩) (n + m) c') w' ∧
  w'.ownsRow base e s (.slice (some ⟨g', 0, none⟩) (n + m) c') (n + m) (xs ++ news) ∧ w.grownBy w' (some g) ∧ (g' = g ∨ g' = w.heap.size) := by
 obtain ⟨ht, hs0, z, hz, hzs⟩ := H
 obtain ⟨i0, hi, hz0, hz1, hz2⟩ := info_parts hz
 by_cases h0 : m = 0
 ·subst h0
  have hn0 : news = [] := List.eq_nil_of_length_eq_zero (by omega)
  subst hn0
  have hnc := (ownsRow_cap hown).1
  refine ⟨g, c, w, ?_, by simpa using hown, ⟨rfl, rfl, rfl, Nat.le_refl _, fun _ _ _ => rfl⟩, .inl rfl⟩
  cases a <;> simp [Builtin.append_, run_underlying ht, sizeOf, typeInfo, hi, Builtin.lenOf, Builtin.firstCells, loadCells, loadCellsFrom, storeCells, hnc]
 ·rcases hsrc with hsrc | ⟨b, off, rfl, hlies⟩
  ·exact absurd hsrc h0
  obtain ⟨g', c', w', hr, ho, hg, hat, hlt⟩ := run_append_lies (P := Tryz.prog) w t ty base e i0 z s by' ht hi hz0 hz1 hz2 hzs hs0 _ n xs hown ⟨b, off, none⟩ m cap news hl
   (fun j u hj => by rw [Addr.add_lit]; exact hlies j u hj) h1 (by omega) (by unfold maxLen; omega) hb hbase w.heap.size rfl
  refine ⟨g', c', w', hr, ho, hg, ?_⟩
  rcases hat with h | h
  ·left; simpa [Value.ownBlock] using h.symm
  ·exact .inr h
theorem wpList_app {t e : TypeId} {s by' : Nat} (H : ElT t e s by') {ops : Array Oper} {rest : List Oper} {o : Oper} {f : Act} {Q : Exit → Act → World → Prop} (hgd : o.guard = none) (sl x : Operand)
 (ho : o.op = .call { callee := .builtin .append, args := #[sl, x], argTypes := #[t, t] })
 (w : World) (base g c n : Nat) (xs : List Value) (a : Option Addr) (m cap : Nat) (news : List Value) (hs : f.eval sl = .slice (some ⟨g, 0, none⟩) n c) (hx : f.eval x = .slice a m cap)
 (hown : w.ownsRow base e s (.slice (some ⟨g, 0, none⟩) n c) n xs) (hl : news.length = m * s) (hsrc : m = 0 ∨ ∃ b off, a = some ⟨b, off, none⟩ ∧ Lies w b off news) (h1 : ∀ u ∈ news, u.oneCell' = true)
 (hb : (n + m) * by' ≤ 140737488355328) (hm : n + m ≤ 140737488355328) (hbase : base ≤ w.heap.size)
 (h : ∀ g' c' w', w'.ownsRow base e s (.slice (some ⟨g', 0, none⟩) (n + m) c') (n + m) (xs ++ news) → w.grownBy w' (some g) → (g' = g ∨ g' = w.heap.size) → wpList Tryz.prog ops Q rest (f.put o.dst (.slice (some ⟨g', 0, none⟩) (n + m) c')) w') :
 wpList Tryz.prog ops Q (o :: rest) f w :=
 wpList_plain hgd fun _ hK => by
  obtain ⟨g', c', w', hr, h2, h3, h4⟩ := app_run H w base o.type g c n xs a m cap news hown hl hsrc h1 hb hm hbase
  unfold Oper.wp execOp
  simp only [ho, resolve, invoke, builtin, Sem.run_bind, Sem.run_pure, Result.andThen_ok, List.map_toArray, List.map_cons, List.map_nil, hs, hx, hr]
  exact hK _ _ (h g' c' w' h2 h3 h4)
theorem own_keep {w w' : World} {B : Nat} {e : TypeId} {s n : Nat} {v : Value} {xs : List Value} (h : w.ownsRow B e s v n xs) (hk : ∀ g, v.ownBlock = some g → w'.heap[g]? = w.heap[g]?) : w'.ownsRow B e s v n xs := by
 refine ⟨h.1, ?_⟩
 rcases h.2 with hn | ⟨g, cap, cur, hv, hb, hg, rest⟩
 ·exact .inl hn
 ·exact .inr ⟨g, cap, cur, hv, hb, by rw [hk g (by rw [hv]; rfl)]; exact hg, rest⟩
theorem own_below {w w' : World} {B : Nat} {e : TypeId} {s n : Nat} {v : Value} {xs : List Value} (h : w.ownsRow B e s v n xs) (hb : Below w.heap.size w w') : w'.ownsRow B e s v n xs :=
 own_keep h fun g hg => hb.block g (h.lt g hg).2
theorem own_lies {w : World} {B : Nat} {e : TypeId} {s n g c : Nat} {xs : List Value} (h : w.ownsRow B e s (.slice (some ⟨g, 0, none⟩) n c) n xs) : Lies w g 0 xs := fun j u hj => by
 have := h.cells (g := g) rfl j u hj
 rwa [Addr.add_lit] at this
theorem own_isR {α : Type} {cl : α → List Value} {w : World} {B : Nat} {e : TypeId} {s n : Nat} {a : Option Addr} {c : Nat} {L : List α} (hn : n = L.length) (h : w.ownsRow B e s (.slice a n c) n (L.flatMap cl)) : IsR cl w a L := by
 rcases h.2 with ⟨hv, h0⟩ | ⟨g, cap, cur, hv, _⟩
 ·exact .inl (List.eq_nil_of_length_eq_zero (by omega))
 ·cases hv
  exact .inr ⟨g, 0, rfl, own_lies h⟩
theorem own_cut {w : World} {B : Nat} {e : TypeId} {s n g c : Nat} {xs : List Value} (h : w.ownsRow B e s (.slice (some ⟨g, 0, none⟩) n c) n xs) (m : Nat) (hm : m ≤ n) : w.ownsRow B e s (.slice (some ⟨g, 0, none⟩) m c) m (xs.take (m * s)) := by
 have hms : m * s ≤ n * s := Nat.mul_le_mul_right s hm
 refine ⟨by rw [List.length_take, h.1, Nat.min_eq_left hms], ?_⟩
 rcases h.2 with ⟨hv, _⟩ | ⟨g', cap, cur, hv, hb, hg, hnc, hcm, hcs, ht⟩
 ·cases hv
 ·cases hv
  exact .inr ⟨g, c, cur, rfl, hb, hg, by omega, hcm, hcs, by rw [← ht, List.take_take, Nat.min_eq_left hms]⟩
theorem grown_other {w w' : World} {r : Option Nat} (h : w.grownBy w' r) {b : Nat} (hb : b < w.heap.size) (hr : r ≠ some b) : w'.heap[b]? = w.heap[b]? := h.block b hb (Ne.symm hr)
theorem get_of {α : Type} {l : List α} {j : Nat} (h : j < l.length) : ∃ x, l[j]? = some x := ⟨l[j], List.getElem?_eq_getElem h⟩
theorem next64 {j : Nat} (h : j ≤ 140737488355328) : wrap64 ((j : Int) + 1) = ((j + 1 : Nat) : Int) := by unfold wrap64; omega
def Long (O : List (List Kn)) : Prop := O.length ≤ 5864062014805 ∧ ∀ c ∈ O, c.length ≤ 5864062014805
theorem lies_new {w : World} {cs : Array Value} {T : TypeId} : Lies (w.alloc (.cells cs T)) w.heap.size 0 cs.toList := by
 intro j u hj
 rw [Nat.zero_add]
 have : (w.alloc (.cells cs T)).heap[w.heap.size]? = some (.cells cs T (0, 0)) := heap_alloc_new w _
 unfold World.cell?
 simp only [this]
 simpa using hj
theorem clK_one {L : List Kn} : ∀ u ∈ L.flatMap clK, u.oneCell' = true := by
 intro u hu
 obtain ⟨k, _, hk⟩ := List.mem_flatMap.1 hu
 simp [clK] at hk
 rcases hk with rfl | rfl | rfl <;> rfl
def RowsOwn (w : World) (B g : Nat) (vs : List Value) (O : List (List Kn)) : Prop := vs.length = O.length ∧ ∀ (i : Nat) (c : List Kn), O[i]? = some c → ∃ gi ci, vs[i]? = some (.slice (some ⟨gi, 0, none⟩) c.length ci) ∧ gi ≠ g ∧ w.ownsRow B 43 3 (.slice (some ⟨gi, 0, none⟩) c.length ci) c.length (c.flatMap clK)
theorem RowsOwn.below {w w' : World} {B g : Nat} {vs : List Value} {O : List (List Kn)} (h : RowsOwn w B g vs O) (k : Below w.heap.size w w') : RowsOwn w' B g vs O := by
 refine ⟨h.1, fun i c hc => ?_⟩
 obtain ⟨gi, ci, h1, h2, h3⟩ := h.2 i c hc
 exact ⟨gi, ci, h1, h2, own_below h3 k⟩
theorem RowsOwn.grown {w w' : World} {B g g' : Nat} {vs : List Value} {O : List (List Kn)} (h : RowsOwn w B g vs O) (k : w.grownBy w' (some g)) (hg : g' = g ∨ g' = w.heap.size) : RowsOwn w' B g' vs O := by
 refine ⟨h.1, fun i c hc => ?_⟩
 obtain ⟨gi, ci, h1, h2, h3⟩ := h.2 i c hc
 have hlt := (ownsRow_cap h3).2.2
 refine ⟨gi, ci, h1, by rcases hg with rfl | rfl <;> omega, own_keep h3 fun x hx => ?_⟩
 have : x = gi := by simpa [Value.ownBlock] using hx.symm
 subst this
 exact k.block x hlt (fun e => h2 (by cases e; rfl))
theorem RowsOwn.snoc {w : World} {B g : Nat} {vs : List Value} {O : List (List Kn)} (h : RowsOwn w B g vs O) {gi ci : Nat} {c : List Kn} (hg : gi ≠ g) (ho : w.ownsRow B 43 3 (.slice (some ⟨gi, 0, none⟩) c.length ci) c.length (c.flatMap clK)) :
 RowsOwn w B g (vs ++ [.slice (some ⟨gi, 0, none⟩) c.length ci]) (O ++ [c]) := by
 refine ⟨by simp [h.1], fun i d hd => ?_⟩
 by_cases hi : i < O.length
 ·rw [List.getElem?_append_left hi] at hd
  obtain ⟨g2, c2, h1, h2, h3⟩ := h.2 i d hd
  exact ⟨g2, c2, by rw [List.getElem?_append_left (by rw [h.1]; exact hi)]; exact h1, h2, h3⟩
 ·rw [List.getElem?_append_right (by omega)] at hd
  have hi2 : i - O.length = 0 := by have := (List.getElem?_eq_some_iff.1 hd).1; simp at this; omega
  rw [hi2] at hd
  have e : c = d := by simpa using hd
  subst e
  exact ⟨gi, ci, by rw [List.getElem?_append_right (by rw [h.1]; omega), h.1, hi2]; rfl, hg, ho⟩
theorem isO_lit {α : Type} {cl : α → List Value} {s : Nat} (hcl : ∀ x, (cl x).length = s) (w : World) (L : List α) (T TS : TypeId) (cs : Array Value) (hc : cs.toList = L.flatMap cl) :
 IsO cl ((w.alloc (.cells cs T)).alloc (.cells #[.slice (some ⟨w.heap.size, 0, none⟩) L.length L.length] TS)) (some ⟨w.heap.size + 1, 0, none⟩) [L] := by
 refine .inr ⟨w.heap.size + 1, 0, rfl, fun i c h => ?_⟩
 have hi : i = 0 := by have := (List.getElem?_eq_some_iff.1 h).1; simp at this; omega
 subst hi
 have e : L = c := by simpa using h
 subst e
 refine ⟨some ⟨w.heap.size, 0, none⟩, L.length, by simp [go_sem], Nat.le_refl _, ?_⟩
 refine .inr ⟨w.heap.size, 0, rfl, ?_⟩
 rw [← hc]
 exact (lies_new (w := w) (cs := cs) (T := T)).below ((Below.refl _ _).alloc (Nat.le_refl _) _)
def LongA {α : Type} (O : List (List α)) : Prop := O.length ≤ 140737488355328 ∧ ∀ c ∈ O, c.length ≤ 140737488355328
end Go.Proofs.YtklenppldblbdaaGreat
