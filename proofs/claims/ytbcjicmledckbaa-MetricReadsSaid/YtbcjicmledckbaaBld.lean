/-
  What the document's Build answers of pieces that are right: the file as the chapter lays it out.
-/
import Derived.Test.YtbcjicmledckbaaAdd
import Derived.Laws.Cover1
import Derived.Deep.QuietTactic
import Derived.BigQuiet
import Derived.Lib.SlBytesConst
namespace Go.Proofs.Ytbcjicmledckbaa
open Go.RowKit Go.PlainAid
set_option linter.unusedSimpArgs false
set_option linter.unusedVariables false

/-- Pieces that are right: tags of four bytes that rise, not too many. -/
structure Good (l : List Pce) : Prop where
  tag : ∀ p ∈ l, p.1.size = 4
  rise : ∀ i p q, l[i]? = some p → l[i + 1]? = some q → Op.bytesLess p.1.toList q.1.toList = true
  one : 1 ≤ l.length
  many : l.length ≤ 64

/-- The file is not too great. -/
def bigEnough (l : List Pce) : Prop := 12 + 16 * l.length + dataN l ≤ 1048576

theorem dataN_join : ∀ (l m : List Pce), dataN (l ++ m) = dataN l + dataN m
  | [], m => by simp [dataN]
  | p :: r, m => by rw [List.cons_append, dataN, dataN, dataN_join r m, Nat.add_assoc]
theorem dataN_le (l : List Pce) (k : Nat) : dataN (l.take k) ≤ dataN l := by
  have := dataN_join (l.take k) (l.drop k)
  rw [List.take_append_drop] at this
  omega
theorem take_next {l : List Pce} {k : Nat} {p : Pce} (h : l[k]? = some p) : l.take (k + 1) = l.take k ++ [p] := by rw [List.take_add_one, h]; rfl
theorem rowsB_next {l : List Pce} {k at' : Nat} {p : Pce} (h : l[k]? = some p) : rowsB at' (l.take (k + 1)) = rowsB at' (l.take k) ++ p.1 ++ bigB (sumB p.2) 4 ++ bigB ((at' + dataN (l.take k) : Nat) : Int) 4 ++ bigB p.2.size 4 := by
  rw [take_next h, rowsB_join, rowsB, rowsB, ByteArray.append_empty, rowB]
  simp only [join_assoc]
theorem dataB_next {l : List Pce} {k : Nat} {p : Pce} (h : l[k]? = some p) : dataB (l.take (k + 1)) = dataB (l.take k) ++ p.2 ++ zerosB (upto4 p.2.size - p.2.size) := by
  rw [take_next h, dataB_join, dataB, dataB, ByteArray.append_empty, padB]
  simp only [join_assoc]
theorem one_isB (w : World) : IsB (w.alloc (.cells #[.int .u8 0] 5)) (some ⟨w.heap.size, 0, none⟩) (ByteArray.mk #[0]).size 1 ⟨#[0]⟩ := by
  refine ⟨rfl, Nat.le_refl _, .inr ⟨w.heap.size, 0, rfl, ?_⟩⟩
  intro i hi
  have : i = 0 := by have : i < 1 := hi; omega
  subst this
  simp [go_sem, bt]
  rfl

theorem lit_isB {w : World} {C : Array Value} {s : ByteArray} (f : Nat × Nat) (h : C.toList = cellsOfStr s) : IsB (w.alloc (.cells C 5 f)) (some ⟨w.heap.size, 0, none⟩) s.size s.size s := by
  refine ⟨rfl, Nat.le_refl _, .inr ⟨w.heap.size, 0, rfl, ?_⟩⟩
  intro i hi
  have hh := heap_alloc_new w (.cells C 5 f)
  rw [Nat.zero_add]
  have h2 : C[i]? = some (.int .u8 (bt s i)) := by rw [← Array.getElem?_toList, h]; exact cellsOfStr_get s i hi
  unfold World.cell?
  simp only [hh]
  exact h2
theorem scaler1_cells : (#[.int .u8 0, .int .u8 1, .int .u8 0, .int .u8 0] : Array Value).toList = cellsOfStr (scalerB 1) := by kernel_rfl
theorem scaler2_cells : (#[.int .u8 79, .int .u8 84, .int .u8 84, .int .u8 79] : Array Value).toList = cellsOfStr (scalerB 2) := by kernel_rfl
theorem zeros6 : bigB 0 2 ++ (bigB 0 2 ++ (bigB 0 2 ++ ByteArray.empty)) = zerosB 6 := by kernel_rfl
theorem two_head (n : Nat) (h : n ≤ 64) : twoB [(n : Int), 0, 0, 0] = bigB n 2 ++ zerosB 6 := by
  rw [twoB, twoB, twoB, twoB, twoB, ← zeros6]
  rw [show ((if (n : Int) < 0 then (n : Int) + 65536 else (n : Int)) % 65536) = (n : Int) by omega, show ((if (0 : Int) < 0 then (0 : Int) + 65536 else (0 : Int)) % 65536) = 0 by decide]
theorem ints4 (w : World) (x0 x1 x2 x3 : Int) : IsI (w.alloc (.cells #[.int .i64 x0, .int .i64 x1, .int .i64 x2, .int .i64 x3] 3)) (some ⟨w.heap.size, 0, none⟩) 4 4 [x0, x1, x2, x3] := by
  have := intsAt_alloc w [x0, x1, x2, x3]
  exact this.isI rfl 4
theorem made_join (kd : Int) (l : List Pce) (n : Nat) (h : l.length = n) (hn : n ≤ 64) : scalerB kd ++ twoB [(n : Int), 0, 0, 0] ++ rowsB (12 + 16 * n) l ++ dataB l = madeB kd l := by
  rw [two_head n hn, madeB, h]
  simp only [join_assoc]
/-- The length of a row. -/
def lenV : Value → Nat
  | .slice _ n _ => n
  | _ => 0
/-- A round of the second loop: the two rows, and the piece. -/
structure PRound (w : World) (sd sr : ByteArray) (gd cd gr cr X : Nat) (tg bs : ByteArray) (a : Option Addr) (ca : Nat) (wr : World) : Prop where
  duo : Duo w sd sr gd cd gr cr wr
  x0 : wr.cell? ⟨X, 0, none⟩ = some (.string tg)
  x1 : wr.cell? ⟨X, 1, none⟩ = some (.slice a bs.size ca)
  xd : X ≠ gd
  xr : X ≠ gr
theorem PRound.below {w wr w' : World} {sd sr : ByteArray} {gd cd gr cr X : Nat} {tg bs : ByteArray} {a : Option Addr} {ca : Nat} (h : PRound w sd sr gd cd gr cr X tg bs a ca wr) (hb : Below wr.heap.size wr w') : PRound w sd sr gd cd gr cr X tg bs a ca w' :=
  ⟨h.duo.below hb, keepC hb h.x0, keepC hb h.x1, h.xd, h.xr⟩
theorem PRound.addR {w wr w' : World} {sd sr s2 : ByteArray} {gd cd gr cr X g' c' : Nat} {tg bs : ByteArray} {a : Option Addr} {ca : Nat} (h : PRound w sd sr gd cd gr cr X tg bs a ca wr) (ho : OwnB w.heap.size w' g' c' s2) (hg : wr.grownBy w' (some gr)) (hat : g' = gr ∨ wr.heap.size ≤ g') : PRound w sd s2 gd cd g' c' X tg bs a ca w' := by
  have hX := World.block_lt_of_cell? wr _ h.x0
  simp only at hX
  refine ⟨h.duo.addR ho hg hat, hg.cell h.x0 (by simp; exact h.xr), hg.cell h.x1 (by simp; exact h.xr), h.xd, ?_⟩
  rcases hat with rfl | hat
  · exact h.xr
  · omega
theorem PRound.addD {w wr w' : World} {sd sr s2 : ByteArray} {gd cd gr cr X g' c' : Nat} {tg bs : ByteArray} {a : Option Addr} {ca : Nat} (h : PRound w sd sr gd cd gr cr X tg bs a ca wr) (ho : OwnB w.heap.size w' g' c' s2) (hg : wr.grownBy w' (some gd)) (hat : g' = gd ∨ wr.heap.size ≤ g') : PRound w s2 sr g' c' gr cr X tg bs a ca w' := by
  have hX := World.block_lt_of_cell? wr _ h.x0
  simp only at hX
  refine ⟨h.duo.addD ho hg hat, hg.cell h.x0 (by simp; exact h.xd), hg.cell h.x1 (by simp; exact h.xd), ?_, h.xr⟩
  rcases hat with rfl | hat
  · exact h.xd
  · omega
theorem pround_start {w wr : World} {sd sr : ByteArray} {gd cd gr cr : Nat} {tg bs : ByteArray} {a : Option Addr} {ca : Nat} (h : Duo w sd sr gd cd gr cr wr) : PRound w sd sr gd cd gr cr wr.heap.size tg bs a ca (wr.alloc (.cells #[.string tg, .slice a bs.size ca] 48)) := by
  have hd := owns_lt h.d
  have hr := owns_lt h.r
  exact ⟨h.below ((Below.refl _ _).alloc (Nat.le_refl _) _), by simp [go_sem], by simp [go_sem], by omega, by omega⟩
theorem duo_start {w wr : World} (h : Below w.heap.size w wr) : Duo w ByteArray.empty ByteArray.empty wr.heap.size 0 (wr.heap.size + 1) 0 ((wr.alloc (.cells #[] 5)).alloc (.cells #[] 5)) := by
  have hb1 : Below wr.heap.size wr (wr.alloc (.cells #[] 5)) := (Below.refl _ _).alloc (Nat.le_refl _) _
  have h1 := own_empty w wr h.size
  have hz : (wr.alloc (.cells #[] 5)).heap.size = wr.heap.size + 1 := by simp [go_sem]
  generalize (wr.alloc (.cells #[] 5)) = w1 at *
  have hb2 : Below w1.heap.size w1 (w1.alloc (.cells #[] 5)) := (Below.refl _ _).alloc (Nat.le_refl _) _
  have h2 := own_empty w w1 (by have := h.size; omega)
  rw [hz] at h2
  exact ⟨(h.trans (hb1.mono h.size)).trans (hb2.mono (by have := h.size; omega)), owns_stay h1 hb2, h2, by omega⟩

set_option maxHeartbeats 4000000 in
set_option maxRecDepth 20000 in
theorem build1_c (b c : Nat) (l : List Pce) (w : World) (hP : IsP w b l) (hG : Good l) (hS : bigEnough l) :
    Calls Try.prog 14 #[.int .i64 1, .slice (some ⟨b, 0, none⟩) l.length c] w fun e w' => ∃ g c', e = .returned (.tuple #[.slice (some ⟨g, 0, none⟩) (madeB 1 l).size c', .int .i64 0]) ∧ OwnB w.heap.size w' g c' (madeB 1 l) ∧ Below w.heap.size w w' := by
  have HP := Lib.hid hP
  have HG := Lib.hid hG
  have HS := Lib.hid hS
  have hg1 := hG.one
  have hg2 := hG.many
  have hne : ¬ (l.length : Int) = 0 := by omega
  have hgt : ¬ (64 : Int) < (l.length : Int) := by omega
  have HN := Lib.hid (And.intro hg1 hg2)
  clear hP hG hS hg1 hg2
  generalize hn : l.length = n at *
  have HNL := Lib.hid hn
  clear hn
  go_enter Try.func14, Try.ntmps14
  go_wp2_with fail
  go_loopw [26] (fun i wr => ∃ k : Nat, k ≤ n ∧ i = .int .i64 k ∧ Hid (Below w.heap.size w wr)) (fun i _ => n - (intOf i).toNat)
  case atStart => exact ⟨0, Nat.zero_le _, rfl, Below.refl _ _⟩
  case round =>
    obtain ⟨k, hk, rfl, HW⟩ := hrel
    by_cases hlt : k < n
    · have hlt' : (k : Int) < (n : Int) := by omega
      obtain ⟨⟨tg, bs⟩, hp⟩ : ∃ p, l[k]? = some p := ⟨l[k]'(by rw [HNL.out]; exact hlt), by simp [HNL.out, hlt]⟩
      obtain ⟨h1, a, ca, h2, h3⟩ := (HP.out.below HW.out) k _ hp
      simp only at h1 h2
      have ht : (((tg.size : Nat) : Int) != 4) = false := by have := HG.out.tag _ (List.mem_of_getElem? hp); simp at this; simp [this]
      have HW1 := Lib.hid (HW.out.alloc HW.out.size (.cells #[.string tg, .slice a bs.size ca] 48))
      have hv : (wr.alloc (.cells #[.string tg, .slice a bs.size ca] 48)).cell? ⟨wr.heap.size, 0, none⟩ = some (.string tg) := by simp [go_sem]
      have HW7 : Hid (wrap64 ((k : Int) + 1) = ((k + 1 : Nat) : Int)) := by have := HN.out; unfold Hid wrap64; omega
      clear h3
      cases k with
      | zero =>
        clear hp
        go_wp2_with fail
        go_quiet (fail)
        go_wp2_with fail
        go_roundw
        case rel => exact ⟨0 + 1, by omega, by first | rfl | rw [HW7.out], bel_drewN HW1.out _⟩
        case measure => simp only [intOf]; omega
      | succ k =>
        obtain ⟨⟨tg0, bs0⟩, hp0⟩ : ∃ p, l[k]? = some p := ⟨l[k]'(by rw [HNL.out]; omega), by simp [HNL.out, show k < n by omega]⟩
        obtain ⟨h10, _⟩ := (HP.out.below HW1.out) k _ hp0
        simp only at h10
        have hless : Op.bytesLess tg0.toList tg.toList = true := HG.out.rise k _ _ hp0 hp
        have hgt0 : (0 : Int) < ((k + 1 : Nat) : Int) := by omega
        have hw1 : wrap64 (((k + 1 : Nat) : Int) - 1) = (k : Int) := by have := HN.out; unfold wrap64; omega
        have hk0 : (k : Int) < (n : Int) := by omega
        clear hp hp0
        go_wp2_with fail
        go_quiet (fail)
        go_wp2_with fail
        go_roundw
        case rel => exact ⟨k + 1 + 1, by omega, by congr 1, bel_drewN HW1.out _⟩
        case measure => simp only [intOf]; omega
    · have hlt' : ¬ (k : Int) < (n : Int) := by omega
      have HD0 := Lib.hid (duo_start HW.out)
      clear HW
      go_wp2_with fail
      clear hk hlt hlt'
      generalize hW0 : (wr.alloc (.cells #[] 5)).alloc (.cells #[] 5) = wa at *
      generalize wr.heap.size = g0 at *
      clear hW0
      go_loopw [8, 9, 59] (fun dv rv i wr => ∃ k nd gd cd gr cr : Nat, k ≤ n ∧ dv = .slice (some ⟨gd, 0, none⟩) nd cd ∧ rv = .slice (some ⟨gr, 0, none⟩) (16 * k) cr ∧ i = .int .i64 k ∧ Hid (nd = dataN (l.take k)) ∧ Hid (Duo w (dataB (l.take k)) (rowsB (12 + 16 * n) (l.take k)) gd cd gr cr wr)) (fun _ _ i _ => n - (intOf i).toNat)
      case atStart => exact ⟨0, 0, g0, 0, g0 + 1, 0, Nat.zero_le _, rfl, rfl, rfl, rfl, HD0⟩
      case round =>
        clear HD0
        obtain ⟨k, nd, gd, cd, gr, cr, hk, rfl, rfl, rfl, HND, HD⟩ := hrel
        by_cases hlt : k < n
        · have hlt' : (k : Int) < (n : Int) := by omega
          obtain ⟨⟨tg, bs⟩, hp⟩ : ∃ p, l[k]? = some p := ⟨l[k]'(by rw [HNL.out]; exact hlt), by simp [HNL.out, hlt]⟩
          obtain ⟨h1, a, ca, h2, h3⟩ := (HP.out.below HD.out.bel) k _ hp
          obtain ⟨_, a', ca', h2', h3'⟩ := HP.out k _ hp
          have e : a = a' ∧ ca = ca' := by have := keepC HD.out.bel h2'; rw [h2] at this; simpa using this
          obtain ⟨rfl, rfl⟩ := e
          simp only at h1 h2 h3'
          have HBS := Lib.hid h3'
          have HPK := Lib.hid hp
          have HTG : Hid (tg.size = 4) := HG.out.tag _ (List.mem_of_getElem? hp)
          have HR0 := Lib.hid (pround_start (tg := tg) (bs := bs) (a := a) (ca := ca) HD.out)
          have HRZ : Hid ((rowsB (12 + 16 * n) (l.take k)).size = 16 * k) := by unfold Hid; rw [rowsB_size _ _ (fun p hp => HG.out.tag p (List.mem_of_mem_take hp)), List.length_take, HNL.out]; omega
          have HDZ : Hid ((dataB (l.take k)).size = nd) := by unfold Hid; rw [dataB_size, HND.out]
          have HNX : Hid (dataN (l.take (k + 1)) = nd + upto4 bs.size ∧ 12 + 16 * n + (nd + upto4 bs.size) ≤ 1048576 ∧ nd % 4 = 0) := by
            have h4 := dataN_le l (k + 1)
            have h5 := HS.out
            have h6 := dataN_four (l.take k)
            unfold bigEnough at h5
            rw [HNL.out] at h5
            rw [take_next HPK.out, dataN_join, ← HND.out] at h4
            rw [take_next HPK.out, dataN_join, ← HND.out]
            rw [← HND.out] at h6
            simp only [dataN] at *
            unfold Hid
            omega
          have HUP : Hid (bs.size ≤ upto4 bs.size ∧ upto4 bs.size < bs.size + 4) := by unfold Hid upto4; omega
          clear h3 h3' h2' hp HD
          have e1 : wrap64 (16 * (n : Int)) = 16 * (n : Int) := by have := HN.out; unfold wrap64; omega
          have e2 : wrap64 (12 + 16 * (n : Int)) = 12 + 16 * (n : Int) := by have := HN.out; unfold wrap64; omega
          have e3 : wrap64 (12 + 16 * (n : Int) + (nd : Int)) = ((12 + 16 * n + nd : Nat) : Int) := by have := HN.out; have := HNX.out; unfold wrap64; omega
          go_wp2_with (at_builtin; refine wpList_addStr rfl _ _ rfl (wr.alloc (.cells #[.string tg, .slice a bs.size ca] 48)) w.heap.size gr cr (rowsB (12 + 16 * n) (l.take k)) tg (16 * k) HRZ.out.symm rfl rfl HR0.out.duo.r (by have := HRZ.out; have := HTG.out; have := HN.out; omega) HR0.out.duo.bel.size ?_; intro g1 c1 w1 ho hg hat; have HR1 := Lib.hid (HR0.out.addR ho hg hat); clear ho hg hat; have hx := HR1.out.x1)
          refine (refsum_c a bs.size ca bs w1 (HBS.out.below HR1.out.duo.bel) (by have := HNX.out; have := HUP.out; omega)).mono ?_
          rintro e wq ⟨rfl, rfl⟩
          go_wp2_with fail
          refine (big4_c (sumB bs) w1 (sumB_lo bs) (by have := sumB_hi bs; omega)).mono ?_
          rintro e w2 ⟨rfl, hby, hb2⟩
          have HI2 := Lib.hid (bigIs hby (by omega))
          have HR2 := Lib.hid (HR1.out.below hb2)
          clear hby hb2 hx
          go_wp2_with (at_builtin; refine wpList_add rfl _ _ rfl w2 w.heap.size g1 c1 ((rowsB (12 + 16 * n) (l.take k)) ++ tg) (bigB (sumB bs) 4) (some ⟨w1.heap.size, 0, none⟩) 4 (16 * k + tg.size) 4 (by simp only [ByteArray.size_append, bigB_size]; have := HRZ.out; have := HTG.out; omega) ((bigB_size 4 _).symm) rfl rfl HR2.out.duo.r HI2.out (by simp only [ByteArray.size_append, bigB_size]; have := HRZ.out; have := HTG.out; have := HN.out; omega) HR2.out.duo.bel.size ?_; intro g3 c3 w3 ho hg hat; have HR3 := Lib.hid (HR2.out.addR ho hg hat); clear ho hg hat; have hx := HR3.out.x1)
          refine (big4_c ((12 + 16 * n + nd : Nat) : Int) w3 (by omega) (by have := HNX.out; omega)).mono ?_
          rintro e w4 ⟨rfl, hby, hb4⟩
          have HI4 := Lib.hid (bigIs hby (by omega))
          have HR4 := Lib.hid (HR3.out.below hb4)
          clear hby hb4 hx
          go_wp2_with (at_builtin; refine wpList_add rfl _ _ rfl w4 w.heap.size g3 c3 ((rowsB (12 + 16 * n) (l.take k)) ++ tg ++ bigB (sumB bs) 4) (bigB ((12 + 16 * n + nd : Nat) : Int) 4) (some ⟨w3.heap.size, 0, none⟩) 4 (16 * k + tg.size + 4) 4 (by simp only [ByteArray.size_append, bigB_size]; have := HRZ.out; have := HTG.out; omega) ((bigB_size 4 _).symm) rfl rfl HR4.out.duo.r HI4.out (by simp only [ByteArray.size_append, bigB_size]; have := HRZ.out; have := HTG.out; have := HN.out; omega) HR4.out.duo.bel.size ?_; intro g5 c5 w5 ho hg hat; have HR5 := Lib.hid (HR4.out.addR ho hg hat); clear ho hg hat; have hx := HR5.out.x1)
          refine (big4_c ((bs.size : Nat) : Int) w5 (by omega) (by have := HNX.out; have := HUP.out; omega)).mono ?_
          rintro e w6 ⟨rfl, hby, hb6⟩
          have HI6 := Lib.hid (bigIs hby (by omega))
          have HR6 := Lib.hid (HR5.out.below hb6)
          clear hby hb6 hx
          go_wp2_with (first | (at_builtin; refine wpList_add rfl _ _ rfl w6 w.heap.size g5 c5 ((rowsB (12 + 16 * n) (l.take k)) ++ tg ++ bigB (sumB bs) 4 ++ bigB (((12 + 16 * n + nd : Nat)) : Int) 4) (bigB (bs.size : Nat) 4) (some ⟨w5.heap.size, 0, none⟩) 4 (16 * k + tg.size + 4 + 4) 4 (by simp only [ByteArray.size_append, bigB_size]; have := HRZ.out; have := HTG.out; omega) ((bigB_size 4 _).symm) rfl rfl HR6.out.duo.r HI6.out (by simp only [ByteArray.size_append, bigB_size]; have := HRZ.out; have := HTG.out; have := HN.out; omega) HR6.out.duo.bel.size ?_; intro g7 c7 w7 ho hg hat; have HR7 := Lib.hid (HR6.out.addR ho hg hat); clear ho hg hat; have hx := HR7.out.x1) | (at_builtin; refine wpList_add rfl _ _ rfl w7 w.heap.size gd cd ((dataB (l.take k))) (bs) a ca (nd) bs.size (HDZ.out.symm) (rfl) rfl rfl HR7.out.duo.d (HBS.out.below HR7.out.duo.bel) (by have := HDZ.out; have := HNX.out; have := HUP.out; omega) HR7.out.duo.bel.size ?_; intro g8 c8 w8 ho hg hat; have HR8 := Lib.hid (HR7.out.addD ho hg hat); clear ho hg hat; have hx := HR8.out.x1))
          have HR9 : Hid (PRound w ((dataB (l.take k)) ++ bs ++ zerosB 0) ((rowsB (12 + 16 * n) (l.take k)) ++ tg ++ bigB (sumB bs) 4 ++ bigB (((12 + 16 * n + nd : Nat)) : Int) 4 ++ bigB (bs.size : Nat) 4) g8 c8 g7 c7 wr.heap.size tg bs a ca w8) := by unfold Hid; rw [zerosB, ByteArray.append_empty]; exact HR8.out
          clear hx HR8 h1 h2
          generalize hX : wr.heap.size = X at *
          clear hX
          go_loopw [8] (fun dv wr => ∃ j g c : Nat, j ≤ upto4 bs.size - bs.size ∧ dv = .slice (some ⟨g, 0, none⟩) (nd + bs.size + j) c ∧ Hid (PRound w ((dataB (l.take k)) ++ bs ++ zerosB j) ((rowsB (12 + 16 * n) (l.take k)) ++ tg ++ bigB (sumB bs) 4 ++ bigB (((12 + 16 * n + nd : Nat)) : Int) 4 ++ bigB (bs.size : Nat) 4) g c g7 c7 X tg bs a ca wr)) (fun dv _ => nd + upto4 bs.size - lenV dv)
          case atStart => exact ⟨0, g8, c8, Nat.zero_le _, rfl, HR9⟩
          case round =>
            clear HR9
            obtain ⟨j, g, c9, hj, rfl, HQ⟩ := hrel
            by_cases hmod : (nd + bs.size + j) % 4 = 0
            · have hm : (((nd + bs.size + j : Nat) : Int)).tmod 4 = 0 := by rw [Int.tmod_eq_emod_of_nonneg (by omega)]; omega
              have HJ : Hid (j = upto4 bs.size - bs.size) := by have := HNX.out; have := HUP.out; have : upto4 bs.size % 4 = 0 := (by unfold upto4; omega); unfold Hid; omega
              have e4 : wrap64 (12 + 16 * (n : Int) + ((nd + bs.size + j : Nat) : Int)) = ((12 + 16 * n + (nd + bs.size + j) : Nat) : Int) := by have := HN.out; have := HNX.out; have := HUP.out; unfold wrap64; omega
              have e5 : ¬ (1048576 : Int) < ((12 + 16 * n + (nd + bs.size + j) : Nat) : Int) := by have := HNX.out; have := HUP.out; have := HJ.out; omega
              have HQ2 : Hid (Duo w (dataB (l.take (k + 1))) (rowsB (12 + 16 * n) (l.take (k + 1))) g c9 g7 c7 wr) := by
                have h5 := HQ.out.duo
                unfold Hid
                rw [dataB_next HPK.out, rowsB_next HPK.out, ← HND.out, ← HJ.out]
                exact h5
              go_wp2_with fail
              have HW7 : Hid (wrap64 ((k : Int) + 1) = ((k + 1 : Nat) : Int)) := by have := HN.out; unfold Hid wrap64; omega
              go_roundw
              case rel => exact ⟨k + 1, nd + bs.size + j, g, c9, g7, c7, by omega, rfl, by have := HTG.out; congr 1; omega, by first | rfl | rw [HW7.out], by have := HJ.out; have := HNX.out; have := HUP.out; unfold Hid; omega, HQ2⟩
              case measure => (try rw [HW7.out]); simp only [intOf]; omega
            · have hm : ¬ (((nd + bs.size + j : Nat) : Int)).tmod 4 = 0 := by rw [Int.tmod_eq_emod_of_nonneg (by omega)]; omega
              have HJ : Hid (j < upto4 bs.size - bs.size) := by have := HNX.out; have := HUP.out; have : upto4 bs.size % 4 = 0 := (by unfold upto4; omega); unfold Hid; omega
              have HA := Lib.hid (HQ.out.below ((Below.refl _ _).alloc (Nat.le_refl _) (.cells #[.int .u8 0] 5)))
              have HO := Lib.hid (one_isB wr)
              clear HQ
              go_wp2_with (at_builtin; refine wpList_add rfl _ _ rfl (wr.alloc (.cells #[.int .u8 0] 5)) w.heap.size g c9 ((dataB (l.take k)) ++ bs ++ zerosB j) ⟨#[0]⟩ (some ⟨wr.heap.size, 0, none⟩) 1 (nd + bs.size + j) 1 (by simp only [ByteArray.size_append, zerosB_size]; have := HDZ.out; omega) rfl rfl rfl HA.out.duo.d HO.out (by have : (ByteArray.mk #[0]).size = 1 := rfl; simp only [ByteArray.size_append, zerosB_size, this]; have := HDZ.out; have := HNX.out; have := HUP.out; omega) HA.out.duo.bel.size ?_; intro g11 c11 w11 ho hg hat; have HA2 := Lib.hid (HA.out.addD ho hg hat); clear ho hg hat)
              go_roundw
              case rel => exact ⟨j + 1, g11, c11, by have := HJ.out; omega, rfl, by have h5 := HA2.out; rw [join_assoc] at h5; exact h5⟩
              case measure => simp only [lenV]; have := HUP.out; have := HJ.out; omega
        · have hlt' : ¬ (k : Int) < (n : Int) := by omega
          have ek : k = n := by omega
          have HE : Hid (l.take k = l) := by unfold Hid; rw [ek]; exact List.take_of_length_le (by rw [HNL.out]; omega)
          have HDD : Hid (IsB wr (some ⟨gd, 0, none⟩) (dataB l).size cd (dataB l)) := by have := isB_of_owns HD.out.d; rwa [HE.out] at this
          have HRR : Hid (IsB wr (some ⟨gr, 0, none⟩) (rowsB (12 + 16 * n) l).size cr (rowsB (12 + 16 * n) l)) := by have := isB_of_owns HD.out.r; rwa [HE.out] at this
          have HRZ : Hid ((rowsB (12 + 16 * n) l).size = 16 * k) := by unfold Hid; rw [rowsB_size _ _ HG.out.tag, HNL.out, ek]
          have HDZ : Hid ((dataB l).size = nd) := by unfold Hid; rw [dataB_size, HND.out, HE.out]
          have HBL := Lib.hid HD.out.bel
          have HSZ : Hid (nd ≤ 1048576) := by have := HS.out; unfold bigEnough at this; have := dataN_le l k; have := HND.out; unfold Hid; omega
          clear HD
          have kc := fun (w : World) (C : Array Value) (n c : Nat) => Lib.run_convert_bytes_const (P := Try.prog) w 23 5 C n c Try.underlying23 Try.underlying5
          have HSC : Hid (IsB (wr.alloc (.cells #[.int .u8 0, .int .u8 1, .int .u8 0, .int .u8 0] 5 (4, 4 + 1))) (some ⟨wr.heap.size, 0, none⟩) (scalerB 1).size 4 (scalerB 1)) := lit_isB _ scaler1_cells
          have HBW : Hid (Below wr.heap.size wr (wr.alloc (.cells #[.int .u8 0, .int .u8 1, .int .u8 0, .int .u8 0] 5 (4, 4 + 1)))) := (Below.refl _ _).alloc (Nat.le_refl _) _
          go_wp2_with fail
          clear kc
          have hwl : (wr.alloc (.cells #[.int .u8 0, .int .u8 1, .int .u8 0, .int .u8 0] 5 (4, 4 + 1))).heap.size = wr.heap.size + 1 := by simp [go_sem]
          generalize (wr.alloc (.cells #[.int .u8 0, .int .u8 1, .int .u8 0, .int .u8 0] 5 (4, 4 + 1))) = wl at *
          have hI4 := ints4 wl n 0 0 0
          rw [hwl] at hI4
          refine (two_c _ 4 4 [(n : Int), 0, 0, 0] (wl.alloc (.cells #[.int .i64 (n : Int), .int .i64 0, .int .i64 0, .int .i64 0] 3)) hI4 (by omega) (by have := HN.out; intro x hx; simp at hx; omega)).mono ?_
          rintro e w2 ⟨g2, c2, rfl, ho2, hb2⟩
          have HT2 := Lib.hid (isB_of_owns ho2)
          have HB3 : Hid (Below wl.heap.size wl w2) := ((Below.refl _ _).alloc (Nat.le_refl _) _).trans (hb2.mono (by simp [go_sem]))
          have HS2 := Lib.hid (HSC.out.below HB3.out)
          clear ho2 hb2
          have HZ8 : Hid ((twoB [(n : Int), 0, 0, 0]).size = 8) := by unfold Hid; rw [twoB_size]; rfl
          have HBX := Lib.hid (HBW.out.trans (HB3.out.mono HBW.out.size))
          go_wp2_with (first
            | (at_builtin; refine wpList_new rfl _ _ rfl w2 wr.heap.size 4 (scalerB 1) (twoB [(n : Int), 0, 0, 0]) g2 0 c2 4 (2 * 4) rfl HZ8.out.symm rfl rfl HS2.out HT2.out (by rw [HZ8.out, scalerB_size]; omega) (by rw [HZ8.out, scalerB_size]; omega) ?_; intro c3 w3 ho3 hb3; have HO3 := Lib.hid ho3; have HB4 := Lib.hid hb3; clear ho3 hb3)
            | (at_builtin; refine wpList_add rfl _ _ rfl w3 w2.heap.size w2.heap.size c3 (scalerB 1 ++ twoB [(n : Int), 0, 0, 0]) (rowsB (12 + 16 * n) l) (some ⟨gr, 0, none⟩) cr (4 + 2 * 4) (16 * n) (by rw [ByteArray.size_append, HZ8.out, scalerB_size]) (by rw [HRZ.out, ek]) rfl rfl HO3.out (HRR.out.below (HBX.out.trans (HB4.out.mono HBX.out.size))) (by rw [ByteArray.size_append, HZ8.out, scalerB_size, HRZ.out]; have := HN.out; omega) HB4.out.size ?_; intro g4 c4 w4 ho4 hg4 hat4; have HO4 := Lib.hid ho4; have HB5 := Lib.hid (grown_below HB4.out hg4 HB4.out.size (Nat.le_refl _)); clear ho4 hg4 hat4)
            | (at_builtin; refine wpList_add rfl _ _ rfl w4 w2.heap.size g4 c4 (scalerB 1 ++ twoB [(n : Int), 0, 0, 0] ++ rowsB (12 + 16 * n) l) (dataB l) (some ⟨gd, 0, none⟩) cd (4 + 2 * 4 + 16 * n) nd (by rw [ByteArray.size_append, ByteArray.size_append, HZ8.out, scalerB_size, HRZ.out, ek]) HDZ.out.symm rfl rfl HO4.out (HDD.out.below (HBX.out.trans (HB5.out.mono HBX.out.size))) (by rw [ByteArray.size_append, ByteArray.size_append, HZ8.out, scalerB_size, HRZ.out, HDZ.out]; have := HN.out; have := HSZ.out; omega) HB5.out.size ?_; intro g5 c5 w5 ho5 hg5 hat5; have HO5 := Lib.hid ho5; have HB6 := Lib.hid (grown_below HB5.out hg5 HB5.out.size (owns_lt HO4.out).2); clear ho5 hg5 hat5))
          go_ret2
          have h9 := HO5.out
          rw [made_join 1 l n HNL.out HN.out.2] at h9
          have hz9 : (madeB 1 l).size = 4 + 2 * 4 + 16 * n + nd := by rw [← made_join 1 l n HNL.out HN.out.2, ByteArray.size_append, ByteArray.size_append, ByteArray.size_append, HZ8.out, scalerB_size, HRZ.out, HDZ.out, ek]
          exact ⟨g5, c5, by rw [show (madeB 1 l).size = 12 + 16 * n + nd by omega]; rfl, owns_base (by have := HBL.out.size; have := HBX.out.size; omega) h9, HBL.out.trans ((HBX.out.trans (HB6.out.mono HBX.out.size)).mono HBL.out.size)⟩

set_option maxHeartbeats 4000000 in
set_option maxRecDepth 20000 in
theorem build2_c (b c : Nat) (l : List Pce) (w : World) (hP : IsP w b l) (hG : Good l) (hS : bigEnough l) :
    Calls Try.prog 14 #[.int .i64 2, .slice (some ⟨b, 0, none⟩) l.length c] w fun e w' => ∃ g c', e = .returned (.tuple #[.slice (some ⟨g, 0, none⟩) (madeB 2 l).size c', .int .i64 0]) ∧ OwnB w.heap.size w' g c' (madeB 2 l) ∧ Below w.heap.size w w' := by
  have HP := Lib.hid hP
  have HG := Lib.hid hG
  have HS := Lib.hid hS
  have hg1 := hG.one
  have hg2 := hG.many
  have hne : ¬ (l.length : Int) = 0 := by omega
  have hgt : ¬ (64 : Int) < (l.length : Int) := by omega
  have HN := Lib.hid (And.intro hg1 hg2)
  clear hP hG hS hg1 hg2
  generalize hn : l.length = n at *
  have HNL := Lib.hid hn
  clear hn
  go_enter Try.func14, Try.ntmps14
  go_wp2_with fail
  go_loopw [26] (fun i wr => ∃ k : Nat, k ≤ n ∧ i = .int .i64 k ∧ Hid (Below w.heap.size w wr)) (fun i _ => n - (intOf i).toNat)
  case atStart => exact ⟨0, Nat.zero_le _, rfl, Below.refl _ _⟩
  case round =>
    obtain ⟨k, hk, rfl, HW⟩ := hrel
    by_cases hlt : k < n
    · have hlt' : (k : Int) < (n : Int) := by omega
      obtain ⟨⟨tg, bs⟩, hp⟩ : ∃ p, l[k]? = some p := ⟨l[k]'(by rw [HNL.out]; exact hlt), by simp [HNL.out, hlt]⟩
      obtain ⟨h1, a, ca, h2, h3⟩ := (HP.out.below HW.out) k _ hp
      simp only at h1 h2
      have ht : (((tg.size : Nat) : Int) != 4) = false := by have := HG.out.tag _ (List.mem_of_getElem? hp); simp at this; simp [this]
      have HW1 := Lib.hid (HW.out.alloc HW.out.size (.cells #[.string tg, .slice a bs.size ca] 48))
      have hv : (wr.alloc (.cells #[.string tg, .slice a bs.size ca] 48)).cell? ⟨wr.heap.size, 0, none⟩ = some (.string tg) := by simp [go_sem]
      have HW7 : Hid (wrap64 ((k : Int) + 1) = ((k + 1 : Nat) : Int)) := by have := HN.out; unfold Hid wrap64; omega
      clear h3
      cases k with
      | zero =>
        clear hp
        go_wp2_with fail
        go_quiet (fail)
        go_wp2_with fail
        go_roundw
        case rel => exact ⟨0 + 1, by omega, by first | rfl | rw [HW7.out], bel_drewN HW1.out _⟩
        case measure => simp only [intOf]; omega
      | succ k =>
        obtain ⟨⟨tg0, bs0⟩, hp0⟩ : ∃ p, l[k]? = some p := ⟨l[k]'(by rw [HNL.out]; omega), by simp [HNL.out, show k < n by omega]⟩
        obtain ⟨h10, _⟩ := (HP.out.below HW1.out) k _ hp0
        simp only at h10
        have hless : Op.bytesLess tg0.toList tg.toList = true := HG.out.rise k _ _ hp0 hp
        have hgt0 : (0 : Int) < ((k + 1 : Nat) : Int) := by omega
        have hw1 : wrap64 (((k + 1 : Nat) : Int) - 1) = (k : Int) := by have := HN.out; unfold wrap64; omega
        have hk0 : (k : Int) < (n : Int) := by omega
        clear hp hp0
        go_wp2_with fail
        go_quiet (fail)
        go_wp2_with fail
        go_roundw
        case rel => exact ⟨k + 1 + 1, by omega, by congr 1, bel_drewN HW1.out _⟩
        case measure => simp only [intOf]; omega
    · have hlt' : ¬ (k : Int) < (n : Int) := by omega
      have HD0 := Lib.hid (duo_start HW.out)
      clear HW
      go_wp2_with fail
      clear hk hlt hlt'
      generalize hW0 : (wr.alloc (.cells #[] 5)).alloc (.cells #[] 5) = wa at *
      generalize wr.heap.size = g0 at *
      clear hW0
      go_loopw [8, 9, 59] (fun dv rv i wr => ∃ k nd gd cd gr cr : Nat, k ≤ n ∧ dv = .slice (some ⟨gd, 0, none⟩) nd cd ∧ rv = .slice (some ⟨gr, 0, none⟩) (16 * k) cr ∧ i = .int .i64 k ∧ Hid (nd = dataN (l.take k)) ∧ Hid (Duo w (dataB (l.take k)) (rowsB (12 + 16 * n) (l.take k)) gd cd gr cr wr)) (fun _ _ i _ => n - (intOf i).toNat)
      case atStart => exact ⟨0, 0, g0, 0, g0 + 1, 0, Nat.zero_le _, rfl, rfl, rfl, rfl, HD0⟩
      case round =>
        clear HD0
        obtain ⟨k, nd, gd, cd, gr, cr, hk, rfl, rfl, rfl, HND, HD⟩ := hrel
        by_cases hlt : k < n
        · have hlt' : (k : Int) < (n : Int) := by omega
          obtain ⟨⟨tg, bs⟩, hp⟩ : ∃ p, l[k]? = some p := ⟨l[k]'(by rw [HNL.out]; exact hlt), by simp [HNL.out, hlt]⟩
          obtain ⟨h1, a, ca, h2, h3⟩ := (HP.out.below HD.out.bel) k _ hp
          obtain ⟨_, a', ca', h2', h3'⟩ := HP.out k _ hp
          have e : a = a' ∧ ca = ca' := by have := keepC HD.out.bel h2'; rw [h2] at this; simpa using this
          obtain ⟨rfl, rfl⟩ := e
          simp only at h1 h2 h3'
          have HBS := Lib.hid h3'
          have HPK := Lib.hid hp
          have HTG : Hid (tg.size = 4) := HG.out.tag _ (List.mem_of_getElem? hp)
          have HR0 := Lib.hid (pround_start (tg := tg) (bs := bs) (a := a) (ca := ca) HD.out)
          have HRZ : Hid ((rowsB (12 + 16 * n) (l.take k)).size = 16 * k) := by unfold Hid; rw [rowsB_size _ _ (fun p hp => HG.out.tag p (List.mem_of_mem_take hp)), List.length_take, HNL.out]; omega
          have HDZ : Hid ((dataB (l.take k)).size = nd) := by unfold Hid; rw [dataB_size, HND.out]
          have HNX : Hid (dataN (l.take (k + 1)) = nd + upto4 bs.size ∧ 12 + 16 * n + (nd + upto4 bs.size) ≤ 1048576 ∧ nd % 4 = 0) := by
            have h4 := dataN_le l (k + 1)
            have h5 := HS.out
            have h6 := dataN_four (l.take k)
            unfold bigEnough at h5
            rw [HNL.out] at h5
            rw [take_next HPK.out, dataN_join, ← HND.out] at h4
            rw [take_next HPK.out, dataN_join, ← HND.out]
            rw [← HND.out] at h6
            simp only [dataN] at *
            unfold Hid
            omega
          have HUP : Hid (bs.size ≤ upto4 bs.size ∧ upto4 bs.size < bs.size + 4) := by unfold Hid upto4; omega
          clear h3 h3' h2' hp HD
          have e1 : wrap64 (16 * (n : Int)) = 16 * (n : Int) := by have := HN.out; unfold wrap64; omega
          have e2 : wrap64 (12 + 16 * (n : Int)) = 12 + 16 * (n : Int) := by have := HN.out; unfold wrap64; omega
          have e3 : wrap64 (12 + 16 * (n : Int) + (nd : Int)) = ((12 + 16 * n + nd : Nat) : Int) := by have := HN.out; have := HNX.out; unfold wrap64; omega
          go_wp2_with (at_builtin; refine wpList_addStr rfl _ _ rfl (wr.alloc (.cells #[.string tg, .slice a bs.size ca] 48)) w.heap.size gr cr (rowsB (12 + 16 * n) (l.take k)) tg (16 * k) HRZ.out.symm rfl rfl HR0.out.duo.r (by have := HRZ.out; have := HTG.out; have := HN.out; omega) HR0.out.duo.bel.size ?_; intro g1 c1 w1 ho hg hat; have HR1 := Lib.hid (HR0.out.addR ho hg hat); clear ho hg hat; have hx := HR1.out.x1)
          refine (refsum_c a bs.size ca bs w1 (HBS.out.below HR1.out.duo.bel) (by have := HNX.out; have := HUP.out; omega)).mono ?_
          rintro e wq ⟨rfl, rfl⟩
          go_wp2_with fail
          refine (big4_c (sumB bs) w1 (sumB_lo bs) (by have := sumB_hi bs; omega)).mono ?_
          rintro e w2 ⟨rfl, hby, hb2⟩
          have HI2 := Lib.hid (bigIs hby (by omega))
          have HR2 := Lib.hid (HR1.out.below hb2)
          clear hby hb2 hx
          go_wp2_with (at_builtin; refine wpList_add rfl _ _ rfl w2 w.heap.size g1 c1 ((rowsB (12 + 16 * n) (l.take k)) ++ tg) (bigB (sumB bs) 4) (some ⟨w1.heap.size, 0, none⟩) 4 (16 * k + tg.size) 4 (by simp only [ByteArray.size_append, bigB_size]; have := HRZ.out; have := HTG.out; omega) ((bigB_size 4 _).symm) rfl rfl HR2.out.duo.r HI2.out (by simp only [ByteArray.size_append, bigB_size]; have := HRZ.out; have := HTG.out; have := HN.out; omega) HR2.out.duo.bel.size ?_; intro g3 c3 w3 ho hg hat; have HR3 := Lib.hid (HR2.out.addR ho hg hat); clear ho hg hat; have hx := HR3.out.x1)
          refine (big4_c ((12 + 16 * n + nd : Nat) : Int) w3 (by omega) (by have := HNX.out; omega)).mono ?_
          rintro e w4 ⟨rfl, hby, hb4⟩
          have HI4 := Lib.hid (bigIs hby (by omega))
          have HR4 := Lib.hid (HR3.out.below hb4)
          clear hby hb4 hx
          go_wp2_with (at_builtin; refine wpList_add rfl _ _ rfl w4 w.heap.size g3 c3 ((rowsB (12 + 16 * n) (l.take k)) ++ tg ++ bigB (sumB bs) 4) (bigB ((12 + 16 * n + nd : Nat) : Int) 4) (some ⟨w3.heap.size, 0, none⟩) 4 (16 * k + tg.size + 4) 4 (by simp only [ByteArray.size_append, bigB_size]; have := HRZ.out; have := HTG.out; omega) ((bigB_size 4 _).symm) rfl rfl HR4.out.duo.r HI4.out (by simp only [ByteArray.size_append, bigB_size]; have := HRZ.out; have := HTG.out; have := HN.out; omega) HR4.out.duo.bel.size ?_; intro g5 c5 w5 ho hg hat; have HR5 := Lib.hid (HR4.out.addR ho hg hat); clear ho hg hat; have hx := HR5.out.x1)
          refine (big4_c ((bs.size : Nat) : Int) w5 (by omega) (by have := HNX.out; have := HUP.out; omega)).mono ?_
          rintro e w6 ⟨rfl, hby, hb6⟩
          have HI6 := Lib.hid (bigIs hby (by omega))
          have HR6 := Lib.hid (HR5.out.below hb6)
          clear hby hb6 hx
          go_wp2_with (first | (at_builtin; refine wpList_add rfl _ _ rfl w6 w.heap.size g5 c5 ((rowsB (12 + 16 * n) (l.take k)) ++ tg ++ bigB (sumB bs) 4 ++ bigB (((12 + 16 * n + nd : Nat)) : Int) 4) (bigB (bs.size : Nat) 4) (some ⟨w5.heap.size, 0, none⟩) 4 (16 * k + tg.size + 4 + 4) 4 (by simp only [ByteArray.size_append, bigB_size]; have := HRZ.out; have := HTG.out; omega) ((bigB_size 4 _).symm) rfl rfl HR6.out.duo.r HI6.out (by simp only [ByteArray.size_append, bigB_size]; have := HRZ.out; have := HTG.out; have := HN.out; omega) HR6.out.duo.bel.size ?_; intro g7 c7 w7 ho hg hat; have HR7 := Lib.hid (HR6.out.addR ho hg hat); clear ho hg hat; have hx := HR7.out.x1) | (at_builtin; refine wpList_add rfl _ _ rfl w7 w.heap.size gd cd ((dataB (l.take k))) (bs) a ca (nd) bs.size (HDZ.out.symm) (rfl) rfl rfl HR7.out.duo.d (HBS.out.below HR7.out.duo.bel) (by have := HDZ.out; have := HNX.out; have := HUP.out; omega) HR7.out.duo.bel.size ?_; intro g8 c8 w8 ho hg hat; have HR8 := Lib.hid (HR7.out.addD ho hg hat); clear ho hg hat; have hx := HR8.out.x1))
          have HR9 : Hid (PRound w ((dataB (l.take k)) ++ bs ++ zerosB 0) ((rowsB (12 + 16 * n) (l.take k)) ++ tg ++ bigB (sumB bs) 4 ++ bigB (((12 + 16 * n + nd : Nat)) : Int) 4 ++ bigB (bs.size : Nat) 4) g8 c8 g7 c7 wr.heap.size tg bs a ca w8) := by unfold Hid; rw [zerosB, ByteArray.append_empty]; exact HR8.out
          clear hx HR8 h1 h2
          generalize hX : wr.heap.size = X at *
          clear hX
          go_loopw [8] (fun dv wr => ∃ j g c : Nat, j ≤ upto4 bs.size - bs.size ∧ dv = .slice (some ⟨g, 0, none⟩) (nd + bs.size + j) c ∧ Hid (PRound w ((dataB (l.take k)) ++ bs ++ zerosB j) ((rowsB (12 + 16 * n) (l.take k)) ++ tg ++ bigB (sumB bs) 4 ++ bigB (((12 + 16 * n + nd : Nat)) : Int) 4 ++ bigB (bs.size : Nat) 4) g c g7 c7 X tg bs a ca wr)) (fun dv _ => nd + upto4 bs.size - lenV dv)
          case atStart => exact ⟨0, g8, c8, Nat.zero_le _, rfl, HR9⟩
          case round =>
            clear HR9
            obtain ⟨j, g, c9, hj, rfl, HQ⟩ := hrel
            by_cases hmod : (nd + bs.size + j) % 4 = 0
            · have hm : (((nd + bs.size + j : Nat) : Int)).tmod 4 = 0 := by rw [Int.tmod_eq_emod_of_nonneg (by omega)]; omega
              have HJ : Hid (j = upto4 bs.size - bs.size) := by have := HNX.out; have := HUP.out; have : upto4 bs.size % 4 = 0 := (by unfold upto4; omega); unfold Hid; omega
              have e4 : wrap64 (12 + 16 * (n : Int) + ((nd + bs.size + j : Nat) : Int)) = ((12 + 16 * n + (nd + bs.size + j) : Nat) : Int) := by have := HN.out; have := HNX.out; have := HUP.out; unfold wrap64; omega
              have e5 : ¬ (1048576 : Int) < ((12 + 16 * n + (nd + bs.size + j) : Nat) : Int) := by have := HNX.out; have := HUP.out; have := HJ.out; omega
              have HQ2 : Hid (Duo w (dataB (l.take (k + 1))) (rowsB (12 + 16 * n) (l.take (k + 1))) g c9 g7 c7 wr) := by
                have h5 := HQ.out.duo
                unfold Hid
                rw [dataB_next HPK.out, rowsB_next HPK.out, ← HND.out, ← HJ.out]
                exact h5
              go_wp2_with fail
              have HW7 : Hid (wrap64 ((k : Int) + 1) = ((k + 1 : Nat) : Int)) := by have := HN.out; unfold Hid wrap64; omega
              go_roundw
              case rel => exact ⟨k + 1, nd + bs.size + j, g, c9, g7, c7, by omega, rfl, by have := HTG.out; congr 1; omega, by first | rfl | rw [HW7.out], by have := HJ.out; have := HNX.out; have := HUP.out; unfold Hid; omega, HQ2⟩
              case measure => (try rw [HW7.out]); simp only [intOf]; omega
            · have hm : ¬ (((nd + bs.size + j : Nat) : Int)).tmod 4 = 0 := by rw [Int.tmod_eq_emod_of_nonneg (by omega)]; omega
              have HJ : Hid (j < upto4 bs.size - bs.size) := by have := HNX.out; have := HUP.out; have : upto4 bs.size % 4 = 0 := (by unfold upto4; omega); unfold Hid; omega
              have HA := Lib.hid (HQ.out.below ((Below.refl _ _).alloc (Nat.le_refl _) (.cells #[.int .u8 0] 5)))
              have HO := Lib.hid (one_isB wr)
              clear HQ
              go_wp2_with (at_builtin; refine wpList_add rfl _ _ rfl (wr.alloc (.cells #[.int .u8 0] 5)) w.heap.size g c9 ((dataB (l.take k)) ++ bs ++ zerosB j) ⟨#[0]⟩ (some ⟨wr.heap.size, 0, none⟩) 1 (nd + bs.size + j) 1 (by simp only [ByteArray.size_append, zerosB_size]; have := HDZ.out; omega) rfl rfl rfl HA.out.duo.d HO.out (by have : (ByteArray.mk #[0]).size = 1 := rfl; simp only [ByteArray.size_append, zerosB_size, this]; have := HDZ.out; have := HNX.out; have := HUP.out; omega) HA.out.duo.bel.size ?_; intro g11 c11 w11 ho hg hat; have HA2 := Lib.hid (HA.out.addD ho hg hat); clear ho hg hat)
              go_roundw
              case rel => exact ⟨j + 1, g11, c11, by have := HJ.out; omega, rfl, by have h5 := HA2.out; rw [join_assoc] at h5; exact h5⟩
              case measure => simp only [lenV]; have := HUP.out; have := HJ.out; omega
        · have hlt' : ¬ (k : Int) < (n : Int) := by omega
          have ek : k = n := by omega
          have HE : Hid (l.take k = l) := by unfold Hid; rw [ek]; exact List.take_of_length_le (by rw [HNL.out]; omega)
          have HDD : Hid (IsB wr (some ⟨gd, 0, none⟩) (dataB l).size cd (dataB l)) := by have := isB_of_owns HD.out.d; rwa [HE.out] at this
          have HRR : Hid (IsB wr (some ⟨gr, 0, none⟩) (rowsB (12 + 16 * n) l).size cr (rowsB (12 + 16 * n) l)) := by have := isB_of_owns HD.out.r; rwa [HE.out] at this
          have HRZ : Hid ((rowsB (12 + 16 * n) l).size = 16 * k) := by unfold Hid; rw [rowsB_size _ _ HG.out.tag, HNL.out, ek]
          have HDZ : Hid ((dataB l).size = nd) := by unfold Hid; rw [dataB_size, HND.out, HE.out]
          have HBL := Lib.hid HD.out.bel
          have HSZ : Hid (nd ≤ 1048576) := by have := HS.out; unfold bigEnough at this; have := dataN_le l k; have := HND.out; unfold Hid; omega
          clear HD
          have kc := fun (w : World) (C : Array Value) (n c : Nat) => Lib.run_convert_bytes_const (P := Try.prog) w 23 5 C n c Try.underlying23 Try.underlying5
          have HSC : Hid (IsB ((wr.alloc (.cells #[.int .u8 0, .int .u8 1, .int .u8 0, .int .u8 0] 5 (4, 4 + 1))).alloc (.cells #[.int .u8 79, .int .u8 84, .int .u8 84, .int .u8 79] 5 (4, 4 + 1))) (some ⟨wr.heap.size + 1, 0, none⟩) (scalerB 2).size 4 (scalerB 2)) := by
            have h := lit_isB (w := (wr.alloc (.cells #[.int .u8 0, .int .u8 1, .int .u8 0, .int .u8 0] 5 (4, 4 + 1)))) (4, 4 + 1) scaler2_cells
            have hz : (wr.alloc (.cells #[.int .u8 0, .int .u8 1, .int .u8 0, .int .u8 0] 5 (4, 4 + 1))).heap.size = wr.heap.size + 1 := by simp [go_sem]
            rw [hz] at h
            exact h
          have HBW : Hid (Below wr.heap.size wr ((wr.alloc (.cells #[.int .u8 0, .int .u8 1, .int .u8 0, .int .u8 0] 5 (4, 4 + 1))).alloc (.cells #[.int .u8 79, .int .u8 84, .int .u8 84, .int .u8 79] 5 (4, 4 + 1)))) := ((Below.refl _ _).alloc (Nat.le_refl _) _).alloc (by simp [go_sem]) _
          have kc2 : (convert 23 23 (.slice (some ⟨wr.heap.size + 1, 0, none⟩) 4 4)).run Try.prog ((wr.alloc (.cells #[.int .u8 0, .int .u8 1, .int .u8 0, .int .u8 0] 5 (4, 4 + 1))).alloc (.cells #[.int .u8 79, .int .u8 84, .int .u8 84, .int .u8 79] 5)) = .ok (.slice (some ⟨wr.heap.size + 1, 0, none⟩) 4 4) ((wr.alloc (.cells #[.int .u8 0, .int .u8 1, .int .u8 0, .int .u8 0] 5 (4, 4 + 1))).alloc (.cells #[.int .u8 79, .int .u8 84, .int .u8 84, .int .u8 79] 5 (4, 4 + 1))) := by
            have h := kc (wr.alloc (.cells #[.int .u8 0, .int .u8 1, .int .u8 0, .int .u8 0] 5 (4, 4 + 1))) #[.int .u8 79, .int .u8 84, .int .u8 84, .int .u8 79] 4 4
            have hz : (wr.alloc (.cells #[.int .u8 0, .int .u8 1, .int .u8 0, .int .u8 0] 5 (4, 4 + 1))).heap.size = wr.heap.size + 1 := by simp [go_sem]
            rw [hz] at h
            exact h
          go_wp2_with fail
          clear kc kc2
          have hwl : ((wr.alloc (.cells #[.int .u8 0, .int .u8 1, .int .u8 0, .int .u8 0] 5 (4, 4 + 1))).alloc (.cells #[.int .u8 79, .int .u8 84, .int .u8 84, .int .u8 79] 5 (4, 4 + 1))).heap.size = (wr.heap.size + 1) + 1 := by simp [go_sem]
          generalize ((wr.alloc (.cells #[.int .u8 0, .int .u8 1, .int .u8 0, .int .u8 0] 5 (4, 4 + 1))).alloc (.cells #[.int .u8 79, .int .u8 84, .int .u8 84, .int .u8 79] 5 (4, 4 + 1))) = wl at *
          have hI4 := ints4 wl n 0 0 0
          rw [hwl] at hI4
          refine (two_c _ 4 4 [(n : Int), 0, 0, 0] (wl.alloc (.cells #[.int .i64 (n : Int), .int .i64 0, .int .i64 0, .int .i64 0] 3)) hI4 (by omega) (by have := HN.out; intro x hx; simp at hx; omega)).mono ?_
          rintro e w2 ⟨g2, c2, rfl, ho2, hb2⟩
          have HT2 := Lib.hid (isB_of_owns ho2)
          have HB3 : Hid (Below wl.heap.size wl w2) := ((Below.refl _ _).alloc (Nat.le_refl _) _).trans (hb2.mono (by simp [go_sem]))
          have HS2 := Lib.hid (HSC.out.below HB3.out)
          clear ho2 hb2
          have HZ8 : Hid ((twoB [(n : Int), 0, 0, 0]).size = 8) := by unfold Hid; rw [twoB_size]; rfl
          have HBX := Lib.hid (HBW.out.trans (HB3.out.mono HBW.out.size))
          go_wp2_with (first
            | (at_builtin; refine wpList_new rfl _ _ rfl w2 (wr.heap.size + 1) 4 (scalerB 2) (twoB [(n : Int), 0, 0, 0]) g2 0 c2 4 (2 * 4) rfl HZ8.out.symm rfl rfl HS2.out HT2.out (by rw [HZ8.out, scalerB_size]; omega) (by rw [HZ8.out, scalerB_size]; omega) ?_; intro c3 w3 ho3 hb3; have HO3 := Lib.hid ho3; have HB4 := Lib.hid hb3; clear ho3 hb3)
            | (at_builtin; refine wpList_add rfl _ _ rfl w3 w2.heap.size w2.heap.size c3 (scalerB 2 ++ twoB [(n : Int), 0, 0, 0]) (rowsB (12 + 16 * n) l) (some ⟨gr, 0, none⟩) cr (4 + 2 * 4) (16 * n) (by rw [ByteArray.size_append, HZ8.out, scalerB_size]) (by rw [HRZ.out, ek]) rfl rfl HO3.out (HRR.out.below (HBX.out.trans (HB4.out.mono HBX.out.size))) (by rw [ByteArray.size_append, HZ8.out, scalerB_size, HRZ.out]; have := HN.out; omega) HB4.out.size ?_; intro g4 c4 w4 ho4 hg4 hat4; have HO4 := Lib.hid ho4; have HB5 := Lib.hid (grown_below HB4.out hg4 HB4.out.size (Nat.le_refl _)); clear ho4 hg4 hat4)
            | (at_builtin; refine wpList_add rfl _ _ rfl w4 w2.heap.size g4 c4 (scalerB 2 ++ twoB [(n : Int), 0, 0, 0] ++ rowsB (12 + 16 * n) l) (dataB l) (some ⟨gd, 0, none⟩) cd (4 + 2 * 4 + 16 * n) nd (by rw [ByteArray.size_append, ByteArray.size_append, HZ8.out, scalerB_size, HRZ.out, ek]) HDZ.out.symm rfl rfl HO4.out (HDD.out.below (HBX.out.trans (HB5.out.mono HBX.out.size))) (by rw [ByteArray.size_append, ByteArray.size_append, HZ8.out, scalerB_size, HRZ.out, HDZ.out]; have := HN.out; have := HSZ.out; omega) HB5.out.size ?_; intro g5 c5 w5 ho5 hg5 hat5; have HO5 := Lib.hid ho5; have HB6 := Lib.hid (grown_below HB5.out hg5 HB5.out.size (owns_lt HO4.out).2); clear ho5 hg5 hat5))
          go_ret2
          have h9 := HO5.out
          rw [made_join 2 l n HNL.out HN.out.2] at h9
          have hz9 : (madeB 2 l).size = 4 + 2 * 4 + 16 * n + nd := by rw [← made_join 2 l n HNL.out HN.out.2, ByteArray.size_append, ByteArray.size_append, ByteArray.size_append, HZ8.out, scalerB_size, HRZ.out, HDZ.out, ek]
          exact ⟨g5, c5, by rw [show (madeB 2 l).size = 12 + 16 * n + nd by omega]; rfl, owns_base (by have := HBL.out.size; have := HBX.out.size; omega) h9, HBL.out.trans ((HBX.out.trans (HB6.out.mono HBX.out.size)).mono HBL.out.size)⟩

end Go.Proofs.Ytbcjicmledckbaa
