/-
  Rows of bytes that grow; the document's table of a font, byte by byte: pieces, offsets, operands.
-/
import Derived.Test.YtklenppldblbdaaXb
import Derived.Laws.OwnMore
namespace Go.Proofs.Ytklenppldblbdaa
open Go.RowKit Go.PlainAid
set_option linter.unusedSimpArgs false
set_option linter.unusedVariables false

/-- Two owned rows of bytes, in different blocks. -/
structure Duo (w : World) (sd sr : ByteArray) (gd cd gr cr : Nat) (wr : World) : Prop where
  bel : Below w.heap.size w wr
  d : OwnB w.heap.size wr gd cd sd
  r : OwnB w.heap.size wr gr cr sr
  ne : gd ≠ gr

theorem Duo.below {w wr w' : World} {sd sr : ByteArray} {gd cd gr cr : Nat} (h : Duo w sd sr gd cd gr cr wr) (hb : Below wr.heap.size wr w') : Duo w sd sr gd cd gr cr w' :=
  ⟨h.bel.trans (hb.mono h.bel.size), owns_stay h.d hb, owns_stay h.r hb, h.ne⟩

theorem Duo.addR {w wr w' : World} {sd sr s2 : ByteArray} {gd cd gr cr g' c' : Nat} (h : Duo w sd sr gd cd gr cr wr) (ho : OwnB w.heap.size w' g' c' s2) (hg : wr.grownBy w' (some gr)) (hat : g' = gr ∨ wr.heap.size ≤ g') : Duo w sd s2 gd cd g' c' w' := by
  have hd := owns_lt h.d
  refine ⟨grown_below h.bel hg h.bel.size (owns_lt h.r).2, owns_keep h.d (fun hl => hg.block gd hl (by simp; exact h.ne)), ho, ?_⟩
  rcases hat with rfl | hat
  · exact h.ne
  · omega

theorem Duo.addD {w wr w' : World} {sd sr s2 : ByteArray} {gd cd gr cr g' c' : Nat} (h : Duo w sd sr gd cd gr cr wr) (ho : OwnB w.heap.size w' g' c' s2) (hg : wr.grownBy w' (some gd)) (hat : g' = gd ∨ wr.heap.size ≤ g') : Duo w s2 sr g' c' gr cr w' := by
  have hd := owns_lt h.r
  refine ⟨grown_below h.bel hg h.bel.size (owns_lt h.d).2, ho, owns_keep h.r (fun hl => hg.block gr hl (by simp; exact Ne.symm h.ne)), ?_⟩
  rcases hat with rfl | hat
  · exact h.ne
  · omega

theorem own_empty (w0 w : World) (h : w0.heap.size ≤ w.heap.size) : OwnB w0.heap.size (w.alloc (.cells #[] 5)) w.heap.size 0 ByteArray.empty :=
  ⟨rfl, .inr ⟨w.heap.size, 0, #[], rfl, h, heap_alloc_new w _, Nat.le_refl _, by unfold maxLen; omega, rfl, rfl⟩⟩

theorem lit_isB {w : World} {C : Array Value} {s : ByteArray} (f : Nat × Nat) (h : C.toList = cellsOfStr s) : IsB (w.alloc (.cells C 5 f)) (some ⟨w.heap.size, 0, none⟩) s.size s.size s := by
  refine ⟨rfl, Nat.le_refl _, .inr ⟨w.heap.size, 0, rfl, ?_⟩⟩
  intro i hi
  have hh := heap_alloc_new w (.cells C 5 f)
  rw [Nat.zero_add]
  have h2 : C[i]? = some (.int .u8 (bt s i)) := by rw [← Array.getElem?_toList, h]; exact cellsOfStr_get s i hi
  unfold World.cell?
  simp only [hh]
  exact h2

theorem step_add {ops : Array Oper} {o : Oper} {t : Act} {K : Act → World → Prop} {Q : Exit → Act → World → Prop} {E : Prop} (hgd : o.guard = none) (sl x : Operand)
    (ho : o.op = .call { callee := .builtin .append, args := #[sl, x], argTypes := #[23, 23] })
    (w : World) (base g c : Nat) (s u : ByteArray) (a : Option Addr) (cap n m : Nat) (hn : n = s.size) (hm : m = u.size) (hs : t.eval sl = .slice (some ⟨g, 0, none⟩) n c) (hx : t.eval x = .slice a m cap)
    (hown : w.ownsRow base 5 1 (.slice (some ⟨g, 0, none⟩) s.size c) s.size (cellsOfStr s)) (hB : IsB w a u.size cap u) (hl : s.size + u.size ≤ 140737488355328) (hbase : base ≤ w.heap.size)
    (h : ∀ g' c' w', w'.ownsRow base 5 1 (.slice (some ⟨g', 0, none⟩) (s ++ u).size c') (s ++ u).size (cellsOfStr (s ++ u)) → w.grownBy w' (some g) → (g' = g ∨ w.heap.size ≤ g') → K (t.put o.dst (.slice (some ⟨g', 0, none⟩) (n + m) c')) w') :
    if Region.wanted o (yielded ops t.tmps) = true then Oper.wp Try.prog o t w K Q else E := by
  have hw : Region.wanted o (yielded ops t.tmps) = true := by simp [Region.wanted, hgd]
  rw [if_pos hw]
  subst hn hm
  obtain ⟨g', c', w', hr, h2, h3, h4⟩ := append_add w base o.type g c s u a cap hown hB hl hbase
  have e : s.size + u.size = (s ++ u).size := by rw [ByteArray.size_append]
  have h2' := h2
  rw [e] at h2'
  unfold Oper.wp execOp
  simp only [ho, resolve, invoke, builtin, Sem.run_bind, Sem.run_pure, Result.andThen_ok, List.map_toArray, List.map_cons, List.map_nil, hs, hx, hr]
  exact h g' c' w' h2' h3 h4

theorem own_lit {w0 w : World} {C : Array Value} {s : ByteArray} (h : w0.heap.size ≤ w.heap.size) (hC : C.toList = cellsOfStr s) (hs : s.size ≤ 1000) : OwnB w0.heap.size (w.alloc (.cells C 5)) w.heap.size s.size s :=
  ⟨by rw [cellsOfStr_length]; omega, .inr ⟨w.heap.size, s.size, C, rfl, h, heap_alloc_new w _, Nat.le_refl _, by unfold maxLen; omega, by rw [← Array.length_toList, hC, cellsOfStr_length]; omega, by rw [hC, List.take_of_length_le (by rw [cellsOfStr_length]; omega)]⟩⟩

/-- How many bytes the pieces have together. -/
def sizeN : List ByteArray → Nat
  | [] => 0
  | p :: r => p.size + sizeN r

/-- The pieces one behind the other. -/
def dataB : List ByteArray → ByteArray
  | [] => ByteArray.empty
  | p :: r => p ++ dataB r

/-- Their offsets, the first one at t, without the last end. -/
def offsB : List ByteArray → Nat → ByteArray
  | [], _ => ByteArray.empty
  | p :: r, t => bigB t 2 ++ offsB r (t + p.size)

theorem sizeN_snoc (p : ByteArray) : ∀ l, sizeN (l ++ [p]) = sizeN l + p.size
  | [] => by simp [sizeN]
  | q :: r => by simp [sizeN, sizeN_snoc p r]; omega

theorem dataB_size : ∀ l, (dataB l).size = sizeN l
  | [] => rfl
  | q :: r => by rw [dataB, ByteArray.size_append, dataB_size r, sizeN]

theorem dataB_snoc (p : ByteArray) : ∀ l, dataB (l ++ [p]) = dataB l ++ p
  | [] => by simp [dataB, join_empty]
  | q :: r => by rw [List.cons_append, dataB, dataB_snoc p r, dataB, join_assoc]

theorem offsB_snoc (p : ByteArray) : ∀ (l : List ByteArray) (t : Nat), offsB (l ++ [p]) t = offsB l t ++ bigB (t + sizeN l : Nat) 2
  | [], t => by simp [offsB, sizeN, join_empty]
  | q :: r, t => by
    rw [List.cons_append, offsB, offsB_snoc p r, offsB, join_assoc, sizeN, Nat.add_assoc]

theorem offsB_size : ∀ (l : List ByteArray) (t : Nat), (offsB l t).size = 2 * l.length
  | [], t => rfl
  | q :: r, t => by rw [offsB, ByteArray.size_append, bigB_size, offsB_size r, List.length_cons]; omega

/-- The head of a list of n pieces. -/
def headB (n : Nat) : ByteArray := bigB n 2 ++ ⟨#[2]⟩

/-- The document's INDEX of pieces. -/
def packI (l : List ByteArray) : ByteArray := if l.length = 0 then bigB 0 2 else headB l.length ++ offsB l 1 ++ bigB (1 + sizeN l : Nat) 2 ++ dataB l

theorem headB_size (n : Nat) : (headB n).size = 3 := by rw [headB, ByteArray.size_append, bigB_size]; rfl

theorem packI_size (l : List ByteArray) : (packI l).size = if l.length = 0 then 2 else 5 + 2 * l.length + sizeN l := by
  unfold packI
  split
  · rw [bigB_size]
  · rw [ByteArray.size_append, ByteArray.size_append, ByteArray.size_append, headB_size, offsB_size, bigB_size, dataB_size]; omega

/-- An operand of five bytes. -/
def intB (n : Int) : ByteArray := ⟨#[29]⟩ ++ bigB (if n < 0 then n + 4294967296 else n) 4

theorem intB_size (n : Int) : (intB n).size = 5 := by rw [intB, ByteArray.size_append, bigB_size]; rfl

/-- A list of texts in memory. -/
def IsL (w : World) (a : Option Addr) (Ps : List ByteArray) : Prop := Ps = [] ∨ ∃ b off, a = some ⟨b, off, none⟩ ∧ ∀ (i : Nat) (P : ByteArray), Ps[i]? = some P → ∃ (ai : Option Addr) (ci : Nat), w.cell? ⟨b, off + i, none⟩ = some (.slice ai P.size ci) ∧ IsB w ai P.size ci P

theorem IsL.below {w w' : World} {a : Option Addr} {Ps : List ByteArray} (h : IsL w a Ps) (hb : Below w.heap.size w w') : IsL w' a Ps := by
  rcases h with h | ⟨b, off, h1, h2⟩
  · exact .inl h
  · refine .inr ⟨b, off, h1, fun i P hP => ?_⟩
    obtain ⟨ai, ci, h3, h4⟩ := h2 i P hP
    exact ⟨ai, ci, keepC hb h3, h4.below hb⟩

theorem two_cells : (#[.int .u8 2] : Array Value).toList = cellsOfStr ⟨#[2]⟩ := by kernel_rfl
theorem c29_cells : (#[.int .u8 29] : Array Value).toList = cellsOfStr ⟨#[29]⟩ := by kernel_rfl

theorem bigOwn {w0 w : World} {g k : Nat} {x : Int} (h : BytL w g (bytesL (bigB x k))) (hb : w0.heap.size ≤ g) (hk : k ≤ 8) : OwnB w0.heap.size w g k (bigB x k) := by
  have := h.owns hb (by rw [bigB_size]; omega)
  show w.ownsRow _ _ _ (.slice _ (bigB x k).size _) (bigB x k).size _
  rw [bigB_size] at this ⊢
  exact this

set_option maxHeartbeats 1000000 in
theorem int_c (n : Int) (w : World) (h0 : -2147483648 ≤ n) (h1 : n ≤ 2147483647) :
    Calls Try.prog 18 #[.int .i64 n] w fun e w' => ∃ g c, e = .returned (.slice (some ⟨g, 0, none⟩) 5 c) ∧ OwnB w.heap.size w' g c (intB n) ∧ Below w.heap.size w w' := by
  by_cases hn : n < 0
  · have HE : Hid (intB n = ⟨#[29]⟩ ++ bigB (n + 4294967296) 4) := by unfold Hid intB; rw [if_pos hn]
    rw [HE.out]
    have HB := Lib.hid (And.intro h0 (And.intro h1 hn))
    have HB0 : Hid (Below w.heap.size w (w.alloc (.cells #[.int .u8 29] 5))) := (Below.refl _ _).alloc (Nat.le_refl _) _
    have HO0 : Hid (OwnB w.heap.size (w.alloc (.cells #[.int .u8 29] 5)) w.heap.size 1 ⟨#[29]⟩) := own_lit (Nat.le_refl _) c29_cells (by decide)
    go_enter Try.func18, Try.ntmps18
    go_wp2_with fail
    refine (big4_c (n + 4294967296) _ (by have := HB.out; omega) (by have := HB.out; omega)).mono ?_
    rintro e w1 ⟨rfl, hby, hb1⟩
    rw [show (w.alloc (.cells #[.int .u8 29] 5)).heap.size = w.heap.size + 1 by simp] at hby
    have HI1 := Lib.hid (bigIs hby (by omega))
    have HO1 := Lib.hid (owns_stay HO0.out hb1)
    have HB1 := Lib.hid (bel_next HB0.out hb1)
    clear hby hb1
    go_wp2_with (at_builtin; refine wpList_add rfl _ _ rfl w1 w.heap.size w.heap.size 1 ⟨#[29]⟩ (bigB (n + 4294967296) 4) _ 4 1 4 rfl (bigB_size _ _).symm rfl rfl HO1.out HI1.out (by rw [bigB_size]; decide) HB1.out.size ?_; intro g9 c9 w9 ho9 hg9 hat9)
    have HB9 := Lib.hid (grown_below HB1.out hg9 HB1.out.size (Nat.le_refl _))
    have HO9 := Lib.hid ho9
    clear ho9 hg9 hat9
    go_wp2_with fail
    go_ret
    exact ⟨g9, c9, rfl, HO9.out, HB9.out⟩
  · have HE : Hid (intB n = ⟨#[29]⟩ ++ bigB n 4) := by unfold Hid intB; rw [if_neg hn]
    rw [HE.out]
    have HB := Lib.hid (And.intro h0 (And.intro h1 hn))
    have HB0 : Hid (Below w.heap.size w (w.alloc (.cells #[.int .u8 29] 5))) := (Below.refl _ _).alloc (Nat.le_refl _) _
    have HO0 : Hid (OwnB w.heap.size (w.alloc (.cells #[.int .u8 29] 5)) w.heap.size 1 ⟨#[29]⟩) := own_lit (Nat.le_refl _) c29_cells (by decide)
    go_enter Try.func18, Try.ntmps18
    go_wp2_with fail
    refine (big4_c n _ (by have := HB.out; omega) (by have := HB.out; omega)).mono ?_
    rintro e w1 ⟨rfl, hby, hb1⟩
    rw [show (w.alloc (.cells #[.int .u8 29] 5)).heap.size = w.heap.size + 1 by simp] at hby
    have HI1 := Lib.hid (bigIs hby (by omega))
    have HO1 := Lib.hid (owns_stay HO0.out hb1)
    have HB1 := Lib.hid (bel_next HB0.out hb1)
    clear hby hb1
    go_wp2_with (at_builtin; refine wpList_add rfl _ _ rfl w1 w.heap.size w.heap.size 1 ⟨#[29]⟩ (bigB n 4) _ 4 1 4 rfl (bigB_size _ _).symm rfl rfl HO1.out HI1.out (by rw [bigB_size]; decide) HB1.out.size ?_; intro g9 c9 w9 ho9 hg9 hat9)
    have HB9 := Lib.hid (grown_below HB1.out hg9 HB1.out.size (Nat.le_refl _))
    have HO9 := Lib.hid ho9
    clear ho9 hg9 hat9
    go_wp2_with fail
    go_ret
    exact ⟨g9, c9, rfl, HO9.out, HB9.out⟩

set_option maxHeartbeats 2000000 in
theorem packI_none (a : Option Addr) (c : Nat) (w : World) :
    Calls Try.prog 17 #[.slice a 0 c] w fun e w' => ∃ g c, e = .returned (.slice (some ⟨g, 0, none⟩) (packI []).size c) ∧ OwnB w.heap.size w' g c (packI []) ∧ Below w.heap.size w w' := by
  go_enter Try.func17, Try.ntmps17
  go_wp2_with fail
  refine (big2_c 0 _ (by omega) (by omega)).mono ?_
  rintro e w1 ⟨rfl, hby, hb1⟩
  have HO := Lib.hid (bigOwn (w0 := w) hby (Nat.le_refl _) (by omega))
  have HB := Lib.hid hb1
  clear hby hb1
  go_wp2_with fail
  go_ret
  exact ⟨_, 2, rfl, HO.out, HB.out⟩

set_option maxRecDepth 20000 in
set_option maxHeartbeats 4000000 in
theorem packI_some (a : Option Addr) (c : Nat) (Ps : List ByteArray) (w : World) (h : IsL w a Ps) (h0 : 0 < Ps.length) (hn : Ps.length ≤ 60000) (hs : sizeN Ps ≤ 1000000) :
    Calls Try.prog 17 #[.slice a Ps.length c] w fun e w' => ∃ g c, e = .returned (.slice (some ⟨g, 0, none⟩) (packI Ps).size c) ∧ OwnB w.heap.size w' g c (packI Ps) ∧ Below w.heap.size w w' := by
  have HL := Lib.hid h
  obtain ⟨b, off, rfl, _⟩ : ∃ b off, a = some ⟨b, off, none⟩ ∧ True := by
    rcases h with h | ⟨b, off, h1, _⟩
    · rw [h] at h0; simp at h0
    · exact ⟨b, off, h1, trivial⟩
  obtain ⟨n, HN⟩ : ∃ n, Hid (Ps.length = n) := ⟨_, rfl⟩
  rw [HN.out] at h0 hn ⊢
  have z1 : ((n : Int) == 0) = false := by simp; omega
  have HH := Lib.hid hn
  have HS := Lib.hid hs
  clear h hs hn
  go_enter Try.func17, Try.ntmps17
  go_wp2_with fail
  refine (big2_c n _ (by omega) (by have := HH.out; omega)).mono ?_
  rintro e w1 ⟨rfl, hby, hb1⟩
  have HO := Lib.hid (bigOwn (w0 := w) hby (Nat.le_refl _) (by omega))
  have HB := Lib.hid hb1
  have HB2 := Lib.hid (bel_alloc hb1 (.cells #[.int .u8 2] 5))
  have HI2 : Hid (IsB (w1.alloc (.cells #[.int .u8 2] 5)) (some ⟨w1.heap.size, 0, none⟩) (ByteArray.mk #[2]).size 1 ⟨#[2]⟩) := lit_isB _ two_cells
  clear hby hb1
  go_wp2_with (at_builtin; refine wpList_add rfl _ _ rfl (w1.alloc (.cells #[.int .u8 2] 5)) w.heap.size w.heap.size 2 (bigB n 2) ⟨#[2]⟩ _ 1 2 1 (bigB_size _ _).symm rfl rfl rfl (owns_stay HO.out ((Below.refl _ _).alloc (Nat.le_refl _) _)) HI2.out (by rw [bigB_size]; decide) HB2.out.size ?_; intro g3 c3 w3 ho3 hg3 hat3)
  have HB3 := Lib.hid (grown_below HB2.out hg3 HB2.out.size (Nat.le_refl _))
  have HD0 : Hid (Duo w ByteArray.empty (headB n ++ offsB (Ps.take 0) 1) w3.heap.size 0 g3 c3 (w3.alloc (.cells #[] 5))) := by
    refine ⟨bel_alloc HB3.out _, own_empty _ _ HB3.out.size, ?_, by have := (owns_lt ho3).2; have := (ownsRow_cap ho3).2.2; omega⟩
    have : headB n ++ offsB (Ps.take 0) 1 = bigB n 2 ++ ⟨#[2]⟩ := by rw [List.take_zero, offsB, ByteArray.append_empty]; rfl
    rw [this]
    exact owns_stay ho3 ((Below.refl _ _).alloc (Nat.le_refl _) _)
  clear ho3 hg3 hat3 HO HI2 HB HB2 HB3
  go_wp2_with fail
  generalize HW4 : w3.alloc (.cells #[] 5) = w4 at *
  generalize w3.heap.size = gd0 at *
  clear HW4
  go_loopw [3, 4, 5, 21] (fun ov av dv iv wr => ∃ (i no : Nat) (nd gd cd gr cr : Nat), i ≤ n ∧ ov = .slice (some ⟨gr, 0, none⟩) no cr ∧ av = .int .i64 ((1 + nd : Nat) : Int) ∧ dv = .slice (some ⟨gd, 0, none⟩) nd cd ∧ iv = .int .i64 (i : Int) ∧ Hid (no = (headB n ++ offsB (Ps.take i) 1).size) ∧ Hid (nd = (dataB (Ps.take i)).size) ∧ Hid (Duo w (dataB (Ps.take i)) (headB n ++ offsB (Ps.take i) 1) gd cd gr cr wr)) (fun _ _ _ v _ => n - (intOf v).toNat)
  case atStart => exact ⟨0, 3, 0, gd0, 0, g3, c3, Nat.zero_le _, rfl, rfl, rfl, rfl, (by unfold Hid; rw [ByteArray.size_append, headB_size, List.take_zero]; rfl), rfl, HD0⟩
  case round =>
    clear HD0
    obtain ⟨i, no, nd, gd, cd, gr, cr, hi, rfl, rfl, rfl, rfl, HNO, HND, HD⟩ := hrel
    by_cases hlt : i < n
    · obtain ⟨P, hP⟩ := get_of (show i < Ps.length by rw [HN.out]; exact hlt)
      have hLr := HL.out
      rcases hLr with hLr | ⟨b', off', e1, hLr⟩
      · rw [hLr] at hP; simp at hP
      cases e1
      obtain ⟨ai, ci, hcellw, hPB⟩ := hLr i P hP
      have hcell := keepC HD.out.bel hcellw
      have hT : Ps.take (i + 1) = Ps.take i ++ [P] := by rw [List.take_add_one, hP]; rfl
      have hsz : sizeN (Ps.take i) + P.size ≤ sizeN Ps := by
        have h1 : sizeN (Ps.take (i + 1)) ≤ sizeN Ps := by
          have h2 := dataB_size (Ps.take (i + 1))
          have h3 : Ps = Ps.take (i + 1) ++ Ps.drop (i + 1) := (List.take_append_drop _ _).symm
          have h4 : ∀ (l m : List ByteArray), sizeN (l ++ m) = sizeN l + sizeN m := by
            intro l m; induction l with
            | nil => simp [sizeN]
            | cons x r ih => simp [sizeN, ih]; omega
          have h5 := h4 (Ps.take (i + 1)) (Ps.drop (i + 1))
          rw [← h3] at h5
          omega
        rw [hT, sizeN_snoc] at h1
        exact h1
      have HSZ : Hid (nd + P.size ≤ 1000000) := by have h1 := HND.out; rw [dataB_size] at h1; have h2 := HS.out; unfold Hid; omega
      have HNO2 : Hid (no ≤ 200000) := by have h1 := HNO.out; rw [ByteArray.size_append, headB_size, offsB_size, List.length_take] at h1; have h2 := HH.out; unfold Hid; omega
      have HT := Lib.hid hT
      have HPB := Lib.hid hPB
      have hlt' : (i : Int) < (n : Int) := by omega
      have hi0 : (0 : Int) ≤ (i : Int) := by omega
      have HLT := Lib.hid hlt
      have hw1 : wrap64 (((1 + nd : Nat) : Int) + (P.size : Int)) = ((1 + (nd + P.size) : Nat) : Int) := by have := HSZ.out; unfold wrap64; omega
      have HW1 := Lib.hid hw1
      have hnd : nd ≤ 1000000 := by have := HSZ.out; omega
      have hPz : P.size ≤ 1000000 := by have := HSZ.out; omega
      obtain ⟨pz, HPZ⟩ : ∃ pz, Hid (P.size = pz) := ⟨_, rfl⟩
      rw [HPZ.out] at hcell hw1 hPz
      have HX := Lib.hid (next64 (j := i) (by have := HH.out; omega))
      clear hP hLr hT hsz hPB hlt hw1
      go_wp2_with fail
      refine (big2_c ((1 + nd : Nat) : Int) _ (by omega) (by omega)).mono ?_
      rintro e w5 ⟨rfl, hby, hb5⟩
      have HI5 := Lib.hid (bigIs hby (by omega))
      have HD5 := Lib.hid (HD.out.below hb5)
      clear hby hb5 hcell hcellw
      go_wp2_with (at_builtin; first
        | (refine wpList_add rfl _ _ rfl w5 w.heap.size gr cr (headB n ++ offsB (Ps.take i) 1) (bigB ((1 + nd : Nat) : Int) 2) _ 2 no 2 HNO.out (bigB_size _ _).symm rfl rfl HD5.out.r HI5.out (by rw [bigB_size, ← HNO.out]; have := HNO2.out; omega) HD5.out.bel.size ?_; intro g6 c6 w6 ho6 hg6 hat6; have HD6 := Lib.hid (HD5.out.addR ho6 hg6 hat6); have HPB6 := Lib.hid (HPB.out.below HD6.out.bel); clear ho6 hg6 hat6)
        | (refine wpList_add rfl _ _ rfl w6 w.heap.size gd cd (dataB (Ps.take i)) P ai ci nd pz HND.out HPZ.out.symm rfl rfl HD6.out.d HPB6.out (by rw [← HND.out]; have := HSZ.out; omega) HD6.out.bel.size ?_; intro g7 c7 w7 ho7 hg7 hat7))
      have HD7 : Hid (Duo w (dataB (Ps.take (i + 1))) (headB n ++ offsB (Ps.take (i + 1)) 1) g7 c7 g6 c6 w7) := by
        have h1 := HD6.out.addD ho7 hg7 hat7
        have e1 : dataB (Ps.take (i + 1)) = dataB (Ps.take i) ++ P := by rw [HT.out, dataB_snoc]
        have e2 : headB n ++ offsB (Ps.take (i + 1)) 1 = headB n ++ offsB (Ps.take i) 1 ++ bigB ((1 + nd : Nat) : Int) 2 := by rw [HT.out, offsB_snoc, ← join_assoc, ← dataB_size, ← HND.out]
        unfold Hid
        rw [e1, e2]
        exact h1
      have HND7 : Hid (nd + pz = (dataB (Ps.take (i + 1))).size) := by unfold Hid; rw [HT.out, dataB_snoc, ByteArray.size_append, ← HND.out, HPZ.out]
      have HNO7 : Hid (no + 2 = (headB n ++ offsB (Ps.take (i + 1)) 1).size) := by unfold Hid; rw [HT.out, offsB_snoc, ← join_assoc, ByteArray.size_append, bigB_size, ← HNO.out]
      clear ho7 hg7 hat7
      exact ⟨⟨i + 1, no + 2, nd + pz, g7, c7, g6, c6, HLT.out, rfl, by have h1 := HPZ.out; congr 1; omega, rfl, by first | rw [HX.out] | go_num, HNO7, HND7, HD7⟩, by (try rw [HX.out]); have := HLT.out; simp only [intOf]; omega⟩
    · obtain rfl : i = n := by omega
      have h1 : ¬ (i : Int) < (i : Int) := by omega
      have HT : Hid (Ps.take i = Ps) := by unfold Hid; rw [← HN.out]; exact List.take_length
      rw [HT.out] at HNO HND HD
      have HSZ : Hid (nd ≤ 1000000) := by have h1 := HND.out; rw [dataB_size] at h1; have h2 := HS.out; unfold Hid; omega
      have HNO2 : Hid (no ≤ 200000) := by have h1 := HNO.out; rw [ByteArray.size_append, headB_size, offsB_size, HN.out] at h1; have h2 := HH.out; unfold Hid; omega
      have hnd := HSZ.out
      go_wp2_with fail
      refine (big2_c ((1 + nd : Nat) : Int) _ (by omega) (by omega)).mono ?_
      rintro e w5 ⟨rfl, hby, hb5⟩
      have HI5 := Lib.hid (bigIs hby (by omega))
      have HD5 := Lib.hid (HD.out.below hb5)
      clear hby hb5
      go_wp2_with (at_builtin; first
        | (refine wpList_add rfl _ _ rfl w5 w.heap.size gr cr (headB i ++ offsB Ps 1) (bigB ((1 + nd : Nat) : Int) 2) _ 2 no 2 HNO.out (bigB_size _ _).symm rfl rfl HD5.out.r HI5.out (by rw [bigB_size, ← HNO.out]; have := HNO2.out; omega) HD5.out.bel.size ?_; intro g6 c6 w6 ho6 hg6 hat6; have HD6 := Lib.hid (HD5.out.addR ho6 hg6 hat6); clear ho6 hg6 hat6)
        | (refine wpList_add rfl _ _ rfl w6 w.heap.size g6 c6 (headB i ++ offsB Ps 1 ++ bigB ((1 + nd : Nat) : Int) 2) (dataB Ps) (some ⟨gd, 0, none⟩) cd (no + 2) nd (by rw [ByteArray.size_append, bigB_size, ← HNO.out]) HND.out rfl rfl HD6.out.r (by have h2 := isB_of_owns HD6.out.d; rw [← HND.out] at h2; rw [← HND.out]; exact h2) (by rw [ByteArray.size_append, bigB_size, ← HNO.out, ← HND.out]; have := HNO2.out; have := HSZ.out; omega) HD6.out.bel.size ?_; intro g7 c7 w7 ho7 hg7 hat7))
      have HE : Hid (headB i ++ offsB Ps 1 ++ bigB ((1 + nd : Nat) : Int) 2 ++ dataB Ps = packI Ps) := by
        unfold Hid packI
        rw [if_neg (by rw [HN.out]; omega), HN.out, ← dataB_size, ← HND.out]
      have HZ : Hid (no + 2 + nd = (packI Ps).size) := by
        unfold Hid
        rw [← HE.out, ByteArray.size_append, ByteArray.size_append, bigB_size, ← HNO.out, ← HND.out]
      rw [HE.out] at ho7
      have HO := Lib.hid ho7
      have HB := Lib.hid (grown_below HD6.out.bel hg7 HD6.out.bel.size (owns_lt HD6.out.r).2)
      clear ho7 hg7 hat7
      go_wp2_with fail
      go_ret
      exact ⟨g7, c7, by rw [← HZ.out]; rfl, HO.out, HB.out⟩

theorem packI_c (a : Option Addr) (c : Nat) (Ps : List ByteArray) (w : World) (h : IsL w a Ps) (hn : Ps.length ≤ 60000) (hs : sizeN Ps ≤ 1000000) :
    Calls Try.prog 17 #[.slice a Ps.length c] w fun e w' => ∃ g c, e = .returned (.slice (some ⟨g, 0, none⟩) (packI Ps).size c) ∧ OwnB w.heap.size w' g c (packI Ps) ∧ Below w.heap.size w w' := by
  by_cases h0 : Ps.length = 0
  · obtain rfl : Ps = [] := List.eq_nil_of_length_eq_zero h0
    exact packI_none a c w
  · exact packI_some a c Ps w h (by omega) hn hs

end Go.Proofs.Ytklenppldblbdaa
