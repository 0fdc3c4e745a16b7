import Derived.Test.YtklenppldblbdaaGreatK01
import Derived.Test.YtklenppldblbdaaGreatK41
import Derived.Test.YtklenppldblbdaaGreatK02
import Derived.Test.YtklenppldblbdaaGreatK39
set_option linter.unusedSimpArgs false
set_option linter.unusedVariables false
namespace Go.Proofs.YtklenppldblbdaaGreat
open Go.RowKit Go.PlainAid
set_option maxRecDepth 20000 in
set_option maxHeartbeats 2000000 in
theorem sameOutline_c (a b : Option Addr) (ca cb : Nat) (O : List (List Kn)) (w : World) (h1 : IsO clK w a O) (h2 : IsO clK w b O) (hl : LongA O) :
 Calls Tryz.prog 10 #[.slice a O.length ca, .slice b O.length cb] w fun e w' => e = .returned (.bool true) ∧ Below w.heap.size w w' := by
 have H1 := Lib.hid h1
 have H2 := Lib.hid h2
 have HL := Lib.hid hl
 obtain ⟨n, HN⟩ : ∃ n, Hid (O.length = n) := ⟨_, rfl⟩
 rw [HN.out]
 clear h1 h2 hl
 go_enter Tryz.func10, Tryz.ntmps10
 go_wp2_with fail
 go_loopw [14] (fun x wr => ∃ i : Nat, i ≤ n ∧ x = .int .i64 i ∧ Hid (Below w.heap.size w wr)) (fun x _ => n - (intOf x).toNat)
 case atStart => exact ⟨0, Nat.zero_le _, rfl, Below.refl _ _⟩
 case round =>
  obtain ⟨i, hi, rfl, HB⟩ := hrel
  by_cases hlt : i < n
  ·have hlt' : (i : Int) < (n : Int) := by omega
   have hi0 : (0 : Int) ≤ (i : Int) := by omega
   obtain ⟨c, hcc⟩ := get_of (show i < O.length by rw [HN.out]; exact hlt)
   obtain ⟨b1, o1, a1, c1, rfl, x1, _, r1⟩ := (H1.out.below HB.out).at hcc
   obtain ⟨b2, o2, a2, c2, rfl, x2, _, r2⟩ := (H2.out.below HB.out).at hcc
   have HR1 := Lib.hid r1
   have HR2 := Lib.hid r2
   have HX1 := Lib.hid x1
   have HX2 := Lib.hid x2
   obtain ⟨m, HM⟩ : ∃ m, Hid (c.length = m) := ⟨_, rfl⟩
   have HCL : Hid (m ≤ 140737488355328) := by have := HL.out.2 c (List.mem_of_getElem? hcc); rw [HM.out] at this; exact this
   have HLT := Lib.hid hlt
   have HX := Lib.hid (next64 (j := i) (by have := HL.out.1; have := HN.out; omega))
   rw [HM.out] at x1 x2 HX1 HX2
   clear r1 r2 hcc hi hlt
   go_wp2_with fail
   go_quiet (fail)
   have hbq : Below wr.heap.size wr (wr.drewN nq) := bel_drewN (Below.refl _ _) _
   have HBq := Lib.hid hbq
   have y1 := keepC hbq x1
   clear hbq x1 x2
   go_wp2_with fail
   generalize hwo : wr = wo at *
   clear hwo y1
   go_loopw [33] (fun x wr => ∃ j : Nat, j ≤ m ∧ x = .int .i64 j ∧ Hid (Below wo.heap.size wo wr)) (fun x _ => m - (intOf x).toNat)
   case atStart => exact ⟨0, Nat.zero_le _, rfl, HBq⟩
   case round =>
    clear HBq
    obtain ⟨j, hj, rfl, HB2⟩ := hrel
    by_cases hl2 : j < m
    ·have hl2' : (j : Int) < (m : Int) := by omega
     have hj0 : (0 : Int) ≤ (j : Int) := by omega
     obtain ⟨k, hk⟩ := get_of (show j < c.length by rw [HM.out]; exact hl2)
     obtain ⟨p1, q1, rfl, e0, e1, e2⟩ := (HR1.out.below HB2.out).knot hk
     obtain ⟨p2, q2, rfl, f0, f1, f2⟩ := (HR2.out.below HB2.out).knot hk
     have x1 := keepC HB2.out HX1.out
     have x2 := keepC HB2.out HX2.out
     have HX3 := Lib.hid (next64 (j := j) (by have := HCL.out; omega))
     have HL2 := Lib.hid hl2
     clear hk hj hl2
     go_wp2_with fail
     go_quiet (fail)
     have HB3 : Hid (Below wo.heap.size wo (wr.drewN nq)) := bel_drewN HB2.out _
     clear x1 x2
     go_wp2_with fail
     go_roundw
     case rel => exact ⟨j + 1, HL2.out, by rw [HX3.out], HB3⟩
     case measure => rw [HX3.out]; have := HL2.out; simp only [intOf]; omega
    ·have hl2' : ¬ (j : Int) < (m : Int) := by omega
     have HBE := Lib.hid (bel_next HB.out HB2.out)
     clear hl2 hj
     go_wp2_with fail
     go_roundw
     case rel => exact ⟨i + 1, HLT.out, by rw [HX.out], HBE⟩
     case measure => rw [HX.out]; have := HLT.out; simp only [intOf]; omega
  ·have hlt' : ¬ (i : Int) < (n : Int) := by omega
   clear hlt hi
   go_wp2_with fail
   go_ret
   exact ⟨rfl, HB.out⟩
end Go.Proofs.YtklenppldblbdaaGreat
namespace Go.Proofs.YtklenppldblbdaaGreat
open Go.RowKit Go.PlainAid Go.Maps
def exB : ByteArray := ⟨#[139, 139, 21, 149, 6, 14]⟩
def exF : FS := { glyphs := [exB], locals := [], globals := [], w0 := 7, w1 := 0 }
def exK : List Kn := [⟨0, 0, 1⟩, ⟨10, 0, 1⟩]
theorem exB_cells : (#[.int .u8 139, .int .u8 139, .int .u8 21, .int .u8 149, .int .u8 6, .int .u8 14] : Array Value).toList = cellsOfStr exB := by kernel_rfl
theorem ex_ok : FOk exF := ⟨by decide, by decide, by decide, by decide, by decide⟩
theorem ex_runs : glyphM exF 0 = ([exK], 7, 0) := by kernel_rfl
theorem exK_long : LongA [exK] := ⟨by decide, fun c hc => by simp at hc; subst hc; decide⟩
theorem ex_arg (w : World) : FArg ((w.alloc (.cells #[.int .u8 139, .int .u8 139, .int .u8 21, .int .u8 149, .int .u8 6, .int .u8 14] 5)).alloc (.cells #[.slice (some ⟨w.heap.size, 0, none⟩) 6 6] 22)) exF (some ⟨w.heap.size + 1, 0, none⟩) 1 none 0 none 0 := by
 have h1 := lit_isB (w := w) (0, 0) exB_cells
 have h2 := isL_one h1 22
 have hz : (w.alloc (.cells #[.int .u8 139, .int .u8 139, .int .u8 21, .int .u8 149, .int .u8 6, .int .u8 14] 5)).heap.size = w.heap.size + 1 := by simp
 rw [hz] at h2
 exact ⟨h2, .inl rfl, .inl rfl, by decide, by decide, by decide, by decide⟩
set_option maxRecDepth 20000 in
set_option maxHeartbeats 2000000 in
theorem type2Alive_c (w : World) : Calls Tryz.prog 4 #[] w fun e w' => e = .returned (.bool true) ∧ Below w.heap.size w w' := by
 have HA := Lib.hid (ex_arg w)
 have HB : Hid (Below w.heap.size w ((w.alloc (.cells #[.int .u8 139, .int .u8 139, .int .u8 21, .int .u8 149, .int .u8 6, .int .u8 14] 5)).alloc (.cells #[.slice (some ⟨w.heap.size, 0, none⟩) 6 6] 22))) := bel_alloc ((Below.refl _ _).alloc (Nat.le_refl _) _) _
 go_enter Tryz.func4, Tryz.ntmps4
 go_wp2_with fail
 generalize ((w.alloc (.cells #[.int .u8 139, .int .u8 139, .int .u8 21, .int .u8 149, .int .u8 6, .int .u8 14] 5)).alloc (.cells #[.slice (some ⟨w.heap.size, 0, none⟩) 6 6] 22)) = w0 at *
 refine (pack_c exF _ _ _ _ _ _ w0 HA.out).mono ?_
 rintro e w1 ⟨g, c, rfl, ho, hb1⟩
 have HI1 := Lib.hid (isB_of_owns ho)
 have HB1 := Lib.hid (bel_next HB.out hb1)
 clear ho hb1
 go_wp2_with fail
 refine (lawOpen_c exF ex_ok (some ⟨g, 0, none⟩) c w1 HI1.out).mono ?_
 rintro e w2 ⟨F, fl, rfl, hF, hb2⟩
 have HF2 := Lib.hid hF
 have HB2 := Lib.hid (bel_next HB1.out hb2)
 clear hF hb2
 go_wp2_with fail
 refine (fcount_c w2 F fl exF HF2.out).mono ?_
 rintro e w3 ⟨rfl, hb3⟩
 have HF3 := Lib.hid (HF2.out.below hb3)
 have HB3 := Lib.hid (bel_next HB2.out hb3)
 clear hb3
 rw [show exF.glyphs.length = 1 from rfl]
 go_wp2_with fail
 have hgl := glyph_c w3 F fl exF 0 (by decide) HF3.out
 rw [ex_runs] at hgl
 refine hgl.mono ?_
 rintro e w4 ⟨a, c4, vs, rfl, how, hb4⟩
 have HO4 := Lib.hid how.isO
 have HB4 := Lib.hid (bel_next HB3.out hb4)
 clear how hb4 hgl
 go_wp2_with fail
 have hl := isO_lit clK_length w4 exK 43 41 #[.int .i64 0, .int .i64 0, .int .i64 1, .int .i64 10, .int .i64 0, .int .i64 1] rfl
 have hb5 : Below w4.heap.size w4 ((w4.alloc (.cells #[.int .i64 0, .int .i64 0, .int .i64 1, .int .i64 10, .int .i64 0, .int .i64 1] 43)).alloc (.cells #[.slice (some ⟨w4.heap.size, 0, none⟩) 2 2] 41)) := bel_alloc ((Below.refl _ _).alloc (Nat.le_refl _) _) _
 refine (sameOutline_c a _ c4 1 [exK] _ (HO4.out.below hb5) hl exK_long).mono ?_
 rintro e w6 ⟨rfl, hb6⟩
 have HB6 := Lib.hid (bel_next HB4.out (bel_next hb5 hb6))
 clear hl hb5 hb6
 go_wp2_with fail
 go_ret
 exact ⟨rfl, HB6.out⟩
end Go.Proofs.YtklenppldblbdaaGreat
namespace Go.Proofs.YtklenppldblbdaaGreat
open Go.RowKit Go.PlainAid Go.ChangeShapes Go.WideShapes Go.ChangeAt
theorem cellsBs : Tryz.prog.cellsOf 22 = 1 := by kernel_rfl
theorem cellsBBs : Tryz.prog.cellsOf 23 = 1 := by kernel_rfl
theorem cellsPr : Tryz.prog.cellsOf 25 = 5 := by kernel_rfl
theorem bytes_in {H : Type} {enc : TypeId × Value → H} {w : World} {fuel : Nat} {cs : List Value} {x : DataW H × List MemPlace} (h : DataW.trod enc Tryz.prog w 0 (fun _ => true) true fuel 22 cs = some x) :
 ∃ a cap s, cs = [.slice a s.size cap] ∧ IsB w a s.size cap s ∧ s.size ≤ Rows.uptoBulk x.1 := by
 rcases open_ints Tryz.underlying22 Tryz.underlying5 cellsU8 h with ⟨hcs, hx⟩ | ⟨x', l, c, zs, hcs, _, hl, hm, hz, hx, hcell, hwz⟩
 ·exact ⟨none, 0, ByteArray.empty, hcs, ⟨rfl, Nat.le_refl _, .inl rfl⟩, Nat.zero_le _⟩
 ·simp at hz
  have hsz : (strOfNums (zs.take l)).size = l := by rw [strOfNums_size]; simp; omega
  refine ⟨some x', c, strOfNums (zs.take l), by rw [hsz]; exact hcs, ?_, ?_⟩
  ·rw [hsz]
   refine ⟨hsz, hl, ?_⟩
   by_cases h0 : l = 0
   ·exact .inl h0
   ·right
    obtain ⟨b, off, spot⟩ := x'
    have hc := hcell 0 (by omega)
    have hspot : spot = none := by simpa [Addr.add] using World.cell?_spot hc
    subst hspot
    refine ⟨b, off, rfl, fun i hi => ?_⟩
    have hplain : (⟨b, off, none⟩ : Addr).add i = ⟨b, off + i, none⟩ := by unfold Addr.add; split <;> simp_all
    rw [← hplain, hcell i (by omega)]
    have hi2 : i < zs.length := by omega
    have hmem := hwz (zs[i]) (List.getElem_mem _)
    simp [Lit.wf, IntKind.min, IntKind.max, IntKind.signed, IntKind.bits] at hmem
    rw [bt_eq _ (by rw [hsz]; exact hi)]
    simp [strOfNums, List.getD, hi2]
    omega
  ·rw [hsz, hx]
   simp only [Rows.uptoBulk]
   refine Nat.le_trans ?_ (Nat.le_trans (bulk_length _) (Nat.le_trans (Nat.le_add_right _ _) (Nat.le_succ _)))
   simp [lits]
   omega
theorem lists_in {H : Type} {enc : TypeId × Value → H} {w : World} {fuel : Nat} {cs : List Value} {x : DataW H × List MemPlace} (h : DataW.trod enc Tryz.prog w 0 (fun _ => true) true fuel 23 cs = some x) :
 ∃ a cap, ∃ L : List ByteArray, cs = [.slice a L.length cap] ∧ IsL w a L ∧ sizeN L + L.length ≤ 2 * Rows.uptoBulk x.1 := by
 obtain ⟨a, cap, L, h1, h2, h3, h4⟩ := row_in (R := fun (P : ByteArray) cs d => ∃ ai ci, cs = [.slice ai P.size ci] ∧ IsB w ai P.size ci P ∧ P.size ≤ Rows.uptoBulk d) Tryz.underlying23 cellsBs (by decide) (fun _ _ _ h => by obtain ⟨a, c, s, k1, k2, k3⟩ := bytes_in h; exact ⟨s, a, c, k1, k2, k3⟩) h
 refine ⟨a, cap, L, h1, ?_, ?_⟩
 ·rcases h3 with h3 | ⟨b, off, h3, h5⟩
  ·exact .inl h3
  ·refine .inr ⟨b, off, h3, fun i P hP => ?_⟩
   obtain ⟨ys, d, ⟨ai, ci, rfl, k2, _⟩, _, k3⟩ := h5 i P hP
   exact ⟨ai, ci, by have := k3 0 _ rfl; rwa [Nat.mul_one, Nat.add_zero] at this, k2⟩
 ·rcases h4 with ⟨_, rfl⟩ | ⟨el, spa, h4, h5, h6⟩
  ·simp [sizeN]
  ·have hsum : ∀ (M : List ByteArray) (l : List (DataW H)), l.length = M.length → (∀ (i : Nat) (P : ByteArray), M[i]? = some P → ∃ d, l[i]? = some d ∧ P.size ≤ Rows.uptoBulk d) → sizeN M ≤ Rows.uptoBulkAll l := by
    intro M
    induction M with
    | nil => intro l _ _; exact Nat.zero_le _
    | cons P M ih =>
      intro l hl hh
      match l, hl with
      | d :: l, hl =>
        obtain ⟨d', e1, e2⟩ := hh 0 P rfl
        have e3 : d = d' := by simpa using e1
        subst e3
        have := ih l (by simpa using hl) (fun i Q hQ => by have := hh (i + 1) Q (by simpa using hQ); simpa using this)
        simp only [sizeN, Rows.uptoBulkAll]; omega
   have h7 := hsum L el h5 (fun i P hP => by obtain ⟨ys, d, ⟨_, _, _, _, k⟩, e⟩ := h6 i P hP; exact ⟨d, e, k⟩)
   have h8 := bulk_length el
   rw [h4]
   simp only [Rows.uptoBulk]
   omega
set_option maxRecDepth 20000 in
set_option linter.constructorNameAsVariable false in
theorem open_prog {H : Type} {enc : TypeId × Value → H} {w : World} {r : Reach} {b0 : Nat} {v : Value} {d : DataW H} {p : List MemPlace}
 (hv : Value.okWide Tryz.prog w r b0 25 v) (h : DataW.Trod enc Tryz.prog w 0 (fun _ => true) true 25 v d p) :
 ∃ ca cc c la lc, ∃ Ls : List ByteArray, ∃ ga gc, ∃ Gs : List ByteArray, ∃ u0 u1 : Int, v = .agg #[.slice ca c.size cc, .slice la Ls.length lc, .slice ga Gs.length gc, .int .i64 u0, .int .i64 u1] ∧ IsB w ca c.size cc c ∧ IsL w la Ls ∧ IsL w ga Gs ∧ c.size + sizeN Ls + Ls.length + sizeN Gs + Gs.length ≤ 2 * Rows.uptoBulk d := by
 obtain ⟨cs, rfl, hsz⟩ := okWide_struct Tryz.underlying25 hv
 rw [cellsPr] at hsz
 obtain ⟨fuel, hf⟩ := h
 simp only [Value.cells] at hf
 obtain ⟨xs, n, _, hx, hl, hlen, hh⟩ := DataW.trod_struct Tryz.underlying25 hf
 match xs, hlen with
 | [y0, y1, y2, y3, y4], _ =>
   have h0 : DataW.trod enc Tryz.prog w 0 (fun _ => true) true n 22 ((cs.toList.drop 0).take (Tryz.prog.cellsOf 22)) = some y0 := hh 0 _ rfl
   have h1 : DataW.trod enc Tryz.prog w 0 (fun _ => true) true n 23 ((cs.toList.drop 1).take (Tryz.prog.cellsOf 23)) = some y1 := hh 1 _ rfl
   have h2 : DataW.trod enc Tryz.prog w 0 (fun _ => true) true n 23 ((cs.toList.drop 2).take (Tryz.prog.cellsOf 23)) = some y2 := hh 2 _ rfl
   have h3 : DataW.trod enc Tryz.prog w 0 (fun _ => true) true n 3 ((cs.toList.drop 3).take (Tryz.prog.cellsOf 3)) = some y3 := hh 3 _ rfl
   have h4 : DataW.trod enc Tryz.prog w 0 (fun _ => true) true n 3 ((cs.toList.drop 4).take (Tryz.prog.cellsOf 3)) = some y4 := hh 4 _ rfl
   obtain ⟨ca, cc, c, e0, i0, b0⟩ := bytes_in h0
   obtain ⟨la, lc, Ls, e1, i1, b1⟩ := lists_in h1
   obtain ⟨ga, gc, Gs, e2, i2, b2⟩ := lists_in h2
   obtain ⟨u0, e3, _, _⟩ := DataW.trod_int Tryz.underlying3 h3
   obtain ⟨u1, e4, _, _⟩ := DataW.trod_int Tryz.underlying3 h4
   rw [cellsBs] at e0
   rw [cellsBBs] at e1 e2
   rw [cellsI] at e3 e4
   have g0 := one_of e0
   have g1 := one_of e1
   have g2 := one_of e2
   have g3 := one_of e3
   have g4 := one_of e4
   have hcs : cs = #[.slice ca c.size cc, .slice la Ls.length lc, .slice ga Gs.length gc, .int .i64 u0, .int .i64 u1] := by
    obtain ⟨l⟩ := cs
    match l, hsz with
    | [a0, a1, a2, a3, a4], _ =>
      simp at g0 g1 g2 g3 g4
      rw [g0, g1, g2, g3, g4]
   refine ⟨ca, cc, c, la, lc, Ls, ga, gc, Gs, u0, u1, by rw [hcs], i0, i1, i2, ?_⟩
   have hd : d = .agg [y0.1, y1.1, y2.1, y3.1, y4.1] := by have := congrArg Prod.fst hx; simpa using this
   rw [hd]
   simp only [Rows.uptoBulk, Rows.uptoBulkAll]
   omega
def SmallPost (c : ByteArray) (Ls Gs : List ByteArray) (u0 u1 : Int) (w : World) (e : Ending) (w' : World) : Prop :=
 ∃ bb : Bool, e = .returned (.bool bb) ∧ Below w.heap.size w w' ∧ (bb = true → c.size + sizeN Ls + sizeN Gs < 30000 ∧ Ls.length < 1000 ∧ Gs.length < 1000 ∧ (-1073741824 ≤ u0 ∧ u0 ≤ 1073741824) ∧ (-1073741824 ≤ u1 ∧ u1 ≤ 1073741824))
theorem sizeN_nx {L : List ByteArray} {i : Nat} {P : ByteArray} (h : L[i]? = some P) : sizeN (L.take (i + 1)) = sizeN (L.take i) + P.size := by
 have happ : ∀ (M K : List ByteArray), sizeN (M ++ K) = sizeN M + sizeN K := by
  intro M K
  induction M with
  | nil => simp [sizeN]
  | cons a M ih => simp only [List.cons_append, sizeN]; omega
 rw [List.take_add_one, h, happ]
 simp [sizeN]
theorem sizeN_up (L : List ByteArray) (i : Nat) : sizeN (L.take i) ≤ sizeN L := by
 induction L generalizing i with
 | nil => simp [sizeN]
 | cons a L ih =>
   cases i with
   | zero => simp [sizeN]
   | succ i => have := ih i; simp only [List.take_succ_cons, sizeN]; omega
set_option maxRecDepth 20000 in
set_option maxHeartbeats 2000000 in
theorem small_d (ca : Option Addr) (cc : Nat) (c : ByteArray) (la : Option Addr) (lc : Nat) (Ls : List ByteArray) (ga : Option Addr) (gc : Nat) (Gs : List ByteArray) (u0 u1 : Int) (w : World) (hL : IsL w la Ls) (hG : IsL w ga Gs) (hb : c.size + sizeN Ls + Ls.length + sizeN Gs + Gs.length ≤ 10000000) :
 Calls Tryz.prog 5 #[.agg #[.slice ca c.size cc, .slice la Ls.length lc, .slice ga Gs.length gc, .int .i64 u0, .int .i64 u1]] w (SmallPost c Ls Gs u0 u1 w) := by
 have hb0 : Below w.heap.size w (w.alloc (.cells #[.slice ca c.size cc, .slice la Ls.length lc, .slice ga Gs.length gc, .int .i64 u0, .int .i64 u1] 25)) := bel_al _ _
 have e0 : (w.alloc (.cells #[.slice ca c.size cc, .slice la Ls.length lc, .slice ga Gs.length gc, .int .i64 u0, .int .i64 u1] 25)).heap[w.heap.size]? = some (.cells #[.slice ca c.size cc, .slice la Ls.length lc, .slice ga Gs.length gc, .int .i64 u0, .int .i64 u1] 25 (0, 0)) := heap_alloc_new w _
 obtain ⟨z, HZ⟩ : ∃ z, Hid (c.size = z) := ⟨_, rfl⟩
 obtain ⟨m, HM⟩ : ∃ z, Hid (Ls.length = z) := ⟨_, rfl⟩
 obtain ⟨n, HN⟩ : ∃ z, Hid (Gs.length = z) := ⟨_, rfl⟩
 have HB := Lib.hid hb
 have HL0 := Lib.hid (hL.below hb0)
 have HG0 := Lib.hid (hG.below hb0)
 have HB0 := Lib.hid hb0
 rw [HZ.out, HM.out, HN.out] at HB0 HL0 HG0 e0 ⊢
 have HE0 := Lib.hid e0
 clear hL hG hb hb0 e0
 go_enter Tryz.func5, Tryz.ntmps5
 go_wp2_with fail
 generalize (w.alloc (.cells #[.slice ca z cc, .slice la m lc, .slice ga n gc, .int .i64 u0, .int .i64 u1] 25)) = w0 at *
 go_loopw [3, 14] (fun nv iv wr => ∃ i t : Nat, i ≤ m ∧ iv = .int .i64 (i : Int) ∧ nv = .int .i64 (t : Int) ∧ Hid (t = z + sizeN (Ls.take i)) ∧ Hid (wr = w0)) (fun _ iv _ => m - (intOf iv).toNat)
 case atStart => exact ⟨0, z, Nat.zero_le _, rfl, rfl, by simp [sizeN, Hid], rfl⟩
 case round =>
  obtain ⟨i, t, hi, rfl, rfl, HTT, hwe⟩ := hrel
  have hwe2 : w0 = wr := Eq.symm hwe
  subst hwe2
  clear hwe
  by_cases hlt : i < m
  ·have hlt' : (i : Int) < (m : Int) := by omega
   have hi0 : (0 : Int) ≤ (i : Int) := by omega
   have HLT := Lib.hid hlt
   obtain ⟨P, hP⟩ := get_of (show i < Ls.length by rw [HM.out]; exact hlt)
   rcases HL0.out with hn | ⟨lb, lo, rfl, hLL⟩
   ·rw [hn] at hP; simp at hP
   obtain ⟨ai, ci, k0, _⟩ := hLL i P hP
   have hs1 := sizeN_nx hP
   have hs2 := sizeN_up Ls (i + 1)
   have HTN : Hid (t + P.size = z + sizeN (Ls.take (i + 1))) := by rw [hs1]; have := HTT.out; unfold Hid; omega
   have hw1 : wrap64 ((i : Int) + 1) = ((i + 1 : Nat) : Int) := by have := HB.out; have := HM.out; unfold wrap64; omega
   have hw2 : wrap64 ((t : Int) + (P.size : Int)) = ((t + P.size : Nat) : Int) := by have := HTN.out; have := HB.out; have := HZ.out; unfold wrap64; omega
   clear hi hlt hP hLL hs1 hs2
   go_wp2_with fail
   refine ⟨⟨i + 1, t + P.size, HLT.out, by first | rw [hw1] | go_num, by first | rw [hw2] | go_num, HTN, by first | rfl | trivial⟩, ?_⟩
   (try rw [hw1]); have := HLT.out; simp only [intOf]; omega
  ·obtain rfl : i = m := by omega
   have HTL : Hid (t = z + sizeN Ls) := by have h := HTT.out; rw [← HM.out, List.take_length] at h; exact h
   have eD := HE0.out
   have d1 := blk_cell eD 1 _ rfl
   have d2 := blk_cell eD 2 _ rfl
   have d3 := blk_cell eD 3 _ rfl
   have d4 := blk_cell eD 4 _ rfl
   have h1 : ¬ (i : Int) < (i : Int) := by omega
   clear eD hlt hi
   go_wp2_with fail
   go_loopw [3, 26] (fun nv iv wx => ∃ k t2 : Nat, k ≤ n ∧ iv = .int .i64 (k : Int) ∧ nv = .int .i64 (t2 : Int) ∧ Hid (t2 = t + sizeN (Gs.take k)) ∧ Hid (wx = w0)) (fun _ iv _ => n - (intOf iv).toNat)
   case atStart => exact ⟨0, t, Nat.zero_le _, rfl, rfl, by simp [sizeN, Hid], rfl⟩
   case round =>
    obtain ⟨k, t2, hk, rfl, rfl, HTT2, hwe⟩ := hrel
    have hwe2 : w0 = wr := Eq.symm hwe
    subst hwe2
    clear hwe
    by_cases hlt : k < n
    ·have hlt' : (k : Int) < (n : Int) := by omega
     have hk0 : (0 : Int) ≤ (k : Int) := by omega
     have HLT := Lib.hid hlt
     obtain ⟨P, hP⟩ := get_of (show k < Gs.length by rw [HN.out]; exact hlt)
     rcases HG0.out with hn | ⟨gb, go, rfl, hLL⟩
     ·rw [hn] at hP; simp at hP
     obtain ⟨ai, ci, q0, _⟩ := hLL k P hP
     have hs1 := sizeN_nx hP
     have hs2 := sizeN_up Gs (k + 1)
     have HTN : Hid (t2 + P.size = t + sizeN (Gs.take (k + 1))) := by rw [hs1]; have := HTT2.out; unfold Hid; omega
     have hw1 : wrap64 ((k : Int) + 1) = ((k + 1 : Nat) : Int) := by have := HB.out; have := HN.out; unfold wrap64; omega
     have hw2 : wrap64 ((t2 : Int) + (P.size : Int)) = ((t2 + P.size : Nat) : Int) := by have := HTN.out; have := HTL.out; have := HB.out; have := HZ.out; unfold wrap64; omega
     clear hk hlt hP hLL hs1 hs2
     go_wp2_with fail
     refine ⟨⟨k + 1, t2 + P.size, HLT.out, by first | rw [hw1] | go_num, by first | rw [hw2] | go_num, HTN, by first | rfl | trivial⟩, ?_⟩
     (try rw [hw1]); have := HLT.out; simp only [intOf]; omega
    ·obtain rfl : k = n := by omega
     have HT2 : Hid (t2 = t + sizeN Gs) := by have h := HTT2.out; rw [← HN.out, List.take_length] at h; exact h
     have h2 : ¬ (k : Int) < (k : Int) := by omega
     have hno : ∀ w', Below w.heap.size w w' → SmallPost c Ls Gs u0 u1 w (.returned (.bool false)) w' := fun w' hb => ⟨false, rfl, hb, fun h => by cases h⟩
     have HNO := Lib.hid hno
     clear hno hlt hk
     by_cases c1 : (t2 : Int) < 30000
     ·have HC1 := Lib.hid c1
      by_cases c2 : (i : Int) < 1000
      ·have HC2 := Lib.hid c2
       by_cases c3 : (k : Int) < 1000
       ·have HC3 := Lib.hid c3
        by_cases c4 : (-1073741824 : Int) ≤ u0
        ·have HC4 := Lib.hid c4
         by_cases c5 : u0 ≤ 1073741824
         ·have HC5 := Lib.hid c5
          by_cases c6 : (-1073741824 : Int) ≤ u1
          ·have HC6 := Lib.hid c6
           by_cases c7 : u1 ≤ 1073741824
           ·have HC7 := Lib.hid c7
            have HYES : Hid (∀ w', Below w.heap.size w w' → SmallPost c Ls Gs u0 u1 w (.returned (.bool true)) w') := fun w' hb => ⟨true, rfl, hb, fun _ => ⟨by have h1 := HC1.out; have h2 := HT2.out; have h3 := HTL.out; have h4 := HZ.out; omega, by have h1 := HC2.out; have h2 := HM.out; omega, by have h1 := HC3.out; have h2 := HN.out; omega, ⟨HC4.out, HC5.out⟩, ⟨HC6.out, HC7.out⟩⟩⟩
            go_wp2_with fail
            go_ret
            exact HYES.out _ HB0.out
           ·go_wp2_with fail
            go_ret
            exact HNO.out _ HB0.out
          ·go_wp2_with fail
           go_ret
           exact HNO.out _ HB0.out
         ·go_wp2_with fail
          go_ret
          exact HNO.out _ HB0.out
        ·go_wp2_with fail
         go_ret
         exact HNO.out _ HB0.out
       ·go_wp2_with fail
        go_ret
        exact HNO.out _ HB0.out
      ·go_wp2_with fail
       go_ret
       exact HNO.out _ HB0.out
     ·go_wp2_with fail
      go_ret
      exact HNO.out _ HB0.out
end Go.Proofs.YtklenppldblbdaaGreat
namespace Go.Proofs.YtklenppldblbdaaGreat
open Go.RowKit Go.PlainAid
theorem run_fitD {f : FS} (hf : FSFit f) : ∀ (n : Nat) (s : MS), StepFit s → StepFit (MS.run f n s)
 | 0, s, h => h
 | n + 1, s, h => by
   rw [MS.run]
   split
   ·exact h
   ·rename_i h0
    exact run_fitD hf n _ (h.step (by simp only [not_or, Decidable.not_not] at h0; exact h0.2) f hf)
theorem glyph_fewD {f : FS} (hf : FSFit f) (g : Nat) (P : ByteArray) (hP : f.glyphs[g]? = some P) : (glyphM f g).1.length ≤ 256 ∧ ∀ c ∈ (glyphM f g).1, c.length ≤ 4096 := by
 have h := run_fitD hf 20001 _ (start_fit f P (hf.1 P (List.mem_of_getElem? hP)))
 have e : glyphM f g = if (MS.run f 20001 (MS.start f P)).fault ≠ 0 then ([], 0, (MS.run f 20001 (MS.start f P)).fault) else ((MS.run f 20001 (MS.start f P)).out, (MS.run f 20001 (MS.start f P)).width, 0) := by unfold glyphM; rw [hP]
 rw [e]
 split
 ·exact ⟨Nat.zero_le _, fun c hc => by simp at hc⟩
 ·exact ⟨h.pen.2.1, fun c hc => h.pen.len hc⟩
theorem isL_cellsD {w : World} {b : Nat} {cs : Array Value} {T : TypeId} {Ps : List ByteArray} (hb : w.heap[b]? = some (.cells cs T (0, 0))) (h : ∀ (i : Nat) (P : ByteArray), Ps[i]? = some P → ∃ ai ci, cs[i]? = some (.slice ai P.size ci) ∧ IsB w ai P.size ci P) : IsL w (some ⟨b, 0, none⟩) Ps := by
 refine .inr ⟨b, 0, rfl, fun i P hP => ?_⟩
 obtain ⟨ai, ci, k1, k2⟩ := h i P hP
 exact ⟨ai, ci, by rw [Nat.zero_add]; exact blk_cell hb i _ k1, k2⟩
def Mid (N6 N7 : Nat) (w w' : World) : Prop := ∀ j, N6 ≤ j → j < N7 → w'.heap[j]? = w.heap[j]?
theorem Mid.refl (N6 N7 : Nat) (w : World) : Mid N6 N7 w w := fun _ _ _ => rfl
theorem OutW.mid {N6 N7 : Nat} {w w' : World} {oa : Option Addr} {oc : Nat} {vs : List Value} {O : List (List Kn)} (h : OutW w N6 oa oc vs O) (hN : w.heap.size = N7) (hk : Mid N6 N7 w w') : OutW w' N6 oa oc vs O := by
 have hrow : ∀ {e : TypeId} {s n : Nat} {v : Value} {xs : List Value}, w.ownsRow N6 e s v n xs → w'.ownsRow N6 e s v n xs := by
  intro e s n v xs hr
  refine ⟨hr.1, ?_⟩
  rcases hr.2 with h2 | ⟨g, cap, cur, hv, hb, hh, rest⟩
  ·exact .inl h2
  ·exact .inr ⟨g, cap, cur, hv, hb, (hk g hb (by rw [← hN]; exact blk_lt hh)).trans hh, rest⟩
 exact ⟨hrow h.own, fun i c hc => by obtain ⟨a, ci, k1, k2⟩ := h.conts i c hc; exact ⟨a, ci, k1, hrow k2⟩, h.apart⟩
def Own67 (N6 N7 : Nat) (r : Option Nat) : Prop := ∀ g, r = some g → g < N6 ∨ N7 ≤ g
theorem Mid.grown {N6 N7 : Nat} {w0 w w' : World} {r : Option Nat} (h : Mid N6 N7 w0 w) (hg : w.grownBy w' r) (hr : Own67 N6 N7 r) (hN : N7 ≤ w.heap.size) : Mid N6 N7 w0 w' := fun j h1 h2 => by
 rw [hg.block j (Nat.lt_of_lt_of_le h2 hN) (fun e => by rcases hr j e.symm with h3 | h3 <;> omega)]
 exact h j h1 h2
structure SpW (Ba N6 N7 : Nat) (oa : Option Addr) (oc : Nat) (vs : List Value) (O : List (List Kn)) (i : Nat) (us : List Value) (w8 wr : World) : Prop where
 row : wr.ownsRow Ba 41 1 (.slice oa O.length oc) O.length us
 rowO : Own67 N6 N7 (Value.slice oa O.length oc).ownBlock
 same : ∀ j, i ≤ j → us[j]? = vs[j]?
 conts : ∀ (j : Nat) (c : List Kn), i ≤ j → O[j]? = some c → ∃ (aj : Option Addr) (cj : Nat), vs[j]? = some (.slice aj c.length cj) ∧ wr.ownsRow Ba 43 3 (.slice aj c.length cj) c.length (c.flatMap clK) ∧ Own67 N6 N7 (Value.slice aj c.length cj).ownBlock
 bel : Below Ba w8 wr
 mid : Mid N6 N7 w8 wr
 le : N7 ≤ wr.heap.size
 ge : Ba ≤ wr.heap.size
theorem spw_start {Ba N6 N7 : Nat} {oa : Option Addr} {oc : Nat} {vs : List Value} {O : List (List Kn)} {w6 w8 : World} (h : OutW w6 Ba oa oc vs O) (hN : w6.heap.size = N6) (hb : Below N6 w6 w8) (h7 : N7 ≤ w8.heap.size) (hba : Ba ≤ N6) : SpW Ba N6 N7 oa oc vs O 0 vs w8 w8 := by
 have hz := h.below (hN ▸ hb)
 refine ⟨hz.own, fun g hg => .inl (by have := (h.own.lt g hg).2; omega), fun _ _ => rfl, fun j c _ hc => ?_, Below.refl _ _, Mid.refl _ _ _, h7, by have := hb.size; omega⟩
 obtain ⟨aj, cj, k1, k2⟩ := h.conts j c hc
 exact ⟨aj, cj, k1, own_below k2 (hN ▸ hb), fun g hg => .inl (by have := (k2.lt g hg).2; omega)⟩
theorem own_free {w : World} {B : Nat} {e : TypeId} {s n g c : Nat} {xs : List Value} (h : w.ownsRow B e s (.slice (some ⟨g, 0, none⟩) n c) n xs) (i : Nat) : w.frozen? ⟨g, i, none⟩ = false := by
 rcases h.2 with ⟨hx, _⟩ | ⟨gg, cap, cur, hx, hb, hgg, _⟩
 ·cases hx
 ·cases hx; exact blk_free hgg i
structure SpI (Ba N6 N7 : Nat) (oa : Option Addr) (oc : Nat) (vs : List Value) (O : List (List Kn)) (i : Nat) (us : List Value) (av : Option Addr) (m cv : Nat) (xs : List Value) (w8 wr : World) : Prop where
 row : wr.ownsRow Ba 41 1 (.slice oa O.length oc) O.length us
 rowO : Own67 N6 N7 (Value.slice oa O.length oc).ownBlock
 here : us[i]? = some (.slice av m cv)
 cont : wr.ownsRow Ba 43 3 (.slice av m cv) m xs
 contO : Own67 N6 N7 (Value.slice av m cv).ownBlock
 same : ∀ j, i + 1 ≤ j → us[j]? = vs[j]?
 conts : ∀ (j : Nat) (c : List Kn), i + 1 ≤ j → O[j]? = some c → ∃ (aj : Option Addr) (cj : Nat), vs[j]? = some (.slice aj c.length cj) ∧ wr.ownsRow Ba 43 3 (.slice aj c.length cj) c.length (c.flatMap clK) ∧ Own67 N6 N7 (Value.slice aj c.length cj).ownBlock
 apart : ∀ j u g, i + 1 ≤ j → vs[j]? = some u → (Value.slice av m cv).ownBlock = some g → u.ownBlock ≠ some g
 bel : Below Ba w8 wr
 mid : Mid N6 N7 w8 wr
 le : N7 ≤ wr.heap.size
 ge : Ba ≤ wr.heap.size
section
variable {Ba N6 N7 oc i : Nat} {oa : Option Addr} {vs us : List Value} {O : List (List Kn)} {w8 wr : World}
theorem SpW.enter (h : SpW Ba N6 N7 oa oc vs O i us w8 wr) (hap : ∀ (i j : Nat) (v u : Value) (g : Nat), i ≠ j → vs[i]? = some v → vs[j]? = some u → v.ownBlock = some g → u.ownBlock ≠ some g) {c : List Kn} (hc : O[i]? = some c) : ∃ av cv, SpI Ba N6 N7 oa oc vs O i us av c.length cv (c.flatMap clK) w8 wr := by
 obtain ⟨av, cv, k1, k2, k3⟩ := h.conts i c (Nat.le_refl _) hc
 exact ⟨av, cv, h.row, h.rowO, by rw [h.same i (Nat.le_refl _)]; exact k1, k2, k3, fun j hj => h.same j (by omega), fun j c hj hc => h.conts j c (by omega) hc, fun j u g hj hu hg => hap i j _ u g (by omega) k1 hu hg, h.bel, h.mid, h.le, h.ge⟩
theorem SpI.leave {av : Option Addr} {m cv : Nat} {xs : List Value} (h : SpI Ba N6 N7 oa oc vs O i us av m cv xs w8 wr) : SpW Ba N6 N7 oa oc vs O (i + 1) us w8 wr :=
 ⟨h.row, h.rowO, h.same, h.conts, h.bel, h.mid, h.le, h.ge⟩
theorem SpI.turn {av : Option Addr} {m cv : Nat} {xs : List Value} {av' : Option Addr} {m' cv' : Nat} {xs' : List Value} {w' : World} (h : SpI Ba N6 N7 oa oc vs O i us av m cv xs w8 wr) (hg : wr.grownBy w' (Value.slice av m cv).ownBlock) (hc : w'.ownsRow Ba 43 3 (.slice av' m' cv') m' xs')
 (hat : ∀ g, (Value.slice av' m' cv').ownBlock = some g → (Value.slice av m cv).ownBlock = some g ∨ wr.heap.size ≤ g) :
 w'.ownsRow Ba 41 1 (.slice oa O.length oc) O.length us ∧ Own67 N6 N7 (Value.slice av' m' cv').ownBlock ∧ (∀ (j : Nat) (c : List Kn), i + 1 ≤ j → O[j]? = some c → ∃ (aj : Option Addr) (cj : Nat), vs[j]? = some (.slice aj c.length cj) ∧ w'.ownsRow Ba 43 3 (.slice aj c.length cj) c.length (c.flatMap clK) ∧ Own67 N6 N7 (Value.slice aj c.length cj).ownBlock) ∧
  (∀ j u g, i + 1 ≤ j → vs[j]? = some u → j < O.length → (Value.slice av' m' cv').ownBlock = some g → u.ownBlock ≠ some g) ∧ Below Ba w8 w' ∧ Mid N6 N7 w8 w' ∧ N7 ≤ w'.heap.size ∧ Ba ≤ w'.heap.size := by
 have ht := typ_own h.cont
 refine ⟨own_chg h.row hg ht (by decide), fun g hg' => ?_, fun j c hj hc => ?_, fun j u g hj hu hjl hg' hu' => ?_, h.bel.grown hg h.ge (fun k hk => (h.cont.lt k hk).1), h.mid.grown hg h.contO h.le, Nat.le_trans h.le hg.size, Nat.le_trans h.ge hg.size⟩
 ·rcases hat g hg' with e | e
  ·exact h.contO g e
  ·exact .inr (Nat.le_trans h.le e)
 ·obtain ⟨aj, cj, k1, k2, k3⟩ := h.conts j c hj hc
  exact ⟨aj, cj, k1, own_apart k2 hg (fun g hv e => h.apart j _ g hj k1 e hv), k3⟩
 ·rcases hat g hg' with e | e
  ·exact h.apart j u g hj hu e hu'
  ·obtain ⟨c, hc⟩ := get_of hjl
   obtain ⟨aj, cj, k1, k2, _⟩ := h.conts j c hj hc
   rw [hu] at k1
   have e2 := Option.some.inj k1
   subst e2
   have := (k2.lt g hu').2
   omega
theorem SpI.set {g m cv : Nat} {xs : List Value} (h : SpI Ba N6 N7 oa oc vs O i us (some ⟨g, 0, none⟩) m cv xs w8 wr) (hvl : vs.length = O.length) (k : Nat) (u : Value) : SpI Ba N6 N7 oa oc vs O i us (some ⟨g, 0, none⟩) m cv (xs.set k u) w8 (wr.setCell ⟨g, k, none⟩ u) := by
 obtain ⟨t1, t2, t3, t4, t5, t6, t7, t8⟩ := h.turn (grown_set wr g k u) (own_put h.cont k u) (fun g' e => .inl e)
 exact ⟨t1, h.rowO, h.here, own_put h.cont k u, t2, h.same, t3, fun j u g hj hu => t4 j u g hj hu (by have := (List.getElem?_eq_some_iff.1 hu).1; omega), t5, t6, t7, t8⟩
theorem SpI.app {ra : Nat} {av : Option Addr} {m cv g' c' : Nat} {xs news : List Value} {wa w' : World} (h : SpI Ba N6 N7 (some ⟨ra, 0, none⟩) oc vs O i us av m cv xs w8 wr) (hvl : vs.length = O.length) (hi : i < O.length) (hal : Below wr.heap.size wr wa) (ho : w'.ownsRow Ba 43 3 (.slice (some ⟨g', 0, none⟩) (m + 1) c') (m + 1) (xs ++ news)) (hg : wa.grownBy w' (Value.slice av m cv).ownBlock)
 (hat : (Value.slice av m cv).ownBlock = some g' ∨ g' = wa.heap.size) :
 SpI Ba N6 N7 (some ⟨ra, 0, none⟩) oc vs O i (us.set i (.slice (some ⟨g', 0, none⟩) (m + 1) c')) (some ⟨g', 0, none⟩) (m + 1) c' (xs ++ news) w8 (w'.setCell ⟨ra, i, none⟩ (.slice (some ⟨g', 0, none⟩) (m + 1) c')) := by
 have hg2 : wr.grownBy w' (Value.slice av m cv).ownBlock := ⟨hg.os.trans hal.os, hg.tape.trans hal.tape, hg.output.trans hal.output, Nat.le_trans hal.size hg.size, fun b hb hne => (hg.block b (Nat.lt_of_lt_of_le hb hal.size) hne).trans (hal.block b hb)⟩
 obtain ⟨t1, t2, t3, t4, t5, t6, t7, t8⟩ := h.turn hg2 ho (fun g e => by
  have e2 : g' = g := by simpa [Value.ownBlock] using e
  subst e2
  rcases hat with e3 | e3
  ·exact .inl e3
  ·exact .inr (by rw [e3]; exact hal.size))
 have hgs := grown_set w' ra i (.slice (some ⟨g', 0, none⟩) (m + 1) c')
 have ht2 : TypAt w' (some ra) 41 := typ_own t1
 have hul : us.length = O.length := by have := t1.1; omega
 refine ⟨own_put t1 i _, h.rowO, by rw [List.getElem?_set_self (by omega)], own_chg ho hgs ht2 (by decide), t2, fun j hj => by rw [List.getElem?_set_ne (by omega)]; exact h.same j hj, fun j c hj hc => ?_, fun j u g hj hu => t4 j u g hj hu (by have := (List.getElem?_eq_some_iff.1 hu).1; omega), t5.grown hgs t8 (fun k hk => by cases hk; exact (t1.lt ra rfl).1), t6.grown hgs h.rowO t7, Nat.le_trans t7 hgs.size, Nat.le_trans t8 hgs.size⟩
 obtain ⟨aj, cj, k1, k2, k3⟩ := t3 j c hj hc
 exact ⟨aj, cj, k1, own_chg k2 hgs ht2 (by decide), k3⟩
end
end Go.Proofs.YtklenppldblbdaaGreat
