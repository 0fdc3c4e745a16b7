import Derived.Test.YtklenppldblbdaaGreatK22
import Derived.Test.YtklenppldblbdaaGreatK23
set_option linter.unusedSimpArgs false
set_option linter.unusedVariables false
namespace Go.Proofs.YtklenppldblbdaaGreat
open Go.RowKit Go.PlainAid
theorem OutW.begun {w w' : World} {B g c oc : Nat} {oa : Option Addr} {vs : List Value} {O : List (List Kn)} (h : OutW w B oa oc vs O) (ho : w'.ownsRow B 41 1 (.slice (some ⟨g, 0, none⟩) (O.length + 1) c) (O.length + 1) (vs ++ [.slice none 0 0]))
 (hg : w.grownBy w' (Value.slice oa O.length oc).ownBlock) : OutW w' B (some ⟨g, 0, none⟩) c (vs ++ [.slice none 0 0]) (O ++ [[]]) := by
 have ht := typ_own h.own
 have hl : vs.length = O.length := by have := h.own.1; omega
 refine ⟨?_, ?_, ?_⟩
 ·rw [List.length_append]
  exact ho
 ·intro i d hd
  by_cases hi : i < O.length
  ·rw [List.getElem?_append_left hi] at hd
   obtain ⟨ai, ci, h1, h2⟩ := h.conts i d hd
   exact ⟨ai, ci, by rw [List.getElem?_append_left (by omega)]; exact h1, own_chg h2 hg ht (by decide)⟩
  ·rw [List.getElem?_append_right (by omega)] at hd
   have hi2 : i - O.length = 0 := by have := (List.getElem?_eq_some_iff.1 hd).1; simp at this; omega
   rw [hi2] at hd
   have e : [] = d := by simpa using hd
   subst e
   exact ⟨none, 0, by rw [List.getElem?_append_right (by omega), hl, hi2]; rfl, by simp, .inl ⟨rfl, rfl⟩⟩
 ·intro i j v u x hij hv' hu' hx
  by_cases hi : i < vs.length
  ·rw [List.getElem?_append_left hi] at hv'
   by_cases hj : j < vs.length
   ·rw [List.getElem?_append_left hj] at hu'
    exact h.apart i j v u x hij hv' hu' hx
   ·rw [List.getElem?_append_right (by omega)] at hu'
    have hj2 : j - vs.length = 0 := by have := (List.getElem?_eq_some_iff.1 hu').1; simp at this; omega
    rw [hj2] at hu'
    have e : Value.slice none 0 0 = u := by simpa using hu'
    subst e
    simp [Value.ownBlock]
  ·rw [List.getElem?_append_right (by omega)] at hv'
   have hi2 : i - vs.length = 0 := by have := (List.getElem?_eq_some_iff.1 hv').1; simp at this; omega
   rw [hi2] at hv'
   have e : Value.slice none 0 0 = v := by simpa using hv'
   subst e
   simp [Value.ownBlock] at hx
theorem grown_keep {B A : Nat} {w w' wx : World} {c0 c1 c2 c3 c4 c5 c6 c7 c8 : Value} (he : wx = set9 w' A c0 c1 c2 c3 c4 c5 c6 c7 c8) (hb : Below B w w') (hk : KeepD w.heap.size w w') (hB : B ≤ w.heap.size) (hA : w.heap.size ≤ A) (hl : w.heap.size ≤ w'.heap.size) :
 Below B w wx ∧ KeepD w.heap.size w wx ∧ w.heap.size ≤ wx.heap.size ∧ w'.grownBy wx (some A) := by
 have hg : w'.grownBy wx (some A) := by rw [he]; exact set9_grown _ _ _ _ _ _ _ _ _ _ _
 exact ⟨hb.grown hg (Nat.le_trans hB hl) (fun k hk => by cases hk; exact Nat.le_trans hB hA), hk.trans (keepD_new hg hA), Nat.le_trans hl hg.size, hg⟩
structure MoveW (B A : Nat) (oa : Option Addr) (oc : Nat) (vs : List Value) (w : World) (q : MS) (wr : World) : Prop where
 dD : wr.heap[A + 1]? = some (.cells #[.slice none 0 0, .slice oa q.out.length oc, .int .i64 q.x, .int .i64 q.y, .int .i64 (q.knots : Int), .int .i64 (q.stems : Int), .int .i64 (q.fuel : Int), .int .i64 q.width, .bool q.asked] 52 (0, 0))
 dE : wr.heap[A + 1 + 1]? = some (.cells #[.slice none 0 0, .slice none 0 0, .int .i64 0, .int .i64 0, .int .i64 0, .int .i64 0, .int .i64 0, .int .i64 0, .bool false] 52 (0, 0))
 outw : OutW wr B oa oc vs q.out
 bel : Below B w wr
 keep : KeepD A w wr
 le : A ≤ wr.heap.size
theorem refuse_bare (s : MS) (e : Int) : ({ s with stack := [] } : MS).refuse e = { s.refuse e with stack := [] } := by unfold MS.refuse; split <;> rfl
theorem move_bare (s : MS) (a b : Int) : ({ s with stack := [] } : MS).move a b = { s.move a b with stack := [] } := by
 unfold MS.move
 split
 ·exact refuse_bare s 83
 ·exact knot_bare { s with out := s.out ++ [[]] } a b 1
theorem MoveW.up {B A : Nat} {oa : Option Addr} {oc : Nat} {vs : List Value} {w : World} {q : MS} {wr wx : World} (h : MoveW B A oa oc vs w q wr) (hB : B ≤ A) (hb : Below wr.heap.size wr wx) : MoveW B A oa oc vs w q wx :=
 ⟨blk_below h.dD hb, blk_below h.dE hb, h.outw.below hb, h.bel.trans (hb.mono (Nat.le_trans hB h.le)), h.keep.trans (keepD_bel h.le hb), Nat.le_trans h.le hb.size⟩
theorem fault_of {s : MS} (h : s.fault = 0) (e : Int) : (s.refuse e).fault = e := by unfold MS.refuse; rw [if_pos h]
set_option maxRecDepth 20000 in
set_option maxHeartbeats 4000000 in
theorem move21_d (v0 v1 v2 : Value) (u0 u1 : Int) (B : Nat) (sa : Option Addr) (sc : Nat) (oa : Option Addr) (oc : Nat) (vs : List Value) (s : MS) (w : World) (hz : OutW w B oa oc vs s.out) (hB : B ≤ w.heap.size) (hp : PenFit s) (h0 : s.fault = 0) (hf : Fit32 s.stack) (ho : Opds w s.stack sa) (hl : s.stack.length ≤ 48) (hc : s.stack.length ≤ sc)
 (h1 : ∃ a n c, v0 = .slice a n c) (h2 : ∃ a n c, v1 = .slice a n c) (h3 : ∃ a n c, v2 = .slice a n c) (hw1 : -4294967296 ≤ u1 ∧ u1 ≤ 4294967296) :
 Calls Tryz.prog 27 #[.agg #[v0, v1, v2, .int .i64 u0, .int .i64 u1], .agg (stV sa sc oa oc s), .int .i64 21] w (OperD B { s.begin u1 21 s.stack with stack := [] } w) := by
 obtain ⟨many, hmany⟩ : ∃ b, decide (s.stack.length = 2 + 1) = b := ⟨_, rfl⟩
 have HTD := Lib.hid (fun W (hW : Below w.heap.size w W) => told_d v0 v1 v2 u0 u1 sa sc oa oc s many W (ho.keep (keep_bel hW)) hc (by omega) (fun e => by rw [e] at hmany; simp at hmany; omega) hf h1 h2 h3 hw1)
 have hql := behind_list s u1 s.stack many
 have hqs := behind_stems s u1 s.stack many
 obtain ⟨q, hq⟩ : ∃ q : MS, { (s.behind u1 s.stack many).2 with stack := (s.behind u1 s.stack many).1 } = q := ⟨_, rfl⟩
 have HQO : Hid (q.out = s.out) := by rw [← hq]; exact hqs.2.1
 have HQF : Hid (q.fault = 0) := by rw [← hq]; exact hqs.2.2.2.2.2.2.1.trans h0
 have HQP : Hid (PenFit { q with stack := [] }) := by rw [← hq]; exact hp.behind u1 s.stack many
 have HQL : Hid (q.stack.length ≤ 48) := by rw [← hq]; exact Nat.le_trans hql.1 hl
 have HEQ : Hid ({ s.begin u1 21 s.stack with stack := [] } = if q.stack.length ≠ 2 then ({ q with stack := [] } : MS).refuse 81 else ({ q with stack := [] } : MS).move (q.stack.getD 0 0) (q.stack.getD 1 0)) := by
  unfold Hid
  rw [← hq]
  show _ = if (s.behind u1 s.stack many).1.length ≠ 2 then ({ (s.behind u1 s.stack many).2 with stack := [] } : MS).refuse 81 else ({ (s.behind u1 s.stack many).2 with stack := [] } : MS).move ((s.behind u1 s.stack many).1.getD 0 0) ((s.behind u1 s.stack many).1.getD 1 0)
  rw [refuse_bare, move_bare]
  unfold MS.begin
  simp [hmany]
  split <;> rfl
 rw [hq] at HTD
 rw [HEQ.out]
 have HZ : Hid (OutW w B oa oc vs q.out) := by rw [HQO.out]; exact hz
 have HB := Lib.hid hB
 clear hql hqs hq HQO HEQ hz hB hp h0 hf ho
 obtain ⟨a0, n0, c0, rfl⟩ := h1
 obtain ⟨a1, n1, c1, rfl⟩ := h2
 obtain ⟨a2, n2, c2, rfl⟩ := h3
 have hmod : ((s.stack.length : Int) == 2 + 1) = many := by rw [← hmany]; apply Bool.eq_iff_iff.2; simp; omega
 have hmod2 : ((s.stack.length : Int) == 3) = many := by rw [← hmany]; apply Bool.eq_iff_iff.2; simp; omega
 have h3 := Lib.hid (alloc3 w (.cells #[.slice a0 n0 c0, .slice a1 n1 c1, .slice a2 n2 c2, .int .i64 u0, .int .i64 u1] 29) (.cells #[.slice sa s.stack.length sc, .slice oa s.out.length oc, .int .i64 s.x, .int .i64 s.y, .int .i64 (s.knots : Int), .int .i64 (s.stems : Int), .int .i64 (s.fuel : Int), .int .i64 s.width, .bool s.asked] 52) (.cells #[.slice none 0 0, .slice none 0 0, .int .i64 0, .int .i64 0, .int .i64 0, .int .i64 0, .int .i64 0, .int .i64 0, .bool false] 52))
 generalize HQ : OperD B (if q.stack.length ≠ 2 then ({ q with stack := [] } : MS).refuse 81 else ({ q with stack := [] } : MS).move (q.stack.getD 0 0) (q.stack.getD 1 0)) w = QQ
 have HQQ := Lib.hid HQ
 clear HQ hl hc hw1 hmany
 unfold stV
 go_enter Tryz.func27, Tryz.ntmps27
 go_wp2_with fail
 refine (HTD.out _ h3.out.2.2.2).mono ?_
 rintro e w1 ⟨sb, sd, he, ho1, hd1, hb1⟩
 change e = .returned (.agg #[.slice sb q.stack.length sd, .slice oa q.out.length oc, .int .i64 q.x, .int .i64 q.y, .int .i64 (q.knots : Int), .int .i64 (q.stems : Int), .int .i64 (q.fuel : Int), .int .i64 q.width, .bool q.asked]) at he
 subst he
 have HB0 := Lib.hid (bel_next h3.out.2.2.2 hb1)
 have DC := blk_below h3.out.2.1 hb1
 have HDC := Lib.hid DC
 have HE1 := Lib.hid (blk_below h3.out.2.2.1 hb1)
 have HO1 := Lib.hid ho1
 have HD1 := Lib.hid hd1
 obtain ⟨c0, c1, c2, c3, c4, c5, c6, c7, c8⟩ := blk9 DC
 obtain ⟨f0, f1, f2, f3, f4, f5, f6, f7, f8⟩ := free9 DC
 clear hmod hmod2 h3 HTD ho1 hd1 hb1 DC
 go_upto_region 7 with fail
 refine wp_gen _ fun w2 hw2 => ?_
 have hg2 : w1.grownBy w2 (some (w.heap.size + 1)) := by rw [hw2]; exact grown_trans (set9_grown w1 (w.heap.size + 1) (.slice sb q.stack.length sd) (.slice oa q.out.length oc) (.int .i64 q.x) (.int .i64 q.y) (.int .i64 (q.knots : Int)) (.int .i64 (q.stems : Int)) (.int .i64 (q.fuel : Int)) (.int .i64 q.width) (.bool q.asked)) (grown_set _ _ 0 _)
 have hd2 : w2.heap[w.heap.size + 1]? = some (.cells #[.slice none 0 0, .slice oa q.out.length oc, .int .i64 q.x, .int .i64 q.y, .int .i64 (q.knots : Int), .int .i64 (q.stems : Int), .int .i64 (q.fuel : Int), .int .i64 q.width, .bool q.asked] 52 (0, 0)) := by rw [hw2]; have := blk_set (set9_blk HDC.out (.slice sb q.stack.length sd) (.slice oa q.out.length oc) (.int .i64 q.x) (.int .i64 q.y) (.int .i64 (q.knots : Int)) (.int .i64 (q.stems : Int)) (.int .i64 (q.fuel : Int)) (.int .i64 q.width) (.bool q.asked)) 0 (.slice none 0 0); simp at this; exact this
 have hty := typ_blk HDC.out
 have hm2 : MoveW B w.heap.size oa oc vs w q w2 := ⟨hd2, (grown_other hg2 (blk_lt HE1.out) (fun e => by have := Option.some.inj e; omega)).trans HE1.out, (HZ.out.below HB0.out).chg hg2 hty (by decide) (by decide), (HB0.out.mono HB.out).grown hg2 (Nat.le_trans HB.out HB0.out.size) (fun k hk => by cases hk; have := HB.out; omega), (keepD_bel (Nat.le_refl _) HB0.out).trans (keepD_new hg2 (by omega)), Nat.le_trans HB0.out.size hg2.size⟩
 have HO2 := Lib.hid (HO1.out.keep (keep_chg hg2 hty (by decide)))
 have HM2 := Lib.hid hm2
 clear hg2 hd2 hty hm2 hw2 HO1 HDC HE1 HB0 HZ
 clear c0 f0 c1 f1 c2 f2 c3 f3 c4 f4 c5 f5 c6 f6 c7 f7 c8 f8
 by_cases hlk : q.stack.length ≠ 2
 ·rw [if_pos hlk] at HQQ
  have z1 : ((q.stack.length : Int) == 2) = false := by simp; omega
  have DC := HM2.out.dD
  have EC := HM2.out.dE
  have HEE := Lib.hid EC
  have HBB := Lib.hid HM2.out.bel
  have HKK := Lib.hid HM2.out.keep
  have HLL := Lib.hid HM2.out.le
  obtain ⟨p0, p1, p2, p3, p4, p5, p6, p7, p8⟩ := blk9 DC
  obtain ⟨x0, x1, x2, x3, x4, x5, x6, x7, x8⟩ := blk9 EC
  obtain ⟨y0, y1, y2, y3, y4, y5, y6, y7, y8⟩ := free9 EC
  clear DC EC hlk
  go_wp2_with fail
  refine post_gen _ fun w9 hw9 => ?_
  obtain ⟨hb9, hk9, hl9, hg9⟩ := grown_keep (hw9 : w9 = set9 w2 (w.heap.size + 1 + 1) (.slice none 0 0) (.slice oa q.out.length oc) (.int .i64 q.x) (.int .i64 q.y) (.int .i64 (q.knots : Int)) (.int .i64 (q.stems : Int)) (.int .i64 (q.fuel : Int)) (.int .i64 q.width) (.bool q.asked)) HBB.out HKK.out HB.out (by omega) HLL.out
  have hE9 : w9.heap[w.heap.size + 1 + 1]? = some (.cells #[.slice none 0 0, .slice oa q.out.length oc, .int .i64 q.x, .int .i64 q.y, .int .i64 (q.knots : Int), .int .i64 (q.stems : Int), .int .i64 (q.fuel : Int), .int .i64 q.width, .bool q.asked] 52 (0, 0)) := by rw [hw9]; exact set9_blk HEE.out _ _ _ _ _ _ _ _ _
  clear hw9
  obtain ⟨d0, d1, d2, d3, d4, d5, d6, d7, d8⟩ := blk9 hE9
  refine bodyPost_ret (v := .tuple #[.agg #[.slice none 0 0, .slice oa q.out.length oc, .int .i64 q.x, .int .i64 q.y, .int .i64 (q.knots : Int), .int .i64 (q.stems : Int), .int .i64 (q.fuel : Int), .int .i64 q.width, .bool q.asked], .int .i64 81]) ?_ rfl ?_
  ·simp [results, Tryz.results27, go_sem, d0, d1, d2, d3, d4, d5, d6, d7, d8]
  ·rw [← HQQ.out]; exact oper_err2 (s2 := { q with stack := [] }) (sa := none) (sc := 0) (oa := oa) (oc := oc) (fault_of (s := { q with stack := [] }) HQF.out 81) (by decide) hb9 hk9 rfl
 ·have hlk2 : q.stack.length = 2 := by omega
  rw [if_neg hlk] at HQQ
  have z1 : ((q.stack.length : Int) == 2) = true := by simp; omega
  have i0 : (0 : Int) < (q.stack.length : Int) := by omega
  have i1 : (2 : Int) - 1 < (q.stack.length : Int) := by omega
  obtain ⟨x0, x1, hx⟩ : ∃ x0 x1, q.stack = [x0, x1] := by
   match hh : q.stack, hlk2 with
   | [x0, x1], _ => exact ⟨x0, x1, rfl⟩
  have HX := Lib.hid hx
  obtain ⟨g, off, rfl, hcell⟩ := HO2.out.at (by omega)
  have k0 := hcell 0 x0 (by rw [hx]; rfl)
  rw [Nat.add_zero] at k0
  have k1 := hcell 1 x1 (by rw [hx]; rfl)
  clear hx
  have DC := HM2.out.dD
  obtain ⟨p0, p1, p2, p3, p4, p5, p6, p7, p8⟩ := blk9 DC
  have HLK := Lib.hid hlk2
  clear DC hlk hlk2 hcell
  go_upto_region 14 with fail
  refine wp_gen _ fun w3 hw3 => ?_
  have hb3 : Below w2.heap.size w2 w3 := by rw [hw3]; first | exact Below.refl _ _ | exact (Below.refl _ _).drew | exact bel_drewN (Below.refl _ _) _
  have HM3 := Lib.hid (HM2.out.up HB.out hb3)
  clear hw3 hb3 HM2 HO2 k0 k1
  clear p0 p1 p2 p3 p4 p5 p6 p7 p8
  have DC := HM3.out.dD
  have EC := HM3.out.dE
  by_cases ho : q.out.length = 256
  ·have z2 : (256 : Int) ≤ (q.out.length : Int) := by omega
   have HMV : Hid (({ q with stack := [] } : MS).move (q.stack.getD 0 0) (q.stack.getD 1 0) = ({ q with stack := [] } : MS).refuse 83) := by unfold Hid MS.move; rw [if_pos (by exact ho)]
   rw [HMV.out] at HQQ
   have HEE := Lib.hid EC
   have HBB := Lib.hid HM3.out.bel
   have HKK := Lib.hid HM3.out.keep
   have HLL := Lib.hid HM3.out.le
   obtain ⟨p0, p1, p2, p3, p4, p5, p6, p7, p8⟩ := blk9 DC
   obtain ⟨x0, x1, x2, x3, x4, x5, x6, x7, x8⟩ := blk9 EC
   obtain ⟨y0, y1, y2, y3, y4, y5, y6, y7, y8⟩ := free9 EC
   clear DC EC ho
   go_wp2_with fail
   refine post_gen _ fun w9 hw9 => ?_
   obtain ⟨hb9, hk9, hl9, hg9⟩ := grown_keep (hw9 : w9 = set9 w3 (w.heap.size + 1 + 1) (.slice none 0 0) (.slice oa q.out.length oc) (.int .i64 q.x) (.int .i64 q.y) (.int .i64 (q.knots : Int)) (.int .i64 (q.stems : Int)) (.int .i64 (q.fuel : Int)) (.int .i64 q.width) (.bool q.asked)) HBB.out HKK.out HB.out (by omega) HLL.out
   have hE9 : w9.heap[w.heap.size + 1 + 1]? = some (.cells #[.slice none 0 0, .slice oa q.out.length oc, .int .i64 q.x, .int .i64 q.y, .int .i64 (q.knots : Int), .int .i64 (q.stems : Int), .int .i64 (q.fuel : Int), .int .i64 q.width, .bool q.asked] 52 (0, 0)) := by rw [hw9]; exact set9_blk HEE.out _ _ _ _ _ _ _ _ _
   clear hw9
   obtain ⟨d0, d1, d2, d3, d4, d5, d6, d7, d8⟩ := blk9 hE9
   refine bodyPost_ret (v := .tuple #[.agg #[.slice none 0 0, .slice oa q.out.length oc, .int .i64 q.x, .int .i64 q.y, .int .i64 (q.knots : Int), .int .i64 (q.stems : Int), .int .i64 (q.fuel : Int), .int .i64 q.width, .bool q.asked], .int .i64 83]) ?_ rfl ?_
   ·simp [results, Tryz.results27, go_sem, d0, d1, d2, d3, d4, d5, d6, d7, d8]
   ·rw [← HQQ.out]; exact oper_err2 (s2 := { q with stack := [] }) (sa := none) (sc := 0) (oa := oa) (oc := oc) (fault_of (s := { q with stack := [] }) HQF.out 83) (by decide) hb9 hk9 rfl
  ·have hq256 : q.out.length ≤ 255 := by have := HQP.out.2.1; have e : ({ q with stack := [] } : MS).out.length = q.out.length := rfl; omega
   have HQ256 := Lib.hid hq256
   have z2 : ¬ (256 : Int) ≤ (q.out.length : Int) := by omega
   have HMV : Hid (({ q with stack := [] } : MS).move (q.stack.getD 0 0) (q.stack.getD 1 0) = ({ q with stack := [], out := q.out ++ [[]] } : MS).knot (q.stack.getD 0 0) (q.stack.getD 1 0) 1) := by unfold Hid MS.move; rw [if_neg (by exact ho)]
   rw [HMV.out] at HQQ
   have HPB : Hid (PenFit { q with stack := [], out := q.out ++ [[]] }) := HQP.out.begun (by exact Nat.lt_succ_of_le hq256)
   have HBA := Lib.hid (bel_al w3 (.cells #[.slice none 0 0] 41))
   have HOW := Lib.hid (own_below HM3.out.outw.own HBA.out)
   have HDA := Lib.hid (blk_below DC HBA.out)
   have HEA := Lib.hid (blk_below EC HBA.out)
   have hla : w.heap.size + 1 < w3.heap.size := blk_lt DC
   obtain ⟨p0, p1, p2, p3, p4, p5, p6, p7, p8⟩ := blk9 DC
   clear DC EC ho hq256
   go_wp2_with (at_builtin; (
    refine wpList_appA elKK rfl _ _ rfl (w3.alloc (.cells #[.slice none 0 0] 41)) B oa q.out.length oc vs w3.heap.size 1 1 [.slice none 0 0] rfl rfl HOW.out rfl lies_new (by simp [Value.oneCell']) (by decide) (by have := HQ256.out; omega) (by have := HQ256.out; omega) (Nat.le_trans HB.out (Nat.le_trans HM3.out.le HBA.out.size)) ?_
    intro g9 c9 w9 ho9 hg9 hat9
    have ht9 := typ_own HOW.out
    have DC9 := blk_chg HDA.out hg9 ht9 (by decide)
    have HD9 := Lib.hid DC9
    have HE9 := Lib.hid (blk_chg HEA.out hg9 ht9 (by decide))
    have HZ9 := Lib.hid ((HM3.out.outw.below HBA.out).begun ho9 hg9)
    have HB9 : Hid (Below B w w9) := (HM3.out.bel.trans (HBA.out.mono (Nat.le_trans HB.out HM3.out.le))).trans (bel_own HOW.out hg9 (Nat.le_trans HB.out (Nat.le_trans HM3.out.le HBA.out.size)))
    have HK9 : Hid (KeepD w.heap.size w w9) := (HM3.out.keep.trans (keepD_bel HM3.out.le HBA.out)).trans (keepD_chg hg9 ht9 (.inr rfl))
    have HL9 : Hid (w.heap.size ≤ w9.heap.size) := Nat.le_trans HM3.out.le (Nat.le_trans HBA.out.size hg9.size)
    obtain ⟨p0, p1, p2, p3, p4, p5, p6, p7, p8⟩ := blk9 DC9
    obtain ⟨r0, r1, r2, r3, r4, r5, r6, r7, r8⟩ := free9 DC9
    clear DC9 ht9 ho9 hg9 hat9))
   have hg0 : q.stack.getD 0 0 = x0 := by rw [HX.out]; rfl
   have hg1 : q.stack.getD 1 0 = x1 := by rw [HX.out]; rfl
   have hst : stV none 0 (some ⟨g9, 0, none⟩) c9 { q with stack := [], out := q.out ++ [[]] } = #[.slice none 0 0, .slice (some ⟨g9, 0, none⟩) (q.out.length + 1) c9, .int .i64 q.x, .int .i64 q.y, .int .i64 (q.knots : Int), .int .i64 (q.stems : Int), .int .i64 (q.fuel : Int), .int .i64 q.width, .bool q.asked] := by unfold stV; simp
   have hg10 := grown_set w9 (w.heap.size + 1) 1 (.slice (some ⟨g9, 0, none⟩) (q.out.length + 1) c9)
   have hty := typ_blk HD9.out
   have HZ10 := Lib.hid (HZ9.out.chg hg10 hty (by decide) (by decide))
   have HB10 : Hid (Below B w (w9.setCell ⟨w.heap.size + 1, 1, none⟩ (.slice (some ⟨g9, 0, none⟩) (q.out.length + 1) c9))) := HB9.out.grown hg10 (Nat.le_trans HB.out HL9.out) (fun k hk => by cases hk; have := HB.out; omega)
   have HK10 : Hid (KeepD w.heap.size w (w9.setCell ⟨w.heap.size + 1, 1, none⟩ (.slice (some ⟨g9, 0, none⟩) (q.out.length + 1) c9))) := HK9.out.trans (keepD_new hg10 (by omega))
   have HE10 := Lib.hid ((grown_other hg10 (blk_lt HE9.out) (fun e => by have := Option.some.inj e; omega)).trans HE9.out)
   have HL10 : Hid (w.heap.size ≤ (w9.setCell ⟨w.heap.size + 1, 1, none⟩ (.slice (some ⟨g9, 0, none⟩) (q.out.length + 1) c9)).heap.size) := Nat.le_trans HL9.out hg10.size
   have HSP := step_dK B none 0 (some ⟨g9, 0, none⟩) c9 (vs ++ [.slice none 0 0]) { q with stack := [], out := q.out ++ [[]] } x0 x1 1 _ HZ10.out (Nat.le_trans HB.out HL10.out) HPB.out HQF.out
   rw [hst] at HSP
   rw [hg0, hg1] at HQQ
   have HST := Lib.hid hst
   have HSK : Hid ((({ q with stack := [], out := q.out ++ [[]] } : MS).knot x0 x1 1).stack = []) := knot_stack _ _ _ _
   refine HSP.mono ?_
   clear HSP hst hg10 hty HZ9 HB9 HK9 HE9 HL9 HD9 HZ10 hg0 HPB HMV
   generalize (w9.setCell ⟨w.heap.size + 1, 1, none⟩ (.slice (some ⟨g9, 0, none⟩) (q.out.length + 1) c9)) = wa at *
   rintro e w11 ⟨hy, hn⟩
   clear p0 r0 p1 r1 p2 r2 p3 r3 p4 r4 p5 r5 p6 r6 p7 r7 p8 r8
   by_cases hf : (({ q with stack := [], out := q.out ++ [[]] } : MS).knot x0 x1 1).fault = 0
   ·obtain ⟨vs1, he, hz1, hb1, hk1⟩ := hy hf
    generalize ({ q with stack := [], out := q.out ++ [[]] } : MS).knot x0 x1 1 = s1 at *
    have hst1 : stV none 0 (some ⟨g9, 0, none⟩) c9 s1 = #[.slice none 0 0, .slice (some ⟨g9, 0, none⟩) s1.out.length c9, .int .i64 s1.x, .int .i64 s1.y, .int .i64 (s1.knots : Int), .int .i64 (s1.stems : Int), .int .i64 (s1.fuel : Int), .int .i64 s1.width, .bool s1.asked] := by unfold stV; rw [HSK.out]; rfl
    rw [hst1] at he
    subst he
    have HST1 := Lib.hid hst1
    have HZ1 := Lib.hid hz1
    have HBB := Lib.hid (HB10.out.trans hb1)
    have HKK := Lib.hid (HK10.out.trans (hk1.mono HL10.out))
    have EC := hk1 _ _ _ _ (blk_lt HE10.out) (by decide) (by decide) HE10.out
    have HEE := Lib.hid EC
    have HLL : Hid (w.heap.size ≤ w11.heap.size) := Nat.le_of_lt (Nat.lt_of_le_of_lt (by omega) (blk_lt EC))
    have HF1 := Lib.hid hf
    obtain ⟨x0, x1, x2, x3, x4, x5, x6, x7, x8⟩ := blk9 EC
    obtain ⟨y0, y1, y2, y3, y4, y5, y6, y7, y8⟩ := free9 EC
    clear hy hn hf hz1 hb1 hk1 EC hst1
    go_wp2_with fail
    refine post_gen _ fun w9 hw9 => ?_
    obtain ⟨hb9, hk9, hl9, hg9⟩ := grown_keep (hw9 : w9 = set9 w11 (w.heap.size + 1 + 1) (.slice none 0 0) (.slice (some ⟨g9, 0, none⟩) s1.out.length c9) (.int .i64 s1.x) (.int .i64 s1.y) (.int .i64 (s1.knots : Int)) (.int .i64 (s1.stems : Int)) (.int .i64 (s1.fuel : Int)) (.int .i64 s1.width) (.bool s1.asked)) HBB.out HKK.out HB.out (by omega) HLL.out
    have hE9 : w9.heap[w.heap.size + 1 + 1]? = some (.cells #[.slice none 0 0, .slice (some ⟨g9, 0, none⟩) s1.out.length c9, .int .i64 s1.x, .int .i64 s1.y, .int .i64 (s1.knots : Int), .int .i64 (s1.stems : Int), .int .i64 (s1.fuel : Int), .int .i64 s1.width, .bool s1.asked] 52 (0, 0)) := by rw [hw9]; exact set9_blk HEE.out _ _ _ _ _ _ _ _ _
    clear hw9
    obtain ⟨d0, d1, d2, d3, d4, d5, d6, d7, d8⟩ := blk9 hE9
    refine bodyPost_ret (v := .tuple #[.agg #[.slice none 0 0, .slice (some ⟨g9, 0, none⟩) s1.out.length c9, .int .i64 s1.x, .int .i64 s1.y, .int .i64 (s1.knots : Int), .int .i64 (s1.stems : Int), .int .i64 (s1.fuel : Int), .int .i64 s1.width, .bool s1.asked], .int .i64 0]) ?_ rfl ?_
    ·simp [results, Tryz.results27, go_sem, d0, d1, d2, d3, d4, d5, d6, d7, d8]
    ·rw [← HQQ.out]; exact oper_ok rfl HST1.out (HZ1.out.chg hg9 (typ_blk HEE.out) (by decide) (by decide)) HF1.out HSK.out hb9 hk9
   ·obtain ⟨he, hb1⟩ := hn hf
    rw [HST.out] at he
    subst he
    have HBB := Lib.hid (HB10.out.trans (hb1.mono (Nat.le_trans HB.out HL10.out)))
    have HKK := Lib.hid (HK10.out.trans (keepD_bel HL10.out hb1))
    have EC := blk_below HE10.out hb1
    have HEE := Lib.hid EC
    have HLL : Hid (w.heap.size ≤ w11.heap.size) := Nat.le_trans HL10.out hb1.size
    generalize hkn : ({ q with stack := [], out := q.out ++ [[]] } : MS).knot x0 x1 1 = s1 at *
    have HF1 := Lib.hid hf
    obtain ⟨x0, x1, x2, x3, x4, x5, x6, x7, x8⟩ := blk9 EC
    obtain ⟨y0, y1, y2, y3, y4, y5, y6, y7, y8⟩ := free9 EC
    clear hy hn hf hb1 EC
    go_wp2_with fail
    refine post_gen _ fun w9 hw9 => ?_
    obtain ⟨hb9, hk9, hl9, hg9⟩ := grown_keep (hw9 : w9 = set9 w11 (w.heap.size + 1 + 1) (.slice none 0 0) (.slice (some ⟨g9, 0, none⟩) (q.out.length + 1) c9) (.int .i64 q.x) (.int .i64 q.y) (.int .i64 (q.knots : Int)) (.int .i64 (q.stems : Int)) (.int .i64 (q.fuel : Int)) (.int .i64 q.width) (.bool q.asked)) HBB.out HKK.out HB.out (by omega) HLL.out
    have hE9 : w9.heap[w.heap.size + 1 + 1]? = some (.cells #[.slice none 0 0, .slice (some ⟨g9, 0, none⟩) (q.out.length + 1) c9, .int .i64 q.x, .int .i64 q.y, .int .i64 (q.knots : Int), .int .i64 (q.stems : Int), .int .i64 (q.fuel : Int), .int .i64 q.width, .bool q.asked] 52 (0, 0)) := by rw [hw9]; exact set9_blk HEE.out _ _ _ _ _ _ _ _ _
    clear hw9
    obtain ⟨d0, d1, d2, d3, d4, d5, d6, d7, d8⟩ := blk9 hE9
    refine bodyPost_ret (v := .tuple #[.agg #[.slice none 0 0, .slice (some ⟨g9, 0, none⟩) (q.out.length + 1) c9, .int .i64 q.x, .int .i64 q.y, .int .i64 (q.knots : Int), .int .i64 (q.stems : Int), .int .i64 (q.fuel : Int), .int .i64 q.width, .bool q.asked], .int .i64 s1.fault]) ?_ rfl ?_
    ·simp [results, Tryz.results27, go_sem, d0, d1, d2, d3, d4, d5, d6, d7, d8]
    ·rw [← HQQ.out]; exact oper_err2 (sa := none) (sc := 0) rfl HF1.out hb9 hk9 HST.out
set_option maxRecDepth 20000 in
set_option maxHeartbeats 4000000 in
theorem move22_d (v0 v1 v2 : Value) (u0 u1 : Int) (B : Nat) (sa : Option Addr) (sc : Nat) (oa : Option Addr) (oc : Nat) (vs : List Value) (s : MS) (w : World) (hz : OutW w B oa oc vs s.out) (hB : B ≤ w.heap.size) (hp : PenFit s) (h0 : s.fault = 0) (hf : Fit32 s.stack) (ho : Opds w s.stack sa) (hl : s.stack.length ≤ 48) (hc : s.stack.length ≤ sc)
 (h1 : ∃ a n c, v0 = .slice a n c) (h2 : ∃ a n c, v1 = .slice a n c) (h3 : ∃ a n c, v2 = .slice a n c) (hw1 : -4294967296 ≤ u1 ∧ u1 ≤ 4294967296) :
 Calls Tryz.prog 27 #[.agg #[v0, v1, v2, .int .i64 u0, .int .i64 u1], .agg (stV sa sc oa oc s), .int .i64 22] w (OperD B { s.begin u1 22 s.stack with stack := [] } w) := by
 obtain ⟨many, hmany⟩ : ∃ b, decide (s.stack.length = 1 + 1) = b := ⟨_, rfl⟩
 have HTD := Lib.hid (fun W (hW : Below w.heap.size w W) => told_d v0 v1 v2 u0 u1 sa sc oa oc s many W (ho.keep (keep_bel hW)) hc (by omega) (fun e => by rw [e] at hmany; simp at hmany; omega) hf h1 h2 h3 hw1)
 have hql := behind_list s u1 s.stack many
 have hqs := behind_stems s u1 s.stack many
 obtain ⟨q, hq⟩ : ∃ q : MS, { (s.behind u1 s.stack many).2 with stack := (s.behind u1 s.stack many).1 } = q := ⟨_, rfl⟩
 have HQO : Hid (q.out = s.out) := by rw [← hq]; exact hqs.2.1
 have HQF : Hid (q.fault = 0) := by rw [← hq]; exact hqs.2.2.2.2.2.2.1.trans h0
 have HQP : Hid (PenFit { q with stack := [] }) := by rw [← hq]; exact hp.behind u1 s.stack many
 have HQL : Hid (q.stack.length ≤ 48) := by rw [← hq]; exact Nat.le_trans hql.1 hl
 have HEQ : Hid ({ s.begin u1 22 s.stack with stack := [] } = if q.stack.length ≠ 1 then ({ q with stack := [] } : MS).refuse 81 else ({ q with stack := [] } : MS).move (q.stack.getD 0 0) 0) := by
  unfold Hid
  rw [← hq]
  show _ = if (s.behind u1 s.stack many).1.length ≠ 1 then ({ (s.behind u1 s.stack many).2 with stack := [] } : MS).refuse 81 else ({ (s.behind u1 s.stack many).2 with stack := [] } : MS).move ((s.behind u1 s.stack many).1.getD 0 0) 0
  rw [refuse_bare, move_bare]
  unfold MS.begin
  simp [hmany]
  split <;> rfl
 rw [hq] at HTD
 rw [HEQ.out]
 have HZ : Hid (OutW w B oa oc vs q.out) := by rw [HQO.out]; exact hz
 have HB := Lib.hid hB
 clear hql hqs hq HQO HEQ hz hB hp h0 hf ho
 obtain ⟨a0, n0, c0, rfl⟩ := h1
 obtain ⟨a1, n1, c1, rfl⟩ := h2
 obtain ⟨a2, n2, c2, rfl⟩ := h3
 have hmod : ((s.stack.length : Int) == 1 + 1) = many := by rw [← hmany]; apply Bool.eq_iff_iff.2; simp; omega
 have hmod2 : ((s.stack.length : Int) == 2) = many := by rw [← hmany]; apply Bool.eq_iff_iff.2; simp; omega
 have h3 := Lib.hid (alloc3 w (.cells #[.slice a0 n0 c0, .slice a1 n1 c1, .slice a2 n2 c2, .int .i64 u0, .int .i64 u1] 29) (.cells #[.slice sa s.stack.length sc, .slice oa s.out.length oc, .int .i64 s.x, .int .i64 s.y, .int .i64 (s.knots : Int), .int .i64 (s.stems : Int), .int .i64 (s.fuel : Int), .int .i64 s.width, .bool s.asked] 52) (.cells #[.slice none 0 0, .slice none 0 0, .int .i64 0, .int .i64 0, .int .i64 0, .int .i64 0, .int .i64 0, .int .i64 0, .bool false] 52))
 generalize HQ : OperD B (if q.stack.length ≠ 1 then ({ q with stack := [] } : MS).refuse 81 else ({ q with stack := [] } : MS).move (q.stack.getD 0 0) 0) w = QQ
 have HQQ := Lib.hid HQ
 clear HQ hl hc hw1 hmany
 unfold stV
 go_enter Tryz.func27, Tryz.ntmps27
 go_wp2_with fail
 refine (HTD.out _ h3.out.2.2.2).mono ?_
 rintro e w1 ⟨sb, sd, he, ho1, hd1, hb1⟩
 change e = .returned (.agg #[.slice sb q.stack.length sd, .slice oa q.out.length oc, .int .i64 q.x, .int .i64 q.y, .int .i64 (q.knots : Int), .int .i64 (q.stems : Int), .int .i64 (q.fuel : Int), .int .i64 q.width, .bool q.asked]) at he
 subst he
 have HB0 := Lib.hid (bel_next h3.out.2.2.2 hb1)
 have DC := blk_below h3.out.2.1 hb1
 have HDC := Lib.hid DC
 have HE1 := Lib.hid (blk_below h3.out.2.2.1 hb1)
 have HO1 := Lib.hid ho1
 have HD1 := Lib.hid hd1
 obtain ⟨c0, c1, c2, c3, c4, c5, c6, c7, c8⟩ := blk9 DC
 obtain ⟨f0, f1, f2, f3, f4, f5, f6, f7, f8⟩ := free9 DC
 clear hmod hmod2 h3 HTD ho1 hd1 hb1 DC
 go_upto_region 7 with fail
 refine wp_gen _ fun w2 hw2 => ?_
 have hg2 : w1.grownBy w2 (some (w.heap.size + 1)) := by rw [hw2]; exact grown_trans (set9_grown w1 (w.heap.size + 1) (.slice sb q.stack.length sd) (.slice oa q.out.length oc) (.int .i64 q.x) (.int .i64 q.y) (.int .i64 (q.knots : Int)) (.int .i64 (q.stems : Int)) (.int .i64 (q.fuel : Int)) (.int .i64 q.width) (.bool q.asked)) (grown_set _ _ 0 _)
 have hd2 : w2.heap[w.heap.size + 1]? = some (.cells #[.slice none 0 0, .slice oa q.out.length oc, .int .i64 q.x, .int .i64 q.y, .int .i64 (q.knots : Int), .int .i64 (q.stems : Int), .int .i64 (q.fuel : Int), .int .i64 q.width, .bool q.asked] 52 (0, 0)) := by rw [hw2]; have := blk_set (set9_blk HDC.out (.slice sb q.stack.length sd) (.slice oa q.out.length oc) (.int .i64 q.x) (.int .i64 q.y) (.int .i64 (q.knots : Int)) (.int .i64 (q.stems : Int)) (.int .i64 (q.fuel : Int)) (.int .i64 q.width) (.bool q.asked)) 0 (.slice none 0 0); simp at this; exact this
 have hty := typ_blk HDC.out
 have hm2 : MoveW B w.heap.size oa oc vs w q w2 := ⟨hd2, (grown_other hg2 (blk_lt HE1.out) (fun e => by have := Option.some.inj e; omega)).trans HE1.out, (HZ.out.below HB0.out).chg hg2 hty (by decide) (by decide), (HB0.out.mono HB.out).grown hg2 (Nat.le_trans HB.out HB0.out.size) (fun k hk => by cases hk; have := HB.out; omega), (keepD_bel (Nat.le_refl _) HB0.out).trans (keepD_new hg2 (by omega)), Nat.le_trans HB0.out.size hg2.size⟩
 have HO2 := Lib.hid (HO1.out.keep (keep_chg hg2 hty (by decide)))
 have HM2 := Lib.hid hm2
 clear hg2 hd2 hty hm2 hw2 HO1 HDC HE1 HB0 HZ
 clear c0 f0 c1 f1 c2 f2 c3 f3 c4 f4 c5 f5 c6 f6 c7 f7 c8 f8
 by_cases hlk : q.stack.length ≠ 1
 ·rw [if_pos hlk] at HQQ
  have z1 : ((q.stack.length : Int) == 1) = false := by simp; omega
  have DC := HM2.out.dD
  have EC := HM2.out.dE
  have HEE := Lib.hid EC
  have HBB := Lib.hid HM2.out.bel
  have HKK := Lib.hid HM2.out.keep
  have HLL := Lib.hid HM2.out.le
  obtain ⟨p0, p1, p2, p3, p4, p5, p6, p7, p8⟩ := blk9 DC
  obtain ⟨x0, x1, x2, x3, x4, x5, x6, x7, x8⟩ := blk9 EC
  obtain ⟨y0, y1, y2, y3, y4, y5, y6, y7, y8⟩ := free9 EC
  clear DC EC hlk
  go_wp2_with fail
  refine post_gen _ fun w9 hw9 => ?_
  obtain ⟨hb9, hk9, hl9, hg9⟩ := grown_keep (hw9 : w9 = set9 w2 (w.heap.size + 1 + 1) (.slice none 0 0) (.slice oa q.out.length oc) (.int .i64 q.x) (.int .i64 q.y) (.int .i64 (q.knots : Int)) (.int .i64 (q.stems : Int)) (.int .i64 (q.fuel : Int)) (.int .i64 q.width) (.bool q.asked)) HBB.out HKK.out HB.out (by omega) HLL.out
  have hE9 : w9.heap[w.heap.size + 1 + 1]? = some (.cells #[.slice none 0 0, .slice oa q.out.length oc, .int .i64 q.x, .int .i64 q.y, .int .i64 (q.knots : Int), .int .i64 (q.stems : Int), .int .i64 (q.fuel : Int), .int .i64 q.width, .bool q.asked] 52 (0, 0)) := by rw [hw9]; exact set9_blk HEE.out _ _ _ _ _ _ _ _ _
  clear hw9
  obtain ⟨d0, d1, d2, d3, d4, d5, d6, d7, d8⟩ := blk9 hE9
  refine bodyPost_ret (v := .tuple #[.agg #[.slice none 0 0, .slice oa q.out.length oc, .int .i64 q.x, .int .i64 q.y, .int .i64 (q.knots : Int), .int .i64 (q.stems : Int), .int .i64 (q.fuel : Int), .int .i64 q.width, .bool q.asked], .int .i64 81]) ?_ rfl ?_
  ·simp [results, Tryz.results27, go_sem, d0, d1, d2, d3, d4, d5, d6, d7, d8]
  ·rw [← HQQ.out]; exact oper_err2 (s2 := { q with stack := [] }) (sa := none) (sc := 0) (oa := oa) (oc := oc) (fault_of (s := { q with stack := [] }) HQF.out 81) (by decide) hb9 hk9 rfl
 ·have hlk2 : q.stack.length = 1 := by omega
  rw [if_neg hlk] at HQQ
  have z1 : ((q.stack.length : Int) == 1) = true := by simp; omega
  have i0 : (0 : Int) < (q.stack.length : Int) := by omega
  have i1 : (1 : Int) - 1 < (q.stack.length : Int) := by omega
  obtain ⟨x0, hx⟩ : ∃ x0, q.stack = [x0] := by
   match hh : q.stack, hlk2 with
   | [x0], _ => exact ⟨x0, rfl⟩
  have HX := Lib.hid hx
  obtain ⟨g, off, rfl, hcell⟩ := HO2.out.at (by omega)
  have k0 := hcell 0 x0 (by rw [hx]; rfl)
  rw [Nat.add_zero] at k0
  clear hx
  have DC := HM2.out.dD
  obtain ⟨p0, p1, p2, p3, p4, p5, p6, p7, p8⟩ := blk9 DC
  have HLK := Lib.hid hlk2
  clear DC hlk hlk2 hcell
  go_upto_region 14 with fail
  refine wp_gen _ fun w3 hw3 => ?_
  have hb3 : Below w2.heap.size w2 w3 := by rw [hw3]; first | exact Below.refl _ _ | exact (Below.refl _ _).drew | exact bel_drewN (Below.refl _ _) _
  have HM3 := Lib.hid (HM2.out.up HB.out hb3)
  clear hw3 hb3 HM2 HO2 k0
  clear p0 p1 p2 p3 p4 p5 p6 p7 p8
  have DC := HM3.out.dD
  have EC := HM3.out.dE
  by_cases ho : q.out.length = 256
  ·have z2 : (256 : Int) ≤ (q.out.length : Int) := by omega
   have HMV : Hid (({ q with stack := [] } : MS).move (q.stack.getD 0 0) 0 = ({ q with stack := [] } : MS).refuse 83) := by unfold Hid MS.move; rw [if_pos (by exact ho)]
   rw [HMV.out] at HQQ
   have HEE := Lib.hid EC
   have HBB := Lib.hid HM3.out.bel
   have HKK := Lib.hid HM3.out.keep
   have HLL := Lib.hid HM3.out.le
   obtain ⟨p0, p1, p2, p3, p4, p5, p6, p7, p8⟩ := blk9 DC
   obtain ⟨x0, x1, x2, x3, x4, x5, x6, x7, x8⟩ := blk9 EC
   obtain ⟨y0, y1, y2, y3, y4, y5, y6, y7, y8⟩ := free9 EC
   clear DC EC ho
   go_wp2_with fail
   refine post_gen _ fun w9 hw9 => ?_
   obtain ⟨hb9, hk9, hl9, hg9⟩ := grown_keep (hw9 : w9 = set9 w3 (w.heap.size + 1 + 1) (.slice none 0 0) (.slice oa q.out.length oc) (.int .i64 q.x) (.int .i64 q.y) (.int .i64 (q.knots : Int)) (.int .i64 (q.stems : Int)) (.int .i64 (q.fuel : Int)) (.int .i64 q.width) (.bool q.asked)) HBB.out HKK.out HB.out (by omega) HLL.out
   have hE9 : w9.heap[w.heap.size + 1 + 1]? = some (.cells #[.slice none 0 0, .slice oa q.out.length oc, .int .i64 q.x, .int .i64 q.y, .int .i64 (q.knots : Int), .int .i64 (q.stems : Int), .int .i64 (q.fuel : Int), .int .i64 q.width, .bool q.asked] 52 (0, 0)) := by rw [hw9]; exact set9_blk HEE.out _ _ _ _ _ _ _ _ _
   clear hw9
   obtain ⟨d0, d1, d2, d3, d4, d5, d6, d7, d8⟩ := blk9 hE9
   refine bodyPost_ret (v := .tuple #[.agg #[.slice none 0 0, .slice oa q.out.length oc, .int .i64 q.x, .int .i64 q.y, .int .i64 (q.knots : Int), .int .i64 (q.stems : Int), .int .i64 (q.fuel : Int), .int .i64 q.width, .bool q.asked], .int .i64 83]) ?_ rfl ?_
   ·simp [results, Tryz.results27, go_sem, d0, d1, d2, d3, d4, d5, d6, d7, d8]
   ·rw [← HQQ.out]; exact oper_err2 (s2 := { q with stack := [] }) (sa := none) (sc := 0) (oa := oa) (oc := oc) (fault_of (s := { q with stack := [] }) HQF.out 83) (by decide) hb9 hk9 rfl
  ·have hq256 : q.out.length ≤ 255 := by have := HQP.out.2.1; have e : ({ q with stack := [] } : MS).out.length = q.out.length := rfl; omega
   have HQ256 := Lib.hid hq256
   have z2 : ¬ (256 : Int) ≤ (q.out.length : Int) := by omega
   have HMV : Hid (({ q with stack := [] } : MS).move (q.stack.getD 0 0) 0 = ({ q with stack := [], out := q.out ++ [[]] } : MS).knot (q.stack.getD 0 0) 0 1) := by unfold Hid MS.move; rw [if_neg (by exact ho)]
   rw [HMV.out] at HQQ
   have HPB : Hid (PenFit { q with stack := [], out := q.out ++ [[]] }) := HQP.out.begun (by exact Nat.lt_succ_of_le hq256)
   have HBA := Lib.hid (bel_al w3 (.cells #[.slice none 0 0] 41))
   have HOW := Lib.hid (own_below HM3.out.outw.own HBA.out)
   have HDA := Lib.hid (blk_below DC HBA.out)
   have HEA := Lib.hid (blk_below EC HBA.out)
   have hla : w.heap.size + 1 < w3.heap.size := blk_lt DC
   obtain ⟨p0, p1, p2, p3, p4, p5, p6, p7, p8⟩ := blk9 DC
   clear DC EC ho hq256
   go_wp2_with (at_builtin; (
    refine wpList_appA elKK rfl _ _ rfl (w3.alloc (.cells #[.slice none 0 0] 41)) B oa q.out.length oc vs w3.heap.size 1 1 [.slice none 0 0] rfl rfl HOW.out rfl lies_new (by simp [Value.oneCell']) (by decide) (by have := HQ256.out; omega) (by have := HQ256.out; omega) (Nat.le_trans HB.out (Nat.le_trans HM3.out.le HBA.out.size)) ?_
    intro g9 c9 w9 ho9 hg9 hat9
    have ht9 := typ_own HOW.out
    have DC9 := blk_chg HDA.out hg9 ht9 (by decide)
    have HD9 := Lib.hid DC9
    have HE9 := Lib.hid (blk_chg HEA.out hg9 ht9 (by decide))
    have HZ9 := Lib.hid ((HM3.out.outw.below HBA.out).begun ho9 hg9)
    have HB9 : Hid (Below B w w9) := (HM3.out.bel.trans (HBA.out.mono (Nat.le_trans HB.out HM3.out.le))).trans (bel_own HOW.out hg9 (Nat.le_trans HB.out (Nat.le_trans HM3.out.le HBA.out.size)))
    have HK9 : Hid (KeepD w.heap.size w w9) := (HM3.out.keep.trans (keepD_bel HM3.out.le HBA.out)).trans (keepD_chg hg9 ht9 (.inr rfl))
    have HL9 : Hid (w.heap.size ≤ w9.heap.size) := Nat.le_trans HM3.out.le (Nat.le_trans HBA.out.size hg9.size)
    obtain ⟨p0, p1, p2, p3, p4, p5, p6, p7, p8⟩ := blk9 DC9
    obtain ⟨r0, r1, r2, r3, r4, r5, r6, r7, r8⟩ := free9 DC9
    clear DC9 ht9 ho9 hg9 hat9))
   have hg0 : q.stack.getD 0 0 = x0 := by rw [HX.out]; rfl
   skip
   have hst : stV none 0 (some ⟨g9, 0, none⟩) c9 { q with stack := [], out := q.out ++ [[]] } = #[.slice none 0 0, .slice (some ⟨g9, 0, none⟩) (q.out.length + 1) c9, .int .i64 q.x, .int .i64 q.y, .int .i64 (q.knots : Int), .int .i64 (q.stems : Int), .int .i64 (q.fuel : Int), .int .i64 q.width, .bool q.asked] := by unfold stV; simp
   have hg10 := grown_set w9 (w.heap.size + 1) 1 (.slice (some ⟨g9, 0, none⟩) (q.out.length + 1) c9)
   have hty := typ_blk HD9.out
   have HZ10 := Lib.hid (HZ9.out.chg hg10 hty (by decide) (by decide))
   have HB10 : Hid (Below B w (w9.setCell ⟨w.heap.size + 1, 1, none⟩ (.slice (some ⟨g9, 0, none⟩) (q.out.length + 1) c9))) := HB9.out.grown hg10 (Nat.le_trans HB.out HL9.out) (fun k hk => by cases hk; have := HB.out; omega)
   have HK10 : Hid (KeepD w.heap.size w (w9.setCell ⟨w.heap.size + 1, 1, none⟩ (.slice (some ⟨g9, 0, none⟩) (q.out.length + 1) c9))) := HK9.out.trans (keepD_new hg10 (by omega))
   have HE10 := Lib.hid ((grown_other hg10 (blk_lt HE9.out) (fun e => by have := Option.some.inj e; omega)).trans HE9.out)
   have HL10 : Hid (w.heap.size ≤ (w9.setCell ⟨w.heap.size + 1, 1, none⟩ (.slice (some ⟨g9, 0, none⟩) (q.out.length + 1) c9)).heap.size) := Nat.le_trans HL9.out hg10.size
   have HSP := step_dK B none 0 (some ⟨g9, 0, none⟩) c9 (vs ++ [.slice none 0 0]) { q with stack := [], out := q.out ++ [[]] } x0 0 1 _ HZ10.out (Nat.le_trans HB.out HL10.out) HPB.out HQF.out
   rw [hst] at HSP
   rw [hg0] at HQQ
   have HST := Lib.hid hst
   have HSK : Hid ((({ q with stack := [], out := q.out ++ [[]] } : MS).knot x0 0 1).stack = []) := knot_stack _ _ _ _
   refine HSP.mono ?_
   clear HSP hst hg10 hty HZ9 HB9 HK9 HE9 HL9 HD9 HZ10 hg0 HPB HMV
   generalize (w9.setCell ⟨w.heap.size + 1, 1, none⟩ (.slice (some ⟨g9, 0, none⟩) (q.out.length + 1) c9)) = wa at *
   rintro e w11 ⟨hy, hn⟩
   clear p0 r0 p1 r1 p2 r2 p3 r3 p4 r4 p5 r5 p6 r6 p7 r7 p8 r8
   by_cases hf : (({ q with stack := [], out := q.out ++ [[]] } : MS).knot x0 0 1).fault = 0
   ·obtain ⟨vs1, he, hz1, hb1, hk1⟩ := hy hf
    generalize ({ q with stack := [], out := q.out ++ [[]] } : MS).knot x0 0 1 = s1 at *
    have hst1 : stV none 0 (some ⟨g9, 0, none⟩) c9 s1 = #[.slice none 0 0, .slice (some ⟨g9, 0, none⟩) s1.out.length c9, .int .i64 s1.x, .int .i64 s1.y, .int .i64 (s1.knots : Int), .int .i64 (s1.stems : Int), .int .i64 (s1.fuel : Int), .int .i64 s1.width, .bool s1.asked] := by unfold stV; rw [HSK.out]; rfl
    rw [hst1] at he
    subst he
    have HST1 := Lib.hid hst1
    have HZ1 := Lib.hid hz1
    have HBB := Lib.hid (HB10.out.trans hb1)
    have HKK := Lib.hid (HK10.out.trans (hk1.mono HL10.out))
    have EC := hk1 _ _ _ _ (blk_lt HE10.out) (by decide) (by decide) HE10.out
    have HEE := Lib.hid EC
    have HLL : Hid (w.heap.size ≤ w11.heap.size) := Nat.le_of_lt (Nat.lt_of_le_of_lt (by omega) (blk_lt EC))
    have HF1 := Lib.hid hf
    obtain ⟨x0, x1, x2, x3, x4, x5, x6, x7, x8⟩ := blk9 EC
    obtain ⟨y0, y1, y2, y3, y4, y5, y6, y7, y8⟩ := free9 EC
    clear hy hn hf hz1 hb1 hk1 EC hst1
    go_wp2_with fail
    refine post_gen _ fun w9 hw9 => ?_
    obtain ⟨hb9, hk9, hl9, hg9⟩ := grown_keep (hw9 : w9 = set9 w11 (w.heap.size + 1 + 1) (.slice none 0 0) (.slice (some ⟨g9, 0, none⟩) s1.out.length c9) (.int .i64 s1.x) (.int .i64 s1.y) (.int .i64 (s1.knots : Int)) (.int .i64 (s1.stems : Int)) (.int .i64 (s1.fuel : Int)) (.int .i64 s1.width) (.bool s1.asked)) HBB.out HKK.out HB.out (by omega) HLL.out
    have hE9 : w9.heap[w.heap.size + 1 + 1]? = some (.cells #[.slice none 0 0, .slice (some ⟨g9, 0, none⟩) s1.out.length c9, .int .i64 s1.x, .int .i64 s1.y, .int .i64 (s1.knots : Int), .int .i64 (s1.stems : Int), .int .i64 (s1.fuel : Int), .int .i64 s1.width, .bool s1.asked] 52 (0, 0)) := by rw [hw9]; exact set9_blk HEE.out _ _ _ _ _ _ _ _ _
    clear hw9
    obtain ⟨d0, d1, d2, d3, d4, d5, d6, d7, d8⟩ := blk9 hE9
    refine bodyPost_ret (v := .tuple #[.agg #[.slice none 0 0, .slice (some ⟨g9, 0, none⟩) s1.out.length c9, .int .i64 s1.x, .int .i64 s1.y, .int .i64 (s1.knots : Int), .int .i64 (s1.stems : Int), .int .i64 (s1.fuel : Int), .int .i64 s1.width, .bool s1.asked], .int .i64 0]) ?_ rfl ?_
    ·simp [results, Tryz.results27, go_sem, d0, d1, d2, d3, d4, d5, d6, d7, d8]
    ·rw [← HQQ.out]; exact oper_ok rfl HST1.out (HZ1.out.chg hg9 (typ_blk HEE.out) (by decide) (by decide)) HF1.out HSK.out hb9 hk9
   ·obtain ⟨he, hb1⟩ := hn hf
    rw [HST.out] at he
    subst he
    have HBB := Lib.hid (HB10.out.trans (hb1.mono (Nat.le_trans HB.out HL10.out)))
    have HKK := Lib.hid (HK10.out.trans (keepD_bel HL10.out hb1))
    have EC := blk_below HE10.out hb1
    have HEE := Lib.hid EC
    have HLL : Hid (w.heap.size ≤ w11.heap.size) := Nat.le_trans HL10.out hb1.size
    generalize hkn : ({ q with stack := [], out := q.out ++ [[]] } : MS).knot x0 0 1 = s1 at *
    have HF1 := Lib.hid hf
    obtain ⟨x0, x1, x2, x3, x4, x5, x6, x7, x8⟩ := blk9 EC
    obtain ⟨y0, y1, y2, y3, y4, y5, y6, y7, y8⟩ := free9 EC
    clear hy hn hf hb1 EC
    go_wp2_with fail
    refine post_gen _ fun w9 hw9 => ?_
    obtain ⟨hb9, hk9, hl9, hg9⟩ := grown_keep (hw9 : w9 = set9 w11 (w.heap.size + 1 + 1) (.slice none 0 0) (.slice (some ⟨g9, 0, none⟩) (q.out.length + 1) c9) (.int .i64 q.x) (.int .i64 q.y) (.int .i64 (q.knots : Int)) (.int .i64 (q.stems : Int)) (.int .i64 (q.fuel : Int)) (.int .i64 q.width) (.bool q.asked)) HBB.out HKK.out HB.out (by omega) HLL.out
    have hE9 : w9.heap[w.heap.size + 1 + 1]? = some (.cells #[.slice none 0 0, .slice (some ⟨g9, 0, none⟩) (q.out.length + 1) c9, .int .i64 q.x, .int .i64 q.y, .int .i64 (q.knots : Int), .int .i64 (q.stems : Int), .int .i64 (q.fuel : Int), .int .i64 q.width, .bool q.asked] 52 (0, 0)) := by rw [hw9]; exact set9_blk HEE.out _ _ _ _ _ _ _ _ _
    clear hw9
    obtain ⟨d0, d1, d2, d3, d4, d5, d6, d7, d8⟩ := blk9 hE9
    refine bodyPost_ret (v := .tuple #[.agg #[.slice none 0 0, .slice (some ⟨g9, 0, none⟩) (q.out.length + 1) c9, .int .i64 q.x, .int .i64 q.y, .int .i64 (q.knots : Int), .int .i64 (q.stems : Int), .int .i64 (q.fuel : Int), .int .i64 q.width, .bool q.asked], .int .i64 s1.fault]) ?_ rfl ?_
    ·simp [results, Tryz.results27, go_sem, d0, d1, d2, d3, d4, d5, d6, d7, d8]
    ·rw [← HQQ.out]; exact oper_err2 (sa := none) (sc := 0) rfl HF1.out hb9 hk9 HST.out
set_option maxRecDepth 20000 in
set_option maxHeartbeats 4000000 in
theorem move4_d (v0 v1 v2 : Value) (u0 u1 : Int) (B : Nat) (sa : Option Addr) (sc : Nat) (oa : Option Addr) (oc : Nat) (vs : List Value) (s : MS) (w : World) (hz : OutW w B oa oc vs s.out) (hB : B ≤ w.heap.size) (hp : PenFit s) (h0 : s.fault = 0) (hf : Fit32 s.stack) (ho : Opds w s.stack sa) (hl : s.stack.length ≤ 48) (hc : s.stack.length ≤ sc)
 (h1 : ∃ a n c, v0 = .slice a n c) (h2 : ∃ a n c, v1 = .slice a n c) (h3 : ∃ a n c, v2 = .slice a n c) (hw1 : -4294967296 ≤ u1 ∧ u1 ≤ 4294967296) :
 Calls Tryz.prog 27 #[.agg #[v0, v1, v2, .int .i64 u0, .int .i64 u1], .agg (stV sa sc oa oc s), .int .i64 4] w (OperD B { s.begin u1 4 s.stack with stack := [] } w) := by
 obtain ⟨many, hmany⟩ : ∃ b, decide (s.stack.length = 1 + 1) = b := ⟨_, rfl⟩
 have HTD := Lib.hid (fun W (hW : Below w.heap.size w W) => told_d v0 v1 v2 u0 u1 sa sc oa oc s many W (ho.keep (keep_bel hW)) hc (by omega) (fun e => by rw [e] at hmany; simp at hmany; omega) hf h1 h2 h3 hw1)
 have hql := behind_list s u1 s.stack many
 have hqs := behind_stems s u1 s.stack many
 obtain ⟨q, hq⟩ : ∃ q : MS, { (s.behind u1 s.stack many).2 with stack := (s.behind u1 s.stack many).1 } = q := ⟨_, rfl⟩
 have HQO : Hid (q.out = s.out) := by rw [← hq]; exact hqs.2.1
 have HQF : Hid (q.fault = 0) := by rw [← hq]; exact hqs.2.2.2.2.2.2.1.trans h0
 have HQP : Hid (PenFit { q with stack := [] }) := by rw [← hq]; exact hp.behind u1 s.stack many
 have HQL : Hid (q.stack.length ≤ 48) := by rw [← hq]; exact Nat.le_trans hql.1 hl
 have HEQ : Hid ({ s.begin u1 4 s.stack with stack := [] } = if q.stack.length ≠ 1 then ({ q with stack := [] } : MS).refuse 81 else ({ q with stack := [] } : MS).move 0 (q.stack.getD 0 0)) := by
  unfold Hid
  rw [← hq]
  show _ = if (s.behind u1 s.stack many).1.length ≠ 1 then ({ (s.behind u1 s.stack many).2 with stack := [] } : MS).refuse 81 else ({ (s.behind u1 s.stack many).2 with stack := [] } : MS).move 0 ((s.behind u1 s.stack many).1.getD 0 0)
  rw [refuse_bare, move_bare]
  unfold MS.begin
  simp [hmany]
  split <;> rfl
 rw [hq] at HTD
 rw [HEQ.out]
 have HZ : Hid (OutW w B oa oc vs q.out) := by rw [HQO.out]; exact hz
 have HB := Lib.hid hB
 clear hql hqs hq HQO HEQ hz hB hp h0 hf ho
 obtain ⟨a0, n0, c0, rfl⟩ := h1
 obtain ⟨a1, n1, c1, rfl⟩ := h2
 obtain ⟨a2, n2, c2, rfl⟩ := h3
 have hmod : ((s.stack.length : Int) == 1 + 1) = many := by rw [← hmany]; apply Bool.eq_iff_iff.2; simp; omega
 have hmod2 : ((s.stack.length : Int) == 2) = many := by rw [← hmany]; apply Bool.eq_iff_iff.2; simp; omega
 have h3 := Lib.hid (alloc3 w (.cells #[.slice a0 n0 c0, .slice a1 n1 c1, .slice a2 n2 c2, .int .i64 u0, .int .i64 u1] 29) (.cells #[.slice sa s.stack.length sc, .slice oa s.out.length oc, .int .i64 s.x, .int .i64 s.y, .int .i64 (s.knots : Int), .int .i64 (s.stems : Int), .int .i64 (s.fuel : Int), .int .i64 s.width, .bool s.asked] 52) (.cells #[.slice none 0 0, .slice none 0 0, .int .i64 0, .int .i64 0, .int .i64 0, .int .i64 0, .int .i64 0, .int .i64 0, .bool false] 52))
 generalize HQ : OperD B (if q.stack.length ≠ 1 then ({ q with stack := [] } : MS).refuse 81 else ({ q with stack := [] } : MS).move 0 (q.stack.getD 0 0)) w = QQ
 have HQQ := Lib.hid HQ
 clear HQ hl hc hw1 hmany
 unfold stV
 go_enter Tryz.func27, Tryz.ntmps27
 go_wp2_with fail
 refine (HTD.out _ h3.out.2.2.2).mono ?_
 rintro e w1 ⟨sb, sd, he, ho1, hd1, hb1⟩
 change e = .returned (.agg #[.slice sb q.stack.length sd, .slice oa q.out.length oc, .int .i64 q.x, .int .i64 q.y, .int .i64 (q.knots : Int), .int .i64 (q.stems : Int), .int .i64 (q.fuel : Int), .int .i64 q.width, .bool q.asked]) at he
 subst he
 have HB0 := Lib.hid (bel_next h3.out.2.2.2 hb1)
 have DC := blk_below h3.out.2.1 hb1
 have HDC := Lib.hid DC
 have HE1 := Lib.hid (blk_below h3.out.2.2.1 hb1)
 have HO1 := Lib.hid ho1
 have HD1 := Lib.hid hd1
 obtain ⟨c0, c1, c2, c3, c4, c5, c6, c7, c8⟩ := blk9 DC
 obtain ⟨f0, f1, f2, f3, f4, f5, f6, f7, f8⟩ := free9 DC
 clear hmod hmod2 h3 HTD ho1 hd1 hb1 DC
 go_upto_region 7 with fail
 refine wp_gen _ fun w2 hw2 => ?_
 have hg2 : w1.grownBy w2 (some (w.heap.size + 1)) := by rw [hw2]; exact grown_trans (set9_grown w1 (w.heap.size + 1) (.slice sb q.stack.length sd) (.slice oa q.out.length oc) (.int .i64 q.x) (.int .i64 q.y) (.int .i64 (q.knots : Int)) (.int .i64 (q.stems : Int)) (.int .i64 (q.fuel : Int)) (.int .i64 q.width) (.bool q.asked)) (grown_set _ _ 0 _)
 have hd2 : w2.heap[w.heap.size + 1]? = some (.cells #[.slice none 0 0, .slice oa q.out.length oc, .int .i64 q.x, .int .i64 q.y, .int .i64 (q.knots : Int), .int .i64 (q.stems : Int), .int .i64 (q.fuel : Int), .int .i64 q.width, .bool q.asked] 52 (0, 0)) := by rw [hw2]; have := blk_set (set9_blk HDC.out (.slice sb q.stack.length sd) (.slice oa q.out.length oc) (.int .i64 q.x) (.int .i64 q.y) (.int .i64 (q.knots : Int)) (.int .i64 (q.stems : Int)) (.int .i64 (q.fuel : Int)) (.int .i64 q.width) (.bool q.asked)) 0 (.slice none 0 0); simp at this; exact this
 have hty := typ_blk HDC.out
 have hm2 : MoveW B w.heap.size oa oc vs w q w2 := ⟨hd2, (grown_other hg2 (blk_lt HE1.out) (fun e => by have := Option.some.inj e; omega)).trans HE1.out, (HZ.out.below HB0.out).chg hg2 hty (by decide) (by decide), (HB0.out.mono HB.out).grown hg2 (Nat.le_trans HB.out HB0.out.size) (fun k hk => by cases hk; have := HB.out; omega), (keepD_bel (Nat.le_refl _) HB0.out).trans (keepD_new hg2 (by omega)), Nat.le_trans HB0.out.size hg2.size⟩
 have HO2 := Lib.hid (HO1.out.keep (keep_chg hg2 hty (by decide)))
 have HM2 := Lib.hid hm2
 clear hg2 hd2 hty hm2 hw2 HO1 HDC HE1 HB0 HZ
 clear c0 f0 c1 f1 c2 f2 c3 f3 c4 f4 c5 f5 c6 f6 c7 f7 c8 f8
 by_cases hlk : q.stack.length ≠ 1
 ·rw [if_pos hlk] at HQQ
  have z1 : ((q.stack.length : Int) == 1) = false := by simp; omega
  have DC := HM2.out.dD
  have EC := HM2.out.dE
  have HEE := Lib.hid EC
  have HBB := Lib.hid HM2.out.bel
  have HKK := Lib.hid HM2.out.keep
  have HLL := Lib.hid HM2.out.le
  obtain ⟨p0, p1, p2, p3, p4, p5, p6, p7, p8⟩ := blk9 DC
  obtain ⟨x0, x1, x2, x3, x4, x5, x6, x7, x8⟩ := blk9 EC
  obtain ⟨y0, y1, y2, y3, y4, y5, y6, y7, y8⟩ := free9 EC
  clear DC EC hlk
  go_wp2_with fail
  refine post_gen _ fun w9 hw9 => ?_
  obtain ⟨hb9, hk9, hl9, hg9⟩ := grown_keep (hw9 : w9 = set9 w2 (w.heap.size + 1 + 1) (.slice none 0 0) (.slice oa q.out.length oc) (.int .i64 q.x) (.int .i64 q.y) (.int .i64 (q.knots : Int)) (.int .i64 (q.stems : Int)) (.int .i64 (q.fuel : Int)) (.int .i64 q.width) (.bool q.asked)) HBB.out HKK.out HB.out (by omega) HLL.out
  have hE9 : w9.heap[w.heap.size + 1 + 1]? = some (.cells #[.slice none 0 0, .slice oa q.out.length oc, .int .i64 q.x, .int .i64 q.y, .int .i64 (q.knots : Int), .int .i64 (q.stems : Int), .int .i64 (q.fuel : Int), .int .i64 q.width, .bool q.asked] 52 (0, 0)) := by rw [hw9]; exact set9_blk HEE.out _ _ _ _ _ _ _ _ _
  clear hw9
  obtain ⟨d0, d1, d2, d3, d4, d5, d6, d7, d8⟩ := blk9 hE9
  refine bodyPost_ret (v := .tuple #[.agg #[.slice none 0 0, .slice oa q.out.length oc, .int .i64 q.x, .int .i64 q.y, .int .i64 (q.knots : Int), .int .i64 (q.stems : Int), .int .i64 (q.fuel : Int), .int .i64 q.width, .bool q.asked], .int .i64 81]) ?_ rfl ?_
  ·simp [results, Tryz.results27, go_sem, d0, d1, d2, d3, d4, d5, d6, d7, d8]
  ·rw [← HQQ.out]; exact oper_err2 (s2 := { q with stack := [] }) (sa := none) (sc := 0) (oa := oa) (oc := oc) (fault_of (s := { q with stack := [] }) HQF.out 81) (by decide) hb9 hk9 rfl
 ·have hlk2 : q.stack.length = 1 := by omega
  rw [if_neg hlk] at HQQ
  have z1 : ((q.stack.length : Int) == 1) = true := by simp; omega
  have i0 : (0 : Int) < (q.stack.length : Int) := by omega
  have i1 : (1 : Int) - 1 < (q.stack.length : Int) := by omega
  obtain ⟨x0, hx⟩ : ∃ x0, q.stack = [x0] := by
   match hh : q.stack, hlk2 with
   | [x0], _ => exact ⟨x0, rfl⟩
  have HX := Lib.hid hx
  obtain ⟨g, off, rfl, hcell⟩ := HO2.out.at (by omega)
  have k0 := hcell 0 x0 (by rw [hx]; rfl)
  rw [Nat.add_zero] at k0
  clear hx
  have DC := HM2.out.dD
  obtain ⟨p0, p1, p2, p3, p4, p5, p6, p7, p8⟩ := blk9 DC
  have HLK := Lib.hid hlk2
  clear DC hlk hlk2 hcell
  go_upto_region 13 with fail
  go_quiet (fail)
  go_upto_region 14 with fail
  refine wp_gen _ fun w3 hw3 => ?_
  have hb3 : Below w2.heap.size w2 w3 := by rw [hw3]; first | exact Below.refl _ _ | exact (Below.refl _ _).drew | exact bel_drewN (Below.refl _ _) _
  have HM3 := Lib.hid (HM2.out.up HB.out hb3)
  clear hw3 hb3 HM2 HO2 k0
  clear p0 p1 p2 p3 p4 p5 p6 p7 p8
  have DC := HM3.out.dD
  have EC := HM3.out.dE
  by_cases ho : q.out.length = 256
  ·have z2 : (256 : Int) ≤ (q.out.length : Int) := by omega
   have HMV : Hid (({ q with stack := [] } : MS).move 0 (q.stack.getD 0 0) = ({ q with stack := [] } : MS).refuse 83) := by unfold Hid MS.move; rw [if_pos (by exact ho)]
   rw [HMV.out] at HQQ
   have HEE := Lib.hid EC
   have HBB := Lib.hid HM3.out.bel
   have HKK := Lib.hid HM3.out.keep
   have HLL := Lib.hid HM3.out.le
   obtain ⟨p0, p1, p2, p3, p4, p5, p6, p7, p8⟩ := blk9 DC
   obtain ⟨x0, x1, x2, x3, x4, x5, x6, x7, x8⟩ := blk9 EC
   obtain ⟨y0, y1, y2, y3, y4, y5, y6, y7, y8⟩ := free9 EC
   clear DC EC ho
   go_wp2_with fail
   refine post_gen _ fun w9 hw9 => ?_
   obtain ⟨hb9, hk9, hl9, hg9⟩ := grown_keep (hw9 : w9 = set9 w3 (w.heap.size + 1 + 1) (.slice none 0 0) (.slice oa q.out.length oc) (.int .i64 q.x) (.int .i64 q.y) (.int .i64 (q.knots : Int)) (.int .i64 (q.stems : Int)) (.int .i64 (q.fuel : Int)) (.int .i64 q.width) (.bool q.asked)) HBB.out HKK.out HB.out (by omega) HLL.out
   have hE9 : w9.heap[w.heap.size + 1 + 1]? = some (.cells #[.slice none 0 0, .slice oa q.out.length oc, .int .i64 q.x, .int .i64 q.y, .int .i64 (q.knots : Int), .int .i64 (q.stems : Int), .int .i64 (q.fuel : Int), .int .i64 q.width, .bool q.asked] 52 (0, 0)) := by rw [hw9]; exact set9_blk HEE.out _ _ _ _ _ _ _ _ _
   clear hw9
   obtain ⟨d0, d1, d2, d3, d4, d5, d6, d7, d8⟩ := blk9 hE9
   refine bodyPost_ret (v := .tuple #[.agg #[.slice none 0 0, .slice oa q.out.length oc, .int .i64 q.x, .int .i64 q.y, .int .i64 (q.knots : Int), .int .i64 (q.stems : Int), .int .i64 (q.fuel : Int), .int .i64 q.width, .bool q.asked], .int .i64 83]) ?_ rfl ?_
   ·simp [results, Tryz.results27, go_sem, d0, d1, d2, d3, d4, d5, d6, d7, d8]
   ·rw [← HQQ.out]; exact oper_err2 (s2 := { q with stack := [] }) (sa := none) (sc := 0) (oa := oa) (oc := oc) (fault_of (s := { q with stack := [] }) HQF.out 83) (by decide) hb9 hk9 rfl
  ·have hq256 : q.out.length ≤ 255 := by have := HQP.out.2.1; have e : ({ q with stack := [] } : MS).out.length = q.out.length := rfl; omega
   have HQ256 := Lib.hid hq256
   have z2 : ¬ (256 : Int) ≤ (q.out.length : Int) := by omega
   have HMV : Hid (({ q with stack := [] } : MS).move 0 (q.stack.getD 0 0) = ({ q with stack := [], out := q.out ++ [[]] } : MS).knot 0 (q.stack.getD 0 0) 1) := by unfold Hid MS.move; rw [if_neg (by exact ho)]
   rw [HMV.out] at HQQ
   have HPB : Hid (PenFit { q with stack := [], out := q.out ++ [[]] }) := HQP.out.begun (by exact Nat.lt_succ_of_le hq256)
   have HBA := Lib.hid (bel_al w3 (.cells #[.slice none 0 0] 41))
   have HOW := Lib.hid (own_below HM3.out.outw.own HBA.out)
   have HDA := Lib.hid (blk_below DC HBA.out)
   have HEA := Lib.hid (blk_below EC HBA.out)
   have hla : w.heap.size + 1 < w3.heap.size := blk_lt DC
   obtain ⟨p0, p1, p2, p3, p4, p5, p6, p7, p8⟩ := blk9 DC
   clear DC EC ho hq256
   go_wp2_with (at_builtin; (
    refine wpList_appA elKK rfl _ _ rfl (w3.alloc (.cells #[.slice none 0 0] 41)) B oa q.out.length oc vs w3.heap.size 1 1 [.slice none 0 0] rfl rfl HOW.out rfl lies_new (by simp [Value.oneCell']) (by decide) (by have := HQ256.out; omega) (by have := HQ256.out; omega) (Nat.le_trans HB.out (Nat.le_trans HM3.out.le HBA.out.size)) ?_
    intro g9 c9 w9 ho9 hg9 hat9
    have ht9 := typ_own HOW.out
    have DC9 := blk_chg HDA.out hg9 ht9 (by decide)
    have HD9 := Lib.hid DC9
    have HE9 := Lib.hid (blk_chg HEA.out hg9 ht9 (by decide))
    have HZ9 := Lib.hid ((HM3.out.outw.below HBA.out).begun ho9 hg9)
    have HB9 : Hid (Below B w w9) := (HM3.out.bel.trans (HBA.out.mono (Nat.le_trans HB.out HM3.out.le))).trans (bel_own HOW.out hg9 (Nat.le_trans HB.out (Nat.le_trans HM3.out.le HBA.out.size)))
    have HK9 : Hid (KeepD w.heap.size w w9) := (HM3.out.keep.trans (keepD_bel HM3.out.le HBA.out)).trans (keepD_chg hg9 ht9 (.inr rfl))
    have HL9 : Hid (w.heap.size ≤ w9.heap.size) := Nat.le_trans HM3.out.le (Nat.le_trans HBA.out.size hg9.size)
    obtain ⟨p0, p1, p2, p3, p4, p5, p6, p7, p8⟩ := blk9 DC9
    obtain ⟨r0, r1, r2, r3, r4, r5, r6, r7, r8⟩ := free9 DC9
    clear DC9 ht9 ho9 hg9 hat9))
   have hg0 : q.stack.getD 0 0 = x0 := by rw [HX.out]; rfl
   skip
   have hst : stV none 0 (some ⟨g9, 0, none⟩) c9 { q with stack := [], out := q.out ++ [[]] } = #[.slice none 0 0, .slice (some ⟨g9, 0, none⟩) (q.out.length + 1) c9, .int .i64 q.x, .int .i64 q.y, .int .i64 (q.knots : Int), .int .i64 (q.stems : Int), .int .i64 (q.fuel : Int), .int .i64 q.width, .bool q.asked] := by unfold stV; simp
   have hg10 := grown_set w9 (w.heap.size + 1) 1 (.slice (some ⟨g9, 0, none⟩) (q.out.length + 1) c9)
   have hty := typ_blk HD9.out
   have HZ10 := Lib.hid (HZ9.out.chg hg10 hty (by decide) (by decide))
   have HB10 : Hid (Below B w (w9.setCell ⟨w.heap.size + 1, 1, none⟩ (.slice (some ⟨g9, 0, none⟩) (q.out.length + 1) c9))) := HB9.out.grown hg10 (Nat.le_trans HB.out HL9.out) (fun k hk => by cases hk; have := HB.out; omega)
   have HK10 : Hid (KeepD w.heap.size w (w9.setCell ⟨w.heap.size + 1, 1, none⟩ (.slice (some ⟨g9, 0, none⟩) (q.out.length + 1) c9))) := HK9.out.trans (keepD_new hg10 (by omega))
   have HE10 := Lib.hid ((grown_other hg10 (blk_lt HE9.out) (fun e => by have := Option.some.inj e; omega)).trans HE9.out)
   have HL10 : Hid (w.heap.size ≤ (w9.setCell ⟨w.heap.size + 1, 1, none⟩ (.slice (some ⟨g9, 0, none⟩) (q.out.length + 1) c9)).heap.size) := Nat.le_trans HL9.out hg10.size
   have HSP := step_dK B none 0 (some ⟨g9, 0, none⟩) c9 (vs ++ [.slice none 0 0]) { q with stack := [], out := q.out ++ [[]] } 0 x0 1 _ HZ10.out (Nat.le_trans HB.out HL10.out) HPB.out HQF.out
   rw [hst] at HSP
   rw [hg0] at HQQ
   have HST := Lib.hid hst
   have HSK : Hid ((({ q with stack := [], out := q.out ++ [[]] } : MS).knot 0 x0 1).stack = []) := knot_stack _ _ _ _
   refine HSP.mono ?_
   clear HSP hst hg10 hty HZ9 HB9 HK9 HE9 HL9 HD9 HZ10 hg0 HPB HMV
   generalize (w9.setCell ⟨w.heap.size + 1, 1, none⟩ (.slice (some ⟨g9, 0, none⟩) (q.out.length + 1) c9)) = wa at *
   rintro e w11 ⟨hy, hn⟩
   clear p0 r0 p1 r1 p2 r2 p3 r3 p4 r4 p5 r5 p6 r6 p7 r7 p8 r8
   by_cases hf : (({ q with stack := [], out := q.out ++ [[]] } : MS).knot 0 x0 1).fault = 0
   ·obtain ⟨vs1, he, hz1, hb1, hk1⟩ := hy hf
    generalize ({ q with stack := [], out := q.out ++ [[]] } : MS).knot 0 x0 1 = s1 at *
    have hst1 : stV none 0 (some ⟨g9, 0, none⟩) c9 s1 = #[.slice none 0 0, .slice (some ⟨g9, 0, none⟩) s1.out.length c9, .int .i64 s1.x, .int .i64 s1.y, .int .i64 (s1.knots : Int), .int .i64 (s1.stems : Int), .int .i64 (s1.fuel : Int), .int .i64 s1.width, .bool s1.asked] := by unfold stV; rw [HSK.out]; rfl
    rw [hst1] at he
    subst he
    have HST1 := Lib.hid hst1
    have HZ1 := Lib.hid hz1
    have HBB := Lib.hid (HB10.out.trans hb1)
    have HKK := Lib.hid (HK10.out.trans (hk1.mono HL10.out))
    have EC := hk1 _ _ _ _ (blk_lt HE10.out) (by decide) (by decide) HE10.out
    have HEE := Lib.hid EC
    have HLL : Hid (w.heap.size ≤ w11.heap.size) := Nat.le_of_lt (Nat.lt_of_le_of_lt (by omega) (blk_lt EC))
    have HF1 := Lib.hid hf
    obtain ⟨x0, x1, x2, x3, x4, x5, x6, x7, x8⟩ := blk9 EC
    obtain ⟨y0, y1, y2, y3, y4, y5, y6, y7, y8⟩ := free9 EC
    clear hy hn hf hz1 hb1 hk1 EC hst1
    go_wp2_with fail
    refine post_gen _ fun w9 hw9 => ?_
    obtain ⟨hb9, hk9, hl9, hg9⟩ := grown_keep (hw9 : w9 = set9 w11 (w.heap.size + 1 + 1) (.slice none 0 0) (.slice (some ⟨g9, 0, none⟩) s1.out.length c9) (.int .i64 s1.x) (.int .i64 s1.y) (.int .i64 (s1.knots : Int)) (.int .i64 (s1.stems : Int)) (.int .i64 (s1.fuel : Int)) (.int .i64 s1.width) (.bool s1.asked)) HBB.out HKK.out HB.out (by omega) HLL.out
    have hE9 : w9.heap[w.heap.size + 1 + 1]? = some (.cells #[.slice none 0 0, .slice (some ⟨g9, 0, none⟩) s1.out.length c9, .int .i64 s1.x, .int .i64 s1.y, .int .i64 (s1.knots : Int), .int .i64 (s1.stems : Int), .int .i64 (s1.fuel : Int), .int .i64 s1.width, .bool s1.asked] 52 (0, 0)) := by rw [hw9]; exact set9_blk HEE.out _ _ _ _ _ _ _ _ _
    clear hw9
    obtain ⟨d0, d1, d2, d3, d4, d5, d6, d7, d8⟩ := blk9 hE9
    refine bodyPost_ret (v := .tuple #[.agg #[.slice none 0 0, .slice (some ⟨g9, 0, none⟩) s1.out.length c9, .int .i64 s1.x, .int .i64 s1.y, .int .i64 (s1.knots : Int), .int .i64 (s1.stems : Int), .int .i64 (s1.fuel : Int), .int .i64 s1.width, .bool s1.asked], .int .i64 0]) ?_ rfl ?_
    ·simp [results, Tryz.results27, go_sem, d0, d1, d2, d3, d4, d5, d6, d7, d8]
    ·rw [← HQQ.out]; exact oper_ok rfl HST1.out (HZ1.out.chg hg9 (typ_blk HEE.out) (by decide) (by decide)) HF1.out HSK.out hb9 hk9
   ·obtain ⟨he, hb1⟩ := hn hf
    rw [HST.out] at he
    subst he
    have HBB := Lib.hid (HB10.out.trans (hb1.mono (Nat.le_trans HB.out HL10.out)))
    have HKK := Lib.hid (HK10.out.trans (keepD_bel HL10.out hb1))
    have EC := blk_below HE10.out hb1
    have HEE := Lib.hid EC
    have HLL : Hid (w.heap.size ≤ w11.heap.size) := Nat.le_trans HL10.out hb1.size
    generalize hkn : ({ q with stack := [], out := q.out ++ [[]] } : MS).knot 0 x0 1 = s1 at *
    have HF1 := Lib.hid hf
    obtain ⟨x0, x1, x2, x3, x4, x5, x6, x7, x8⟩ := blk9 EC
    obtain ⟨y0, y1, y2, y3, y4, y5, y6, y7, y8⟩ := free9 EC
    clear hy hn hf hb1 EC
    go_wp2_with fail
    refine post_gen _ fun w9 hw9 => ?_
    obtain ⟨hb9, hk9, hl9, hg9⟩ := grown_keep (hw9 : w9 = set9 w11 (w.heap.size + 1 + 1) (.slice none 0 0) (.slice (some ⟨g9, 0, none⟩) (q.out.length + 1) c9) (.int .i64 q.x) (.int .i64 q.y) (.int .i64 (q.knots : Int)) (.int .i64 (q.stems : Int)) (.int .i64 (q.fuel : Int)) (.int .i64 q.width) (.bool q.asked)) HBB.out HKK.out HB.out (by omega) HLL.out
    have hE9 : w9.heap[w.heap.size + 1 + 1]? = some (.cells #[.slice none 0 0, .slice (some ⟨g9, 0, none⟩) (q.out.length + 1) c9, .int .i64 q.x, .int .i64 q.y, .int .i64 (q.knots : Int), .int .i64 (q.stems : Int), .int .i64 (q.fuel : Int), .int .i64 q.width, .bool q.asked] 52 (0, 0)) := by rw [hw9]; exact set9_blk HEE.out _ _ _ _ _ _ _ _ _
    clear hw9
    obtain ⟨d0, d1, d2, d3, d4, d5, d6, d7, d8⟩ := blk9 hE9
    refine bodyPost_ret (v := .tuple #[.agg #[.slice none 0 0, .slice (some ⟨g9, 0, none⟩) (q.out.length + 1) c9, .int .i64 q.x, .int .i64 q.y, .int .i64 (q.knots : Int), .int .i64 (q.stems : Int), .int .i64 (q.fuel : Int), .int .i64 q.width, .bool q.asked], .int .i64 s1.fault]) ?_ rfl ?_
    ·simp [results, Tryz.results27, go_sem, d0, d1, d2, d3, d4, d5, d6, d7, d8]
    ·rw [← HQQ.out]; exact oper_err2 (sa := none) (sc := 0) rfl HF1.out hb9 hk9 HST.out
theorem move_d (op : Int) (hop : op = 21 ∨ op = 22 ∨ op = 4) (v0 v1 v2 : Value) (u0 u1 : Int) (B : Nat) (sa : Option Addr) (sc : Nat) (oa : Option Addr) (oc : Nat) (vs : List Value) (s : MS) (w : World) (hz : OutW w B oa oc vs s.out) (hB : B ≤ w.heap.size) (hp : PenFit s) (h0 : s.fault = 0) (hf : Fit32 s.stack) (ho : Opds w s.stack sa) (hl : s.stack.length ≤ 48) (hc : s.stack.length ≤ sc)
 (h1 : ∃ a n c, v0 = .slice a n c) (h2 : ∃ a n c, v1 = .slice a n c) (h3 : ∃ a n c, v2 = .slice a n c) (hw1 : -4294967296 ≤ u1 ∧ u1 ≤ 4294967296) :
 Calls Tryz.prog 27 #[.agg #[v0, v1, v2, .int .i64 u0, .int .i64 u1], .agg (stV sa sc oa oc s), .int .i64 op] w (OperD B { s.begin u1 op s.stack with stack := [] } w) := by
 rcases hop with rfl | rfl | rfl
 ·exact move21_d v0 v1 v2 u0 u1 B sa sc oa oc vs s w hz hB hp h0 hf ho hl hc h1 h2 h3 hw1
 ·exact move22_d v0 v1 v2 u0 u1 B sa sc oa oc vs s w hz hB hp h0 hf ho hl hc h1 h2 h3 hw1
 ·exact move4_d v0 v1 v2 u0 u1 B sa sc oa oc vs s w hz hB hp h0 hf ho hl hc h1 h2 h3 hw1
end Go.Proofs.YtklenppldblbdaaGreat
