import Derived.Test.YtklenppldblbdaaGreatK03
set_option linter.unusedSimpArgs false
set_option linter.unusedVariables false
namespace Go.Proofs.YtklenppldblbdaaGreat
open Go.RowKit Go.PlainAid
structure Rw where
 s : ByteArray
 p : Nat
 c : Bool
def nearM (n : Int) : Int := (mulDiv n 1 65536).1
def sign32 (x : Int) : Int := if 2147483648 ≤ x then x - 4294967296 else x
def Rw.next (r : Rw) (k : Nat) : Int × Rw := ((numOr r.s r.p k).1, { r with p := r.p + k, c := r.c || decide ((numOr r.s r.p k).2 ≠ 0) })
def Rw.operand (r : Rw) (b : Int) : (Int × Bool) × Rw :=
 if b = 28 then ((sign16 (r.next 2).1, true), (r.next 2).2)
 else if b < 32 ∨ b = 255 then ((0, false), r)
 else if b < 247 then ((b - 139, true), r)
 else if b < 251 then (((b - 247) * 256 + (r.next 1).1 + 108, true), (r.next 1).2)
 else ((-(b - 251) * 256 - (r.next 1).1 - 108, true), (r.next 1).2)
def Rw.prog (r : Rw) (b : Int) : (Int × Bool) × Rw :=
 if b = 255 then ((sign32 (r.next 4).1, true), (r.next 4).2) else (((r.operand b).1.1 * 65536, (r.operand b).1.2), (r.operand b).2)
def Rw.oper (r : Rw) (b : Int) : Int × Rw := if b = 12 then (1200 + (r.next 1).1, (r.next 1).2) else (b, r)
structure MS where
 out : List (List Kn)
 knots : Nat
 x : Int
 y : Int
 fault : Int
 rows : List Rw
 stack : List Int
 fuel : Nat
 stems : Nat
 width : Int
 asked : Bool
 ended : Bool
structure FS where
 glyphs : List ByteArray
 locals : List ByteArray
 globals : List ByteArray
 w0 : Int
 w1 : Int
def MS.refuse (s : MS) (e : Int) : MS := if s.fault = 0 then { s with fault := e } else s
def addF (f a b : Int) : Int := if (sumOr a b).2 ≠ 0 ∧ f = 0 then 84 else f
def snocLast (o : List (List Kn)) (k : Kn) : List (List Kn) := o.dropLast ++ [o.getLast?.getD [] ++ [k]]
def MS.knot (s : MS) (dx dy k : Int) : MS :=
 if s.fault ≠ 0 then s
 else if s.out.length = 0 then s.refuse 81
 else if s.knots = 4096 then s.refuse 83
 else { s with
  x := (sumOr s.x dx).1, y := (sumOr s.y dy).1, fault := addF (addF 0 s.x dx) s.y dy,
  out := snocLast s.out ⟨nearM (sumOr s.x dx).1, nearM (sumOr s.y dy).1, k⟩, knots := s.knots + 1 }
def MS.move (s : MS) (dx dy : Int) : MS :=
 if s.out.length = 256 then s.refuse 83 else ({ s with out := s.out ++ [[]] } : MS).knot dx dy 1
def MS.line (s : MS) (dx dy : Int) : MS := s.knot dx dy 1
def MS.curve (s : MS) (a b c d e f : Int) : MS := ((s.knot a b 3).knot c d 3).knot e f 1
def MS.lines : List Int → MS → MS
 | a :: b :: r, s => MS.lines r (s.line a b)
 | _, s => s
def MS.steps : List Int → Bool → MS → MS
 | d :: r, ax, s => MS.steps r (!ax) (if ax then s.line d 0 else s.line 0 d)
 | [], _, s => s
def MS.curves : List Int → MS → MS
 | a :: b :: c :: d :: e :: f :: r, s => MS.curves r (s.curve a b c d e f)
 | _, s => s
def MS.wavesFrom : Int → List Int → Bool → MS → MS
 | odd, a :: b :: c :: d :: r, ax, s => MS.wavesFrom 0 r ax (if ax then s.curve a odd b c d 0 else s.curve odd a b c 0 d)
 | _, _, _, s => s
def MS.waves (l : List Int) (ax : Bool) (s : MS) : MS := if l.length % 4 = 1 then MS.wavesFrom (l.headD 0) l.tail ax s else MS.wavesFrom 0 l ax s
def MS.turns : List Int → Bool → MS → MS
 | a :: b :: c :: d :: r, ax, s => MS.turns r (!ax) (if ax then s.curve a 0 b c (if r.length = 1 then r.headD 0 else 0) d else s.curve 0 a b c d (if r.length = 1 then r.headD 0 else 0))
 | _, _, s => s
def sumsF : List Int → Int → Int → Int × Int
 | [], t, f => (t, f)
 | n :: r, t, f => sumsF r (sumOr t n).1 (addF f t n)
def MS.flex (op : Int) (l : List Int) (s : MS) : MS :=
 let g := fun i => l.getD i 0
 if op = 1234 then (s.curve (g 0) 0 (g 1) (g 2) (g 3) 0).curve (g 4) 0 (g 5) (-(g 2)) (g 6) 0
 else if op = 1235 then MS.curves (l.take 12) s
 else if op = 1236 then
  let u := sumsF [g 1, g 3, g 7] 0 s.fault
  (({ s with fault := u.2 } : MS).curve (g 0) (g 1) (g 2) (g 3) (g 4) 0).curve (g 5) 0 (g 6) (g 7) (g 8) (-u.1)
 else if op = 1237 then
  let u := sumsF [g 0, g 2, g 4, g 6, g 8] 0 s.fault
  let v := sumsF [g 1, g 3, g 5, g 7, g 9] 0 u.2
  (MS.curves (l.take 6) { s with fault := v.2 }).curve (g 6) (g 7) (g 8) (g 9) (if max v.1 (-v.1) < max u.1 (-u.1) then g 10 else -u.1) (if max v.1 (-v.1) < max u.1 (-u.1) then -v.1 else g 10)
 else s
def takesN (op : Int) (n : Nat) : Bool × Bool :=
 if op = 5 then (decide (2 ≤ n) && decide (n % 2 = 0), true)
 else if op = 6 ∨ op = 7 then (decide (1 ≤ n), true)
 else if op = 8 then (decide (6 ≤ n) && decide (n % 6 = 0), true)
 else if op = 24 then (decide (8 ≤ n) && decide (n % 6 = 2), true)
 else if op = 25 then (decide (8 ≤ n) && decide (n % 2 = 0), true)
 else if op = 26 ∨ op = 27 ∨ op = 30 ∨ op = 31 then (decide (4 ≤ n) && decide (n % 4 ≤ 1), true)
 else if op = 1234 then (decide (n = 7), true)
 else if op = 1235 then (decide (n = 13), true)
 else if op = 1236 then (decide (n = 9), true)
 else if op = 1237 then (decide (n = 11), true)
 else (false, false)
def MS.strokes (op : Int) (l : List Int) (s : MS) : MS :=
 if op = 5 then MS.lines l s
 else if op = 6 ∨ op = 7 then MS.steps l (decide (op = 6)) s
 else if op = 8 then MS.curves l s
 else if op = 24 then MS.lines (l.drop (l.length - 2)) (MS.curves (l.take (l.length - 2)) s)
 else if op = 25 then MS.curves (l.drop (l.length - 6)) (MS.lines (l.take (l.length - 6)) s)
 else if op = 26 ∨ op = 27 then MS.waves l (decide (op = 27)) s
 else if op = 30 ∨ op = 31 then MS.turns l (decide (op = 31)) s
 else s
def MS.draw (op : Int) (l : List Int) (s : MS) : MS :=
 if (takesN op l.length).2 = false then s.refuse 82
 else if (takesN op l.length).1 = false then s.refuse 81
 else if 1200 ≤ op then s.flex op l
 else s.strokes op l
def MS.behind (s : MS) (w1 : Int) (l : List Int) (many : Bool) : List Int × MS :=
 if s.asked = false ∧ many = true then (l.tail, { s with asked := true, width := nearM (l.headD 0) + w1 }) else (l, { s with asked := true })
def MS.addStems (w1 : Int) (l : List Int) (s : MS) : MS :=
 let q := s.behind w1 l (decide (l.length % 2 = 1))
 if q.1.length % 2 ≠ 0 then q.2.refuse 81
 else if 96 < q.2.stems + q.1.length / 2 then ({ q.2 with stems := q.2.stems + q.1.length / 2 } : MS).refuse 83
 else { q.2 with stems := q.2.stems + q.1.length / 2 }
def Rw.pass (r : Rw) (n : Nat) : Rw := { r with p := r.p + n, c := r.c || !(hasB r.s r.p n) }
def MS.passMask (s : MS) : MS := match s.rows with
 | [] => s
 | r :: rest =>
   let r1 := r.pass ((s.stems + 7) / 8)
   if r1.c = true then ({ s with rows := r1 :: rest } : MS).refuse 81 else { s with rows := r1 :: rest }
def MS.begin (w1 : Int) (op : Int) (l : List Int) (s : MS) : MS :=
 let k := if op = 21 then 2 else 1
 let q := s.behind w1 l (decide (l.length = k + 1))
 if q.1.length ≠ k then q.2.refuse 81
 else if op = 21 then q.2.move (q.1.getD 0 0) (q.1.getD 1 0)
 else if op = 22 then q.2.move (q.1.getD 0 0) 0
 else if op = 4 then q.2.move 0 (q.1.getD 0 0)
 else q.2
def MS.finish (w1 : Int) (l : List Int) (s : MS) : MS :=
 let q := s.behind w1 l (decide (l.length = 1) || decide (l.length = 5))
 if q.1.length = 0 then { q.2 with ended := true }
 else if q.1.length = 4 then q.2.refuse 82
 else q.2.refuse 81
def MS.take (w1 : Int) (op : Int) (l : List Int) (s : MS) : MS :=
 if op = 1 ∨ op = 3 ∨ op = 18 ∨ op = 23 then s.addStems w1 l
 else if op = 19 ∨ op = 20 then (s.addStems w1 l).passMask
 else if op = 21 ∨ op = 22 ∨ op = 4 then s.begin w1 op l
 else if op = 14 then s.finish w1 l
 else s.draw op l
def biasN (n : Nat) : Int := if n < 1240 then 107 else if n < 33900 then 1131 else 32768
def MS.call (rs : List ByteArray) (s : MS) : MS :=
 if s.stack.length = 0 then s.refuse 81
 else
  let v := s.stack.getLast?.getD 0 / 65536 + biasN rs.length
  let s1 : MS := { s with stack := s.stack.dropLast }
  if v < 0 ∨ (rs.length : Int) ≤ v then s1.refuse 81
  else if 10 < s.rows.length then s1.refuse 83
  else { s1 with rows := ⟨rs.getD v.toNat ByteArray.empty, 0, false⟩ :: s.rows }
def MS.leave (s : MS) : MS := if s.rows.length = 1 then s.refuse 81 else { s with rows := s.rows.tail }
def MS.operate (f : FS) (op : Int) (s : MS) : MS :=
 if op = 10 then s.call f.locals
 else if op = 29 then s.call f.globals
 else if op = 11 then s.leave
 else { s.take f.w1 op s.stack with stack := [] }
def MS.push (n : Int) (s : MS) : MS := if s.stack.length = 48 then s.refuse 83 else { s with stack := s.stack ++ [n] }
def Rw.item (r : Rw) : (Int × Bool) × Rw :=
 let b := r.next 1
 let q := b.2.prog b.1
 if q.1.2 = true then q else (((q.2.oper b.1).1, false), (q.2.oper b.1).2)
def MS.step (f : FS) (s : MS) : MS := match s.rows with
 | [] => s
 | r :: rest =>
   if r.s.size ≤ r.p then s.refuse 81
   else if s.fuel = 20000 then s.refuse 83
   else
    let s1 : MS := { s with fuel := s.fuel + 1, rows := r.item.2 :: rest }
    if r.item.2.c = true then s1.refuse 81
    else if r.item.1.2 = true then s1.push r.item.1.1
    else s1.operate f r.item.1.1
def MS.run (f : FS) : Nat → MS → MS
 | 0, s => s
 | n + 1, s => if s.ended = true ∨ s.fault ≠ 0 then s else MS.run f n (s.step f)
def MS.start (f : FS) (b : ByteArray) : MS := ⟨[], 0, 0, 0, 0, [⟨b, 0, false⟩], [], 0, 0, f.w0, false, false⟩
def glyphM (f : FS) (g : Nat) : List (List Kn) × Int × Int :=
 match f.glyphs[g]? with
 | none => ([], 0, 85)
 | some b =>
   let s := MS.run f 20001 (MS.start f b)
   if s.fault ≠ 0 then ([], 0, s.fault) else (s.out, s.width, 0)
end Go.Proofs.YtklenppldblbdaaGreat
namespace Go.Proofs.YtklenppldblbdaaGreat
open Go.RowKit Go.PlainAid
abbrev Stp := Int × Int × Int
def linesD : List Int → List Stp
 | a :: b :: r => (a, b, 1) :: linesD r
 | _ => []
def altD : List Int → Bool → List Stp
 | d :: r, ax => (if ax then (d, 0, 1) else (0, d, 1)) :: altD r (!ax)
 | [], _ => []
def curvD : List Int → List Stp
 | a :: b :: c :: d :: e :: f :: r => (a, b, 3) :: (c, d, 3) :: (e, f, 1) :: curvD r
 | _ => []
def wavD : Int → List Int → Bool → List Stp
 | odd, a :: b :: c :: d :: r, ax => (if ax then [(a, odd, 3), (b, c, 3), (d, 0, 1)] else [(odd, a, 3), (b, c, 3), (0, d, 1)]) ++ wavD 0 r ax
 | _, _, _ => []
def wavesD (l : List Int) (ax : Bool) : List Stp := if l.length % 4 = 1 then wavD (l.headD 0) l.tail ax else wavD 0 l ax
def turnD : List Int → Bool → List Stp
 | a :: b :: c :: d :: r, ax => (if ax then [(a, 0, 3), (b, c, 3), (if r.length = 1 then r.headD 0 else 0, d, 1)] else [(0, a, 3), (b, c, 3), (d, if r.length = 1 then r.headD 0 else 0, 1)]) ++ turnD r (!ax)
 | _, _ => []
def penL (s : MS) (p : List Stp) : MS := p.foldl (fun s d => s.knot d.1 d.2.1 d.2.2) s
theorem penL_app (s : MS) (p q : List Stp) : penL s (p ++ q) = penL (penL s p) q := List.foldl_append
theorem penL_cons (s : MS) (d : Stp) (p : List Stp) : penL s (d :: p) = penL (s.knot d.1 d.2.1 d.2.2) p := rfl
theorem pen_lines : ∀ (l : List Int) (s : MS), MS.lines l s = penL s (linesD l)
 | a :: b :: r, s => by rw [MS.lines, linesD, penL_cons, pen_lines r]; rfl
 | [], s => rfl
 | [_], s => rfl
theorem pen_alt : ∀ (l : List Int) (ax : Bool) (s : MS), MS.steps l ax s = penL s (altD l ax)
 | d :: r, ax, s => by rw [MS.steps, altD, penL_cons, pen_alt r]; cases ax <;> rfl
 | [], ax, s => rfl
theorem pen_curves : ∀ (l : List Int) (s : MS), MS.curves l s = penL s (curvD l)
 | a :: b :: c :: d :: e :: f :: r, s => by rw [MS.curves, curvD, penL_cons, penL_cons, penL_cons, pen_curves r]; rfl
 | [], s => rfl
 | [_], s => rfl
 | [_, _], s => rfl
 | [_, _, _], s => rfl
 | [_, _, _, _], s => rfl
 | [_, _, _, _, _], s => rfl
theorem pen_wav : ∀ (l : List Int) (odd : Int) (ax : Bool) (s : MS), MS.wavesFrom odd l ax s = penL s (wavD odd l ax)
 | a :: b :: c :: d :: r, odd, ax, s => by rw [MS.wavesFrom, wavD, penL_app, pen_wav r]; cases ax <;> rfl
 | [], _, _, s => rfl
 | [_], _, _, s => rfl
 | [_, _], _, _, s => rfl
 | [_, _, _], _, _, s => rfl
theorem pen_waves (l : List Int) (ax : Bool) (s : MS) : MS.waves l ax s = penL s (wavesD l ax) := by
 unfold MS.waves wavesD
 split <;> exact pen_wav _ _ _ _
theorem pen_turns : ∀ (l : List Int) (ax : Bool) (s : MS), MS.turns l ax s = penL s (turnD l ax)
 | a :: b :: c :: d :: r, ax, s => by rw [MS.turns, turnD, penL_app, pen_turns r]; cases ax <;> rfl
 | [], _, s => rfl
 | [_], _, s => rfl
 | [_, _], _, s => rfl
 | [_, _, _], _, s => rfl
def stepsD (op : Int) (l : List Int) : List Stp × Bool :=
 if op = 5 then (linesD l, decide (2 ≤ l.length) && decide (l.length % 2 = 0))
 else if op = 6 ∨ op = 7 then (altD l (decide (op = 6)), decide (1 ≤ l.length))
 else if op = 8 then (curvD l, decide (6 ≤ l.length) && decide (l.length % 6 = 0))
 else if op = 24 then (if l.length < 8 ∨ l.length % 6 ≠ 2 then ([], false) else (curvD (l.take (l.length - 2)) ++ linesD (l.drop (l.length - 2)), true))
 else if op = 25 then (if l.length < 8 ∨ l.length % 2 ≠ 0 then ([], false) else (linesD (l.take (l.length - 6)) ++ curvD (l.drop (l.length - 6)), true))
 else if l.length < 4 ∨ 1 < l.length % 4 then ([], false)
 else if op = 26 ∨ op = 27 then (wavesD l (decide (op = 27)), true)
 else (turnD l (decide (op = 31)), true)
def strokeOp (op : Int) : Prop := op = 5 ∨ op = 6 ∨ op = 7 ∨ op = 8 ∨ op = 24 ∨ op = 25 ∨ op = 26 ∨ op = 27 ∨ op = 30 ∨ op = 31
theorem strokes_takes (op : Int) (l : List Int) (h : strokeOp op) : takesN op l.length = ((stepsD op l).2, true) := by
 unfold strokeOp at h
 rcases h with rfl | rfl | rfl | rfl | rfl | rfl | rfl | rfl | rfl | rfl
 ·rfl
 ·rfl
 ·rfl
 ·rfl
 ·unfold takesN stepsD
  simp only [Int.reduceEq, or_self, if_true, if_false, false_or, or_false]
  split <;> rename_i hq <;> (congr 1; simp; omega)
 ·unfold takesN stepsD
  simp only [Int.reduceEq, or_self, if_true, if_false, false_or, or_false]
  split <;> rename_i hq <;> (congr 1; simp; omega)
 all_goals
  unfold takesN stepsD
  simp only [Int.reduceEq, or_self, if_true, if_false, false_or, or_false, true_or, or_true]
  split <;> rename_i hq <;> (congr 1; simp; omega)
theorem strokes_pen (op : Int) (l : List Int) (s : MS) (h : strokeOp op) (hr : (stepsD op l).2 = true) : s.strokes op l = penL s (stepsD op l).1 := by
 unfold strokeOp at h
 rcases h with rfl | rfl | rfl | rfl | rfl | rfl | rfl | rfl | rfl | rfl
 ·exact pen_lines l s
 ·exact pen_alt l true s
 ·exact pen_alt l false s
 ·exact pen_curves l s
 ·unfold stepsD at hr ⊢
  simp only [Int.reduceEq, or_self, if_true, if_false, false_or, or_false] at hr ⊢
  by_cases hq : l.length < 8 ∨ l.length % 6 ≠ 2
  ·rw [if_pos hq] at hr; cases hr
  ·rw [if_neg hq, penL_app, ← pen_curves, ← pen_lines]; rfl
 ·unfold stepsD at hr ⊢
  simp only [Int.reduceEq, or_self, if_true, if_false, false_or, or_false] at hr ⊢
  by_cases hq : l.length < 8 ∨ l.length % 2 ≠ 0
  ·rw [if_pos hq] at hr; cases hr
  ·rw [if_neg hq, penL_app, ← pen_lines, ← pen_curves]; rfl
 all_goals
  unfold stepsD at hr ⊢
  simp only [Int.reduceEq, or_self, if_true, if_false, false_or, or_false, true_or, or_true] at hr ⊢
  by_cases hq : l.length < 4 ∨ 1 < l.length % 4
  ·rw [if_pos hq] at hr; cases hr
  ·rw [if_neg hq]
   first
    | exact pen_waves l _ s
    | exact pen_turns l _ s
def totalD : List Int → Int → Int × Int
 | [], t => (t, 0)
 | n :: r, t => if (sumOr t n).2 ≠ 0 then (0, 84) else totalD r (sumOr t n).1
theorem sumsF_total : ∀ (l : List Int) (t : Int), (totalD l t).2 = 0 → sumsF l t 0 = ((totalD l t).1, 0)
 | [], t, _ => rfl
 | n :: r, t, h => by
   rw [totalD] at h ⊢
   by_cases hs : (sumOr t n).2 ≠ 0
   ·rw [if_pos hs] at h; cases h
   ·rw [if_neg hs] at h ⊢
    rw [sumsF]
    have : addF 0 t n = 0 := by unfold addF; rw [if_neg (by intro hh; exact hs hh.1)]
    rw [this]
    exact sumsF_total r _ h
theorem sumsF_keeps : ∀ (l : List Int) (t f : Int), f ≠ 0 → (sumsF l t f).2 = f
 | [], t, f, _ => rfl
 | n :: r, t, f, h => by
   rw [sumsF]
   have : addF f t n = f := by unfold addF; rw [if_neg (by intro hh; exact h hh.2)]
   rw [this]; exact sumsF_keeps r _ f h
theorem sumsF_bad : ∀ (l : List Int) (t : Int), (totalD l t).2 ≠ 0 → (sumsF l t 0).2 = 84
 | [], t, h => absurd rfl h
 | n :: r, t, h => by
   rw [totalD] at h
   rw [sumsF]
   by_cases hs : (sumOr t n).2 ≠ 0
   ·have : addF 0 t n = 84 := by unfold addF; rw [if_pos ⟨hs, rfl⟩]
    rw [this]; exact sumsF_keeps r _ 84 (by decide)
   ·rw [if_neg hs] at h
    have : addF 0 t n = 0 := by unfold addF; rw [if_neg (by intro hh; exact hs hh.1)]
    rw [this]; exact sumsF_bad r _ h
def flexD (op : Int) (l : List Int) : List Stp × Int :=
 let g := fun i => l.getD i 0
 if op = 1234 then (if l.length ≠ 7 then ([], 81) else (curvD [g 0, 0, g 1, g 2, g 3, 0, g 4, 0, g 5, -(g 2), g 6, 0], 0))
 else if op = 1235 then (if l.length ≠ 13 then ([], 81) else (curvD (l.take 12), 0))
 else if op = 1236 then
  (if l.length ≠ 9 then ([], 81) else if (totalD [g 1, g 3, g 7] 0).2 ≠ 0 then ([], 84) else (curvD [g 0, g 1, g 2, g 3, g 4, 0, g 5, 0, g 6, g 7, g 8, -(totalD [g 1, g 3, g 7] 0).1], 0))
 else (if l.length ≠ 11 then ([], 81) else if (totalD [g 0, g 2, g 4, g 6, g 8] 0).2 ≠ 0 ∨ (totalD [g 1, g 3, g 5, g 7, g 9] 0).2 ≠ 0 then ([], 84) else
  (curvD ([g 0, g 1, g 2, g 3, g 4, g 5, g 6, g 7, g 8, g 9] ++ (if (totalD [g 1, g 3, g 5, g 7, g 9] 0).1 * (totalD [g 1, g 3, g 5, g 7, g 9] 0).1 < (totalD [g 0, g 2, g 4, g 6, g 8] 0).1 * (totalD [g 0, g 2, g 4, g 6, g 8] 0).1 then [g 10, -(totalD [g 1, g 3, g 5, g 7, g 9] 0).1] else [-(totalD [g 0, g 2, g 4, g 6, g 8] 0).1, g 10])), 0))
end Go.Proofs.YtklenppldblbdaaGreat
namespace Go.Proofs.YtklenppldblbdaaGreat
open Go.RowKit Go.PlainAid
theorem blk_cell {w : World} {A : Nat} {cs : Array Value} {T : TypeId} {fr : Nat × Nat} (h : w.heap[A]? = some (.cells cs T fr)) (i : Nat) (v : Value) (hv : cs[i]? = some v) : w.cell? ⟨A, i, none⟩ = some v := by
 simp only [World.cell?, h]; exact hv
theorem blk_free {w : World} {A : Nat} {cs : Array Value} {T : TypeId} (h : w.heap[A]? = some (.cells cs T (0, 0))) (i : Nat) : w.frozen? ⟨A, i, none⟩ = false := by
 simp [World.frozen?, h]
theorem blk_set {w : World} {A : Nat} {cs : Array Value} {T : TypeId} {fr : Nat × Nat} (h : w.heap[A]? = some (.cells cs T fr)) (j : Nat) (v : Value) : (w.setCell ⟨A, j, none⟩ v).heap[A]? = some (.cells (cs.setIfInBounds j v) T fr) := by
 simp [World.setCell, Array.getElem?_modify, h]
theorem blk_lt {w : World} {A : Nat} {o : Obj} (h : w.heap[A]? = some o) : A < w.heap.size := (Array.getElem?_eq_some_iff.1 h).1
theorem blk_below {w w' : World} {A : Nat} {o : Obj} (h : w.heap[A]? = some o) (hb : Below w.heap.size w w') : w'.heap[A]? = some o := (hb.block A (blk_lt h)).trans h
theorem grown_set (w : World) (R o : Nat) (u : Value) : w.grownBy (w.setCell ⟨R, o, none⟩ u) (some R) :=
 ⟨rfl, rfl, rfl, by simp, fun k hk hne => Below.heap_setCell w _ u k (fun e => hne (by rw [e]))⟩
theorem grown_trans {a b c : World} {r : Option Nat} (h : a.grownBy b r) (k : b.grownBy c r) : a.grownBy c r :=
 ⟨k.os.trans h.os, k.tape.trans h.tape, k.output.trans h.output, Nat.le_trans h.size k.size, fun i hi hne => (k.block i (Nat.lt_of_lt_of_le hi h.size) hne).trans (h.block i hi hne)⟩
theorem grown_bel {a b : World} (r : Option Nat) (h : Below a.heap.size a b) : a.grownBy b r := ⟨h.os, h.tape, h.output, h.size, fun i hi _ => h.block i hi⟩
def TypAt (w : World) (r : Option Nat) (T : TypeId) : Prop := ∀ D, r = some D → ∃ cs fr, w.heap[D]? = some (.cells cs T fr)
theorem typ_blk {w : World} {D : Nat} {cs : Array Value} {T : TypeId} {fr : Nat × Nat} (h : w.heap[D]? = some (.cells cs T fr)) : TypAt w (some D) T := fun _ e => by cases e; exact ⟨cs, fr, h⟩
theorem typ_own {w : World} {B : Nat} {e : TypeId} {s n : Nat} {v : Value} {xs : List Value} (h : w.ownsRow B e s v n xs) : TypAt w v.ownBlock e := by
 intro D hD
 rcases h.2 with ⟨hv, _⟩ | ⟨g, cap, cur, hv, hb, hg, _⟩
 ·subst hv; cases hD
 ·subst hv; cases hD; exact ⟨_, _, hg⟩
theorem blk_chg {w w' : World} {r : Option Nat} {T T' : TypeId} {A : Nat} {cs : Array Value} {fr : Nat × Nat} (h : w.heap[A]? = some (.cells cs T fr)) (hg : w.grownBy w' r) (ht : TypAt w r T') (hne : T ≠ T') : w'.heap[A]? = some (.cells cs T fr) := by
 rw [hg.block A (blk_lt h) (fun e => ?_), h]
 obtain ⟨cs', fr', h'⟩ := ht A e.symm
 rw [h] at h'
 cases h'
 exact hne rfl
theorem own_chg {w w' : World} {r : Option Nat} {T' : TypeId} {B : Nat} {e : TypeId} {s n : Nat} {v : Value} {xs : List Value} (h : w.ownsRow B e s v n xs) (hg : w.grownBy w' r) (ht : TypAt w r T') (hne : e ≠ T') : w'.ownsRow B e s v n xs := by
 refine own_keep h fun g hv => ?_
 obtain ⟨cs, fr, hc⟩ := typ_own h g hv
 rw [blk_chg hc hg ht hne, hc]
theorem own_apart {w w' : World} {r : Option Nat} {B : Nat} {e : TypeId} {s n : Nat} {v : Value} {xs : List Value} (h : w.ownsRow B e s v n xs) (hg : w.grownBy w' r) (hr : ∀ g, v.ownBlock = some g → r ≠ some g) : w'.ownsRow B e s v n xs :=
 own_keep h fun g hv => hg.block g (h.lt g hv).2 (fun e => hr g hv e.symm)
theorem own_cutA {w : World} {B : Nat} {e : TypeId} {s n c : Nat} {a : Option Addr} {xs : List Value} (h : w.ownsRow B e s (.slice a n c) n xs) (m : Nat) (hm : m ≤ n) : w.ownsRow B e s (.slice a m c) m (xs.take (m * s)) := by
 rcases h.2 with ⟨hv, h0⟩ | ⟨g, cap, cur, hv, _⟩
 ·cases hv
  obtain rfl : m = 0 := by omega
  exact ⟨by simp, .inl ⟨rfl, rfl⟩⟩
 ·cases hv
  exact own_cut h m hm
structure RowAt (w : World) (R V : Nat) (r : Rw) : Prop where
 row : w.heap[R]? = some (.cells #[.pointer (some ⟨V, 0, none⟩), .int .i64 (r.p : Int), .bool r.c] 87 (0, 0))
 text : w.heap[V]? = some (.cells #[.string r.s] 68 (0, 0))
theorem RowAt.view {w : World} {R V : Nat} {r : Rw} (h : RowAt w R V r) : w.cell? ⟨V, 0, none⟩ = some (.string r.s) := blk_cell h.text 0 _ rfl
theorem RowAt.c0 {w : World} {R V : Nat} {r : Rw} (h : RowAt w R V r) : w.cell? ⟨R, 0, none⟩ = some (.pointer (some ⟨V, 0, none⟩)) := blk_cell h.row 0 _ rfl
theorem RowAt.c1 {w : World} {R V : Nat} {r : Rw} (h : RowAt w R V r) : w.cell? ⟨R, 1, none⟩ = some (.int .i64 (r.p : Int)) := blk_cell h.row 1 _ rfl
theorem RowAt.c2 {w : World} {R V : Nat} {r : Rw} (h : RowAt w R V r) : w.cell? ⟨R, 2, none⟩ = some (.bool r.c) := blk_cell h.row 2 _ rfl
theorem RowAt.below {w w' : World} {R V : Nat} {r : Rw} (h : RowAt w R V r) (hb : Below w.heap.size w w') : RowAt w' R V r := ⟨blk_below h.row hb, blk_below h.text hb⟩
theorem RowAt.ne {w : World} {R V : Nat} {r : Rw} (h : RowAt w R V r) : V ≠ R := by
 intro e; subst e
 have h1 := h.row
 rw [h.text] at h1
 exact absurd h1 (by simp)
theorem RowAt.setP {w : World} {R V : Nat} {r : Rw} (h : RowAt w R V r) (q : Nat) : RowAt (w.setCell ⟨R, 1, none⟩ (.int .i64 (q : Int))) R V { r with p := q } :=
 ⟨blk_set h.row 1 _, (Below.heap_setCell _ _ _ _ h.ne).trans h.text⟩
theorem RowAt.setC {w : World} {R V : Nat} {r : Rw} (h : RowAt w R V r) (c : Bool) : RowAt (w.setCell ⟨R, 2, none⟩ (.bool c)) R V { r with c := c } :=
 ⟨blk_set h.row 2 _, (Below.heap_setCell _ _ _ _ h.ne).trans h.text⟩
theorem RowAt.chg {w w' : World} {r' : Option Nat} {T : TypeId} {R V : Nat} {r : Rw} (h : RowAt w R V r) (hg : w.grownBy w' r') (ht : TypAt w r' T) (h1 : T ≠ 87) (h2 : T ≠ 68) : RowAt w' R V r :=
 ⟨blk_chg h.row hg ht (Ne.symm h1), blk_chg h.text hg ht (Ne.symm h2)⟩
theorem RowAt.typ {w : World} {R V : Nat} {r : Rw} (h : RowAt w R V r) : TypAt w (some R) 87 := typ_blk h.row
structure Lay where
 oa : Option Addr
 oc : Nat
 vs : List Value
 pg : Nat
 pc : Nat
 rb : List (Nat × Nat)
 sa : Option Addr
 sc : Nat
def mcells (F : Nat) (L : Lay) (s : MS) : Array Value := #[.slice L.oa s.out.length L.oc, .int .i64 (s.knots : Int), .int .i64 s.x, .int .i64 s.y, .int .i64 s.fault, .pointer (some ⟨F, 0, none⟩),
 .slice (some ⟨L.pg, 0, none⟩) s.rows.length L.pc, .slice L.sa s.stack.length L.sc, .int .i64 (s.fuel : Int), .int .i64 (s.stems : Int), .int .i64 s.width, .bool s.asked, .bool s.ended]
structure OutW (w : World) (B : Nat) (oa : Option Addr) (oc : Nat) (vs : List Value) (O : List (List Kn)) : Prop where
 own : w.ownsRow B 41 1 (.slice oa O.length oc) O.length vs
 conts : ∀ (i : Nat) (c : List Kn), O[i]? = some c → ∃ (ai : Option Addr) (ci : Nat), vs[i]? = some (.slice ai c.length ci) ∧ w.ownsRow B 43 3 (.slice ai c.length ci) c.length (c.flatMap clK)
 apart : ∀ (i j : Nat) (v u : Value) (g : Nat), i ≠ j → vs[i]? = some v → vs[j]? = some u → v.ownBlock = some g → u.ownBlock ≠ some g
structure RowsW (w : World) (B pg pc : Nat) (rb : List (Nat × Nat)) (rows : List Rw) : Prop where
 own : w.ownsRow B 85 1 (.slice (some ⟨pg, 0, none⟩) rows.length pc) rows.length (rb.reverse.map fun q => .pointer (some ⟨q.1, 0, none⟩))
 len : rb.length = rows.length
 rows : ∀ (i : Nat) (r : Rw) (q : Nat × Nat), rows[i]? = some r → rb[i]? = some q → B ≤ q.1 ∧ RowAt w q.1 q.2 r
 apart : (rb.map Prod.fst).Nodup
structure Mach (w : World) (B M F : Nat) (L : Lay) (s : MS) : Prop where
 mem : w.heap[M]? = some (.cells (mcells F L s) 64 (0, 0))
 mB : B ≤ M
 out : OutW w B L.oa L.oc L.vs s.out
 rows : RowsW w B L.pg L.pc L.rb s.rows
 stack : w.ownsRow B 3 1 (.slice L.sa s.stack.length L.sc) s.stack.length (s.stack.map (Value.int .i64))
theorem OutW.below {w w' : World} {B : Nat} {oa : Option Addr} {oc : Nat} {vs : List Value} {O : List (List Kn)} (h : OutW w B oa oc vs O) (hb : Below w.heap.size w w') : OutW w' B oa oc vs O :=
 ⟨own_below h.own hb, fun i c hc => by obtain ⟨ai, ci, h1, h2⟩ := h.conts i c hc; exact ⟨ai, ci, h1, own_below h2 hb⟩, h.apart⟩
theorem OutW.chg {w w' : World} {B : Nat} {oa : Option Addr} {oc : Nat} {vs : List Value} {O : List (List Kn)} {r : Option Nat} {T : TypeId} (h : OutW w B oa oc vs O) (hg : w.grownBy w' r) (ht : TypAt w r T) (h1 : T ≠ 41) (h2 : T ≠ 43) : OutW w' B oa oc vs O :=
 ⟨own_chg h.own hg ht (Ne.symm h1), fun i c hc => by obtain ⟨ai, ci, h3, h4⟩ := h.conts i c hc; exact ⟨ai, ci, h3, own_chg h4 hg ht (Ne.symm h2)⟩, h.apart⟩
theorem RowsW.below {w w' : World} {B pg pc : Nat} {rb : List (Nat × Nat)} {rows : List Rw} (h : RowsW w B pg pc rb rows) (hb : Below w.heap.size w w') : RowsW w' B pg pc rb rows :=
 ⟨own_below h.own hb, h.len, fun i r q h1 h2 => ⟨(h.rows i r q h1 h2).1, (h.rows i r q h1 h2).2.below hb⟩, h.apart⟩
theorem RowsW.chg {w w' : World} {B pg pc : Nat} {rb : List (Nat × Nat)} {rows : List Rw} {r : Option Nat} {T : TypeId} (h : RowsW w B pg pc rb rows) (hg : w.grownBy w' r) (ht : TypAt w r T) (h1 : T ≠ 85) (h2 : T ≠ 87) (h3 : T ≠ 68) : RowsW w' B pg pc rb rows :=
 ⟨own_chg h.own hg ht (Ne.symm h1), h.len, fun i r q h4 h5 => ⟨(h.rows i r q h4 h5).1, (h.rows i r q h4 h5).2.chg hg ht h2 h3⟩, h.apart⟩
theorem Mach.below {w w' : World} {B M F : Nat} {L : Lay} {s : MS} (h : Mach w B M F L s) (hb : Below w.heap.size w w') : Mach w' B M F L s :=
 ⟨blk_below h.mem hb, h.mB, h.out.below hb, h.rows.below hb, own_below h.stack hb⟩
theorem Mach.typ {w : World} {B M F : Nat} {L : Lay} {s : MS} (h : Mach w B M F L s) : TypAt w (some M) 64 := typ_blk h.mem
theorem Mach.mset {w : World} {B M F : Nat} {L : Lay} {s : MS} (h : Mach w B M F L s) (j : Nat) (v : Value) (s' : MS) (hc : (mcells F L s).setIfInBounds j v = mcells F L s') (ho : s'.out = s.out) (hr : s'.rows = s.rows) (hs : s'.stack = s.stack) :
 Mach (w.setCell ⟨M, j, none⟩ v) B M F L s' := by
 have hg := grown_set w M j v
 refine ⟨by rw [blk_set h.mem, hc], h.mB, ?_, ?_, ?_⟩
 ·rw [ho]; exact h.out.chg hg h.typ (by decide) (by decide)
 ·rw [hr]; exact h.rows.chg hg h.typ (by decide) (by decide) (by decide)
 ·rw [hs]; exact own_chg h.stack hg h.typ (by decide)
theorem Mach.setFault {w : World} {B M F : Nat} {L : Lay} {s : MS} (h : Mach w B M F L s) (e : Int) : Mach (w.setCell ⟨M, 4, none⟩ (.int .i64 e)) B M F L { s with fault := e } := h.mset 4 _ _ rfl rfl rfl rfl
theorem Mach.setX {w : World} {B M F : Nat} {L : Lay} {s : MS} (h : Mach w B M F L s) (e : Int) : Mach (w.setCell ⟨M, 2, none⟩ (.int .i64 e)) B M F L { s with x := e } := h.mset 2 _ _ rfl rfl rfl rfl
theorem Mach.setY {w : World} {B M F : Nat} {L : Lay} {s : MS} (h : Mach w B M F L s) (e : Int) : Mach (w.setCell ⟨M, 3, none⟩ (.int .i64 e)) B M F L { s with y := e } := h.mset 3 _ _ rfl rfl rfl rfl
theorem Mach.setKnots {w : World} {B M F : Nat} {L : Lay} {s : MS} (h : Mach w B M F L s) (n : Nat) : Mach (w.setCell ⟨M, 1, none⟩ (.int .i64 (n : Int))) B M F L { s with knots := n } := h.mset 1 _ _ rfl rfl rfl rfl
theorem Mach.setFuel {w : World} {B M F : Nat} {L : Lay} {s : MS} (h : Mach w B M F L s) (n : Nat) : Mach (w.setCell ⟨M, 8, none⟩ (.int .i64 (n : Int))) B M F L { s with fuel := n } := h.mset 8 _ _ rfl rfl rfl rfl
theorem Mach.setStems {w : World} {B M F : Nat} {L : Lay} {s : MS} (h : Mach w B M F L s) (n : Nat) : Mach (w.setCell ⟨M, 9, none⟩ (.int .i64 (n : Int))) B M F L { s with stems := n } := h.mset 9 _ _ rfl rfl rfl rfl
theorem Mach.setWidth {w : World} {B M F : Nat} {L : Lay} {s : MS} (h : Mach w B M F L s) (e : Int) : Mach (w.setCell ⟨M, 10, none⟩ (.int .i64 e)) B M F L { s with width := e } := h.mset 10 _ _ rfl rfl rfl rfl
theorem Mach.setAsked {w : World} {B M F : Nat} {L : Lay} {s : MS} (h : Mach w B M F L s) (b : Bool) : Mach (w.setCell ⟨M, 11, none⟩ (.bool b)) B M F L { s with asked := b } := h.mset 11 _ _ rfl rfl rfl rfl
theorem Mach.setEnded {w : World} {B M F : Nat} {L : Lay} {s : MS} (h : Mach w B M F L s) (b : Bool) : Mach (w.setCell ⟨M, 12, none⟩ (.bool b)) B M F L { s with ended := b } := h.mset 12 _ _ rfl rfl rfl rfl
theorem Mach.c {w : World} {B M F : Nat} {L : Lay} {s : MS} (h : Mach w B M F L s) (i : Nat) (v : Value) (hv : (mcells F L s)[i]? = some v) : w.cell? ⟨M, i, none⟩ = some v := blk_cell h.mem i v hv
theorem Mach.c0 {w : World} {B M F : Nat} {L : Lay} {s : MS} (h : Mach w B M F L s) : w.cell? ⟨M, 0, none⟩ = some (.slice L.oa s.out.length L.oc) := h.c 0 _ rfl
theorem Mach.c1 {w : World} {B M F : Nat} {L : Lay} {s : MS} (h : Mach w B M F L s) : w.cell? ⟨M, 1, none⟩ = some (.int .i64 (s.knots : Int)) := h.c 1 _ rfl
theorem Mach.c2 {w : World} {B M F : Nat} {L : Lay} {s : MS} (h : Mach w B M F L s) : w.cell? ⟨M, 2, none⟩ = some (.int .i64 s.x) := h.c 2 _ rfl
theorem Mach.c3 {w : World} {B M F : Nat} {L : Lay} {s : MS} (h : Mach w B M F L s) : w.cell? ⟨M, 3, none⟩ = some (.int .i64 s.y) := h.c 3 _ rfl
theorem Mach.c4 {w : World} {B M F : Nat} {L : Lay} {s : MS} (h : Mach w B M F L s) : w.cell? ⟨M, 4, none⟩ = some (.int .i64 s.fault) := h.c 4 _ rfl
theorem Mach.c5 {w : World} {B M F : Nat} {L : Lay} {s : MS} (h : Mach w B M F L s) : w.cell? ⟨M, 5, none⟩ = some (.pointer (some ⟨F, 0, none⟩)) := h.c 5 _ rfl
theorem Mach.c6 {w : World} {B M F : Nat} {L : Lay} {s : MS} (h : Mach w B M F L s) : w.cell? ⟨M, 6, none⟩ = some (.slice (some ⟨L.pg, 0, none⟩) s.rows.length L.pc) := h.c 6 _ rfl
theorem Mach.c7 {w : World} {B M F : Nat} {L : Lay} {s : MS} (h : Mach w B M F L s) : w.cell? ⟨M, 7, none⟩ = some (.slice L.sa s.stack.length L.sc) := h.c 7 _ rfl
theorem Mach.c8 {w : World} {B M F : Nat} {L : Lay} {s : MS} (h : Mach w B M F L s) : w.cell? ⟨M, 8, none⟩ = some (.int .i64 (s.fuel : Int)) := h.c 8 _ rfl
theorem Mach.c9 {w : World} {B M F : Nat} {L : Lay} {s : MS} (h : Mach w B M F L s) : w.cell? ⟨M, 9, none⟩ = some (.int .i64 (s.stems : Int)) := h.c 9 _ rfl
theorem Mach.c10 {w : World} {B M F : Nat} {L : Lay} {s : MS} (h : Mach w B M F L s) : w.cell? ⟨M, 10, none⟩ = some (.int .i64 s.width) := h.c 10 _ rfl
theorem Mach.c11 {w : World} {B M F : Nat} {L : Lay} {s : MS} (h : Mach w B M F L s) : w.cell? ⟨M, 11, none⟩ = some (.bool s.asked) := h.c 11 _ rfl
theorem Mach.c12 {w : World} {B M F : Nat} {L : Lay} {s : MS} (h : Mach w B M F L s) : w.cell? ⟨M, 12, none⟩ = some (.bool s.ended) := h.c 12 _ rfl
theorem Mach.f {w : World} {B M F : Nat} {L : Lay} {s : MS} (h : Mach w B M F L s) (i : Nat) : w.frozen? ⟨M, i, none⟩ = false := blk_free h.mem i
theorem Mach.cutStack {w : World} {B M F : Nat} {L : Lay} {s : MS} (h : Mach w B M F L s) (n : Nat) (hn : n ≤ s.stack.length) : Mach (w.setCell ⟨M, 7, none⟩ (.slice L.sa n L.sc)) B M F L { s with stack := s.stack.take n } := by
 have hg := grown_set w M 7 (.slice L.sa n L.sc)
 have hl : (s.stack.take n).length = n := by rw [List.length_take]; omega
 refine ⟨?_, h.mB, h.out.chg hg h.typ (by decide) (by decide), h.rows.chg hg h.typ (by decide) (by decide) (by decide), ?_⟩
 ·rw [blk_set h.mem]
  simp [mcells, hl]
 ·have h1 := own_chg h.stack hg h.typ (by decide)
  show (w.setCell ⟨M, 7, none⟩ (.slice L.sa n L.sc)).ownsRow B 3 1 (.slice L.sa (s.stack.take n).length L.sc) (s.stack.take n).length ((s.stack.take n).map (Value.int .i64))
  rw [hl]
  have h3 := own_cutA h1 n hn
  rw [Nat.mul_one, ← List.map_take] at h3
  exact h3
theorem Mach.pushed {w w' : World} {B M F : Nat} {L : Lay} {s : MS} {g c : Nat} {n : Int} (h : Mach w B M F L s) (ho : w'.ownsRow B 3 1 (.slice (some ⟨g, 0, none⟩) (s.stack.length + 1) c) (s.stack.length + 1) (s.stack.map (Value.int .i64) ++ [.int .i64 n]))
 (hg : w.grownBy w' (Value.slice L.sa s.stack.length L.sc).ownBlock) : Mach (w'.setCell ⟨M, 7, none⟩ (.slice (some ⟨g, 0, none⟩) (s.stack.length + 1) c)) B M F { L with sa := some ⟨g, 0, none⟩, sc := c } { s with stack := s.stack ++ [n] } := by
 have ht := typ_own h.stack
 have hm := blk_chg h.mem hg ht (by decide)
 have hg2 := grown_set w' M 7 (.slice (some ⟨g, 0, none⟩) (s.stack.length + 1) c)
 have ht2 := typ_blk hm
 refine ⟨?_, h.mB, (h.out.chg hg ht (by decide) (by decide)).chg hg2 ht2 (by decide) (by decide), (h.rows.chg hg ht (by decide) (by decide) (by decide)).chg hg2 ht2 (by decide) (by decide) (by decide), ?_⟩
 ·rw [blk_set hm]
  simp [mcells]
 ·have := own_chg ho hg2 ht2 (by decide)
  show (w'.setCell ⟨M, 7, none⟩ (.slice (some ⟨g, 0, none⟩) (s.stack.length + 1) c)).ownsRow B 3 1 (.slice (some ⟨g, 0, none⟩) (s.stack ++ [n]).length c) (s.stack ++ [n]).length ((s.stack ++ [n]).map (Value.int .i64))
  rw [List.length_append, List.map_append]
  exact this
theorem Mach.rowed {w w' : World} {B M F R V : Nat} {L : Lay} {s : MS} {r r' : Rw} {rest : List Rw} {rb : List (Nat × Nat)} (h : Mach w B M F L s) (hr : s.rows = r :: rest) (hb : L.rb = (R, V) :: rb) (hw : RowAt w' R V r') (hg : w.grownBy w' (some R)) :
 Mach w' B M F L { s with rows := r' :: rest } := by
 have h0 := (h.rows.rows 0 r (R, V) (by rw [hr]; rfl) (by rw [hb]; rfl)).2
 have ht := h0.typ
 refine ⟨?_, h.mB, h.out.chg hg ht (by decide) (by decide), ⟨?_, ?_, ?_, h.rows.apart⟩, own_chg h.stack hg ht (by decide)⟩
 ·rw [blk_chg h.mem hg ht (by decide)]
  simp [mcells, hr]
 ·have := own_chg h.rows.own hg ht (by decide)
  rw [hr] at this
  exact this
 ·have := h.rows.len
  rw [hr] at this
  exact this
 ·intro i q p h1 h2
  cases i with
  | zero =>
    rw [hb] at h2
    simp at h1 h2
    subst h1; subst h2
    exact ⟨(h.rows.rows 0 r (R, V) (by rw [hr]; rfl) (by rw [hb]; rfl)).1, hw⟩
  | succ i =>
    have h3 := h.rows.rows (i + 1) q p (by rw [hr]; exact h1) h2
    refine ⟨h3.1, ?_⟩
    have hne : p.1 ≠ R := by
     intro e
     have := h.rows.apart
     rw [hb] at this h2
     simp at this h2
     exact this.1 p.2 (by rw [← e]; exact List.mem_of_getElem? h2)
    have hnv : p.2 ≠ R := by
     intro e
     have h4 := h3.2.text
     rw [e, h0.row] at h4
     exact absurd h4 (by simp)
    exact ⟨(hg.block _ (blk_lt h3.2.row) (fun e => hne (by cases e; rfl))).trans h3.2.row, (hg.block _ (blk_lt h3.2.text) (fun e => hnv (by cases e; rfl))).trans h3.2.text⟩
end Go.Proofs.YtklenppldblbdaaGreat
