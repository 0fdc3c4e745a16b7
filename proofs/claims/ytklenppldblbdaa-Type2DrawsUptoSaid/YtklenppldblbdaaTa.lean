/-
  The machine that runs a glyph's program, as functions of Lean over its state: rows of bytes, operands, the pen, operators, the whole run. It hangs on no function of the program.
-/
import Derived.Test.YtklenppldblbdaaXb
import Derived.Test.YtklenppldblbdaaTx
namespace Go.Proofs.Ytklenppldblbdaa
open Go.RowKit Go.PlainAid
set_option linter.unusedSimpArgs false
set_option linter.unusedVariables false

/-- A row of bytes that is gone through: its text, the place, whether bytes were asked for that are not there. -/
structure Rw where
  s : ByteArray
  p : Nat
  c : Bool

/-- The nearest whole number of one in 16.16. -/
def nearM (n : Int) : Int := (mulDiv n 1 65536).1

/-- A number of four bytes, with its sign. -/
def sign32 (x : Int) : Int := if 2147483648 ≤ x then x - 4294967296 else x

def Rw.next (r : Rw) (k : Nat) : Int × Rw := ((numOr r.s r.p k).1, { r with p := r.p + k, c := r.c || decide ((numOr r.s r.p k).2 ≠ 0) })

/-- The operand that begins with this byte, and whether it is one. -/
def Rw.operand (r : Rw) (b : Int) : (Int × Bool) × Rw :=
  if b = 28 then ((sign16 (r.next 2).1, true), (r.next 2).2)
  else if b < 32 ∨ b = 255 then ((0, false), r)
  else if b < 247 then ((b - 139, true), r)
  else if b < 251 then (((b - 247) * 256 + (r.next 1).1 + 108, true), (r.next 1).2)
  else ((-(b - 251) * 256 - (r.next 1).1 - 108, true), (r.next 1).2)

def Rw.prog (r : Rw) (b : Int) : (Int × Bool) × Rw :=
  if b = 255 then ((sign32 (r.next 4).1, true), (r.next 4).2) else (((r.operand b).1.1 * 65536, (r.operand b).1.2), (r.operand b).2)

def Rw.oper (r : Rw) (b : Int) : Int × Rw := if b = 12 then (1200 + (r.next 1).1, (r.next 1).2) else (b, r)

/-- The machine's state; of the rows the one that is gone through stands first. -/
structure MS where
  out : List (List Kn)
  knots : Nat
  x : Int
  y : Int
  fault : Int
  rows : List Rw
  stack : List Int
  fuel : Nat
  stems : Nat
  width : Int
  asked : Bool
  ended : Bool

/-- A font: its programs, its routines, its widths. -/
structure FS where
  glyphs : List ByteArray
  locals : List ByteArray
  globals : List ByteArray
  w0 : Int
  w1 : Int

def MS.refuse (s : MS) (e : Int) : MS := if s.fault = 0 then { s with fault := e } else s

def addF (f a b : Int) : Int := if (sumOr a b).2 ≠ 0 ∧ f = 0 then 84 else f

def snocLast (o : List (List Kn)) (k : Kn) : List (List Kn) := o.dropLast ++ [o.getLast?.getD [] ++ [k]]

def MS.knot (s : MS) (dx dy k : Int) : MS :=
  if s.fault ≠ 0 then s
  else if s.out.length = 0 then s.refuse 81
  else if s.knots = 4096 then s.refuse 83
  else { s with
    x := (sumOr s.x dx).1, y := (sumOr s.y dy).1, fault := addF (addF 0 s.x dx) s.y dy,
    out := snocLast s.out ⟨nearM (sumOr s.x dx).1, nearM (sumOr s.y dy).1, k⟩, knots := s.knots + 1 }

def MS.move (s : MS) (dx dy : Int) : MS :=
  if s.out.length = 256 then s.refuse 83 else ({ s with out := s.out ++ [[]] } : MS).knot dx dy 1

def MS.line (s : MS) (dx dy : Int) : MS := s.knot dx dy 1
def MS.curve (s : MS) (a b c d e f : Int) : MS := ((s.knot a b 3).knot c d 3).knot e f 1

def MS.lines : List Int → MS → MS
  | a :: b :: r, s => MS.lines r (s.line a b)
  | _, s => s

def MS.steps : List Int → Bool → MS → MS
  | d :: r, ax, s => MS.steps r (!ax) (if ax then s.line d 0 else s.line 0 d)
  | [], _, s => s

def MS.curves : List Int → MS → MS
  | a :: b :: c :: d :: e :: f :: r, s => MS.curves r (s.curve a b c d e f)
  | _, s => s

def MS.wavesFrom : Int → List Int → Bool → MS → MS
  | odd, a :: b :: c :: d :: r, ax, s => MS.wavesFrom 0 r ax (if ax then s.curve a odd b c d 0 else s.curve odd a b c 0 d)
  | _, _, _, s => s

def MS.waves (l : List Int) (ax : Bool) (s : MS) : MS := if l.length % 4 = 1 then MS.wavesFrom (l.headD 0) l.tail ax s else MS.wavesFrom 0 l ax s

def MS.turns : List Int → Bool → MS → MS
  | a :: b :: c :: d :: r, ax, s => MS.turns r (!ax) (if ax then s.curve a 0 b c (if r.length = 1 then r.headD 0 else 0) d else s.curve 0 a b c d (if r.length = 1 then r.headD 0 else 0))
  | _, _, s => s

/-- The sum of the numbers, and the fault behind it. -/
def sumsF : List Int → Int → Int → Int × Int
  | [], t, f => (t, f)
  | n :: r, t, f => sumsF r (sumOr t n).1 (addF f t n)

def MS.flex (op : Int) (l : List Int) (s : MS) : MS :=
  let g := fun i => l.getD i 0
  if op = 1234 then (s.curve (g 0) 0 (g 1) (g 2) (g 3) 0).curve (g 4) 0 (g 5) (-(g 2)) (g 6) 0
  else if op = 1235 then MS.curves (l.take 12) s
  else if op = 1236 then
    let u := sumsF [g 1, g 3, g 7] 0 s.fault
    (({ s with fault := u.2 } : MS).curve (g 0) (g 1) (g 2) (g 3) (g 4) 0).curve (g 5) 0 (g 6) (g 7) (g 8) (-u.1)
  else if op = 1237 then
    let u := sumsF [g 0, g 2, g 4, g 6, g 8] 0 s.fault
    let v := sumsF [g 1, g 3, g 5, g 7, g 9] 0 u.2
    (MS.curves (l.take 6) { s with fault := v.2 }).curve (g 6) (g 7) (g 8) (g 9) (if max v.1 (-v.1) < max u.1 (-u.1) then g 10 else -u.1) (if max v.1 (-v.1) < max u.1 (-u.1) then -v.1 else g 10)
  else s

/-- Does the operator draw with so many operands, and is it known? -/
def takesN (op : Int) (n : Nat) : Bool × Bool :=
  if op = 5 then (decide (2 ≤ n) && decide (n % 2 = 0), true)
  else if op = 6 ∨ op = 7 then (decide (1 ≤ n), true)
  else if op = 8 then (decide (6 ≤ n) && decide (n % 6 = 0), true)
  else if op = 24 then (decide (8 ≤ n) && decide (n % 6 = 2), true)
  else if op = 25 then (decide (8 ≤ n) && decide (n % 2 = 0), true)
  else if op = 26 ∨ op = 27 ∨ op = 30 ∨ op = 31 then (decide (4 ≤ n) && decide (n % 4 ≤ 1), true)
  else if op = 1234 then (decide (n = 7), true)
  else if op = 1235 then (decide (n = 13), true)
  else if op = 1236 then (decide (n = 9), true)
  else if op = 1237 then (decide (n = 11), true)
  else (false, false)

def MS.strokes (op : Int) (l : List Int) (s : MS) : MS :=
  if op = 5 then MS.lines l s
  else if op = 6 ∨ op = 7 then MS.steps l (decide (op = 6)) s
  else if op = 8 then MS.curves l s
  else if op = 24 then MS.lines (l.drop (l.length - 2)) (MS.curves (l.take (l.length - 2)) s)
  else if op = 25 then MS.curves (l.drop (l.length - 6)) (MS.lines (l.take (l.length - 6)) s)
  else if op = 26 ∨ op = 27 then MS.waves l (decide (op = 27)) s
  else if op = 30 ∨ op = 31 then MS.turns l (decide (op = 31)) s
  else s

def MS.draw (op : Int) (l : List Int) (s : MS) : MS :=
  if (takesN op l.length).2 = false then s.refuse 82
  else if (takesN op l.length).1 = false then s.refuse 81
  else if 1200 ≤ op then s.flex op l
  else s.strokes op l

/-- The operands behind the width, and the state. -/
def MS.behind (s : MS) (w1 : Int) (l : List Int) (many : Bool) : List Int × MS :=
  if s.asked = false ∧ many = true then (l.tail, { s with asked := true, width := nearM (l.headD 0) + w1 }) else (l, { s with asked := true })

def MS.addStems (w1 : Int) (l : List Int) (s : MS) : MS :=
  let q := s.behind w1 l (decide (l.length % 2 = 1))
  if q.1.length % 2 ≠ 0 then q.2.refuse 81
  else if 96 < q.2.stems + q.1.length / 2 then ({ q.2 with stems := q.2.stems + q.1.length / 2 } : MS).refuse 83
  else { q.2 with stems := q.2.stems + q.1.length / 2 }

def Rw.pass (r : Rw) (n : Nat) : Rw := { r with p := r.p + n, c := r.c || !(hasB r.s r.p n) }

def MS.passMask (s : MS) : MS := match s.rows with
  | [] => s
  | r :: rest =>
    let r1 := r.pass ((s.stems + 7) / 8)
    if r1.c = true then ({ s with rows := r1 :: rest } : MS).refuse 81 else { s with rows := r1 :: rest }

def MS.begin (w1 : Int) (op : Int) (l : List Int) (s : MS) : MS :=
  let k := if op = 21 then 2 else 1
  let q := s.behind w1 l (decide (l.length = k + 1))
  if q.1.length ≠ k then q.2.refuse 81
  else if op = 21 then q.2.move (q.1.getD 0 0) (q.1.getD 1 0)
  else if op = 22 then q.2.move (q.1.getD 0 0) 0
  else if op = 4 then q.2.move 0 (q.1.getD 0 0)
  else q.2

def MS.finish (w1 : Int) (l : List Int) (s : MS) : MS :=
  let q := s.behind w1 l (decide (l.length = 1) || decide (l.length = 5))
  if q.1.length = 0 then { q.2 with ended := true }
  else if q.1.length = 4 then q.2.refuse 82
  else q.2.refuse 81

def MS.take (w1 : Int) (op : Int) (l : List Int) (s : MS) : MS :=
  if op = 1 ∨ op = 3 ∨ op = 18 ∨ op = 23 then s.addStems w1 l
  else if op = 19 ∨ op = 20 then (s.addStems w1 l).passMask
  else if op = 21 ∨ op = 22 ∨ op = 4 then s.begin w1 op l
  else if op = 14 then s.finish w1 l
  else s.draw op l

def biasN (n : Nat) : Int := if n < 1240 then 107 else if n < 33900 then 1131 else 32768

def MS.call (rs : List ByteArray) (s : MS) : MS :=
  if s.stack.length = 0 then s.refuse 81
  else
    let v := s.stack.getLast?.getD 0 / 65536 + biasN rs.length
    let s1 : MS := { s with stack := s.stack.dropLast }
    if v < 0 ∨ (rs.length : Int) ≤ v then s1.refuse 81
    else if 10 < s.rows.length then s1.refuse 83
    else { s1 with rows := ⟨rs.getD v.toNat ByteArray.empty, 0, false⟩ :: s.rows }

def MS.leave (s : MS) : MS := if s.rows.length = 1 then s.refuse 81 else { s with rows := s.rows.tail }

def MS.operate (f : FS) (op : Int) (s : MS) : MS :=
  if op = 10 then s.call f.locals
  else if op = 29 then s.call f.globals
  else if op = 11 then s.leave
  else { s.take f.w1 op s.stack with stack := [] }

def MS.push (n : Int) (s : MS) : MS := if s.stack.length = 48 then s.refuse 83 else { s with stack := s.stack ++ [n] }

/-- What a byte begins, read whole: the operand or the operator, whether it is an operand, the row behind it. -/
def Rw.item (r : Rw) : (Int × Bool) × Rw :=
  let b := r.next 1
  let q := b.2.prog b.1
  if q.1.2 = true then q else (((q.2.oper b.1).1, false), (q.2.oper b.1).2)

def MS.step (f : FS) (s : MS) : MS := match s.rows with
  | [] => s
  | r :: rest =>
    if r.s.size ≤ r.p then s.refuse 81
    else if s.fuel = 20000 then s.refuse 83
    else
      let s1 : MS := { s with fuel := s.fuel + 1, rows := r.item.2 :: rest }
      if r.item.2.c = true then s1.refuse 81
      else if r.item.1.2 = true then s1.push r.item.1.1
      else s1.operate f r.item.1.1

def MS.run (f : FS) : Nat → MS → MS
  | 0, s => s
  | n + 1, s => if s.ended = true ∨ s.fault ≠ 0 then s else MS.run f n (s.step f)

def MS.start (f : FS) (b : ByteArray) : MS := ⟨[], 0, 0, 0, 0, [⟨b, 0, false⟩], [], 0, 0, f.w0, false, false⟩

/-- What Glyph answers: the outline, the width, the error's number. -/
def glyphM (f : FS) (g : Nat) : List (List Kn) × Int × Int :=
  match f.glyphs[g]? with
  | none => ([], 0, 85)
  | some b =>
    let s := MS.run f 20001 (MS.start f b)
    if s.fault ≠ 0 then ([], 0, s.fault) else (s.out, s.width, 0)

end Go.Proofs.Ytklenppldblbdaa
