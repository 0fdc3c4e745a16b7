/-
  What the machine does with a text that the law Type2Draws writes.
-/
import Derived.Test.YtklenppldblbdaaRb
namespace Go.Proofs.Ytklenppldblbdaa
open Go.RowKit Go.PlainAid
set_option linter.unusedSimpArgs false
set_option linter.unusedVariables false

/-- In k steps the machine comes from s to s'. -/
def GoN (f : FS) (k : Nat) (s s' : MS) : Prop := ∀ n, MS.run f (n + k) s = MS.run f n s'
theorem GoN.refl (f : FS) (s : MS) : GoN f 0 s s := fun n => rfl
theorem GoN.step {f : FS} {s s' : MS} (h0 : s.ended = false) (h1 : s.fault = 0) (h2 : s.step f = s') : GoN f 1 s s' := fun n => by
  rw [MS.run, if_neg (by rw [h0, h1]; simp), h2]
theorem GoN.trans {f : FS} {k m : Nat} {s s' s'' : MS} (h : GoN f k s s') (g : GoN f m s' s'') : GoN f (k + m) s s'' := fun n => by
  rw [show n + (k + m) = n + m + k by omega, h, g]

/-- The steps from point to point. -/
def deltas : Int → Int → List Kn → List Int
  | _, _, [] => []
  | x, y, k :: r => (k.x - x) * 65536 :: (k.y - y) * 65536 :: deltas k.x k.y r
def lastP : Int → Int → List Kn → Int × Int
  | x, y, [] => (x, y)
  | _, _, k :: r => lastP k.x k.y r
theorem deltas_snoc (K : Kn) : ∀ (pk : List Kn) (x y : Int), deltas x y (pk ++ [K]) = deltas x y pk ++ [(K.x - (lastP x y pk).1) * 65536] ++ [(K.y - (lastP x y pk).2) * 65536]
  | [], x, y => rfl
  | k :: r, x, y => by simp only [List.cons_append, deltas, lastP]; rw [deltas_snoc K r]
theorem lastP_snoc (K : Kn) : ∀ (pk : List Kn) (x y : Int), lastP x y (pk ++ [K]) = (K.x, K.y)
  | [], x, y => rfl
  | k :: r, x, y => by simp only [List.cons_append, lastP]; exact lastP_snoc K r _ _
theorem deltas_length : ∀ (pk : List Kn) (x y : Int), (deltas x y pk).length = 2 * pk.length
  | [], x, y => rfl
  | k :: r, x, y => by simp only [deltas, List.length_cons]; rw [deltas_length r]; omega

/-- The machine stands at place q of P; drawn is outL, the knots pk lie on the stack. -/
structure DS (P : ByteArray) (q : Nat) (outL : List (List Kn)) (pk : List Kn) (x0 y0 : Int) (nk fl : Nat) (s : MS) : Prop where
  out : s.out = outL
  knots : s.knots = nk
  x : s.x = x0 * 65536
  y : s.y = y0 * 65536
  fault : s.fault = 0
  rows : s.rows = [⟨P, q, false⟩]
  stack : s.stack = deltas x0 y0 pk
  fuel : s.fuel = fl
  ended : s.ended = false

theorem item_num {P : ByteArray} {q : Nat} {v : Int} (h : Seg P q (numB v)) (h0 : -32768 ≤ v) (h1 : v ≤ 32767) : (Rw.mk P q false).item = ((v * 65536, true), ⟨P, q + 3, false⟩) := by
  have n1 : numOr P ((q + 0 : Nat) : Int) 1 = (28, 0) := seg_byte h 0 (by rw [numB_size]; decide) 28 rfl
  rw [Nat.add_zero] at n1
  have hz := h.1
  rw [numB_size] at hz
  have b1 := h.2 1 (by rw [numB_size]; decide)
  have b2 := h.2 2 (by rw [numB_size]; decide)
  rw [numB_1 v h0 h1] at b1
  rw [numB_2 v h0 h1] at b2
  have n2 : numOr P ((q + 1 : Nat) : Int) 2 = (((unsN v : Nat) : Int), 0) := by
    have e1 : numOr P ((q + 1 : Nat) : Int) 2 = (numN P (q + 1) 2, 0) := by
      unfold numOr
      rw [if_pos (by unfold hasB; simp; omega)]
      rfl
    have e2 : numN P (q + 1) 2 = ((0 : Int) * 256 + bt P (q + 1 + 0)) * 256 + bt P (q + 1 + 1) := rfl
    rw [e1, e2, Nat.add_zero, b1, Nat.add_assoc, b2]
    congr 1
    omega
  have e1 : (Rw.mk P q false).next 1 = (28, ⟨P, q + 1, false⟩) := by
    show ((numOr P q 1).1, (⟨P, q + 1, false || decide ((numOr P q 1).2 ≠ 0)⟩ : Rw)) = _
    rw [n1]; rfl
  have e2 : (Rw.mk P (q + 1) false).next 2 = (((unsN v : Nat) : Int), ⟨P, q + 1 + 2, false⟩) := by
    show ((numOr P ((q + 1 : Nat) : Int) 2).1, (⟨P, q + 1 + 2, false || decide ((numOr P ((q + 1 : Nat) : Int) 2).2 ≠ 0)⟩ : Rw)) = _
    rw [n2]; rfl
  have e3 : sign16 ((unsN v : Nat) : Int) = v := by
    unfold sign16 unsN
    by_cases hn : v < 0
    · rw [if_pos hn, if_pos (by omega)]; omega
    · rw [if_neg hn, if_neg (by omega)]; omega
  have e4 : (Rw.mk P (q + 1) false).prog 28 = ((v * 65536, true), ⟨P, q + 3, false⟩) := by
    unfold Rw.prog
    rw [if_neg (by decide), operand_28 _ _ rfl, e2, e3]
  unfold Rw.item
  simp only [e1, e4, if_true]

theorem item_op {P : ByteArray} {q : Nat} {op : Nat} (h : Seg P q ⟨#[op.toUInt8]⟩) (ho : op ≤ 21) (h12 : op ≠ 12) : (Rw.mk P q false).item = (((op : Int), false), ⟨P, q + 1, false⟩) := by
  have e1 : (Rw.mk P q false).next 1 = ((op : Int), ⟨P, q + 1, false⟩) := seg_opr h ho
  have e4 : (Rw.mk P (q + 1) false).prog (op : Int) = ((0, false), ⟨P, q + 1, false⟩) := by
    unfold Rw.prog
    rw [if_neg (by omega), operand_no _ _ (by omega) (.inl (by omega))]
    rfl
  have e5 : (Rw.mk P (q + 1) false).oper (op : Int) = ((op : Int), ⟨P, q + 1, false⟩) := by unfold Rw.oper; rw [if_neg (by omega)]
  unfold Rw.item
  simp only [e1, e4, e5]
  rfl

/-- One push. -/
theorem push_step {f : FS} {P : ByteArray} {q : Nat} {v : Int} {s : MS} (hr : s.rows = [⟨P, q, false⟩]) (hseg : Seg P q (numB v)) (h0 : -32768 ≤ v) (h1 : v ≤ 32767) (hf : s.fuel < 20000) (hs : s.stack.length < 48) :
    s.step f = { s with fuel := s.fuel + 1, rows := [⟨P, q + 3, false⟩], stack := s.stack ++ [v * 65536] } := by
  have hi := item_num hseg h0 h1
  have hz := hseg.1
  rw [numB_size] at hz
  unfold MS.step
  rw [hr]
  simp only [hi]
  rw [if_neg (by omega), if_neg (by omega)]
  simp only [MS.push, Bool.false_eq_true, if_false, if_true]
  rw [if_neg (by show ¬ s.stack.length = 48; omega)]

/-- One operator. -/
theorem op_step {f : FS} {P : ByteArray} {q op : Nat} {s : MS} (hr : s.rows = [⟨P, q, false⟩]) (hseg : Seg P q ⟨#[op.toUInt8]⟩) (ho : op ≤ 21) (h12 : op ≠ 12) (h10 : op ≠ 10) (h11 : op ≠ 11) (hf : s.fuel < 20000) :
    s.step f = { ({ s with fuel := s.fuel + 1, rows := [⟨P, q + 1, false⟩] } : MS).take f.w1 (op : Int) s.stack with stack := [] } := by
  have hi := item_op hseg ho h12
  have hz := hseg.1
  have e : (⟨#[op.toUInt8]⟩ : ByteArray).size = 1 := rfl
  rw [e] at hz
  unfold MS.step
  rw [hr]
  simp only [hi]
  rw [if_neg (by omega), if_neg (by omega)]
  simp only [Bool.false_eq_true, if_false]
  unfold MS.operate
  rw [if_neg (by omega), if_neg (by omega), if_neg (by omega)]

theorem sum_unit (x0 X : Int) (h0 : -9000 ≤ x0 ∧ x0 ≤ 9000) (h1 : -9000 ≤ X ∧ X ≤ 9000) : sumOr (x0 * 65536) ((X - x0) * 65536) = (X * 65536, 0) := by
  unfold sumOr
  rw [if_pos (by unfold fixB; simp; omega)]
  congr 1; omega

/-- A knot's numbers are within the law's bounds. -/
def Bnd (K : Kn) : Prop := (-9000 ≤ K.x ∧ K.x ≤ 9000) ∧ (-9000 ≤ K.y ∧ K.y ≤ 9000)

theorem snoc_last (A : List (List Kn)) (d : List Kn) (K : Kn) : snocLast (A ++ [d]) K = A ++ [d ++ [K]] := by unfold snocLast; simp

theorem knot_unit (s : MS) (A : List (List Kn)) (d : List Kn) (x0 y0 : Int) (K : Kn) (hf : s.fault = 0) (ho : s.out = A ++ [d]) (hk : s.knots < 4096) (hx : s.x = x0 * 65536) (hy : s.y = y0 * 65536)
    (h0 : -9000 ≤ x0 ∧ x0 ≤ 9000) (h1 : -9000 ≤ y0 ∧ y0 ≤ 9000) (hK : Bnd K) :
    s.knot ((K.x - x0) * 65536) ((K.y - y0) * 65536) K.k = { s with x := K.x * 65536, y := K.y * 65536, fault := 0, out := A ++ [d ++ [K]], knots := s.knots + 1 } := by
  have ex := sum_unit x0 K.x h0 hK.1
  have ey := sum_unit y0 K.y h1 hK.2
  unfold MS.knot
  rw [if_neg (by rw [hf]; simp), if_neg (by rw [ho]; simp), if_neg (by omega)]
  simp only [hx, hy, ex, ey, ho, snoc_last]
  rw [nearM_unit K.x (by have := hK.1; omega) (by have := hK.1; omega), nearM_unit K.y (by have := hK.2; omega) (by have := hK.2; omega)]
  have ea : addF (addF 0 (x0 * 65536) ((K.x - x0) * 65536)) (y0 * 65536) ((K.y - y0) * 65536) = 0 := by unfold addF; rw [ex, ey]; simp
  rw [ea]

section
variable {f : FS} {P : ByteArray} {q nk fl : Nat} {A outL : List (List Kn)} {d pk : List Kn} {x0 y0 : Int} {s : MS} {K : Kn}

theorem ds_pend (h : DS P q outL pk x0 y0 nk fl s) (hs : Seg P q (numB (K.x - (lastP x0 y0 pk).1) ++ numB (K.y - (lastP x0 y0 pk).2))) (hl : (-9000 ≤ (lastP x0 y0 pk).1 ∧ (lastP x0 y0 pk).1 ≤ 9000) ∧ (-9000 ≤ (lastP x0 y0 pk).2 ∧ (lastP x0 y0 pk).2 ≤ 9000)) (hK : Bnd K)
    (hp : pk.length ≤ 20) (hf : fl + 2 ≤ 20000) : ∃ s', GoN f 2 s s' ∧ DS P (q + 6) outL (pk ++ [K]) x0 y0 nk (fl + 2) s' := by
  have hd := deltas_length pk x0 y0
  have hst := h.stack
  have e1 := push_step (f := f) h.rows hs.left (by have := hK.1; omega) (by have := hK.1; omega) (by have := h.fuel; omega) (by rw [hst, hd]; omega)
  have hs2 := hs.right
  rw [numB_size] at hs2
  have e2 := push_step (f := f) (s := { s with fuel := s.fuel + 1, rows := [⟨P, q + 3, false⟩], stack := s.stack ++ [(K.x - (lastP x0 y0 pk).1) * 65536] }) rfl hs2 (by have := hK.2; omega) (by have := hK.2; omega) (by show s.fuel + 1 < 20000; have := h.fuel; omega) (by show (s.stack ++ [_]).length < 48; rw [List.length_append, hst, hd]; simp; omega)
  refine ⟨_, (GoN.step h.ended h.fault e1).trans (GoN.step h.ended h.fault e2), ⟨h.out, h.knots, h.x, h.y, h.fault, rfl, ?_, ?_, h.ended⟩⟩
  · show s.stack ++ [_] ++ [_] = _
    rw [hst, deltas_snoc]
  · show s.fuel + 1 + 1 = fl + 2
    have := h.fuel; omega

theorem ds_move (h : DS P q outL [K] x0 y0 nk fl s) (hs : Seg P q ⟨#[21]⟩) (h0 : -9000 ≤ x0 ∧ x0 ≤ 9000) (h1 : -9000 ≤ y0 ∧ y0 ≤ 9000) (hK : Bnd K) (hk : K.k = 1) (ho : outL.length < 256) (hn : nk < 4096) (hf : fl + 1 ≤ 20000) :
    ∃ s', GoN f 1 s s' ∧ DS P (q + 1) (outL ++ [[K]]) [] K.x K.y (nk + 1) (fl + 1) s' := by
  have e := op_step (f := f) (op := 21) h.rows hs (by decide) (by decide) (by decide) (by decide) (by have := h.fuel; omega)
  have hst : s.stack = [(K.x - x0) * 65536, (K.y - y0) * 65536] := h.stack
  have ht : ({ s with fuel := s.fuel + 1, rows := [⟨P, q + 1, false⟩] } : MS).take f.w1 ((21 : Nat) : Int) s.stack = ({ s with fuel := s.fuel + 1, rows := [⟨P, q + 1, false⟩], asked := true, out := s.out ++ [[]] } : MS).knot ((K.x - x0) * 65536) ((K.y - y0) * 65536) K.k := by
    rw [hst, hk]
    unfold MS.take
    rw [if_neg (by decide), if_neg (by decide), if_pos (by decide)]
    have hne : ¬ s.out.length = 256 := by rw [h.out]; omega
    simp [MS.begin, MS.behind, MS.move, hne]
  have hk2 := knot_unit ({ s with fuel := s.fuel + 1, rows := [⟨P, q + 1, false⟩], asked := true, out := s.out ++ [[]] } : MS) s.out [] x0 y0 K h.fault rfl (by show s.knots < 4096; have := h.knots; omega) h.x h.y h0 h1 hK
  rw [ht, hk2] at e
  exact ⟨_, GoN.step h.ended h.fault e, ⟨by show s.out ++ [[] ++ [K]] = _; rw [h.out]; rfl, by show s.knots + 1 = _; rw [h.knots], rfl, rfl, rfl, rfl, rfl, by show s.fuel + 1 = _; rw [h.fuel], h.ended⟩⟩

theorem ds_line (h : DS P q (A ++ [d]) [K] x0 y0 nk fl s) (hs : Seg P q ⟨#[5]⟩) (h0 : -9000 ≤ x0 ∧ x0 ≤ 9000) (h1 : -9000 ≤ y0 ∧ y0 ≤ 9000) (hK : Bnd K) (hk : K.k = 1) (hn : nk < 4096) (hf : fl + 1 ≤ 20000) :
    ∃ s', GoN f 1 s s' ∧ DS P (q + 1) (A ++ [d ++ [K]]) [] K.x K.y (nk + 1) (fl + 1) s' := by
  have e := op_step (f := f) (op := 5) h.rows hs (by decide) (by decide) (by decide) (by decide) (by have := h.fuel; omega)
  have hst : s.stack = [(K.x - x0) * 65536, (K.y - y0) * 65536] := h.stack
  have ht : ({ s with fuel := s.fuel + 1, rows := [⟨P, q + 1, false⟩] } : MS).take f.w1 ((5 : Nat) : Int) s.stack = ({ s with fuel := s.fuel + 1, rows := [⟨P, q + 1, false⟩] } : MS).knot ((K.x - x0) * 65536) ((K.y - y0) * 65536) K.k := by
    rw [hst, hk]
    unfold MS.take
    rw [if_neg (by decide), if_neg (by decide), if_neg (by decide), if_neg (by decide)]
    unfold MS.draw
    simp only [List.length_cons, List.length_nil]
    rw [if_neg (by decide), if_neg (by decide), if_neg (by decide)]
    unfold MS.strokes
    rw [if_pos (by decide)]
    rfl
  have hk2 := knot_unit ({ s with fuel := s.fuel + 1, rows := [⟨P, q + 1, false⟩] } : MS) A d x0 y0 K h.fault h.out (by show s.knots < 4096; have := h.knots; omega) h.x h.y h0 h1 hK
  rw [ht, hk2] at e
  exact ⟨_, GoN.step h.ended h.fault e, ⟨rfl, by show s.knots + 1 = _; rw [h.knots], rfl, rfl, rfl, rfl, rfl, by show s.fuel + 1 = _; rw [h.fuel], h.ended⟩⟩

theorem ds_curve {K1 K2 : Kn} (h : DS P q (A ++ [d]) [K1, K2, K] x0 y0 nk fl s) (hs : Seg P q ⟨#[8]⟩) (h0 : -9000 ≤ x0 ∧ x0 ≤ 9000) (h1 : -9000 ≤ y0 ∧ y0 ≤ 9000) (hK1 : Bnd K1) (hK2 : Bnd K2) (hK : Bnd K) (hk1 : K1.k = 3) (hk2 : K2.k = 3) (hk : K.k = 1) (hn : nk + 2 < 4096) (hf : fl + 1 ≤ 20000) :
    ∃ s', GoN f 1 s s' ∧ DS P (q + 1) (A ++ [d ++ [K1, K2, K]]) [] K.x K.y (nk + 3) (fl + 1) s' := by
  have e := op_step (f := f) (op := 8) h.rows hs (by decide) (by decide) (by decide) (by decide) (by have := h.fuel; omega)
  have hst : s.stack = [(K1.x - x0) * 65536, (K1.y - y0) * 65536, (K2.x - K1.x) * 65536, (K2.y - K1.y) * 65536, (K.x - K2.x) * 65536, (K.y - K2.y) * 65536] := h.stack
  have ht : ({ s with fuel := s.fuel + 1, rows := [⟨P, q + 1, false⟩] } : MS).take f.w1 ((8 : Nat) : Int) s.stack =
      ((({ s with fuel := s.fuel + 1, rows := [⟨P, q + 1, false⟩] } : MS).knot ((K1.x - x0) * 65536) ((K1.y - y0) * 65536) K1.k).knot ((K2.x - K1.x) * 65536) ((K2.y - K1.y) * 65536) K2.k).knot ((K.x - K2.x) * 65536) ((K.y - K2.y) * 65536) K.k := by
    rw [hst, hk1, hk2, hk]
    unfold MS.take
    rw [if_neg (by decide), if_neg (by decide), if_neg (by decide), if_neg (by decide)]
    unfold MS.draw
    simp only [List.length_cons, List.length_nil]
    rw [if_neg (by decide), if_neg (by decide), if_neg (by decide)]
    unfold MS.strokes
    rw [if_neg (by decide), if_neg (by decide), if_pos (by decide)]
    rfl
  rw [ht, knot_unit ({ s with fuel := s.fuel + 1, rows := [⟨P, q + 1, false⟩] } : MS) A d x0 y0 K1 h.fault h.out (by show s.knots < 4096; have := h.knots; omega) h.x h.y h0 h1 hK1,
    knot_unit _ A (d ++ [K1]) K1.x K1.y K2 rfl rfl (by show s.knots + 1 < 4096; have := h.knots; omega) rfl rfl hK1.1 hK1.2 hK2,
    knot_unit _ A (d ++ [K1] ++ [K2]) K2.x K2.y K rfl rfl (by show s.knots + 1 + 1 < 4096; have := h.knots; omega) rfl rfl hK2.1 hK2.2 hK] at e
  exact ⟨_, GoN.step h.ended h.fault e, ⟨by show A ++ [d ++ [K1] ++ [K2] ++ [K]] = _; simp, by show s.knots + 1 + 1 + 1 = _; rw [h.knots], rfl, rfl, rfl, rfl, rfl, by show s.fuel + 1 = _; rw [h.fuel], h.ended⟩⟩

theorem ds_end (h : DS P q outL [] x0 y0 nk fl s) (hs : Seg P q ⟨#[14]⟩) (hf : fl + 1 ≤ 20000) : ∃ s', GoN f 1 s s' ∧ s'.out = outL ∧ s'.fault = 0 ∧ s'.ended = true := by
  have e := op_step (f := f) (op := 14) h.rows hs (by decide) (by decide) (by decide) (by decide) (by have := h.fuel; omega)
  have hst : s.stack = [] := h.stack
  have ht : ({ s with fuel := s.fuel + 1, rows := [⟨P, q + 1, false⟩] } : MS).take f.w1 ((14 : Nat) : Int) s.stack = { s with fuel := s.fuel + 1, rows := [⟨P, q + 1, false⟩], asked := true, ended := true } := by
    rw [hst]
    unfold MS.take
    rw [if_neg (by decide), if_neg (by decide), if_neg (by decide), if_pos (by decide)]
    simp [MS.finish, MS.behind]
  rw [ht] at e
  exact ⟨_, GoN.step h.ended h.fault e, h.out, h.fault, rfl⟩
end

theorem run_ended (f : FS) (s : MS) (h : s.ended = true) : ∀ n, MS.run f n s = s
  | 0 => rfl
  | n + 1 => by rw [MS.run, if_pos (.inl h)]

/-- The text t draws outL, with pk on the stack; n knots have been written. -/
def Rch (O : List (List Kn)) (t : ByteArray) (outL : List (List Kn)) (pk : List Kn) (x0 y0 : Int) (n : Nat) : Prop :=
  n ≤ 2000 → O.length ≤ 256 → ∀ (f : FS) (P : ByteArray), Seg P 0 t → ∃ fl s, fl + (if pk.length = 0 then 0 else 1) ≤ 3 * n ∧ GoN f fl (MS.start f P) s ∧ DS P t.size outL pk x0 y0 (n - pk.length) fl s

theorem rch_start (O : List (List Kn)) : Rch O ByteArray.empty [] [] 0 0 0 := fun _ _ f P _ =>
  ⟨0, MS.start f P, Nat.le_refl _, GoN.refl _ _, ⟨rfl, rfl, rfl, rfl, rfl, rfl, rfl, rfl, rfl⟩⟩

section
variable {O A outL : List (List Kn)} {t : ByteArray} {d pk : List Kn} {x0 y0 : Int} {n : Nat} {K : Kn}

theorem Rch.pend (h : Rch O t outL pk x0 y0 n) (hl : (-9000 ≤ (lastP x0 y0 pk).1 ∧ (lastP x0 y0 pk).1 ≤ 9000) ∧ (-9000 ≤ (lastP x0 y0 pk).2 ∧ (lastP x0 y0 pk).2 ≤ 9000)) (hK : Bnd K) (hp : pk.length ≤ 20) :
    Rch O (t ++ numB (K.x - (lastP x0 y0 pk).1) ++ numB (K.y - (lastP x0 y0 pk).2)) outL (pk ++ [K]) x0 y0 (n + 1) := fun hn hO f P hs => by
  rw [join_assoc] at hs
  obtain ⟨fl, s, k1, k2, k3⟩ := h (by omega) hO f P hs.left
  have hr := hs.right
  rw [Nat.zero_add] at hr
  have hfl : fl ≤ 3 * n := by split at k1 <;> omega
  obtain ⟨s', g1, g2⟩ := ds_pend (f := f) k3 hr hl hK hp (by omega)
  refine ⟨fl + 2, s', by rw [if_neg (by simp)]; omega, k2.trans g1, ?_⟩
  have e1 : (t ++ numB (K.x - (lastP x0 y0 pk).1) ++ numB (K.y - (lastP x0 y0 pk).2)).size = t.size + 6 := by rw [ByteArray.size_append, ByteArray.size_append, numB_size, numB_size]
  rw [e1, List.length_append, List.length_singleton, Nat.add_sub_add_right]
  exact g2

theorem seg_tail {P t u : ByteArray} (h : Seg P 0 (t ++ u)) : Seg P t.size u := by have := h.right; rwa [Nat.zero_add] at this

theorem Rch.move (h : Rch O t outL [K] x0 y0 n) (h0 : -9000 ≤ x0 ∧ x0 ≤ 9000) (h1 : -9000 ≤ y0 ∧ y0 ≤ 9000) (hK : Bnd K) (hk : K.k = 1) (ho : outL.length < O.length) (hn1 : 1 ≤ n) :
    Rch O (t ++ ⟨#[21]⟩) (outL ++ [[K]]) [] K.x K.y n := fun hn hO f P hs => by
  obtain ⟨fl, s, k1, k2, k3⟩ := h hn hO f P hs.left
  rw [if_neg (by simp)] at k1
  obtain ⟨s', g1, g2⟩ := ds_move (f := f) k3 (seg_tail hs) h0 h1 hK hk (by omega) (by omega) (by omega)
  refine ⟨fl + 1, s', (show fl + 1 + 0 ≤ 3 * n by omega), k2.trans g1, ?_⟩
  rw [ByteArray.size_append, show n - ([] : List Kn).length = n - [K].length + 1 by simp; omega]
  exact g2

theorem Rch.line (h : Rch O t (A ++ [d]) [K] x0 y0 n) (h0 : -9000 ≤ x0 ∧ x0 ≤ 9000) (h1 : -9000 ≤ y0 ∧ y0 ≤ 9000) (hK : Bnd K) (hk : K.k = 1) (hn1 : 1 ≤ n) :
    Rch O (t ++ ⟨#[5]⟩) (A ++ [d ++ [K]]) [] K.x K.y n := fun hn hO f P hs => by
  obtain ⟨fl, s, k1, k2, k3⟩ := h hn hO f P hs.left
  rw [if_neg (by simp)] at k1
  obtain ⟨s', g1, g2⟩ := ds_line (f := f) k3 (seg_tail hs) h0 h1 hK hk (by omega) (by omega)
  refine ⟨fl + 1, s', (show fl + 1 + 0 ≤ 3 * n by omega), k2.trans g1, ?_⟩
  rw [ByteArray.size_append, show n - ([] : List Kn).length = n - [K].length + 1 by simp; omega]
  exact g2

theorem Rch.curve {K1 K2 : Kn} (h : Rch O t (A ++ [d]) [K1, K2, K] x0 y0 n) (h0 : -9000 ≤ x0 ∧ x0 ≤ 9000) (h1 : -9000 ≤ y0 ∧ y0 ≤ 9000) (hK1 : Bnd K1) (hK2 : Bnd K2) (hK : Bnd K) (hk1 : K1.k = 3) (hk2 : K2.k = 3) (hk : K.k = 1) (hn1 : 3 ≤ n) :
    Rch O (t ++ ⟨#[8]⟩) (A ++ [d ++ [K1, K2, K]]) [] K.x K.y n := fun hn hO f P hs => by
  obtain ⟨fl, s, k1, k2, k3⟩ := h hn hO f P hs.left
  rw [if_neg (by simp)] at k1
  obtain ⟨s', g1, g2⟩ := ds_curve (f := f) k3 (seg_tail hs) h0 h1 hK1 hK2 hK hk1 hk2 hk (by simp; omega) (by omega)
  refine ⟨fl + 1, s', (show fl + 1 + 0 ≤ 3 * n by omega), k2.trans g1, ?_⟩
  rw [ByteArray.size_append, show n - ([] : List Kn).length = n - [K1, K2, K].length + 3 by simp; omega]
  exact g2

theorem Rch.done (h : Rch O t O [] x0 y0 n) (hn : n ≤ 2000) (hO : O.length ≤ 256) (f : FS) (hf : f.glyphs[0]? = some (t ++ ⟨#[14]⟩)) : (glyphM f 0).1 = O ∧ (glyphM f 0).2.2 = 0 := by
  have hs : Seg (t ++ ⟨#[14]⟩) 0 (t ++ ⟨#[14]⟩) := ⟨by omega, fun i _ => by rw [Nat.zero_add]⟩
  obtain ⟨fl, s, k1, k2, k3⟩ := h hn hO f (t ++ ⟨#[14]⟩) hs.left
  have k1 : fl + 0 ≤ 3 * n := k1
  obtain ⟨s', g1, g2, g3, g4⟩ := ds_end (f := f) k3 (seg_tail hs) (by omega)
  have hr := (k2.trans g1) (20001 - (fl + 1))
  rw [show 20001 - (fl + 1) + (fl + 1) = 20001 by omega, run_ended f s' g4] at hr
  have e : glyphM f 0 = if (MS.run f 20001 (MS.start f (t ++ ⟨#[14]⟩))).fault ≠ 0 then ([], 0, (MS.run f 20001 (MS.start f (t ++ ⟨#[14]⟩))).fault) else ((MS.run f 20001 (MS.start f (t ++ ⟨#[14]⟩))).out, (MS.run f 20001 (MS.start f (t ++ ⟨#[14]⟩))).width, 0) := by unfold glyphM; rw [hf]
  rw [e, hr, if_neg (by rw [g3]; simp)]
  exact ⟨g2, rfl⟩
end

end Go.Proofs.Ytklenppldblbdaa
