/-
  Arguments opened: rows of knots and of points, rows of such rows: each is told by its list; how long such a row can be.
-/
import Derived.Test.YtnoadceeenioeaaZa
import Derived.ChangeSame
import Derived.ChangeSlices
import Derived.OpenShut
import Derived.SizedLaws
namespace Go.Proofs.Ytnoadceeenioeaa
open Go.RowKit Go.PlainAid Go.ChangeShapes Go.WideShapes Go.ChangeAt
set_option linter.unusedSimpArgs false
set_option linter.unusedVariables false

theorem add_plus (b off i j : Nat) : ((⟨b, off, none⟩ : Addr).add i).add j = ⟨b, off + i + j, none⟩ := by rw [Addr.add_lit, Addr.add_lit]
theorem cellsI : Try.prog.cellsOf 3 = 1 := by kernel_rfl
theorem cellsKn : Try.prog.cellsOf 59 = 3 := by kernel_rfl
theorem cellsSp : Try.prog.cellsOf 38 = 2 := by kernel_rfl
theorem cellsKs : Try.prog.cellsOf 57 = 1 := by kernel_rfl
theorem bytesKn : Try.checked.prog.bytesOf 59 = 24 := by kernel_rfl
theorem bytesSp : Try.checked.prog.bytesOf 38 = 16 := by kernel_rfl
theorem bytesKs : Try.checked.prog.bytesOf 57 = 24 := by kernel_rfl

/-- The numbers of a knot, of a point are numbers of the machine. -/
def WfK (k : Kn) : Prop := (Lit.int .i64 k.x).wf = true ∧ (Lit.int .i64 k.y).wf = true ∧ (Lit.int .i64 k.k).wf = true
def WfS (p : Sp) : Prop := (Lit.int .i64 p.x).wf = true ∧ (Lit.int .i64 p.y).wf = true

theorem one_of {α : Type} {l : List α} {j : Nat} {x : α} (h : (l.drop j).take 1 = [x]) : l[j]? = some x := by
  have a0 : ((l.drop j).take 1)[0]? = some x := by rw [h]; rfl
  rw [List.getElem?_take, List.getElem?_drop] at a0
  simpa using a0

theorem list3 {α : Type} {l : List α} {a b c : α} (hl : l.length = 3) (h0 : l[0]? = some a) (h1 : l[1]? = some b) (h2 : l[2]? = some c) : l = [a, b, c] := by
  match l, hl with
  | [_, _, _], _ => simp at h0 h1 h2; rw [h0, h1, h2]
theorem list2 {α : Type} {l : List α} {a b : α} (hl : l.length = 2) (h0 : l[0]? = some a) (h1 : l[1]? = some b) : l = [a, b] := by
  match l, hl with
  | [_, _], _ => simp at h0 h1; rw [h0, h1]

theorem knot_in {H : Type} {enc : TypeId × Value → H} {w : World} {sp : Nat → Bool} {fuel : Nat} {cs : List Value} {x : DataW H × List MemPlace} (h : DataW.trod enc Try.prog w 0 sp true fuel 59 cs = some x) :
    ∃ k : Kn, cs = clK k ∧ WfK k := by
  obtain ⟨xs, n, _, rfl, hl, hlen, hf⟩ := DataW.trod_struct Try.underlying59 h
  rw [cellsKn] at hl
  match xs, hlen with
  | [y0, y1, y2], _ =>
    have h0 : DataW.trod enc Try.prog w 0 sp true n 3 ((cs.drop 0).take (Try.prog.cellsOf 3)) = some y0 := hf 0 _ rfl
    have h1 : DataW.trod enc Try.prog w 0 sp true n 3 ((cs.drop 1).take (Try.prog.cellsOf 3)) = some y1 := hf 1 _ rfl
    have h2 : DataW.trod enc Try.prog w 0 sp true n 3 ((cs.drop 2).take (Try.prog.cellsOf 3)) = some y2 := hf 2 _ rfl
    obtain ⟨a, e0, _, w0⟩ := DataW.trod_int Try.underlying3 h0
    obtain ⟨b, e1, _, w1⟩ := DataW.trod_int Try.underlying3 h1
    obtain ⟨c, e2, _, w2⟩ := DataW.trod_int Try.underlying3 h2
    rw [cellsI] at e0 e1 e2
    have g0 := one_of e0
    have g1 := one_of e1
    have g2 := one_of e2
    exact ⟨⟨a, b, c⟩, list3 hl g0 g1 g2, w0, w1, w2⟩

theorem spot_in {H : Type} {enc : TypeId × Value → H} {w : World} {sp : Nat → Bool} {fuel : Nat} {cs : List Value} {x : DataW H × List MemPlace} (h : DataW.trod enc Try.prog w 0 sp true fuel 38 cs = some x) :
    ∃ k : Sp, cs = clS k ∧ WfS k := by
  obtain ⟨xs, n, _, rfl, hl, hlen, hf⟩ := DataW.trod_struct Try.underlying38 h
  rw [cellsSp] at hl
  match xs, hlen with
  | [y0, y1], _ =>
    have h0 : DataW.trod enc Try.prog w 0 sp true n 3 ((cs.drop 0).take (Try.prog.cellsOf 3)) = some y0 := hf 0 _ rfl
    have h1 : DataW.trod enc Try.prog w 0 sp true n 3 ((cs.drop 1).take (Try.prog.cellsOf 3)) = some y1 := hf 1 _ rfl
    obtain ⟨a, e0, _, w0⟩ := DataW.trod_int Try.underlying3 h0
    obtain ⟨b, e1, _, w1⟩ := DataW.trod_int Try.underlying3 h1
    rw [cellsI] at e0 e1
    have g0 := one_of e0
    have g1 := one_of e1
    exact ⟨⟨a, b⟩, list2 hl g0 g1, w0, w1⟩

/-- A list of things, one for each place. -/
theorem list_of {α : Type} {n : Nat} {R : Nat → α → Prop} (h : ∀ i, i < n → ∃ x, R i x) : ∃ L : List α, L.length = n ∧ ∀ (i : Nat) (x : α), L[i]? = some x → R i x := by
  induction n with
  | zero => exact ⟨[], rfl, fun i x h => by simp at h⟩
  | succ n ih =>
    obtain ⟨L, hl, hL⟩ := ih (fun i hi => h i (by omega))
    obtain ⟨x, hx⟩ := h n (by omega)
    refine ⟨L ++ [x], by simp [hl], fun i y hy => ?_⟩
    by_cases hi : i < L.length
    · rw [List.getElem?_append_left hi] at hy; exact hL i y hy
    · rw [List.getElem?_append_right (by omega)] at hy
      have : i = n := by
        have := (List.getElem?_eq_some_iff.1 hy).1
        simp at this; omega
      subst this
      rw [hl, Nat.sub_self] at hy
      simp at hy; subst hy; exact hx

/-- A row opened, whatever its elements are (R: what an element is, by its cells and its datum). -/
theorem row_in {H : Type} {enc : TypeId × Value → H} {w : World} {sp : Nat → Bool} {t e : TypeId} {s : Nat} {α : Type} {R : α → List Value → DataW H → Prop} (hu : Try.prog.underlying t = some (.slice e)) (hs : Try.prog.cellsOf e = s) (hs0 : 0 < s)
    (hel : ∀ fuel cs x, DataW.trod enc Try.prog w 0 sp true fuel e cs = some x → ∃ y, R y cs x.1) {fuel : Nat} {cs : List Value} {x : DataW H × List MemPlace} (h : DataW.trod enc Try.prog w 0 sp true fuel t cs = some x) :
    ∃ (a : Option Addr) (cap : Nat) (L : List α), cs = [.slice a L.length cap] ∧ L.length ≤ cap ∧
      (L = [] ∨ ∃ b off, a = some ⟨b, off, none⟩ ∧ ∀ (i : Nat) (y : α), L[i]? = some y → ∃ ys d, R y ys d ∧ ys.length = s ∧ Lies w b (off + i * s) ys) ∧
      ((x.1 = .nil ∧ L = []) ∨ ∃ elems spare, x.1 = .slice elems spare ∧ elems.length = L.length ∧ ∀ (i : Nat) (y : α), L[i]? = some y → ∃ ys d, R y ys d ∧ elems[i]? = some d) := by
  rcases DataW.trod_slice hu h with ⟨rfl, rfl⟩ | ⟨⟨b, off, spot⟩, len, cap, elems, rest, n, _, rfl, rfl, _, hl, hm, hlen, hall, _, _⟩
  · exact ⟨none, 0, [], rfl, Nat.le_refl _, .inl rfl, .inl ⟨rfl, rfl⟩⟩
  · rw [hs] at hall
    have hone : ∀ i, i < len → ∃ y : α, ∃ ys d, R y ys d ∧ ys.length = s ∧ (elems.map (·.1))[i]? = some d ∧ ∀ j, j < s → w.cell? (((⟨b, off, spot⟩ : Addr).add (i * s)).add j) = ys[j]? := by
      intro i hi
      have h1 := hall i hi
      obtain ⟨z, hz⟩ : ∃ z, elems[i]? = some z := ⟨_, List.getElem?_eq_getElem (by omega)⟩
      rw [hz, Option.bind_eq_some_iff] at h1
      obtain ⟨ys, hys, ht⟩ := h1
      obtain ⟨y, hy⟩ := hel _ _ _ ht
      obtain ⟨k1, k2, k3⟩ := World.cells?_some hys
      exact ⟨y, ys, z.1, hy, k2, by simp [hz], k3⟩
    obtain ⟨L, hL, hR⟩ := list_of hone
    refine ⟨some ⟨b, off, spot⟩, cap, L, by rw [hL], by omega, ?_, .inr ⟨_, _, rfl, by simp [hlen, hL], fun i y hy => ?_⟩⟩
    · by_cases h0 : len = 0
      · exact .inl (List.eq_nil_of_length_eq_zero (by omega))
      · obtain ⟨y, ys, d, _, k1, _, k2⟩ := hone 0 (by omega)
        have hc := k2 0 hs0
        obtain ⟨u, hu0⟩ : ∃ u, ys[0]? = some u := ⟨_, List.getElem?_eq_getElem (by omega)⟩
        rw [hu0] at hc
        have hspot : spot = none := by simpa [Addr.add] using World.cell?_spot hc
        subst hspot
        refine .inr ⟨b, off, rfl, fun i y hy => ?_⟩
        obtain ⟨ys, d, r1, r2, _, r3⟩ := hR i y hy
        refine ⟨ys, d, r1, r2, fun j u hj => ?_⟩
        have hj2 : j < s := by have := (List.getElem?_eq_some_iff.1 hj).1; omega
        have := r3 j hj2
        rw [add_plus, hj] at this
        exact this
    · obtain ⟨ys, d, r1, _, r2, _⟩ := hR i y hy
      exact ⟨ys, d, r1, r2⟩

/-- What lies element by element lies as one row. -/
theorem isR_of {α : Type} {cl : α → List Value} {s : Nat} (hcl : ∀ x, (cl x).length = s) (hs0 : 0 < s) {w : World} {b off : Nat} {L : List α} (h : ∀ (i : Nat) (y : α), L[i]? = some y → Lies w b (off + i * s) (cl y)) : Lies w b off (L.flatMap cl) := by
  intro j u hj
  have hlt : j < L.length * s := by rw [← flat_length hcl L]; exact (List.getElem?_eq_some_iff.1 hj).1
  have hi : j / s < L.length := (Nat.div_lt_iff_lt_mul hs0).2 hlt
  obtain ⟨y, hy⟩ : ∃ y, L[j / s]? = some y := ⟨_, List.getElem?_eq_getElem hi⟩
  have hr := Nat.mod_lt j hs0
  have e : j / s * s + j % s = j := by rw [Nat.mul_comm]; exact Nat.div_add_mod j s
  have h1 := flat_at hcl L (j / s) y hy (j % s) hr
  rw [e] at h1
  rw [h1] at hj
  have := h _ y hy _ _ hj
  rwa [Nat.add_assoc, e] at this

/-- A row of knots, of points, by its cells. -/
theorem knots_in {H : Type} {enc : TypeId × Value → H} {w : World} {sp : Nat → Bool} {fuel : Nat} {cs : List Value} {x : DataW H × List MemPlace} (h : DataW.trod enc Try.prog w 0 sp true fuel 57 cs = some x) :
    ∃ a cap, ∃ L : List Kn, cs = [.slice a L.length cap] ∧ L.length ≤ cap ∧ IsR clK w a L ∧ (∀ k ∈ L, WfK k) ∧ ((x.1 = .nil ∧ L = []) ∨ ∃ elems spare, x.1 = .slice elems spare ∧ elems.length = L.length) := by
  obtain ⟨a, cap, L, h1, h2, h3, h4⟩ := row_in (R := fun k cs _ => cs = clK k ∧ WfK k) Try.underlying57 cellsKn (by decide) (fun _ _ _ h => knot_in h) h
  refine ⟨a, cap, L, h1, h2, ?_, ?_, ?_⟩
  · rcases h3 with h3 | ⟨b, off, h3, h5⟩
    · exact .inl h3
    · refine .inr ⟨b, off, h3, isR_of clK_length (by decide) fun i y hy => ?_⟩
      obtain ⟨_, _, ⟨rfl, _⟩, _, h6⟩ := h5 i y hy
      exact h6
  · intro k hk
    obtain ⟨i, hi⟩ := List.mem_iff_getElem?.1 hk
    rcases h3 with rfl | ⟨b, off, h3, h5⟩
    · simp at hk
    · obtain ⟨_, _, ⟨_, h6⟩, _⟩ := h5 i k hi
      exact h6
  · rcases h4 with h4 | ⟨el, spa, h4, h5, _⟩
    · exact .inl h4
    · exact .inr ⟨el, spa, h4, h5⟩
theorem spots_in {H : Type} {enc : TypeId × Value → H} {w : World} {sp : Nat → Bool} {fuel : Nat} {cs : List Value} {x : DataW H × List MemPlace} (h : DataW.trod enc Try.prog w 0 sp true fuel 27 cs = some x) :
    ∃ a cap, ∃ L : List Sp, cs = [.slice a L.length cap] ∧ L.length ≤ cap ∧ IsR clS w a L ∧ (∀ k ∈ L, WfS k) ∧ ((x.1 = .nil ∧ L = []) ∨ ∃ elems spare, x.1 = .slice elems spare ∧ elems.length = L.length) := by
  obtain ⟨a, cap, L, h1, h2, h3, h4⟩ := row_in (R := fun k cs _ => cs = clS k ∧ WfS k) Try.underlying27 cellsSp (by decide) (fun _ _ _ h => spot_in h) h
  refine ⟨a, cap, L, h1, h2, ?_, ?_, ?_⟩
  · rcases h3 with h3 | ⟨b, off, h3, h5⟩
    · exact .inl h3
    · refine .inr ⟨b, off, h3, isR_of clS_length (by decide) fun i y hy => ?_⟩
      obtain ⟨_, _, ⟨rfl, _⟩, _, h6⟩ := h5 i y hy
      exact h6
  · intro k hk
    obtain ⟨i, hi⟩ := List.mem_iff_getElem?.1 hk
    rcases h3 with rfl | ⟨b, off, h3, h5⟩
    · simp at hk
    · obtain ⟨_, _, ⟨_, h6⟩, _⟩ := h5 i k hi
      exact h6
  · rcases h4 with h4 | ⟨el, spa, h4, h5, _⟩
    · exact .inl h4
    · exact .inr ⟨el, spa, h4, h5⟩

/-- A row of rows of knots, by its cells. -/
def InnerD {H : Type} (c : List Kn) (d : DataW H) : Prop := (d = .nil ∧ c = []) ∨ ∃ elems spare, d = .slice elems spare ∧ elems.length = c.length
theorem outline_in {H : Type} {enc : TypeId × Value → H} {w : World} {sp : Nat → Bool} {fuel : Nat} {cs : List Value} {x : DataW H × List MemPlace} (h : DataW.trod enc Try.prog w 0 sp true fuel 26 cs = some x) :
    ∃ a cap, ∃ O : List (List Kn), cs = [.slice a O.length cap] ∧ O.length ≤ cap ∧ IsO clK w a O ∧ (∀ c ∈ O, ∀ k ∈ c, WfK k) ∧
      ((x.1 = .nil ∧ O = []) ∨ ∃ elems spare, x.1 = .slice elems spare ∧ elems.length = O.length ∧ ∀ (i : Nat) (c : List Kn), O[i]? = some c → ∃ d, elems[i]? = some d ∧ InnerD c d) := by
  obtain ⟨a, cap, L, h1, h2, h3, h4⟩ := row_in (R := fun (c : List Kn) cs d => ∃ ai ci, cs = [.slice ai c.length ci] ∧ c.length ≤ ci ∧ IsR clK w ai c ∧ (∀ k ∈ c, WfK k) ∧ InnerD c d) Try.underlying26 cellsKs (by decide)
    (fun _ _ _ h => by obtain ⟨ai, ci, c, r⟩ := knots_in h; exact ⟨c, ai, ci, r⟩) h
  refine ⟨a, cap, L, h1, h2, ?_, ?_, ?_⟩
  · rcases h3 with h3 | ⟨b, off, h3, h5⟩
    · exact .inl h3
    · refine .inr ⟨b, off, h3, fun i c hc => ?_⟩
      obtain ⟨_, _, ⟨ai, ci, rfl, k1, k2, _⟩, _, k3⟩ := h5 i c hc
      have := k3 0 _ rfl
      rw [Nat.mul_one, Nat.add_zero] at this
      exact ⟨ai, ci, this, k1, k2⟩
  · intro c hc
    obtain ⟨i, hi⟩ := List.mem_iff_getElem?.1 hc
    rcases h3 with rfl | ⟨b, off, h3, h5⟩
    · simp at hc
    · obtain ⟨_, _, ⟨_, _, _, _, _, h6, _⟩, _⟩ := h5 i c hi
      exact h6
  · rcases h4 with h4 | ⟨el, spa, h4, h5, h6⟩
    · exact .inl h4
    · refine .inr ⟨el, spa, h4, h5, fun i c hc => ?_⟩
      obtain ⟨_, d, ⟨_, _, _, _, _, _, k⟩, hd⟩ := h6 i c hc
      exact ⟨d, hd, k⟩

theorem weights_all {H : Type} {P : Program} {e : TypeId} : ∀ {l : List (DataW H)} {d : DataW H}, d ∈ l → ∀ n ∈ d.weights P e, n ∈ DataW.weightsAll P e l
  | x :: r, d, h, n, hn => by
    simp only [DataW.weightsAll, List.mem_append]
    rcases List.mem_cons.1 h with rfl | h
    · exact Or.inl hn
    · exact Or.inr (weights_all h n hn)
theorem reach_at : reachBytes = 140737488351232 := by decide
/-- How a datum of an outline, of a row of knots, of a row of points says its list's lengths. -/
def OutD {H : Type} (O : List (List Kn)) (d : DataW H) : Prop := (d = .nil ∧ O = []) ∨ ∃ elems spare, d = .slice elems spare ∧ elems.length = O.length ∧ ∀ (i : Nat) (c : List Kn), O[i]? = some c → ∃ d, elems[i]? = some d ∧ InnerD c d
theorem sized_out {H : Type} {ts : List TypeId} {ds : List (DataW H)} {j : Nat} {d : DataW H} {O : List (List Kn)} (hsz : (DataW.weightsEach Try.checked.prog ts ds).all (· ≤ reachBytes) = true) (ht : ts[j]? = some 26) (hd : ds[j]? = some d) (h : OutD O d) : Long O := by
  rcases h with ⟨_, rfl⟩ | ⟨elems, spare, rfl, hl, hall⟩
  · exact ⟨by simp, fun c hc => by simp at hc⟩
  · refine ⟨?_, fun c hc => ?_⟩
    · have := sized_slice hsz ht hd Try.underlying26
      rw [bytesKs, reach_at] at this
      omega
    · obtain ⟨i, hi⟩ := List.mem_iff_getElem?.1 hc
      obtain ⟨d, hd2, hin⟩ := hall i c hi
      rcases hin with ⟨_, rfl⟩ | ⟨e', s', rfl, hl2⟩
      · simp
      · have := of_decide_eq_true (List.all_eq_true.1 hsz ((e'.length + s'.length) * Try.checked.prog.bytesOf 59) (DataW.weights_mem_each ht hd _ (by
          have hu : Try.checked.prog.underlying 26 = some (.slice 57) := Try.underlying26
          have hu2 : Try.checked.prog.underlying 57 = some (.slice 59) := Try.underlying57
          simp only [DataW.weights, hu, List.mem_cons, List.mem_append]
          exact Or.inr (Or.inl (weights_all (List.mem_of_getElem? hd2) _ (by simp [DataW.weights, hu2]))))))
        rw [bytesKn, reach_at] at this
        omega
theorem sized_knots {H : Type} {ts : List TypeId} {ds : List (DataW H)} {j : Nat} {d : DataW H} {c : List Kn} (hsz : (DataW.weightsEach Try.checked.prog ts ds).all (· ≤ reachBytes) = true) (ht : ts[j]? = some 57) (hd : ds[j]? = some d) (h : InnerD c d) : c.length ≤ 5864062014634 := by
  rcases h with ⟨_, rfl⟩ | ⟨elems, spare, rfl, hl⟩
  · simp
  · have := sized_slice hsz ht hd Try.underlying57
    rw [bytesKn, reach_at] at this
    omega
def SpotsD {H : Type} (l : List Sp) (d : DataW H) : Prop := (d = .nil ∧ l = []) ∨ ∃ elems spare, d = .slice elems spare ∧ elems.length = l.length
theorem sized_spots {H : Type} {ts : List TypeId} {ds : List (DataW H)} {j : Nat} {d : DataW H} {l : List Sp} (hsz : (DataW.weightsEach Try.checked.prog ts ds).all (· ≤ reachBytes) = true) (ht : ts[j]? = some 27) (hd : ds[j]? = some d) (h : SpotsD l d) : l.length ≤ 8796093021952 := by
  rcases h with ⟨_, rfl⟩ | ⟨elems, spare, rfl, hl⟩
  · simp
  · have := sized_slice hsz ht hd Try.underlying27
    rw [bytesSp, reach_at] at this
    omega

set_option maxRecDepth 20000 in
theorem open_out {H : Type} {enc : TypeId × Value → H} {w : World} {r : Reach} {b0 : Nat} {v : Value} {d : DataW H} {p : List MemPlace}
    (hv : Value.okWide Try.prog w r b0 26 v) (h : DataW.Trod enc Try.prog w 0 (fun _ => true) true 26 v d p) :
    ∃ a cap, ∃ O : List (List Kn), v = .slice a O.length cap ∧ O.length ≤ cap ∧ IsO clK w a O ∧ (∀ c ∈ O, ∀ k ∈ c, WfK k) ∧ OutD O d := by
  obtain ⟨a, len, cap, rfl⟩ := okWide_slice Try.underlying26 hv
  obtain ⟨fuel, hf⟩ := h
  obtain ⟨a', cap', O, h1, h2, h3, h4, h5⟩ := outline_in hf
  simp [Value.cells] at h1
  obtain ⟨rfl, rfl, rfl⟩ := h1
  exact ⟨_, _, O, rfl, h2, h3, h4, h5⟩
set_option maxRecDepth 20000 in
theorem open_knots {H : Type} {enc : TypeId × Value → H} {w : World} {r : Reach} {b0 : Nat} {v : Value} {d : DataW H} {p : List MemPlace}
    (hv : Value.okWide Try.prog w r b0 57 v) (h : DataW.Trod enc Try.prog w 0 (fun _ => true) true 57 v d p) :
    ∃ a cap, ∃ c : List Kn, v = .slice a c.length cap ∧ c.length ≤ cap ∧ IsR clK w a c ∧ (∀ k ∈ c, WfK k) ∧ InnerD c d := by
  obtain ⟨a, len, cap, rfl⟩ := okWide_slice Try.underlying57 hv
  obtain ⟨fuel, hf⟩ := h
  obtain ⟨a', cap', O, h1, h2, h3, h4, h5⟩ := knots_in hf
  simp [Value.cells] at h1
  obtain ⟨rfl, rfl, rfl⟩ := h1
  exact ⟨_, _, O, rfl, h2, h3, h4, h5⟩
set_option maxRecDepth 20000 in
theorem open_spots {H : Type} {enc : TypeId × Value → H} {w : World} {r : Reach} {b0 : Nat} {v : Value} {d : DataW H} {p : List MemPlace}
    (hv : Value.okWide Try.prog w r b0 27 v) (h : DataW.Trod enc Try.prog w 0 (fun _ => true) true 27 v d p) :
    ∃ a cap, ∃ c : List Sp, v = .slice a c.length cap ∧ c.length ≤ cap ∧ IsR clS w a c ∧ (∀ k ∈ c, WfS k) ∧ SpotsD c d := by
  obtain ⟨a, len, cap, rfl⟩ := okWide_slice Try.underlying27 hv
  obtain ⟨fuel, hf⟩ := h
  obtain ⟨a', cap', O, h1, h2, h3, h4, h5⟩ := spots_in hf
  simp [Value.cells] at h1
  obtain ⟨rfl, rfl, rfl⟩ := h1
  exact ⟨_, _, O, rfl, h2, h3, h4, h5⟩

theorem bulk_inner {H : Type} {c : List Kn} {d : DataW H} (h : InnerD c d) : c.length ≤ Rows.uptoBulk d := by
  rcases h with ⟨rfl, rfl⟩ | ⟨e, s, rfl, hl⟩
  · simp
  · have := bulk_length e
    simp only [Rows.uptoBulk]; omega
theorem bulk_total {H : Type} : ∀ (O : List (List Kn)) (l : List (DataW H)), l.length = O.length → (∀ (i : Nat) (c : List Kn), O[i]? = some c → ∃ d, l[i]? = some d ∧ InnerD c d) → (O.map List.length).sum ≤ Rows.uptoBulkAll l
  | [], _, _, _ => by simp
  | c :: O, [], h, _ => by simp at h
  | c :: O, d :: l, h, hall => by
    obtain ⟨d', hd, hin⟩ := hall 0 c rfl
    have e : d = d' := by simpa using hd
    subst e
    have h1 := bulk_inner hin
    have h2 := bulk_total O l (by simpa using h) (fun i c hc => by simpa using hall (i + 1) c (by simpa using hc))
    simp only [Rows.uptoBulkAll, List.map_cons, List.sum_cons]; omega
theorem small_out {H : Type} {ds : List (DataW H)} {j : Nat} {d : DataW H} {O : List (List Kn)} (hk : Rows.uptoSmall H ds = true) (hd : ds[j]? = some d) (h : OutD O d) : O.length ≤ 1048576 ∧ (O.map List.length).sum ≤ 1048576 := by
  have hb : Rows.uptoBulkAll ds ≤ 1048576 := of_decide_eq_true hk
  rcases h with ⟨_, rfl⟩ | ⟨elems, spare, rfl, hl, hall⟩
  · simp
  · have h1 := bulk_part hd
    have h2 := bulk_length elems
    have h3 := bulk_total O elems hl hall
    simp only [Rows.uptoBulk] at h1
    omega

/-- How a datum of a row says its list's length. -/
def RowD {H α : Type} (L : List α) (d : DataW H) : Prop := (d = .nil ∧ L = []) ∨ ∃ elems spare, d = .slice elems spare ∧ elems.length = L.length
theorem flag_in {H : Type} {enc : TypeId × Value → H} {w : World} {sp : Nat → Bool} {fuel : Nat} {cs : List Value} {x : DataW H × List MemPlace} (h : DataW.trod enc Try.prog w 0 sp true fuel 4 cs = some x) : ∃ b : Bool, cs = clB b := by
  obtain ⟨b, e, _⟩ := DataW.trod_bool Try.underlying4 h
  exact ⟨b, e⟩
theorem num_in {H : Type} {enc : TypeId × Value → H} {w : World} {sp : Nat → Bool} {fuel : Nat} {cs : List Value} {x : DataW H × List MemPlace} (h : DataW.trod enc Try.prog w 0 sp true fuel 3 cs = some x) : ∃ n : Int, cs = clI n := by
  obtain ⟨n, e, _⟩ := DataW.trod_int Try.underlying3 h
  exact ⟨n, e⟩
theorem cellsB : Try.prog.cellsOf 4 = 1 := by kernel_rfl
theorem bytesB : Try.checked.prog.bytesOf 4 = 1 := by kernel_rfl
theorem bytesI : Try.checked.prog.bytesOf 3 = 8 := by kernel_rfl
theorem plain_in {H : Type} {enc : TypeId × Value → H} {w : World} {sp : Nat → Bool} {t e : TypeId} {s : Nat} {α : Type} {cl : α → List Value} (hcl : ∀ x, (cl x).length = s) (hu : Try.prog.underlying t = some (.slice e)) (hs : Try.prog.cellsOf e = s) (hs0 : 0 < s)
    (hel : ∀ fuel cs x, DataW.trod enc Try.prog w 0 sp true fuel e cs = some x → ∃ y, cs = cl y) {fuel : Nat} {cs : List Value} {x : DataW H × List MemPlace} (h : DataW.trod enc Try.prog w 0 sp true fuel t cs = some x) :
    ∃ a cap, ∃ L : List α, cs = [.slice a L.length cap] ∧ L.length ≤ cap ∧ IsR cl w a L ∧ RowD L x.1 := by
  obtain ⟨a, cap, L, h1, h2, h3, h4⟩ := row_in (R := fun k cs _ => cs = cl k) hu hs hs0 hel h
  refine ⟨a, cap, L, h1, h2, ?_, ?_⟩
  · rcases h3 with h3 | ⟨b, off, h3, h5⟩
    · exact .inl h3
    · refine .inr ⟨b, off, h3, isR_of hcl hs0 fun i y hy => ?_⟩
      obtain ⟨_, _, rfl, _, h6⟩ := h5 i y hy
      exact h6
  · rcases h4 with h4 | ⟨el, spa, h4, h5, _⟩
    · exact .inl h4
    · exact .inr ⟨el, spa, h4, h5⟩
/-- How a datum of a zone says its rows' lengths. -/
def ZoneD {H : Type} (Z : Zn) (d : DataW H) : Prop := ∃ d0 d1 d2 d3 d4, d = .agg [d0, d1, d2, d3, d4] ∧ RowD Z.org d0 ∧ RowD Z.cur d1 ∧ RowD Z.tx d2 ∧ RowD Z.ty d3 ∧ RowD Z.ends d4
theorem cellsZ : Try.prog.cellsOf 31 = 5 := by kernel_rfl
theorem cellsSs : Try.prog.cellsOf 27 = 1 := by kernel_rfl
theorem cellsBs : Try.prog.cellsOf 28 = 1 := by kernel_rfl
theorem cellsIs : Try.prog.cellsOf 29 = 1 := by kernel_rfl

set_option maxRecDepth 20000 in
theorem open_zone {H : Type} {enc : TypeId × Value → H} {w : World} {r : Reach} {b0 : Nat} {v : Value} {d : DataW H} {p : List MemPlace}
    (hv : Value.okWide Try.prog w r b0 31 v) (h : DataW.Trod enc Try.prog w 0 (fun _ => true) true 31 v d p) :
    ∃ Z a0 a1 a2 a3 a4 c0 c1 c2 c3 c4, v = .agg #[.slice a0 Z.org.length c0, .slice a1 Z.cur.length c1, .slice a2 Z.tx.length c2, .slice a3 Z.ty.length c3, .slice a4 Z.ends.length c4] ∧ ZIn w Z a0 a1 a2 a3 a4 ∧ ZoneD Z d := by
  obtain ⟨cs, rfl, hsz, _⟩ : ∃ cs, v = .agg cs ∧ cs.size = Try.prog.cellsOf 31 ∧ Row.okWide Try.prog w r b0 31 cs := by simpa [Value.okWide, Try.underlying31] using hv
  rw [cellsZ] at hsz
  obtain ⟨l⟩ := cs
  match l, hsz with
  | [k0, k1, k2, k3, k4], _ =>
    obtain ⟨fuel, hf⟩ := h
    obtain ⟨xs, n, _, hx, hl, hlen, hfld⟩ := DataW.trod_struct Try.underlying31 hf
    match xs, hlen with
    | [y0, y1, y2, y3, y4], _ =>
      have h0 : DataW.trod enc Try.prog w 0 (fun _ => true) true n 27 [k0] = some y0 := by
        have := hfld 0 _ rfl
        simpa [Value.cells, cellsSs] using this
      have h1 : DataW.trod enc Try.prog w 0 (fun _ => true) true n 27 [k1] = some y1 := by
        have := hfld 1 _ rfl
        simpa [Value.cells, cellsSs] using this
      have h2 : DataW.trod enc Try.prog w 0 (fun _ => true) true n 28 [k2] = some y2 := by
        have := hfld 2 _ rfl
        simpa [Value.cells, cellsBs] using this
      have h3 : DataW.trod enc Try.prog w 0 (fun _ => true) true n 28 [k3] = some y3 := by
        have := hfld 3 _ rfl
        simpa [Value.cells, cellsBs] using this
      have h4 : DataW.trod enc Try.prog w 0 (fun _ => true) true n 29 [k4] = some y4 := by
        have := hfld 4 _ rfl
        simpa [Value.cells, cellsIs] using this
      obtain ⟨a0, c0, L0, e0, _, r0, q0⟩ := plain_in (cl := clS) clS_length Try.underlying27 cellsSp (by decide) (fun _ _ _ h => by obtain ⟨k, e, _⟩ := spot_in h; exact ⟨k, e⟩) h0
      obtain ⟨a1, c1, L1, e1, _, r1, q1⟩ := plain_in (cl := clS) clS_length Try.underlying27 cellsSp (by decide) (fun _ _ _ h => by obtain ⟨k, e, _⟩ := spot_in h; exact ⟨k, e⟩) h1
      obtain ⟨a2, c2, L2, e2, _, r2, q2⟩ := plain_in (cl := clB) clB_length Try.underlying28 cellsB (by decide) (fun _ _ _ h => flag_in h) h2
      obtain ⟨a3, c3, L3, e3, _, r3, q3⟩ := plain_in (cl := clB) clB_length Try.underlying28 cellsB (by decide) (fun _ _ _ h => flag_in h) h3
      obtain ⟨a4, c4, L4, e4, _, r4, q4⟩ := plain_in (cl := clI) clI_length Try.underlying29 cellsI (by decide) (fun _ _ _ h => num_in h) h4
      simp at e0 e1 e2 e3 e4
      subst e0 e1 e2 e3 e4
      refine ⟨⟨L0, L1, L2, L3, L4⟩, a0, a1, a2, a3, a4, c0, c1, c2, c3, c4, rfl, ⟨r0, r1, r2, r3, r4⟩, y0.1, y1.1, y2.1, y3.1, y4.1, ?_, q0, q1, q2, q3, q4⟩
      have := congrArg Prod.fst hx
      simpa using this
theorem sized_zone {H : Type} {ts : List TypeId} {ds : List (DataW H)} {j : Nat} {d : DataW H} {Z : Zn} (hsz : (DataW.weightsEach Try.checked.prog ts ds).all (· ≤ reachBytes) = true) (ht : ts[j]? = some 31) (hd : ds[j]? = some d) (h : ZoneD Z d) : ZLong Z := by
  obtain ⟨d0, d1, d2, d3, d4, rfl, q0, q1, q2, q3, q4⟩ := h
  have hu := Try.underlying31
  have key : ∀ n, n ∈ DataW.weights Try.checked.prog 27 d0 ∨ n ∈ DataW.weights Try.checked.prog 27 d1 ∨ n ∈ DataW.weights Try.checked.prog 28 d2 ∨ n ∈ DataW.weights Try.checked.prog 28 d3 ∨ n ∈ DataW.weights Try.checked.prog 29 d4 → n ≤ reachBytes := by
    intro n hn
    refine of_decide_eq_true (List.all_eq_true.1 hsz n (DataW.weights_mem_each ht hd _ ?_))
    have hu' : Try.checked.prog.underlying 31 = _ := hu
    simp only [DataW.weights, hu', List.map_cons, List.map_nil, DataW.weightsEach, List.mem_append]
    rcases hn with h | h | h | h | h
    · exact .inl h
    · exact .inr (.inl h)
    · exact .inr (.inr (.inl h))
    · exact .inr (.inr (.inr (.inl h)))
    · exact .inr (.inr (.inr (.inr (.inl h))))
  have huS : Try.checked.prog.underlying 27 = some (.slice 38) := Try.underlying27
  have huB : Try.checked.prog.underlying 28 = some (.slice 4) := Try.underlying28
  have huI : Try.checked.prog.underlying 29 = some (.slice 3) := Try.underlying29
  refine ⟨?_, ?_, ?_, ?_, ?_⟩
  · rcases q0 with ⟨_, h⟩ | ⟨e, s, rfl, h⟩
    · rw [h]; simp
    · have := key _ (.inl (by simp only [DataW.weights, huS]; exact List.mem_cons_self))
      rw [bytesSp, reach_at] at this; omega
  · rcases q1 with ⟨_, h⟩ | ⟨e, s, rfl, h⟩
    · rw [h]; simp
    · have := key _ (.inr (.inl (by simp only [DataW.weights, huS]; exact List.mem_cons_self)))
      rw [bytesSp, reach_at] at this; omega
  · rcases q2 with ⟨_, h⟩ | ⟨e, s, rfl, h⟩
    · rw [h]; simp
    · have := key _ (.inr (.inr (.inl (by simp only [DataW.weights, huB]; exact List.mem_cons_self))))
      rw [bytesB, reach_at] at this; omega
  · rcases q3 with ⟨_, h⟩ | ⟨e, s, rfl, h⟩
    · rw [h]; simp
    · have := key _ (.inr (.inr (.inr (.inl (by simp only [DataW.weights, huB]; exact List.mem_cons_self)))))
      rw [bytesB, reach_at] at this; omega
  · rcases q4 with ⟨_, h⟩ | ⟨e, s, rfl, h⟩
    · rw [h]; simp
    · have := key _ (.inr (.inr (.inr (.inr (by simp only [DataW.weights, huI]; exact List.mem_cons_self)))))
      rw [bytesI, reach_at] at this; omega
set_option maxRecDepth 20000 in
/-- A row of flags that came in. -/
theorem open_flags {H : Type} {enc : TypeId × Value → H} {w : World} {r : Reach} {b0 : Nat} {v : Value} {d : DataW H} {p : List MemPlace}
    (hv : Value.okWide Try.prog w r b0 28 v) (h : DataW.Trod enc Try.prog w 0 (fun _ => true) true 28 v d p) :
    ∃ a cap, ∃ c : List Bool, v = .slice a c.length cap ∧ IsR clB w a c ∧ RowD c d := by
  obtain ⟨a, len, cap, rfl⟩ := okWide_slice Try.underlying28 hv
  obtain ⟨fuel, hf⟩ := h
  obtain ⟨a', cap', O, h1, h2, h3, h4⟩ := plain_in (cl := clB) clB_length Try.underlying28 cellsB (by decide) (fun _ _ _ h => flag_in h) hf
  simp [Value.cells] at h1
  obtain ⟨rfl, rfl, rfl⟩ := h1
  exact ⟨_, _, O, rfl, h3, h4⟩
theorem sized_flags {H : Type} {ts : List TypeId} {ds : List (DataW H)} {j : Nat} {d : DataW H} {c : List Bool} (hsz : (DataW.weightsEach Try.checked.prog ts ds).all (· ≤ reachBytes) = true) (ht : ts[j]? = some 28) (hd : ds[j]? = some d) (h : RowD c d) : c.length ≤ 140737488351232 := by
  rcases h with ⟨_, rfl⟩ | ⟨elems, spare, rfl, hl⟩
  · simp
  · have := sized_slice hsz ht hd Try.underlying28
    rw [bytesB, reach_at] at this
    omega

end Go.Proofs.Ytnoadceeenioeaa
