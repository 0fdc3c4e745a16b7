/-
  An argument opened: a slice of arrays of three numbers is told by its numbers.
-/
import Derived.Test.YtfbgddigedgpfaaDoorCmP
import Derived.ChangeSame
import Derived.ChangeSlices
import Derived.OpenShut
namespace Go.Proofs.YtfbgddigedgpfaaDoor
open Go.RowKit Go.PlainAid Go.ChangeShapes Go.WideShapes Go.ChangeAt
set_option linter.unusedSimpArgs false
set_option linter.unusedVariables false

theorem cells1 : Tryd.prog.cellsOf 3 = 1 := by kernel_rfl
theorem cells3 : Tryd.prog.cellsOf 24 = 3 := by kernel_rfl

theorem three_in {H : Type} {enc : TypeId × Value → H} {w : World} {sp : Nat → Bool} {fuel : Nat} {cs : List Value} {x : DataW H × List MemPlace} (h : DataW.trod enc Tryd.prog w 0 sp true fuel 24 cs = some x) :
    cs.length = 3 ∧ ∀ j, j < 3 → ∃ z, cs[j]? = some (.int .i64 z) := by
  obtain ⟨xs, m, rfl, hx, hlen, hn, hel⟩ := DataW.trod_array Tryd.underlying24 h
  rw [cells3] at hlen
  simp only [cells1] at hel
  refine ⟨hlen, fun j hj => ?_⟩
  obtain ⟨y, hy⟩ : ∃ y, xs[j]? = some y := ⟨_, List.getElem?_eq_getElem (by omega)⟩
  have h1 := hel j hj
  rw [hy] at h1
  obtain ⟨k, e, _, _⟩ := DataW.trod_int Tryd.underlying3 h1
  refine ⟨k, ?_⟩
  have a0 : ((cs.drop (j * 1)).take 1)[0]? = some (.int .i64 k) := by rw [e]; rfl
  rw [List.getElem?_take, List.getElem?_drop] at a0
  simpa using a0

/-- The number in a cell. -/
def numIn (w : World) (a : Addr) : Int := match w.cell? a with
  | some (.int _ z) => z
  | _ => 0
theorem add_add (b off i j : Nat) : ((⟨b, off, none⟩ : Addr).add i).add j = ⟨b, off + i + j, none⟩ := by rw [Addr.add_lit, Addr.add_lit]

set_option maxRecDepth 20000 in
theorem open_groups {H : Type} {enc : TypeId × Value → H} {w : World} {r : Reach} {b0 : Nat} {v : Value} {d : DataW H} {p : List MemPlace}
    (hv : Value.okWide Tryd.prog w r b0 23 v) (h : DataW.Trod enc Tryd.prog w 0 (fun _ => true) true 23 v d p) :
    ∃ a n cap f, v = .slice a n cap ∧ IsG w a n f := by
  obtain ⟨a, len, cap, rfl⟩ := okWide_slice Tryd.underlying23 hv
  obtain ⟨fuel, hf⟩ := h
  rcases DataW.trod_slice Tryd.underlying23 hf with ⟨hcs, _⟩ | ⟨x, l, c, elems, rest, n, _, hcs, _, _, hl, hm, hlen, hel, _, _⟩
  · simp [Value.cells] at hcs
    obtain ⟨rfl, rfl, rfl⟩ := hcs
    exact ⟨none, 0, 0, fun _ => 0, rfl, .inl rfl⟩
  · simp [Value.cells] at hcs
    obtain ⟨rfl, rfl, rfl⟩ := hcs
    by_cases h0 : len = 0
    · exact ⟨some x, len, cap, fun _ => 0, rfl, .inl h0⟩
    · rw [cells3] at hel
      have hall : ∀ i j, i < len → j < 3 → ∃ z, w.cell? ((x.add (i * 3)).add j) = some (.int .i64 z) := by
        intro i j hi hj
        obtain ⟨y, hy⟩ : ∃ y, elems[i]? = some y := ⟨_, List.getElem?_eq_getElem (by omega)⟩
        have h1 := hel i hi
        rw [hy, Option.bind_eq_some_iff] at h1
        obtain ⟨cs, hcs, ht⟩ := h1
        obtain ⟨hl3, hz⟩ := three_in ht
        obtain ⟨z, hz⟩ := hz j hj
        unfold World.cells? at hcs
        rw [if_pos (Nat.zero_le _)] at hcs
        have h3 : j = 0 ∨ j = 1 ∨ j = 2 := by omega
        simp [List.range, List.range.loop, Option.bind_eq_some_iff] at hcs
        obtain ⟨a0, e0, _, ⟨a1, e1, _, ⟨a2, e2, rfl⟩, rfl⟩, rfl⟩ := hcs
        refine ⟨z, ?_⟩
        rcases h3 with rfl | rfl | rfl
        · simp at hz; rw [e0, hz]
        · simp at hz; rw [e1, hz]
        · simp at hz; rw [e2, hz]
      obtain ⟨b, off, spot⟩ := x
      obtain ⟨z0, hc⟩ := hall 0 0 (by omega) (by decide)
      have hspot : spot = none := by simpa [Addr.add] using World.cell?_spot hc
      subst hspot
      refine ⟨_, len, cap, fun m => numIn w ⟨b, off + m, none⟩, rfl, .inr ⟨b, off, rfl, fun m hm => ?_⟩⟩
      obtain ⟨z, hz⟩ := hall (m / 3) (m % 3) (by omega) (by omega)
      rw [add_add, show off + m / 3 * 3 + m % 3 = off + m by omega] at hz
      show w.cell? ⟨b, off + m, none⟩ = some (.int .i64 (numIn w ⟨b, off + m, none⟩))
      have e : numIn w ⟨b, off + m, none⟩ = z := by unfold numIn; rw [hz]
      rw [e]
      exact hz

end Go.Proofs.YtfbgddigedgpfaaDoor
