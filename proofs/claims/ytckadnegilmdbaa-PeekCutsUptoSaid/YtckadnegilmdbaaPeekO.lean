/-
  A slice of bytes that came in, opened: it is told by the text of its bytes, and its datum has as many places as the slice has room for.
-/
import Derived.Test.YtckadnegilmdbaaPeekR
import Derived.OpenShut
import Derived.SizedLaws
namespace Go.Proofs.Ytckadnegilmdbaa
open Go.ChangeShapes Go.WideShapes Go.ChangeAt Go.RowKit Go.PlainAid
set_option linter.unusedVariables false

theorem bytesU8 : Try.checked.prog.bytesOf 5 = 1 := by kernel_rfl
theorem cellsU8 : Try.prog.cellsOf 5 = 1 := by kernel_rfl

theorem open_bytes {H : Type} {enc : TypeId × Value → H} {w : World} {r : Reach} {b0 : Nat} {v : Value} {d : DataW H} {p : List MemPlace}
    (hv : Value.okWide Try.prog w r b0 22 v) (h : DataW.Trod enc Try.prog w 0 (fun _ => true) true 22 v d p) :
    ∃ a cap s, v = .slice a s.size cap ∧ IsB w a s.size cap s ∧ ((d = .nil ∧ s.size = 0) ∨ ∃ elems spare, d = .slice elems spare ∧ elems.length + spare.length = cap) := by
  obtain ⟨a, len, cap, rfl⟩ := okWide_slice Try.underlying22 hv
  obtain ⟨fuel, hf⟩ := h
  rcases open_ints Try.underlying22 Try.underlying5 cellsU8 hf with ⟨hcs, hx⟩ | ⟨x, l, c, zs, hcs, _, hl, hm, hz, hx, hcell, hwz⟩
  · simp [Value.cells] at hcs
    obtain ⟨rfl, rfl, rfl⟩ := hcs
    cases hx
    exact ⟨none, 0, ByteArray.empty, rfl, ⟨rfl, Nat.le_refl _, .inl rfl⟩, .inl ⟨rfl, rfl⟩⟩
  · simp [Value.cells] at hcs
    obtain ⟨rfl, rfl, rfl⟩ := hcs
    cases hx
    simp at hz
    have hsz : (strOfNums (zs.take len)).size = len := by rw [strOfNums_size]; simp; omega
    refine ⟨some x, cap, strOfNums (zs.take len), by rw [hsz], ?_, .inr ⟨_, _, rfl, by simp [lits]; omega⟩⟩
    rw [hsz]
    refine ⟨hsz, hl, ?_⟩
    by_cases h0 : len = 0
    · exact .inl h0
    · right
      obtain ⟨b, off, spot⟩ := x
      have hc := hcell 0 (by omega)
      have hspot : spot = none := by simpa [Addr.add] using World.cell?_spot hc
      subst hspot
      refine ⟨b, off, rfl, fun i hi => ?_⟩
      have hplain : (⟨b, off, none⟩ : Addr).add i = ⟨b, off + i, none⟩ := by unfold Addr.add; split <;> simp_all
      rw [← hplain, hcell i (by omega)]
      have hi2 : i < zs.length := by omega
      have hmem := hwz (zs[i]) (List.getElem_mem _)
      simp [Lit.wf, IntKind.min, IntKind.max, IntKind.signed, IntKind.bits] at hmem
      rw [bt_eq _ (by rw [hsz]; exact hi)]
      simp [strOfNums, List.getD, hi2]
      omega

theorem sized_bytes {H : Type} {ts : List TypeId} {ds : List (DataW H)} {j cap n : Nat} {d : DataW H} (hsz : (DataW.weightsEach Try.checked.prog ts ds).all (· ≤ reachBytes) = true) (ht : ts[j]? = some 22) (hd : ds[j]? = some d)
    (hn : n ≤ cap) (h : (d = .nil ∧ n = 0) ∨ ∃ elems spare, d = .slice elems spare ∧ elems.length + spare.length = cap) : (n : Int) ≤ 140737488351232 := by
  rcases h with ⟨_, h⟩ | ⟨elems, spare, rfl, h⟩
  · omega
  · have := sized_slice hsz ht hd Try.underlying22
    rw [bytesU8, h] at this
    have h2 : reachBytes = 140737488351232 := by decide
    omega

end Go.Proofs.Ytckadnegilmdbaa
