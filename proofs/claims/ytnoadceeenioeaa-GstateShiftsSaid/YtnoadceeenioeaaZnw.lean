/-
  A zone that is made of an outline: as a list, and in memory under way.
-/
import Derived.Test.YtnoadceeenioeaaZsm
import Derived.Test.YtnoadceeenioeaaZc
namespace Go.Proofs.Ytnoadceeenioeaa
open Go.RowKit Go.PlainAid
set_option linter.unusedSimpArgs false
set_option linter.unusedVariables false

def spK (k : Kn) : Sp := ⟨k.x, k.y⟩
/-- All places of an outline. -/
def orgO (O : List (List Kn)) : List Sp := O.flatMap fun c => c.map spK
def endF (acc : Nat × List Int) (c : List Kn) : Nat × List Int := (acc.1 + c.length, if c.length = 0 then acc.2 else acc.2 ++ [((acc.1 + c.length : Nat) : Int) - 1])
def endsA (O : List (List Kn)) : Nat × List Int := O.foldl endF (0, [])
def endsO (O : List (List Kn)) : List Int := (endsA O).2
def newZ (O : List (List Kn)) : Zn := ⟨orgO O, orgO O, List.replicate (orgO O).length false, List.replicate (orgO O).length false, endsO O⟩
theorem orgO_snoc (O : List (List Kn)) (c : List Kn) : orgO (O ++ [c]) = orgO O ++ c.map spK := by simp [orgO, List.flatMap_append]
theorem endsA_snoc (O : List (List Kn)) (c : List Kn) : endsA (O ++ [c]) = endF (endsA O) c := by simp [endsA, List.foldl_append]
theorem endsA_fst_fold : ∀ (O : List (List Kn)) (acc : Nat × List Int), (O.foldl endF acc).1 = acc.1 + (orgO O).length
  | [], acc => by simp [orgO]
  | c :: O, acc => by
    have e : (orgO (c :: O)).length = c.length + (orgO O).length := by simp [orgO]
    rw [List.foldl_cons, endsA_fst_fold O, e]
    simp only [endF]
    omega
theorem endsA_fst (O : List (List Kn)) : (endsA O).1 = (orgO O).length := by have := endsA_fst_fold O (0, []); simpa [endsA] using this
theorem endsO_snoc (O : List (List Kn)) (c : List Kn) : endsO (O ++ [c]) = if c.length = 0 then endsO O else endsO O ++ [(((orgO O).length + c.length : Nat) : Int) - 1] := by
  rw [endsO, endsA_snoc, endF, endsA_fst]
  dsimp only
  split <;> rfl
theorem endsA_len : ∀ (O : List (List Kn)) (acc : Nat × List Int), (O.foldl endF acc).2.length ≤ acc.2.length + O.length
  | [], acc => by simp
  | c :: O, acc => by
    rw [List.foldl_cons]
    have := endsA_len O (endF acc c)
    have h : (endF acc c).2.length ≤ acc.2.length + 1 := by
      simp only [endF]
      split
      · omega
      · simp
    rw [List.length_cons]; omega
theorem endsO_len (O : List (List Kn)) : (endsO O).length ≤ O.length := by have := endsA_len O (0, []); simpa [endsO, endsA] using this
theorem orgO_le {O : List (List Kn)} {i : Nat} {c : List Kn} (h : O[i]? = some c) : (orgO (O.take i)).length + c.length ≤ (orgO O).length := by
  have h1 : O.take (i + 1) = O.take i ++ [c] := by rw [List.take_add_one, h]; rfl
  have h2 : O = O.take (i + 1) ++ O.drop (i + 1) := (List.take_append_drop _ _).symm
  have h3 : (orgO O).length = (orgO (O.take (i + 1))).length + (orgO (O.drop (i + 1))).length := by
    have : orgO O = orgO (O.take (i + 1)) ++ orgO (O.drop (i + 1)) := by
      rw [orgO, orgO, orgO, ← List.flatMap_append, List.take_append_drop]
    rw [this, List.length_append]
  rw [h1, orgO_snoc, List.length_append, List.length_map] at h3
  omega
theorem take_snoc {α : Type} {O : List α} {i : Nat} {c : α} (h : O[i]? = some c) : O.take (i + 1) = O.take i ++ [c] := by rw [List.take_add_one, h]; rfl

theorem cell_heap {V V' : World} {b : Nat} (h : V'.heap[b]? = V.heap[b]?) (o : Nat) : V'.cell? ⟨b, o, none⟩ = V.cell? ⟨b, o, none⟩ := by
  simp only [World.cell?, World.cells?]; rw [h]
theorem frozen_heap {V V' : World} {b : Nat} (h : V'.heap[b]? = V.heap[b]?) (o : Nat) : V'.frozen? ⟨b, o, none⟩ = V.frozen? ⟨b, o, none⟩ := by
  simp only [World.frozen?]; rw [h]
theorem grown_at {V V' : World} {B : Nat} {e : TypeId} {s n m c : Nat} {a : Option Addr} {xs : List Value} (h : V.ownsRow B e s (.slice a n c) m xs) (hg : V.grownBy V' (Value.slice a n c).ownBlock) {b : Nat} (hb : b < V.heap.size) (hne : b < B ∨ ∃ cs T fr, V.heap[b]? = some (.cells cs T fr) ∧ T ≠ e) : V'.heap[b]? = V.heap[b]? :=
  hg.block b hb (fun ee => by
    cases a with
    | none => simp [Value.ownBlock] at ee
    | some x =>
      have hx : b = x.block := by simpa [Value.ownBlock] using ee
      rcases hne with h1 | ⟨cs, T, fr, h1, h2⟩
      · have := (own_lt h x rfl).1; omega
      · obtain ⟨ds, fs, h3⟩ := own_type h x rfl
        rw [hx, h3] at h1
        cases h1
        exact h2 rfl)
theorem BxW.heap {V V' : World} {g : Nat} {v0 v1 v2 v3 v4 : Value} (H : BxW V g v0 v1 v2 v3 v4) (h : V'.heap[g]? = V.heap[g]?) : BxW V' g v0 v1 v2 v3 v4 :=
  ⟨(cell_heap h _).trans H.c0, (cell_heap h _).trans H.c1, (cell_heap h _).trans H.c2, (cell_heap h _).trans H.c3, (cell_heap h _).trans H.c4⟩
theorem Fz5.heap {V V' : World} {g : Nat} (H : Fz5 V g) (h : V'.heap[g]? = V.heap[g]?) : Fz5 V' g :=
  ⟨(frozen_heap h _).trans H.f0, (frozen_heap h _).trans H.f1, (frozen_heap h _).trans H.f2, (frozen_heap h _).trans H.f3, (frozen_heap h _).trans H.f4⟩
theorem own_heap {V V' : World} {B : Nat} {e : TypeId} {s n c : Nat} {a : Option Addr} {xs : List Value} (h : V.ownsRow B e s (.slice a n c) n xs) (hk : ∀ x, a = some x → V'.heap[x.block]? = V.heap[x.block]?) : V'.ownsRow B e s (.slice a n c) n xs :=
  own_keep h fun g hg => by
    cases a with
    | none => simp [Value.ownBlock] at hg
    | some x =>
      have : x.block = g := by simpa [Value.ownBlock] using hg
      subst this
      exact hk x rfl

/-- The zone to come: its points and its ends so far. -/
structure NwS (w V : World) (h : Nat) (a0 a4 : Option Addr) (c0 c4 : Nat) (LO : List Sp) (LE : List Int) : Prop where
  zr : BxW V h (.slice none 0 0) (.slice none 0 0) (.slice none 0 0) (.slice none 0 0) (.slice none 0 0)
  zf : Fz5 V h
  gz : GZ V (h + 1) (.slice a0 LO.length c0) (.slice none 0 0) (.slice none 0 0) (.slice none 0 0) (.slice a4 LE.length c4)
  o0 : V.ownsRow (h + 2) 38 2 (.slice a0 LO.length c0) LO.length (LO.flatMap clS)
  o4 : V.ownsRow (h + 2) 3 1 (.slice a4 LE.length c4) LE.length (LE.flatMap clI)
  bel : Below h w V
  sz : h + 2 ≤ V.heap.size
  hw : w.heap.size = h
theorem NwS.below {w V V' : World} {h : Nat} {a0 a4 : Option Addr} {c0 c4 : Nat} {LO : List Sp} {LE : List Int} (H : NwS w V h a0 a4 c0 c4 LO LE) (hb : Below V.heap.size V V') : NwS w V' h a0 a4 c0 c4 LO LE :=
  ⟨H.zr.below hb, H.zf.below H.zr hb, H.gz.below hb, own_below H.o0 hb, own_below H.o4 hb, bel_to H.bel hb (by have := H.sz; omega), by have := H.sz; have := hb.size; omega, H.hw⟩
theorem NwS.app0 {w V V' : World} {h : Nat} {a0 a4 a' : Option Addr} {c0 c4 c' : Nat} {LO LN : List Sp} {LE : List Int} (H : NwS w V h a0 a4 c0 c4 LO LE) (hg : V.grownBy V' (Value.slice a0 LO.length c0).ownBlock)
    (ho : V'.ownsRow (h + 2) 38 2 (.slice a' LN.length c') LN.length (LN.flatMap clS)) : NwS w (V'.setCell ⟨h + 1, 0, none⟩ (.slice a' LN.length c')) h a' a4 c' c4 LN LE := by
  have hsz := H.sz
  obtain ⟨cs, fr, ht⟩ := H.gz.t
  have e1 := grown_at H.o0 hg (b := h) (by omega) (.inl (by omega))
  have e2 := grown_at H.o0 hg (b := h + 1) (by omega) (.inl (by omega))
  have e4 : V'.ownsRow (h + 2) 3 1 (.slice a4 LE.length c4) LE.length (LE.flatMap clI) := own_heap H.o4 fun x hx => by
    obtain ⟨ds, fs, h3⟩ := own_type H.o4 x hx
    exact grown_at H.o0 hg (own_lt H.o4 x hx).2 (.inr ⟨ds, _, fs, h3, Ne.symm tyne2⟩)
  have hgz : GZ V' (h + 1) (.slice a0 LO.length c0) (.slice none 0 0) (.slice none 0 0) (.slice none 0 0) (.slice a4 LE.length c4) := ⟨H.gz.b.heap e2, H.gz.f.heap e2, cs, fr, e2.trans ht⟩
  have hz := hgz.t
  have hbl : Below h w V' := bel_grownA H.bel (own_base H.o0 (by omega)) hg (by omega)
  exact ⟨(H.zr.heap e1).set _ _ (by omega), (H.zf.heap e1).set _ _, hgz.put0 _, own_setA (m := 0) _ ho (apart_blk ho hz tz1), own_setA (m := 0) _ e4 (apart_blk e4 hz tz3), bel_set hbl (by omega) _, by have := hg.size; simp [go_sem]; omega, H.hw⟩
theorem NwS.app4 {w V V' : World} {h : Nat} {a0 a4 a' : Option Addr} {c0 c4 c' : Nat} {LO : List Sp} {LE LN : List Int} (H : NwS w V h a0 a4 c0 c4 LO LE) (hg : V.grownBy V' (Value.slice a4 LE.length c4).ownBlock)
    (ho : V'.ownsRow (h + 2) 3 1 (.slice a' LN.length c') LN.length (LN.flatMap clI)) : NwS w (V'.setCell ⟨h + 1, 4, none⟩ (.slice a' LN.length c')) h a0 a' c0 c' LO LN := by
  have hsz := H.sz
  obtain ⟨cs, fr, ht⟩ := H.gz.t
  have e1 := grown_at H.o4 hg (b := h) (by omega) (.inl (by omega))
  have e2 := grown_at H.o4 hg (b := h + 1) (by omega) (.inl (by omega))
  have e4 : V'.ownsRow (h + 2) 38 2 (.slice a0 LO.length c0) LO.length (LO.flatMap clS) := own_heap H.o0 fun x hx => by
    obtain ⟨ds, fs, h3⟩ := own_type H.o0 x hx
    exact grown_at H.o4 hg (own_lt H.o0 x hx).2 (.inr ⟨ds, _, fs, h3, tyne2⟩)
  have hgz : GZ V' (h + 1) (.slice a0 LO.length c0) (.slice none 0 0) (.slice none 0 0) (.slice none 0 0) (.slice a4 LE.length c4) := ⟨H.gz.b.heap e2, H.gz.f.heap e2, cs, fr, e2.trans ht⟩
  have hz := hgz.t
  have hbl : Below h w V' := bel_grownA H.bel (own_base H.o4 (by omega)) hg (by omega)
  exact ⟨(H.zr.heap e1).set _ _ (by omega), (H.zf.heap e1).set _ _, hgz.put4 _, own_setA (m := 0) _ e4 (apart_blk e4 hz tz1), own_setA (m := 0) _ ho (apart_blk ho hz tz3), bel_set hbl (by omega) _, by have := hg.size; simp [go_sem]; omega, H.hw⟩

end Go.Proofs.Ytnoadceeenioeaa
