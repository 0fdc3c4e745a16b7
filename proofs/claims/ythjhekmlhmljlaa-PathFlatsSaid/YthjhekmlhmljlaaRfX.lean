/-
  Flat of the document's answer (RfA, RfB, RfD, RfC joined).
-/
import Derived.Test.YthjhekmlhmljlaaArA
import Derived.Test.YthjhekmlhmljlaaPtL
import Derived.Test.YthjhekmlhmljlaaCpA
import Derived.Test.YthjhekmlhmljlaaHlG
import Derived.Test.YthjhekmlhmljlaaPtG
import Derived.Test.YthjhekmlhmljlaaBkA
namespace Go.Proofs.Ythjhekmlhmljlaa
open Go.RowKit Go.PlainAid
set_option linter.unusedSimpArgs false
set_option linter.unusedVariables false

theorem points_any (p : Sp) (z : ArcZ) (w : World) (hc : IsR clS w z.a z.r.cs) (hok : z.r.cs.length ≤ 2) (hp : FixS p) (hf : ∀ c ∈ z.r.cs, FixS c) (he : FixS z.r.e) :
    Calls Try.prog 38 #[.agg #[.int .i64 p.x, .int .i64 p.y], .agg #[.slice z.a z.r.cs.length z.c, .int .i64 z.r.e.x, .int .i64 z.r.e.y]] w (NewPts w (arcPts p z.r)) := by
  obtain ⟨⟨cs, e⟩, a, c⟩ := z
  match cs, hc, hok, hf with
  | [], hc, _, hf => exact points_line p e a c w
  | [x], hc, _, hf => exact points_quad p x e a c w hc hp (hf x (by simp)) he
  | [x, y], hc, _, hf => exact points_cubic p x y e a c w hc hp (hf x (by simp)) (hf y (by simp)) he
  | _ :: _ :: _ :: _, _, h, _ => simp at h
theorem arc1_ok {st : Sp} {l r : List Kn} {a : Arc} {c : Bool} (h : arc1 st l = some (a, r, c)) : a.cs.length ≤ 2 := by
  unfold arc1 at h
  split at h
  · cases h
  · split at h
    · cases h; simp
    · split at h
      · split at h
        · cases h
        · split at h
          · split at h
            · cases h; simp
            · split at h
              · cases h; simp
              · cases h
          · cases h
      · split at h
        · cases h; simp
        · split at h
          · cases h; simp
          · split at h
            · cases h; simp
            · cases h
theorem arcsF_ok {st : Sp} : ∀ (n : Nat) (l : List Kn) (bs : List Arc) (c : Bool), arcsF st n l = some (bs, c) → ∀ r ∈ bs, r.cs.length ≤ 2
  | 0, l, bs, c, h => by cases h; intro r hr; simp at hr
  | n + 1, [], bs, c, h => by cases h; intro r hr; simp at hr
  | n + 1, k :: l, bs, c, h => by
    rw [arcsF] at h
    cases e : arc1 st (k :: l) with
    | none => rw [e] at h; cases h
    | some x =>
      obtain ⟨a, r, c1⟩ := x
      rw [e] at h
      dsimp only at h
      cases e2 : arcsF st n r with
      | none => rw [e2] at h; cases h
      | some y =>
        obtain ⟨bs2, c2⟩ := y
        rw [e2] at h
        cases h
        intro r' hr'
        rcases List.mem_cons.1 hr' with e3 | hr'
        · subst e3; exact arc1_ok e
        · exact arcsF_ok n r bs2 c2 e2 r' hr'
/-- Arcs of a contour of FIX. -/
theorem arcs_fix {c l : List Kn} {s : Sp} {bs : List Arc} {cl : Bool} (hn : c ≠ []) (hg : GoodK c) (hb : begunL c = some (s, l)) (ha : arcsL s l = some (bs, cl)) : FixS s ∧ ∀ r ∈ bs, r.cs.length ≤ 2 ∧ (∀ x ∈ r.cs, FixS x) ∧ FixS r.e := by
  have hin : ∀ k ∈ c, InX ⟨-2147483647, -2147483647, 2147483647, 2147483647⟩ k.sp := fun k hk => (hg k hk).2
  obtain ⟨h1, h2⟩ := begunL_in hn hin hb
  have h3 := arcsF_in h1 _ l bs cl h2 ha
  have h4 := arcsF_ok _ l bs cl ha
  exact ⟨h1, fun r hr => ⟨h4 r hr, (h3 r hr).1, (h3 r hr).2⟩⟩
/-- A polygon, by its start and its arcs. -/
theorem poly_by {c l : List Kn} {s : Sp} (hn : c ≠ []) (hb : begunL c = some (s, l)) : polyL c = (arcsL s l).map fun x => ringL s x.1 x.2 := by
  cases c with
  | nil => exact absurd rfl hn
  | cons k r =>
    simp only [polyL, hb]
    cases arcsL s l <;> rfl
theorem poly_bad {c : List Kn} (hn : c ≠ []) (hb : begunL c = none) : polyL c = none := by
  cases c with
  | nil => exact absurd rfl hn
  | cons k r => simp only [polyL, hb]

end Go.Proofs.Ythjhekmlhmljlaa

namespace Go.Proofs.Ythjhekmlhmljlaa
open Go.RowKit Go.PlainAid
set_option linter.unusedSimpArgs false
set_option linter.unusedVariables false

/-- Rows in memory from B on, each of its own, and none of them in the block g. -/
def RowsG {α : Type} (cl : α → List Value) (s : Nat) (T : TypeId) (w : World) (B g : Nat) (vs : List Value) (P : List (List α)) : Prop := vs.length = P.length ∧ ∀ (i : Nat) (c : List α), P[i]? = some c → ∃ a ci, vs[i]? = some (.slice a c.length ci) ∧ (Value.slice a c.length ci).ownBlock ≠ some g ∧ w.ownsRow B T s (.slice a c.length ci) c.length (c.flatMap cl)
theorem RowsG.below {α : Type} {cl : α → List Value} {s : Nat} {T : TypeId} {w w' : World} {B g : Nat} {vs : List Value} {P : List (List α)} (h : RowsG cl s T w B g vs P) (k : Below w.heap.size w w') : RowsG cl s T w' B g vs P := by
  refine ⟨h.1, fun i c hc => ?_⟩
  obtain ⟨a, ci, h1, h2, h3⟩ := h.2 i c hc
  exact ⟨a, ci, h1, h2, own_below h3 k⟩
theorem RowsG.grown {α : Type} {cl : α → List Value} {s : Nat} {T : TypeId} {w w' : World} {B g g' : Nat} {vs : List Value} {P : List (List α)} (h : RowsG cl s T w B g vs P) (k : w.grownBy w' (some g)) (hg : g' = g ∨ g' = w.heap.size) : RowsG cl s T w' B g' vs P := by
  refine ⟨h.1, fun i c hc => ?_⟩
  obtain ⟨a, ci, h1, h2, h3⟩ := h.2 i c hc
  refine ⟨a, ci, h1, fun e => ?_, own_keep h3 fun x hx => ?_⟩
  · have hlt := (h3.lt g' e).2
    rcases hg with rfl | rfl
    · exact h2 e
    · omega
  · exact k.block x (h3.lt x hx).2 (fun e => h2 (by rw [hx, e]))
theorem RowsG.snoc {α : Type} {cl : α → List Value} {s : Nat} {T : TypeId} {w : World} {B g : Nat} {vs : List Value} {P : List (List α)} (h : RowsG cl s T w B g vs P) {a : Option Addr} {ci : Nat} {c : List α} (hg : (Value.slice a c.length ci).ownBlock ≠ some g) (ho : w.ownsRow B T s (.slice a c.length ci) c.length (c.flatMap cl)) :
    RowsG cl s T w B g (vs ++ [.slice a c.length ci]) (P ++ [c]) := by
  refine ⟨by simp [h.1], fun i d hd => ?_⟩
  by_cases hi : i < P.length
  · rw [List.getElem?_append_left hi] at hd
    obtain ⟨a2, c2, h1, h2, h3⟩ := h.2 i d hd
    exact ⟨a2, c2, by rw [List.getElem?_append_left (by rw [h.1]; exact hi)]; exact h1, h2, h3⟩
  · rw [List.getElem?_append_right (by omega)] at hd
    have hi2 : i - P.length = 0 := by have := (List.getElem?_eq_some_iff.1 hd).1; simp at this; omega
    rw [hi2] at hd
    have e : c = d := by simpa using hd
    subst e
    exact ⟨a, ci, by rw [List.getElem?_append_right (by rw [h.1]; omega), h.1, hi2]; rfl, hg, ho⟩
theorem RowsG.isO {α : Type} {cl : α → List Value} {s : Nat} {T TS : TypeId} {w : World} {B g c n : Nat} {vs : List Value} {P : List (List α)} (h : RowsG cl s T w B g vs P) (ho : w.ownsRow B TS 1 (.slice (some ⟨g, 0, none⟩) n c) n vs) : IsO cl w (some ⟨g, 0, none⟩) P := by
  refine .inr ⟨g, 0, rfl, fun i d hd => ?_⟩
  obtain ⟨a, ci, h1, h2, h3⟩ := h.2 i d hd
  refine ⟨a, ci, own_lies ho i _ h1, ?_, own_isR rfl h3⟩
  rcases h3.2 with ⟨e, h0⟩ | ⟨g', cap', cur, e, _, _, hn, _⟩
  · omega
  · cases e; exact hn
theorem RowsG.base {α : Type} {cl : α → List Value} {s : Nat} {T : TypeId} {w : World} {B B' g : Nat} {vs : List Value} {P : List (List α)} (h : RowsG cl s T w B g vs P) (hB : B' ≤ B) : RowsG cl s T w B' g vs P := by
  refine ⟨h.1, fun i c hc => ?_⟩
  obtain ⟨a, ci, h1, h2, h3⟩ := h.2 i c hc
  refine ⟨a, ci, h1, h2, h3.1, ?_⟩
  rcases h3.2 with hn | ⟨g, cap, cur, hv, hb, rest⟩
  · exact .inl hn
  · exact .inr ⟨g, cap, cur, hv, Nat.le_trans hB hb, rest⟩

end Go.Proofs.Ythjhekmlhmljlaa

namespace Go.Proofs.Ythjhekmlhmljlaa
open Go.RowKit Go.PlainAid
set_option linter.unusedSimpArgs false
set_option linter.unusedVariables false

def ArcsPost (w : World) (c : List Kn) (e : Ending) (w' : World) : Prop := match begunL c with
  | none => NoArcs w e w'
  | some (s, l) => RunArcs w s (arcsL s l) e w'
/-- What is asked of Arcs. -/
def ArcsSay : Prop := ∀ (a : Option Addr) (cap : Nat) (c : List Kn) (w : World), IsR clK w a c → c.length ≤ 4096 → c ≠ [] → c.length ≤ cap → GoodK c → Calls Try.prog 37 #[.slice a c.length cap] w (ArcsPost w c)
/-- What Flat answers for an outline that is not refused ahead. -/
def RFlatPost (w : World) (r : Option (List (List Sp))) (e : Ending) (w' : World) : Prop := match r with
  | none => ErrPost w 61 e w'
  | some P => ∃ g c vs, e = .returned (.tuple #[.slice (some ⟨g, 0, none⟩) P.length c, .int .i64 0]) ∧ w'.ownsRow w.heap.size 45 1 (.slice (some ⟨g, 0, none⟩) P.length c) P.length vs ∧ RowsG clS 2 47 w' w.heap.size g vs P ∧ Below w.heap.size w w'
theorem rflatPost_none {w : World} {r : Option (List (List Sp))} {e : Ending} {w' : World} (h : r = none) (hp : ErrPost w 61 e w') : RFlatPost w r e w' := by rw [h]; exact hp
theorem SpotAt.below {w w' : World} {g : Nat} {p : Sp} (h : SpotAt w g p) (k : Below w.heap.size w w') : SpotAt w' g p := by
  unfold SpotAt; rw [k.block g (Array.getElem?_eq_some_iff.1 h).1]; exact h
theorem SpotAt.fr {w : World} {g : Nat} {p : Sp} (h : SpotAt w g p) (i : Nat) : w.frozen? ⟨g, i, none⟩ = false := frozen_blk h i
theorem SpotAt.grown {w w' : World} {g g' : Nat} {p : Sp} (h : SpotAt w g p) (k : w.grownBy w' (some g')) (hg : g ≠ g') : SpotAt w' g p := by
  unfold SpotAt; rw [k.block g (Array.getElem?_eq_some_iff.1 h).1 (fun e => hg (by cases e; rfl))]; exact h
theorem SpotAt.put {w : World} {g : Nat} {p q : Sp} (h : SpotAt w g p) : SpotAt ((w.setCell ⟨g, 0, none⟩ (.int .i64 q.x)).setCell ⟨g, 1, none⟩ (.int .i64 q.y)) g q := by
  unfold SpotAt; rw [heap_set (heap_set h)]; rfl
theorem arc_at {w : World} {B g n c : Nat} {zs : List ArcZ} (h : ArcsAt w B g n c zs) {j : Nat} {z : ArcZ} (hz : zs[j]? = some z) : w.cell? ⟨g, j * 3, none⟩ = some (.slice z.a z.r.cs.length z.c) ∧ w.cell? ⟨g, j * 3 + 1, none⟩ = some (.int .i64 z.r.e.x) ∧ w.cell? ⟨g, j * 3 + 2, none⟩ = some (.int .i64 z.r.e.y) ∧ IsR clS w z.a z.r.cs := by
  have hl := own_lies h.own
  have h0 := hl _ _ (flat_at arcC_length zs j z hz 0 (by decide))
  have h1 := hl _ _ (flat_at arcC_length zs j z hz 1 (by decide))
  have h2 := hl _ _ (flat_at arcC_length zs j z hz 2 (by decide))
  rw [Nat.zero_add] at h0 h1 h2
  refine ⟨by simpa using h0, h1, h2, ?_⟩
  rcases h.ctl z (List.mem_of_getElem? hz) with e | ⟨b, e1, _, _, e4⟩
  · exact .inl e
  · exact .inr ⟨b, 0, e1, e4⟩
theorem ptsL_take_succ {s : Sp} {bs : List Arc} {j : Nat} {r : Arc} (h : bs[j]? = some r) : ptsL s (bs.take (j + 1)) = ptsL s (bs.take j) ++ arcPts (endL s (bs.take j)) r ∧ endL s (bs.take (j + 1)) = r.e := by
  rw [List.take_add_one, h, Option.toList_some, ptsL_snoc, endL_snoc]
  exact ⟨rfl, rfl⟩
theorem ptsL_len2 : ∀ (l : List Arc) (s : Sp), (ptsL s l).length ≤ 16 * l.length := ptsL_len
theorem endL_fix {s : Sp} : ∀ {l : List Arc}, FixS s → (∀ r ∈ l, FixS r.e) → FixS (endL s l)
  | [], h, _ => h
  | a :: l, h, hl => by rw [endL]; exact endL_fix (hl a (by simp)) (fun r hr => hl r (List.mem_cons_of_mem _ hr))
set_option maxHeartbeats 1000000 in
theorem rflat_refused (a : Option Addr) (cap : Nat) (O : List (List Kn)) (w : World) (ho : IsO clK w a O) (hl : Long O) (hc : ¬ checkE O = 0) :
    Calls Try.prog 17 #[.slice a O.length cap] w (ErrPost w (checkE O)) := by
  have HC := Lib.hid (refcheck_c a cap O w ho hl)
  obtain ⟨E, HE⟩ : ∃ E, Hid (checkE O = E) := ⟨_, rfl⟩
  rw [HE.out] at HC hc
  rw [HE.out]
  have q : (E == 0) = false := by simpa using hc
  clear ho hl hc
  go_enter Try.func17, Try.ntmps17
  go_wp2_with fail
  refine HC.out.mono ?_
  rintro e w1 ⟨rfl, hb⟩
  have HB := Lib.hid hb
  clear hb HC
  go_wp2_with fail
  go_ret2
  exact ⟨rfl, HB.out⟩

end Go.Proofs.Ythjhekmlhmljlaa

namespace Go.Proofs.Ythjhekmlhmljlaa
open Go.RowKit Go.PlainAid
set_option linter.unusedSimpArgs false
set_option linter.unusedVariables false

theorem own_lo {w : World} {B B' : Nat} {e : TypeId} {s n : Nat} {v : Value} {xs : List Value} (h : w.ownsRow B e s v n xs) (hB : B' ≤ B) : w.ownsRow B' e s v n xs := by
  refine ⟨h.1, ?_⟩
  rcases h.2 with hn | ⟨g, cap, cur, hv, hb, rest⟩
  · exact .inl hn
  · exact .inr ⟨g, cap, cur, hv, Nat.le_trans hB hb, rest⟩
theorem cut_flat {L : List Sp} {k : Nat} (h : L.length = k + 1) : L.dropLast.flatMap clS = (L.flatMap clS).take (k * 2) := by
  rw [List.dropLast_eq_take, h, Nat.add_sub_cancel]
  have h3 : L.flatMap clS = (L.take k).flatMap clS ++ (L.drop k).flatMap clS := by rw [← List.flatMap_append, List.take_append_drop]
  have h4 : ((L.take k).flatMap clS).length = k * 2 := by rw [flat_length clS_length, List.length_take, Nat.min_eq_left (by omega)]
  rw [h3, ← h4, List.take_left]

set_option maxRecDepth 20000 in
set_option maxHeartbeats 8000000 in
theorem rflat_run (hA : ArcsSay) (a : Option Addr) (cap : Nat) (O : List (List Kn)) (w : World) (ho : IsO clK w a O) (hl : Long O) (hc : checkE O = 0) :
    Calls Try.prog 17 #[.slice a O.length cap] w (RFlatPost w (flatL O)) := by
  have HC := Lib.hid (refcheck_c a cap O w ho hl)
  rw [hc] at HC
  obtain ⟨hm, hg⟩ := check_ok hc
  obtain ⟨x1, x2, x3⟩ := many_no hm
  have HG := Lib.hid hg
  have HN3 := Lib.hid x3
  have HO := Lib.hid ho
  have HAS := Lib.hid hA
  obtain ⟨n, HN⟩ : ∃ n, Hid (O.length = n) := ⟨_, rfl⟩
  have HN2 : Hid (n ≤ 256) := by have := HN.out; unfold Hid; omega
  rw [HN.out] at HC
  rw [HN.out]
  clear ho hl hc hm hg x1 x2 x3 hA
  go_enter Try.func17, Try.ntmps17
  go_wp2_with fail
  refine HC.out.mono ?_
  rintro e u ⟨rfl, hb1⟩
  have HU := Lib.hid hb1
  have HO1 := Lib.hid (World.ownsRow_lit (base := u.heap.size) (e := 45) (size := 1) u #[] 0 (Nat.le_refl _) (by decide) rfl)
  have HBU : Hid (Below u.heap.size u (u.alloc (.cells #[] 45))) := (Below.refl _ _).alloc (Nat.le_refl _) _
  clear hb1 HC
  go_wp2_with fail
  go_loopw [5, 23] (fun v x wr => ∃ i g c : Nat, ∃ vs Qs, i ≤ n ∧ v = .slice (some ⟨g, 0, none⟩) i c ∧ x = .int .i64 i ∧ Hid (wr.ownsRow u.heap.size 45 1 (.slice (some ⟨g, 0, none⟩) i c) i vs) ∧ Hid (RowsG clS 2 47 wr u.heap.size g vs Qs) ∧
    Hid (Qs.length = i ∧ ∀ (j : Nat) c q, O[j]? = some c → Qs[j]? = some q → polyL c = some q) ∧ Hid (Below u.heap.size u wr)) (fun _ x _ => n - (intOf x).toNat)
  case atStart => exact ⟨0, _, _, [], [], Nat.zero_le _, rfl, rfl, HO1, ⟨rfl, fun i c h => by simp at h⟩, ⟨rfl, fun j c q _ h => by simp at h⟩, HBU⟩
  case round =>
    clear HO1 HBU
    obtain ⟨i, g, c, vs, Qs, hi, rfl, rfl, HW, HV, HQ, HB⟩ := hrel
    obtain ⟨wo, rfl⟩ : ∃ x, x = wr := ⟨_, rfl⟩
    by_cases hlt : i < n
    · have hlt' : (i : Int) < (n : Int) := by omega
      obtain ⟨d, hd⟩ := get_of (show i < O.length by rw [HN.out]; exact hlt)
      have HBW := Lib.hid (bel_next HU.out HB.out)
      obtain ⟨b, off, ai, ci, rfl, c0, hci, hrw⟩ := (HO.out.below HBW.out).at hd
      have HD := Lib.hid hd
      have HLT := Lib.hid hlt
      have HX := Lib.hid (next64 (j := i) (by have := HN2.out; omega))
      have HSN : Hid (∀ q, polyL d = some q → (Qs ++ [q]).length = i + 1 ∧ ∀ (j : Nat) c q', O[j]? = some c → (Qs ++ [q])[j]? = some q' → polyL c = some q') := by
        intro q hq
        refine ⟨by rw [List.length_append, HQ.out.1]; rfl, fun j' c' q' h1 h2 => ?_⟩
        by_cases hj2 : j' < Qs.length
        · rw [List.getElem?_append_left hj2] at h2; exact HQ.out.2 j' c' q' h1 h2
        · have hj3 : j' = Qs.length := by have := (List.getElem?_eq_some_iff.1 h2).1; simp at this; omega
          subst hj3
          rw [HQ.out.1, HD.out] at h1
          have h3 : q = q' := by simpa using h2
          cases h1
          rw [← h3]; exact hq
      by_cases hdn : d = []
      · subst hdn
        simp only [List.length_nil] at c0
        have HSL : Hid (Lies (wo.alloc (.cells #[.slice none 0 0] 45)) wo.heap.size 0 [.slice none 0 0]) := lies_new (w := wo) (cs := #[.slice none 0 0]) (T := 45)
        clear hd hrw hi hlt hci
        go_wp2_with (at_builtin; refine wpList_app elSS rfl _ _ rfl (wo.alloc (.cells #[.slice none 0 0] 45)) u.heap.size g c i vs (some ⟨wo.heap.size, 0, none⟩) 1 1 [.slice none 0 0] rfl rfl (HW.out.alloc _) rfl (.inr ⟨_, 0, rfl, HSL.out⟩) (by simp [Value.oneCell']) (by have := HN2.out; have := HLT.out; omega) (by have := HN2.out; have := HLT.out; omega) (by have := HB.out.size; simp; omega) ?_; intro g8 c8 w8 ho8 hg8 hat8)
        have HB8 : Hid (Below u.heap.size u w8) := belGrown (HB.out.alloc HB.out.size _) hg8 (ownsRow_cap HW.out).2.1 (by have := HB.out.size; simp; omega)
        have HV8 : Hid (RowsG clS 2 47 w8 u.heap.size g8 (vs ++ [.slice none 0 0]) (Qs ++ [[]])) := RowsG.snoc (c := []) ((HV.out.below ((Below.refl _ _).alloc (Nat.le_refl _) _)).grown hg8 hat8) (by simp [Value.ownBlock]) (World.ownsRow_nil _ _ _ _)
        have HW8 := Lib.hid ho8
        have HQ8 := Lib.hid (HSN.out [] rfl)
        clear ho8 hg8 hat8 c0
        go_wp2_with fail
        go_roundw
        case rel => exact ⟨i + 1, g8, c8, _, Qs ++ [[]], HLT.out, rfl, by first | rw [HX.out] | go_num, HW8, HV8, HQ8, HB8⟩
        case measure => (try rw [HX.out]); have := HLT.out; simp only [intOf]; omega
      · have HGD := Lib.hid (HG.out d (List.mem_of_getElem? hd))
        have HD4 : Hid (d.length ≤ 4096) := HN3.out d (List.mem_of_getElem? hd)
        have HAC := Lib.hid (HAS.out ai ci d wo hrw HD4.out hdn hci HGD.out)
        obtain ⟨m, HM⟩ : ∃ m, Hid (d.length = m) := ⟨_, rfl⟩
        have hm0 : ((m : Int) == 0) = false := by have h1 := HM.out; have h2 : 0 < d.length := List.length_pos_iff.2 hdn; simp; omega
        have hm1 : ¬ m = 0 := by have h1 := HM.out; have h2 : 0 < d.length := List.length_pos_iff.2 hdn; omega
        rw [HM.out] at c0 HAC
        have HDN := Lib.hid hdn
        clear hd hrw hi hlt hci hdn
        go_wp2_with fail
        refine HAC.out.mono ?_
        intro e w3 hp3
        unfold ArcsPost at hp3
        cases hbg : begunL d with
        | none =>
          rw [hbg] at hp3
          obtain ⟨st, rfl, hb3⟩ := hp3
          have HE : Hid (flatL O = none) := flatL_none (List.mem_of_getElem? HD.out) (poly_bad HDN.out hbg)
          have HB3 := Lib.hid (bel_alloc (bel_next HBW.out hb3) (.cells #[.int .i64 st.x, .int .i64 st.y] 47))
          clear hb3 hbg HAC c0 hm0 hm1
          go_wp2_with fail
          go_ret2
          exact rflatPost_none HE.out ⟨rfl, HB3.out⟩
        | some y =>
          obtain ⟨s, l⟩ := y
          rw [hbg] at hp3
          dsimp only at hp3
          unfold RunArcs at hp3
          cases har : arcsL s l with
          | none =>
            rw [har] at hp3
            obtain ⟨st, rfl, hb3⟩ := hp3
            have HE : Hid (flatL O = none) := flatL_none (List.mem_of_getElem? HD.out) (by rw [poly_by HDN.out hbg, har]; rfl)
            have HB3 := Lib.hid (bel_alloc (bel_next HBW.out hb3) (.cells #[.int .i64 st.x, .int .i64 st.y] 47))
            clear hb3 hbg har HAC c0 hm0 hm1
            go_wp2_with fail
            go_ret2
            exact rflatPost_none HE.out ⟨rfl, HB3.out⟩
          | some z =>
            obtain ⟨bs, cl⟩ := z
            rw [har] at hp3
            dsimp only at hp3
            obtain ⟨g3, n3, c3, zs, hzs, rfl, hat3, hb3⟩ := hp3
            have HPL : Hid (polyL d = some (ringL s bs cl)) := by unfold Hid; rw [poly_by HDN.out hbg, har]; rfl
            obtain ⟨hfs, hfz⟩ := arcs_fix HDN.out HGD.out hbg har
            have HFS := Lib.hid hfs
            have HFZ := Lib.hid hfz
            have HZS := Lib.hid hzs
            have HBL : Hid (bs.length ≤ 4096) := by have h1 := begunL_len hbg; have h2 := arcsF_len _ l bs cl har; have := HD4.out; unfold Hid; omega
            have HZN : Hid (zs.length = n3) := hat3.len
            have HBN : Hid (bs.length = n3) := by unfold Hid; rw [← hzs, List.length_map]; exact hat3.len
            have HAT := Lib.hid hat3
            have HB3 := Lib.hid hb3
            have HN5 : Hid (Below w3.heap.size w3 ((w3.alloc (.cells #[.int .i64 s.x, .int .i64 s.y] 47)).alloc (.cells #[.int .i64 s.x, .int .i64 s.y] 47))) := ((Below.refl _ _).alloc (Nat.le_refl _) _).alloc (by simp) _
            have HNOW : Hid (SpotAt ((w3.alloc (.cells #[.int .i64 s.x, .int .i64 s.y] 47)).alloc (.cells #[.int .i64 s.x, .int .i64 s.y] 47)) w3.heap.size s) := SpotAt.below (heap_alloc_new w3 _) ((Below.refl _ _).alloc (Nat.le_refl _) _)
            have HROW : Hid (((w3.alloc (.cells #[.int .i64 s.x, .int .i64 s.y] 47)).alloc (.cells #[.int .i64 s.x, .int .i64 s.y] 47)).ownsRow (w3.heap.size + 1) 47 2 (.slice (some ⟨w3.heap.size + 1, 0, none⟩) 1 1) 1 ((s :: ptsL s (bs.take 0)).flatMap clS)) := by
              have h := World.ownsRow_lit (base := w3.heap.size + 1) (e := 47) (size := 2) (w3.alloc (.cells #[.int .i64 s.x, .int .i64 s.y] 47)) #[.int .i64 s.x, .int .i64 s.y] 1 (by simp) (by decide) rfl
              rw [show (w3.alloc (.cells #[.int .i64 s.x, .int .i64 s.y] 47)).heap.size = w3.heap.size + 1 by simp] at h
              simpa [ptsL, clS, Hid] using h
            have HCC : Hid (cl = true → bs ≠ []) := by intro h; subst h; exact (arcs_closed _ l bs (Nat.le_refl _) har s).2
            clear hfs hfz hzs hat3 hb3 hbg har HAC c0 hm0 hm1
            go_wp2_with fail
            go_loopw [12, 46] (fun v x wq => ∃ j m gr cr : Nat, j ≤ n3 ∧ v = .slice (some ⟨gr, 0, none⟩) m cr ∧ x = .int .i64 j ∧ Hid ((s :: ptsL s (bs.take j)).length = m) ∧ Hid (wq.ownsRow (w3.heap.size + 1) 47 2 (.slice (some ⟨gr, 0, none⟩) m cr) m ((s :: ptsL s (bs.take j)).flatMap clS)) ∧ Hid (SpotAt wq w3.heap.size (endL s (bs.take j))) ∧ Hid (Below w3.heap.size w3 wq)) (fun _ x _ => n3 - (intOf x).toNat)
            case atStart => exact ⟨0, 1, _, _, Nat.zero_le _, rfl, rfl, rfl, HROW, HNOW, HN5⟩
            case round =>
              clear HROW HNOW HN5
              obtain ⟨j, m, gr, cr, hj, rfl, rfl, HML, HRO, HNW, HBq⟩ := hrel
              by_cases hjl : j < n3
              · have hjl' : (j : Int) < (n3 : Int) := by omega
                obtain ⟨z, hz⟩ := get_of (show j < zs.length by rw [HZN.out]; exact hjl)
                have hbz : bs[j]? = some z.r := by rw [← HZS.out, List.getElem?_map, hz]; rfl
                obtain ⟨p, HPE⟩ : ∃ p, Hid (endL s (bs.take j) = p) := ⟨_, rfl⟩
                obtain ⟨t1, t2⟩ := ptsL_take_succ (s := s) hbz
                rw [HPE.out] at t1 HNW
                have HT1 := Lib.hid t1
                have HT2 := Lib.hid t2
                obtain ⟨k0, k1, k2, hrz⟩ := arc_at (HAT.out.below HBq.out) hz
                have HN6 : Hid (Below wr.heap.size wr (wr.alloc (.cells #[.slice z.a z.r.cs.length z.c, .int .i64 z.r.e.x, .int .i64 z.r.e.y] 72))) := (Below.refl _ _).alloc (Nat.le_refl _) _
                obtain ⟨f1, f2, f3⟩ := HFZ.out z.r (List.mem_of_getElem? hbz)
                have HFP : Hid (FixS p) := by unfold Hid; rw [← HPE.out]; exact endL_fix HFS.out (fun r hr => (HFZ.out r (List.mem_of_mem_take hr)).2.2)
                have HPT := Lib.hid (points_any p z (wr.alloc (.cells #[.slice z.a z.r.cs.length z.c, .int .i64 z.r.e.x, .int .i64 z.r.e.y] 72)) (hrz.below HN6.out) f1 HFP.out f2 f3)
                have HAL := Lib.hid (arcPts_length p z.r)
                have HNW6 := Lib.hid (HNW.out.below HN6.out)
                obtain ⟨w0, w1'⟩ := HNW6.out.cells
                have HJL := Lib.hid hjl
                have HXJ := Lib.hid (next64 (j := j) (by have := HBN.out; have := HBL.out; omega))
                have HMB : Hid (m ≤ 65537) := by have h1 := HML.out; have h2 := ptsL_len (bs.take j) s; have h3 := HBL.out; rw [List.length_cons] at h1; rw [List.length_take] at h2; unfold Hid; omega
                have HGL : Hid (gr < wr.heap.size ∧ w3.heap.size + 1 ≤ gr) := ⟨(ownsRow_cap HRO.out).2.2, (ownsRow_cap HRO.out).2.1⟩
                obtain ⟨L, HLL⟩ : ∃ L, Hid (arcPts p z.r = L) := ⟨_, rfl⟩
                rw [HLL.out] at HPT HAL HT1
                clear hz hbz hj hjl t1 t2 f1 f2 f3 hrz
                go_wp2_with fail
                refine HPT.out.mono ?_
                rintro e w7 ⟨gp, cp, rfl, ho7, hb7⟩
                have HN7 := Lib.hid (bel_next HN6.out hb7)
                have HRO7 := Lib.hid (own_below HRO.out HN7.out)
                have HNW7 := Lib.hid (HNW.out.below HN7.out)
                have HBq7 := Lib.hid (bel_to HBq.out HN7.out HBq.out.size)
                have HO7 := Lib.hid ho7
                have y1 : w7.cell? ⟨wr.heap.size, 1, none⟩ = some (.int .i64 z.r.e.x) := keepC hb7 (by simp [go_sem])
                have y2 : w7.cell? ⟨wr.heap.size, 2, none⟩ = some (.int .i64 z.r.e.y) := keepC hb7 (by simp [go_sem])
                have HY := Lib.hid (And.intro y1 y2)
                clear ho7 hb7 k0 k1 k2 w0 w1' HPT y1 y2
                go_wp2_with (at_builtin; refine wpList_app elS rfl _ _ rfl w7 (w3.heap.size + 1) gr cr m ((s :: ptsL s (bs.take j)).flatMap clS) (some ⟨gp, 0, none⟩) L.length cp (L.flatMap clS) rfl rfl HRO7.out (flat_length clS_length L) (.inr ⟨gp, 0, rfl, own_lies HO7.out⟩) clS_one (by have := HMB.out; have := HAL.out; omega) (by have := HMB.out; have := HAL.out; omega) (by have := (ownsRow_cap HRO7.out).2; omega) ?_; intro g9 c9 w9 ho9 hg9 hat9; have q1 := grown_cell hg9 HY.out.1 (by have := HGL.out; omega); have q2 := grown_cell hg9 HY.out.2 (by have := HGL.out; omega); have n0 := (HNW7.out.grown hg9 (by have := HGL.out; omega)).cells.1; have n1 := (HNW7.out.grown hg9 (by have := HGL.out; omega)).cells.2; have n2 := (HNW7.out.grown hg9 (by have := HGL.out; omega)).fr 0; have n4 := (HNW7.out.grown hg9 (by have := HGL.out; omega)).fr 1)
                have HG9 : Hid (w3.heap.size + 1 ≤ g9) := (ownsRow_cap ho9).2.1
                have HRO9 : Hid (((w9.setCell ⟨w3.heap.size, 0, none⟩ (.int .i64 z.r.e.x)).setCell ⟨w3.heap.size, 1, none⟩ (.int .i64 z.r.e.y)).ownsRow (w3.heap.size + 1) 47 2 (.slice (some ⟨g9, 0, none⟩) (m + L.length) c9) (m + L.length) ((s :: ptsL s (bs.take (j + 1))).flatMap clS)) := by
                  unfold Hid
                  rw [HT1.out, ← List.cons_append, List.flatMap_append]
                  exact own_set (own_set ho9 _ _ (by show w3.heap.size ≠ g9; have := HG9.out; omega)) _ _ (by show w3.heap.size ≠ g9; have := HG9.out; omega)
                have HML9 : Hid ((s :: ptsL s (bs.take (j + 1))).length = m + L.length) := by unfold Hid; rw [HT1.out, ← List.cons_append, List.length_append, HML.out]
                have HNW9 : Hid (SpotAt ((w9.setCell ⟨w3.heap.size, 0, none⟩ (.int .i64 z.r.e.x)).setCell ⟨w3.heap.size, 1, none⟩ (.int .i64 z.r.e.y)) w3.heap.size (endL s (bs.take (j + 1)))) := by unfold Hid; rw [HT2.out]; exact (HNW7.out.grown hg9 (by have := HGL.out; omega)).put
                have HBq9 : Hid (Below w3.heap.size w3 ((w9.setCell ⟨w3.heap.size, 0, none⟩ (.int .i64 z.r.e.x)).setCell ⟨w3.heap.size, 1, none⟩ (.int .i64 z.r.e.y))) := bel_set (bel_set (belGrown HBq7.out hg9 (by have := HGL.out; omega) HBq7.out.size) (Nat.le_refl _) _) (Nat.le_refl _) _
                clear ho9 hg9 hat9 q1 q2 n0 n1 n2 n4
                go_wp2_with fail
                go_roundw
                case rel => exact ⟨j + 1, _, g9, c9, HJL.out, rfl, by first | rw [HXJ.out] | go_num, HML9, HRO9, HNW9, HBq9⟩
                case measure => (try rw [HXJ.out]); have := HJL.out; simp only [intOf]; omega
              · have hjl' : ¬ (j : Int) < (n3 : Int) := by omega
                obtain rfl : j = n3 := by omega
                have HTK : Hid (bs.take j = bs) := List.take_of_length_le (by rw [HBN.out]; exact Nat.le_refl _)
                rw [HTK.out] at HML HRO HNW
                have HBo := Lib.hid (bel_next HB3.out HBq.out)
                have HBu := Lib.hid (bel_next HB.out HBo.out)
                have HWq := Lib.hid (own_below HW.out HBo.out)
                have HVq := Lib.hid (HV.out.below HBo.out)
                have HGR : Hid (gr ≠ g ∧ gr < wr.heap.size) := ⟨by have h1 := (ownsRow_cap HW.out).2.2; have h2 := (ownsRow_cap HRO.out).2.1; have h3 := HB3.out.size; omega, (ownsRow_cap HRO.out).2.2⟩
                have HRB : Hid (u.heap.size ≤ w3.heap.size + 1) := by have h1 := HB.out.size; have h2 := HB3.out.size; unfold Hid; omega
                cases cl
                · have HRL : Hid ((ringL s bs false).length = m) := HML
                  have HRO : Hid (wr.ownsRow u.heap.size 47 2 (.slice (some ⟨gr, 0, none⟩) m cr) m ((ringL s bs false).flatMap clS)) := own_lo HRO.out HRB.out
                  have HSL : Hid (Lies (wr.alloc (.cells #[.slice (some ⟨gr, 0, none⟩) m cr] 45)) wr.heap.size 0 [.slice (some ⟨gr, 0, none⟩) m cr]) := lies_new (w := wr) (cs := #[.slice (some ⟨gr, 0, none⟩) m cr]) (T := 45)
                  go_wp2_with (at_builtin; refine wpList_app elSS rfl _ _ rfl (wr.alloc (.cells #[.slice (some ⟨gr, 0, none⟩) m cr] 45)) u.heap.size g c i vs (some ⟨wr.heap.size, 0, none⟩) 1 1 [.slice (some ⟨gr, 0, none⟩) m cr] rfl rfl (HWq.out.alloc _) rfl (.inr ⟨_, 0, rfl, HSL.out⟩) (by simp [Value.oneCell']) (by have := HN2.out; have := HLT.out; omega) (by have := HN2.out; have := HLT.out; omega) (by have := HBu.out.size; simp; omega) ?_; intro g8 c8 w8 ho8 hg8 hat8)
                  have HB8 : Hid (Below u.heap.size u w8) := belGrown (HBu.out.alloc HBu.out.size _) hg8 (ownsRow_cap HW.out).2.1 (by have := HBu.out.size; simp; omega)
                  have HV8 : Hid (RowsG clS 2 47 w8 u.heap.size g8 (vs ++ [.slice (some ⟨gr, 0, none⟩) m cr]) (Qs ++ [ringL s bs false])) := by
                    have h := RowsG.snoc (a := some ⟨gr, 0, none⟩) (ci := cr) (c := ringL s bs false) ((HVq.out.below ((Below.refl _ _).alloc (Nat.le_refl _) _)).grown hg8 hat8) ?_ ?_
                    · rwa [HRL.out] at h
                    · intro e
                      have e' : gr = g8 := by simpa [Value.ownBlock] using e
                      have h1 := HGR.out
                      rcases hat8 with h | h
                      · omega
                      · rw [h] at e'; simp at e'; omega
                    · rw [HRL.out]
                      refine own_keep (HRO.out.alloc (.cells #[.slice (some ⟨gr, 0, none⟩) m cr] 45)) fun x hx => ?_
                      have : x = gr := by simpa [Value.ownBlock] using hx.symm
                      subst this
                      exact hg8.block x (by have := HGR.out.2; simp; omega) (fun e => HGR.out.1 (by cases e; rfl))
                  have HW8 := Lib.hid ho8
                  have HQ8 := Lib.hid (HSN.out _ HPL.out)
                  clear ho8 hg8 hat8
                  go_wp2_with fail
                  go_roundw
                  case rel => exact ⟨i + 1, g8, c8, _, Qs ++ [ringL s bs false], HLT.out, rfl, by first | rw [HX.out] | go_num, HW8, HV8, HQ8, HB8⟩
                  case measure => (try rw [HX.out]); have := HLT.out; simp only [intOf]; omega
                · obtain ⟨mk, HMK⟩ : ∃ k, Hid (m = k + 1) := ⟨m - 1, by have := HML.out; rw [List.length_cons] at this; unfold Hid; omega⟩
                  have hm2 : (1 : Int) < (m : Int) := by
                    have h1 := HML.out
                    have h2 := HCC.out rfl
                    cases hbs : bs with
                    | nil => exact absurd hbs h2
                    | cons r0 rs =>
                      rw [hbs, List.length_cons, ptsL, List.length_append] at h1
                      have := (arcPts_length s r0).1
                      omega
                  have hsub : wrap64 ((m : Int) - 1) = (mk : Int) := by have h1 := HMK.out; have h2 := HML.out; have h3 := ptsL_len bs s; have h4 := HBL.out; rw [List.length_cons] at h2; unfold wrap64; omega
                  have hk0 : (0 : Int) ≤ (mk : Int) := by omega
                  have hkc : (mk : Int) ≤ (cr : Int) := by have h1 := (ownsRow_cap HRO.out).1; have h2 := HMK.out; omega
                  have HRL : Hid ((ringL s bs true).length = mk) := by unfold Hid ringL; simp only [if_true]; rw [List.length_dropLast, HML.out, HMK.out]; rfl
                  have HRO : Hid (wr.ownsRow u.heap.size 47 2 (.slice (some ⟨gr, 0, none⟩) mk cr) mk ((ringL s bs true).flatMap clS)) := by
                    have h := own_cut HRO.out mk (by have := HMK.out; omega)
                    unfold Hid ringL
                    simp only [if_true]
                    rw [cut_flat (k := mk) (by rw [HML.out, HMK.out])]
                    exact own_lo h HRB.out
                  have HSL : Hid (Lies (wr.alloc (.cells #[.slice (some ⟨gr, 0, none⟩) mk cr] 45)) wr.heap.size 0 [.slice (some ⟨gr, 0, none⟩) mk cr]) := lies_new (w := wr) (cs := #[.slice (some ⟨gr, 0, none⟩) mk cr]) (T := 45)
                  go_wp2_with (at_builtin; refine wpList_app elSS rfl _ _ rfl (wr.alloc (.cells #[.slice (some ⟨gr, 0, none⟩) mk cr] 45)) u.heap.size g c i vs (some ⟨wr.heap.size, 0, none⟩) 1 1 [.slice (some ⟨gr, 0, none⟩) mk cr] rfl rfl (HWq.out.alloc _) rfl (.inr ⟨_, 0, rfl, HSL.out⟩) (by simp [Value.oneCell']) (by have := HN2.out; have := HLT.out; omega) (by have := HN2.out; have := HLT.out; omega) (by have := HBu.out.size; simp; omega) ?_; intro g8 c8 w8 ho8 hg8 hat8)
                  have HB8 : Hid (Below u.heap.size u w8) := belGrown (HBu.out.alloc HBu.out.size _) hg8 (ownsRow_cap HW.out).2.1 (by have := HBu.out.size; simp; omega)
                  have HV8 : Hid (RowsG clS 2 47 w8 u.heap.size g8 (vs ++ [.slice (some ⟨gr, 0, none⟩) mk cr]) (Qs ++ [ringL s bs true])) := by
                    have h := RowsG.snoc (a := some ⟨gr, 0, none⟩) (ci := cr) (c := ringL s bs true) ((HVq.out.below ((Below.refl _ _).alloc (Nat.le_refl _) _)).grown hg8 hat8) ?_ ?_
                    · rwa [HRL.out] at h
                    · intro e
                      have e' : gr = g8 := by simpa [Value.ownBlock] using e
                      have h1 := HGR.out
                      rcases hat8 with h | h
                      · omega
                      · rw [h] at e'; simp at e'; omega
                    · rw [HRL.out]
                      refine own_keep (HRO.out.alloc (.cells #[.slice (some ⟨gr, 0, none⟩) mk cr] 45)) fun x hx => ?_
                      have : x = gr := by simpa [Value.ownBlock] using hx.symm
                      subst this
                      exact hg8.block x (by have := HGR.out.2; simp; omega) (fun e => HGR.out.1 (by cases e; rfl))
                  have HW8 := Lib.hid ho8
                  have HQ8 := Lib.hid (HSN.out _ HPL.out)
                  clear ho8 hg8 hat8
                  go_wp2_with fail
                  go_roundw
                  case rel => exact ⟨i + 1, g8, c8, _, Qs ++ [ringL s bs true], HLT.out, rfl, by first | rw [HX.out] | go_num, HW8, HV8, HQ8, HB8⟩
                  case measure => (try rw [HX.out]); have := HLT.out; simp only [intOf]; omega
    · have hlt' : ¬ (i : Int) < (n : Int) := by omega
      obtain rfl : i = n := by omega
      have HE := Lib.hid (flatL_some (O := O) (Q := Qs) (by rw [HQ.out.1, HN.out]) HQ.out.2)
      go_wp2_with fail
      go_ret2
      unfold RFlatPost
      rw [HE.out]
      have hbase : w.heap.size ≤ u.heap.size := HU.out.size
      refine ⟨g, c, vs, by rw [HQ.out.1]; rfl, ?_, HV.out.base hbase, bel_next HU.out HB.out⟩
      rw [HQ.out.1]
      have h := HW.out
      refine ⟨h.1, ?_⟩
      rcases h.2 with hn | ⟨g', cap', cur, hv, hb, rest⟩
      · exact .inl hn
      · exact .inr ⟨g', cap', cur, hv, Nat.le_trans hbase hb, rest⟩

end Go.Proofs.Ythjhekmlhmljlaa
