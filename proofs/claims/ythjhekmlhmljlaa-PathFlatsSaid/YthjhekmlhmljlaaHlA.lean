/-
  Boxes over lists of points: the least box; the points of a flattened contour lie within every box that holds its knots; polygons of two outlines together. No conditions but those that each theorem names.
-/
import Derived.Test.YthjhekmlhmljlaaPtA
namespace Go.Proofs.Ythjhekmlhmljlaa
set_option linter.unusedVariables false
set_option linter.unusedSimpArgs false

/-- A box. -/
structure Bx where
  x0 : Int
  y0 : Int
  x1 : Int
  y1 : Int
def growB (b : Bx) (p : Sp) : Bx := ⟨if p.x < b.x0 then p.x else b.x0, if p.y < b.y0 then p.y else b.y0, if b.x1 < p.x then p.x else b.x1, if b.y1 < p.y then p.y else b.y1⟩
/-- The least box of points. -/
def hullB : List Sp → Bx
  | [] => ⟨0, 0, 0, 0⟩
  | p :: l => l.foldl growB ⟨p.x, p.y, p.x, p.y⟩
theorem hullB_one (p : Sp) : hullB [p] = ⟨p.x, p.y, p.x, p.y⟩ := rfl
theorem hullB_snoc {l : List Sp} (h : l ≠ []) (p : Sp) : hullB (l ++ [p]) = growB (hullB l) p := by
  cases l with
  | nil => exact absurd rfl h
  | cons a l => simp [hullB, List.foldl_append]
def InX (b : Bx) (p : Sp) : Prop := InB b.x0 b.y0 b.x1 b.y1 p
theorem foldl_grow : ∀ (l : List Sp) (b : Bx), (b.x0 ≤ b.x1 ∧ b.y0 ≤ b.y1) → ((l.foldl growB b).x0 ≤ b.x0 ∧ (l.foldl growB b).y0 ≤ b.y0 ∧ b.x1 ≤ (l.foldl growB b).x1 ∧ b.y1 ≤ (l.foldl growB b).y1) ∧ ∀ p ∈ l, InX (l.foldl growB b) p
  | [], b, _ => ⟨⟨Int.le_refl _, Int.le_refl _, Int.le_refl _, Int.le_refl _⟩, fun p h => by simp at h⟩
  | q :: l, b, hb => by
    rw [List.foldl_cons]
    have g : (growB b q).x0 ≤ b.x0 ∧ (growB b q).y0 ≤ b.y0 ∧ b.x1 ≤ (growB b q).x1 ∧ b.y1 ≤ (growB b q).y1 ∧ InX (growB b q) q := by
      unfold growB InX InB In
      refine ⟨?_, ?_, ?_, ?_, ⟨?_, ?_⟩, ?_, ?_⟩ <;> dsimp only <;> split <;> omega
    obtain ⟨h1, h2⟩ := foldl_grow l (growB b q) (by omega)
    refine ⟨by omega, fun p hp => ?_⟩
    rcases List.mem_cons.1 hp with e | hp
    · subst e
      obtain ⟨⟨a, b'⟩, c, d⟩ := g.2.2.2.2
      exact ⟨⟨by omega, by omega⟩, by omega, by omega⟩
    · exact h2 p hp
theorem hullB_in {l : List Sp} : ∀ p ∈ l, InX (hullB l) p := by
  cases l with
  | nil => intro p h; simp at h
  | cons q l =>
    intro p hp
    obtain ⟨h1, h2⟩ := foldl_grow l ⟨q.x, q.y, q.x, q.y⟩ ⟨Int.le_refl _, Int.le_refl _⟩
    rcases List.mem_cons.1 hp with e | hp
    · subst e
      exact ⟨⟨h1.1, h1.2.2.1⟩, h1.2.1, h1.2.2.2⟩
    · exact h2 p hp
/-- It is the least. -/
theorem foldl_least (B : Bx) : ∀ (l : List Sp) (b : Bx), (B.x0 ≤ b.x0 ∧ B.y0 ≤ b.y0 ∧ b.x1 ≤ B.x1 ∧ b.y1 ≤ B.y1) → (∀ p ∈ l, InX B p) → B.x0 ≤ (l.foldl growB b).x0 ∧ B.y0 ≤ (l.foldl growB b).y0 ∧ (l.foldl growB b).x1 ≤ B.x1 ∧ (l.foldl growB b).y1 ≤ B.y1
  | [], b, hb, _ => hb
  | q :: l, b, hb, h => by
    rw [List.foldl_cons]
    refine foldl_least B l _ ?_ (fun p hp => h p (List.mem_cons_of_mem _ hp))
    obtain ⟨⟨a1, a2⟩, a3, a4⟩ := h q (List.mem_cons_self ..)
    unfold growB
    refine ⟨?_, ?_, ?_, ?_⟩ <;> dsimp only <;> split <;> omega
theorem hullB_least {B : Bx} {l : List Sp} (hl : l ≠ []) (h : ∀ p ∈ l, InX B p) : B.x0 ≤ (hullB l).x0 ∧ B.y0 ≤ (hullB l).y0 ∧ (hullB l).x1 ≤ B.x1 ∧ (hullB l).y1 ≤ B.y1 := by
  cases l with
  | nil => exact absurd rfl hl
  | cons q l =>
    obtain ⟨⟨a1, a2⟩, a3, a4⟩ := h q (List.mem_cons_self ..)
    exact foldl_least B l _ ⟨a1, a3, a2, a4⟩ (fun p hp => h p (List.mem_cons_of_mem _ hp))

/-- An arc's places lie within. -/
def ArcIn (b : Bx) (r : Arc) : Prop := (∀ c ∈ r.cs, InX b c) ∧ InX b r.e
theorem arcPts_in {b : Bx} {a : Sp} {r : Arc} (ha : InX b a) (hr : ArcIn b r) : ∀ p ∈ arcPts a r, InX b p := by
  intro p hp
  obtain ⟨cs, e⟩ := r
  obtain ⟨h1, h2⟩ := hr
  match cs, hp, h1 with
  | [], hp, _ => simp [arcPts] at hp; subst hp; exact h2
  | [c], hp, h1 =>
    simp only [arcPts, quadPts, quadL, List.mem_map, List.mem_range] at hp
    obtain ⟨i, hi, rfl⟩ := hp
    exact quadPt_in (by omega) (by omega) ha (h1 c (by simp)) h2
  | c :: d :: l, hp, h1 =>
    simp only [arcPts, cubPts, cubL, List.mem_map, List.mem_range] at hp
    obtain ⟨i, hi, rfl⟩ := hp
    exact cubPt_in (by omega) (by omega) ha (h1 c (by simp)) (h1 d (by simp)) h2
theorem ptsL_in {b : Bx} : ∀ (l : List Arc) (s : Sp), InX b s → (∀ r ∈ l, ArcIn b r) → ∀ p ∈ ptsL s l, InX b p
  | [], s, _, _, p, hp => by simp [ptsL] at hp
  | a :: l, s, hs, h, p, hp => by
    rw [ptsL] at hp
    have ha := h a (List.mem_cons_self ..)
    rcases List.mem_append.1 hp with hp | hp
    · exact arcPts_in hs ha p hp
    · exact ptsL_in l a.e ha.2 (fun r hr => h r (List.mem_cons_of_mem _ hr)) p hp
theorem arc1_in {b : Bx} {st : Sp} {l r : List Kn} {a : Arc} {c : Bool} (hs : InX b st) (hl : ∀ k ∈ l, InX b k.sp) (h : arc1 st l = some (a, r, c)) : ArcIn b a ∧ ∀ k ∈ r, InX b k.sp := by
  unfold arc1 at h
  split at h
  · cases h
  · rename_i k r0
    have hk := hl k (List.mem_cons_self ..)
    have hr0 : ∀ x ∈ r0, InX b x.sp := fun x hx => hl x (List.mem_cons_of_mem _ hx)
    split at h
    · cases h; exact ⟨⟨fun c hc => by simp at hc, hk⟩, hr0⟩
    · split at h
      · split at h
        · cases h
        · rename_i d r2
          have hd := hr0 d (List.mem_cons_self ..)
          have hr2 : ∀ x ∈ r2, InX b x.sp := fun x hx => hr0 x (List.mem_cons_of_mem _ hx)
          split at h
          · split at h
            · cases h
              exact ⟨⟨fun c hc => by simp at hc; rcases hc with rfl | rfl <;> assumption, hs⟩, fun k hk => by simp at hk⟩
            · rename_i e r3
              split at h
              · cases h
                exact ⟨⟨fun c hc => by simp at hc; rcases hc with rfl | rfl <;> assumption, hr2 e (List.mem_cons_self ..)⟩, fun x hx => hr2 x (List.mem_cons_of_mem _ hx)⟩
              · cases h
          · cases h
      · split at h
        · cases h
          exact ⟨⟨fun c hc => by simp at hc; subst hc; assumption, hs⟩, fun k hk => by simp at hk⟩
        · rename_i e r2
          have he := hr0 e (List.mem_cons_self ..)
          split at h
          · cases h
            exact ⟨⟨fun c hc => by simp at hc; subst hc; assumption, he⟩, fun x hx => hr0 x (List.mem_cons_of_mem _ hx)⟩
          · split at h
            · cases h
              exact ⟨⟨fun c hc => by simp at hc; subst hc; assumption, mid_in hk he⟩, hr0⟩
            · cases h
theorem arcsF_in {b : Bx} {st : Sp} (hs : InX b st) : ∀ (n : Nat) (l : List Kn) (bs : List Arc) (c : Bool), (∀ k ∈ l, InX b k.sp) → arcsF st n l = some (bs, c) → ∀ r ∈ bs, ArcIn b r
  | 0, l, bs, c, _, h => by cases h; intro r hr; simp at hr
  | n + 1, [], bs, c, _, h => by cases h; intro r hr; simp at hr
  | n + 1, k :: l, bs, c, hl, h => by
    rw [arcsF] at h
    cases e : arc1 st (k :: l) with
    | none => rw [e] at h; cases h
    | some x =>
      obtain ⟨a, r, c1⟩ := x
      rw [e] at h
      dsimp only at h
      obtain ⟨h1, h2⟩ := arc1_in hs hl e
      cases e2 : arcsF st n r with
      | none => rw [e2] at h; cases h
      | some y =>
        obtain ⟨bs2, c2⟩ := y
        rw [e2] at h
        cases h
        intro r' hr'
        rcases List.mem_cons.1 hr' with e3 | hr'
        · subst e3; exact h1
        · exact arcsF_in hs n r bs2 c2 h2 e2 r' hr'
theorem getD_in {b : Bx} {c : List Kn} (hc : ∀ k ∈ c, InX b k.sp) {i : Nat} (hi : i < c.length) : InX b (c.getD i ⟨0, 0, 0⟩).sp := by
  rw [List.getD_eq_getElem?_getD, List.getElem?_eq_getElem hi]
  exact hc _ (List.getElem_mem hi)
theorem firstOn_less : ∀ {c : List Kn} {i : Nat}, firstOn c = some i → i < c.length
  | [], i, h => by cases h
  | k :: r, i, h => by
    unfold firstOn at h
    split at h
    · cases h; simp
    · cases e : firstOn r with
      | none => rw [e] at h; cases h
      | some j =>
        rw [e] at h
        have := firstOn_less e
        simp at h
        simp; omega
theorem begunL_in {b : Bx} {c l : List Kn} {s : Sp} (hn : c ≠ []) (hc : ∀ k ∈ c, InX b k.sp) (h : begunL c = some (s, l)) : InX b s ∧ ∀ k ∈ l, InX b k.sp := by
  have hpos : 0 < c.length := List.length_pos_iff.2 hn
  unfold begunL at h
  cases e : firstOn c with
  | some i =>
    rw [e] at h
    have hi := firstOn_less e
    simp only [Option.some.injEq, Prod.mk.injEq] at h
    obtain ⟨rfl, rfl⟩ := h
    refine ⟨getD_in hc hi, fun k hk => ?_⟩
    rcases List.mem_append.1 hk with hk | hk
    · exact hc k (List.mem_of_mem_drop hk)
    · exact hc k (List.mem_of_mem_take hk)
  | none =>
    rw [e] at h
    simp only at h
    split at h
    · cases h
    · simp only [Option.some.injEq, Prod.mk.injEq] at h
      obtain ⟨rfl, rfl⟩ := h
      exact ⟨mid_in (getD_in hc (by omega)) (getD_in hc hpos), hc⟩
theorem polyL_in {b : Bx} {c : List Kn} {Q : List Sp} (hc : ∀ k ∈ c, InX b k.sp) (h : polyL c = some Q) : ∀ p ∈ Q, InX b p := by
  cases c with
  | nil => cases h; intro p hp; simp at hp
  | cons k r =>
    simp only [polyL] at h
    cases e : begunL (k :: r) with
    | none => rw [e] at h; cases h
    | some x =>
      obtain ⟨s, l⟩ := x
      rw [e] at h
      obtain ⟨h1, h2⟩ := begunL_in (by simp) hc e
      simp only at h
      cases e2 : arcsL s l with
      | none => rw [e2] at h; cases h
      | some y =>
        obtain ⟨bs, cl⟩ := y
        rw [e2] at h
        cases h
        have h3 := arcsF_in h1 _ l bs cl h2 e2
        have h4 := ptsL_in bs s h1 h3
        intro p hp
        have hp' : p ∈ s :: ptsL s bs := by
          unfold ringL at hp
          split at hp
          · exact (List.dropLast_sublist _).subset hp
          · exact hp
        rcases List.mem_cons.1 hp' with e3 | hp'
        · subst e3; exact h1
        · exact h4 p hp'
theorem flatL_in {b : Bx} : ∀ {O : List (List Kn)} {P : List (List Sp)}, (∀ c ∈ O, ∀ k ∈ c, InX b k.sp) → flatL O = some P → ∀ p ∈ P.flatten, InX b p
  | [], P, _, h => by cases h; intro p hp; simp at hp
  | c :: r, P, hO, h => by
    rw [flatL] at h
    cases e : polyL c with
    | none => rw [e] at h; cases h
    | some q =>
      rw [e] at h
      dsimp only at h
      cases e2 : flatL r with
      | none => rw [e2] at h; cases h
      | some qs =>
        rw [e2] at h
        cases h
        intro p hp
        rw [List.flatten_cons] at hp
        rcases List.mem_append.1 hp with hp | hp
        · exact polyL_in (hO c (List.mem_cons_self ..)) e p hp
        · exact flatL_in (fun c' hc' => hO c' (List.mem_cons_of_mem _ hc')) e2 p hp
/-- The knots' places. -/
def spotsL (O : List (List Kn)) : List Sp := O.flatten.map Kn.sp
/-- All points lie within the hull of the knots. -/
theorem flat_hull {O : List (List Kn)} {P : List (List Sp)} (h : flatL O = some P) (hp : P.flatten ≠ []) :
    (hullB (spotsL O)).x0 ≤ (hullB P.flatten).x0 ∧ (hullB (spotsL O)).y0 ≤ (hullB P.flatten).y0 ∧ (hullB P.flatten).x1 ≤ (hullB (spotsL O)).x1 ∧ (hullB P.flatten).y1 ≤ (hullB (spotsL O)).y1 := by
  refine hullB_least hp (flatL_in (O := O) (fun c hc k hk => hullB_in _ ?_) h)
  unfold spotsL
  exact List.mem_map.2 ⟨k, List.mem_flatten.2 ⟨c, hc, hk⟩, rfl⟩

/-- Polygons of two outlines together. -/
theorem flatL_app : ∀ (a b : List (List Kn)), flatL (a ++ b) = match flatL a, flatL b with
    | some p, some q => some (p ++ q)
    | _, _ => none
  | [], b => by cases h : flatL b <;> simp [flatL, h]
  | c :: a, b => by
    rw [List.cons_append, flatL, flatL, flatL_app a b]
    cases polyL c with
    | none => cases flatL b <;> rfl
    | some p => cases flatL a <;> cases flatL b <;> rfl
theorem totalL_app : ∀ (a b : List (List Kn)), totalL (a ++ b) = totalL a + totalL b
  | [], b => by simp [totalL]
  | c :: a, b => by rw [List.cons_append, totalL, totalL, totalL_app a b, Nat.add_assoc]
theorem check_app {a b : List (List Kn)} (h : checkE (a ++ b) = 0) : checkE a = 0 ∧ checkE b = 0 := by
  unfold checkE at h ⊢
  have h1 : manyB (a ++ b) = false := by cases e : manyB (a ++ b) <;> simp [e] at h ⊢
  rw [h1] at h
  have h2 : ((a ++ b).all fun c => c.all kindB) = true := by cases e : ((a ++ b).all fun c => c.all kindB) <;> simp [e] at h ⊢
  rw [h2] at h
  have h3 : ((a ++ b).all fun c => c.all fixK) = true := by cases e : ((a ++ b).all fun c => c.all fixK) <;> simp [e] at h ⊢
  rw [List.all_append, Bool.and_eq_true] at h2 h3
  unfold manyB at h1
  rw [totalL_app, List.length_append] at h1
  have h4 : ¬ (256 < a.length + b.length ∨ 4096 < totalL a + totalL b) := by simpa using h1
  have ha : manyB a = false := by unfold manyB; simp; omega
  have hb : manyB b = false := by unfold manyB; simp; omega
  rw [ha, hb, h2.1, h2.2, h3.1, h3.2]
  exact ⟨rfl, rfl⟩

end Go.Proofs.Ythjhekmlhmljlaa
