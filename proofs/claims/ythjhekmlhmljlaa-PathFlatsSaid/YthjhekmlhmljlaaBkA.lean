/-
  A contour that begins on the curve, gone round the other way, has the same points the other way (over lists). No conditions but those that each theorem names.
-/
import Derived.Test.YthjhekmlhmljlaaPtA
namespace Go.Proofs.Ythjhekmlhmljlaa
set_option linter.unusedVariables false
set_option linter.unusedSimpArgs false

theorem mid_comm (a b : Sp) : mid a b = mid b a := by unfold mid; rw [Int.add_comm a.x, Int.add_comm a.y]
theorem bendD_comm (a c b : Sp) : bendD a c b = bendD b c a := by
  unfold bendD
  rw [show a.x - 2 * c.x + b.x = b.x - 2 * c.x + a.x by omega, show a.y - 2 * c.y + b.y = b.y - 2 * c.y + a.y by omega]
theorem quadN_comm (a c b i j : Int) : quadN a c b i j = quadN b c a j i := by unfold quadN; grind
theorem cubN_comm (a c d b i j : Int) : cubN a c d b i j = cubN b d c a j i := by unfold cubN; grind
theorem quadPt_comm {n i : Nat} (hi : i ≤ n) (a c b : Sp) : quadPt n i a c b = quadPt n (n - i) b c a := by
  unfold quadPt
  rw [show n - (n - i) = i by omega, quadN_comm a.x, quadN_comm a.y]
theorem cubPt_comm {n i : Nat} (hi : i ≤ n) (a c d b : Sp) : cubPt n i a c d b = cubPt n (n - i) b d c a := by
  unfold cubPt
  rw [show n - (n - i) = i by omega, cubN_comm a.x, cubN_comm a.y]
theorem rangeRev {α : Type} (f : Nat → α) (n : Nat) : ((List.range (n + 1)).map f).reverse = (List.range (n + 1)).map fun i => f (n - i) := by
  apply List.ext_getElem?
  intro i
  by_cases h : i < n + 1
  · rw [List.getElem?_reverse (by simpa using h)]
    have h2 : n - i < n + 1 := by omega
    simp [List.getElem?_map, List.getElem?_range h, List.getElem?_range h2]
  · rw [List.getElem?_eq_none (by simp; omega), List.getElem?_eq_none (by simp; omega)]
theorem cons_range {α : Type} (f : Nat → α) (n : Nat) : f 0 :: (List.range n).map (fun i => f (i + 1)) = (List.range (n + 1)).map f := by
  rw [List.range_succ_eq_map]; simp [List.map_map, Function.comp_def]
theorem quadPt_zero {n : Nat} (hn : 0 < n) (a c b : Sp) : quadPt n 0 a c b = a := by rw [quadPt_comm (Nat.zero_le n), Nat.sub_zero, quadPt_last hn]
theorem cubPt_zero {n : Nat} (hn : 0 < n) (a c d b : Sp) : cubPt n 0 a c d b = a := by rw [cubPt_comm (Nat.zero_le n), Nat.sub_zero, cubPt_last hn]
theorem quadPts_rev (a c b : Sp) : (a :: quadPts a c b).reverse = b :: quadPts b c a := by
  unfold quadPts
  rw [bendD_comm b c a]
  have h := (stepsN_bd (bendD a c b)).1
  generalize stepsN (bendD a c b) = n at *
  have e1 : a :: quadL n a c b n = (List.range (n + 1)).map (fun i => quadPt n i a c b) := by
    rw [← cons_range, quadPt_zero (by omega)]; rfl
  have e2 : b :: quadL n b c a n = (List.range (n + 1)).map (fun i => quadPt n i b c a) := by
    rw [← cons_range, quadPt_zero (by omega)]; rfl
  rw [e1, e2, rangeRev]
  apply List.map_congr_left
  intro i hi
  have hi' : i ≤ n := by have := List.mem_range.1 hi; omega
  rw [quadPt_comm hi' b c a]
theorem cubPts_rev (a c d b : Sp) : (a :: cubPts a c d b).reverse = b :: cubPts b d c a := by
  unfold cubPts
  rw [bendD_comm b d c, bendD_comm d c a, Int.add_comm (bendD c d b)]
  have h := (stepsN_bd (bendD a c d + bendD c d b)).1
  generalize stepsN (bendD a c d + bendD c d b) = n at *
  have e1 : a :: cubL n a c d b n = (List.range (n + 1)).map (fun i => cubPt n i a c d b) := by
    rw [← cons_range, cubPt_zero (by omega)]; rfl
  have e2 : b :: cubL n b d c a n = (List.range (n + 1)).map (fun i => cubPt n i b d c a) := by
    rw [← cons_range, cubPt_zero (by omega)]; rfl
  rw [e1, e2, rangeRev]
  apply List.map_congr_left
  intro i hi
  have hi' : i ≤ n := by have := List.mem_range.1 hi; omega
  rw [cubPt_comm hi' b d c a]
/-- An arc has two controls at most. -/
def Arc.ok (r : Arc) : Prop := r.cs.length ≤ 2
theorem arcPts_rev (a : Sp) (r : Arc) (h : r.ok) : (a :: arcPts a r).reverse = r.e :: arcPts r.e ⟨r.cs.reverse, a⟩ := by
  obtain ⟨cs, e⟩ := r
  match cs, h with
  | [], _ => simp [arcPts]
  | [c], _ => simpa [arcPts] using quadPts_rev a c e
  | [c, d], _ => simpa [arcPts] using cubPts_rev a c d e
  | _ :: _ :: _ :: _, h => simp [Arc.ok] at h
/-- Arcs the other way. -/
def revA (s : Sp) : List Arc → List Arc
  | [] => []
  | a :: r => revA a.e r ++ [⟨a.cs.reverse, s⟩]
theorem endL_revA (s : Sp) : ∀ (l : List Arc), endL (endL s l) (revA s l) = s
  | [] => rfl
  | a :: l => by rw [revA, endL_snoc]
theorem endL_app (s : Sp) : ∀ (l m : List Arc), endL s (l ++ m) = endL (endL s l) m
  | [], m => rfl
  | a :: l, m => by rw [List.cons_append, endL, endL, endL_app a.e l m]
theorem ptsL_app (s : Sp) : ∀ (l m : List Arc), ptsL s (l ++ m) = ptsL s l ++ ptsL (endL s l) m
  | [], m => rfl
  | a :: l, m => by rw [List.cons_append, ptsL, ptsL, endL, ptsL_app a.e l m, List.append_assoc]
theorem last_split {α : Type} {l : List α} {a : α} (h : l.getLast? = some a) : l = l.dropLast ++ [a] := by
  obtain ⟨ys, rfl⟩ := List.getLast?_eq_some_iff.1 h
  simp
theorem ptsL_rev : ∀ (s : Sp) (l : List Arc), (∀ a ∈ l, a.ok) → (s :: ptsL s l).reverse = endL s l :: ptsL (endL s l) (revA s l)
  | s, [], _ => rfl
  | s, a :: l, h => by
    have h1 := ptsL_rev a.e l (fun x hx => h x (List.mem_cons_of_mem _ hx))
    have h2 := arcPts_rev s a (h a (List.mem_cons_self ..))
    rw [ptsL, revA, endL, ptsL_snoc, endL_revA]
    obtain ⟨t, ht⟩ : ∃ t, arcPts s a = t ++ [a.e] := by
      have := arcPts_last s a
      exact ⟨_, last_split this⟩
    rw [← List.cons_append, List.reverse_append, ← List.cons_append, ← h1, h2]
    simp

/-- Knots between two on the curve. -/
inductive Seg : List Kn → Sp → List Arc → Prop
  | line (E : Sp) : Seg [] E [⟨[], E⟩]
  | quad (q : Kn) (E : Sp) : q.k = 2 → Seg [q] E [⟨[q.sp], E⟩]
  | more (q q2 : Kn) (l : List Kn) (E : Sp) (az : List Arc) : q.k = 2 → q2.k = 2 → Seg (q2 :: l) E az → Seg (q :: q2 :: l) E (⟨[q.sp], mid q.sp q2.sp⟩ :: az)
  | cub (c d : Kn) (E : Sp) : c.k = 3 → d.k = 3 → Seg [c, d] E [⟨[c.sp, d.sp], E⟩]
theorem Seg.snocQ (q q2 : Kn) (P : Sp) (h1 : q.k = 2) (h2 : q2.k = 2) : ∀ (X : List Kn) (bs : List Arc), Seg (X ++ [q2]) (mid q2.sp q.sp) bs → Seg (X ++ [q2] ++ [q]) P (bs ++ [⟨[q.sp], P⟩])
  | [], bs, h => by
    cases h with
    | quad => exact .more _ _ _ _ _ h2 h1 (.quad _ _ h1)
  | [x], bs, h => by
    cases h with
    | more _ _ _ _ az a b c => exact .more _ _ _ _ _ a b (snocQ q q2 P h1 h2 [] az c)
    | cub _ _ _ a b => omega
  | x :: y :: X, bs, h => by
    obtain ⟨z, hz⟩ : ∃ z, z = (x :: y :: X) ++ [q2] := ⟨_, rfl⟩
    rw [← hz] at h
    cases h with
    | line => simp at hz
    | quad => simp at hz
    | cub => simp at hz
    | more _ _ _ _ az a b c =>
      simp at hz
      obtain ⟨rfl, rfl, rfl⟩ := hz
      exact .more _ _ _ _ _ a b (snocQ q q2 P h1 h2 (_ :: X) az c)
theorem Seg.last {l : List Kn} {E : Sp} {az : List Arc} (h : Seg l E az) (s : Sp) : endL s az = E := by
  induction h generalizing s with
  | line => rfl
  | quad => rfl
  | more _ _ _ _ _ _ _ _ ih => rw [endL]; exact ih _
  | cub => rfl
theorem Seg.rev {l : List Kn} {E : Sp} {az : List Arc} (h : Seg l E az) (P : Sp) : Seg l.reverse P (revA P az) := by
  induction h generalizing P with
  | line E => exact .line P
  | quad q E h => exact .quad q P h
  | more q q2 l E az h1 h2 h3 ih =>
    have h4 := ih (mid q.sp q2.sp)
    rw [List.reverse_cons] at h4
    rw [List.reverse_cons, List.reverse_cons, revA]
    rw [mid_comm] at h4
    have := Seg.snocQ q q2 P h1 h2 _ _ h4
    rw [mid_comm] at this
    exact this
  | cub c d E h1 h2 => exact .cub d c P h2 h1
theorem Seg.ok {l : List Kn} {E : Sp} {az : List Arc} (h : Seg l E az) : ∀ a ∈ az, a.ok := by
  induction h with
  | line => intro a ha; simp at ha; subst ha; simp [Arc.ok]
  | quad => intro a ha; simp at ha; subst ha; simp [Arc.ok]
  | more _ _ _ _ _ _ _ _ ih =>
    intro a ha
    rcases List.mem_cons.1 ha with e | ha
    · subst e; simp [Arc.ok]
    · exact ih a ha
  | cub => intro a ha; simp at ha; subst ha; simp [Arc.ok]
/-- Knots that end on the curve, az arcs. -/
inductive Par : List Kn → List Arc → Prop
  | nil : Par [] []
  | seg (l : List Kn) (K : Kn) (az : List Arc) (M : List Kn) (bs : List Arc) : Seg l K.sp az → K.k = 1 → Par M bs → Par (l ++ K :: M) (az ++ bs)
theorem Par.app {M N : List Kn} {az bs : List Arc} (h : Par M az) (k : Par N bs) : Par (M ++ N) (az ++ bs) := by
  induction h with
  | nil => exact k
  | seg l K az M bs h1 h2 h3 ih => rw [List.append_assoc, List.cons_append, List.append_assoc]; exact .seg _ _ _ _ _ h1 h2 ih
theorem Par.ok {M : List Kn} {az : List Arc} (h : Par M az) : ∀ a ∈ az, a.ok := by
  induction h with
  | nil => intro a ha; simp at ha
  | seg l K az M bs h1 h2 h3 ih =>
    intro a ha
    rcases List.mem_append.1 ha with h | h
    · exact h1.ok a h
    · exact ih a h
theorem Par.last {M : List Kn} {az : List Arc} (h : Par M az) : ∀ (s : Sp) (M0 : List Kn) (E : Kn), M = M0 ++ [E] → endL s az = E.sp := by
  induction h with
  | nil => intro s M0 E h; simp at h
  | seg l K az M bs h1 h2 h3 ih =>
    intro s M0 E h
    rw [endL_app, h1.last]
    rcases List.eq_nil_or_concat M with e | ⟨M1, E1, e⟩
    · subst e
      generalize hM : ([] : List Kn) = M at h3
      cases h3 with
      | nil =>
        have : K = E := by
          have := congrArg List.getLast? h
          simpa using this
        subst this; rfl
      | seg => exact absurd (congrArg List.length hM) (by simp)
    · rw [List.concat_eq_append] at e
      subst e
      have : E1 = E := by
        rw [show l ++ K :: (M1 ++ [E1]) = (l ++ K :: M1) ++ [E1] by simp] at h
        simpa using (List.append_inj' h rfl).2
      subst this
      exact ih K.sp M1 E1 rfl
theorem Par.rev {M : List Kn} {az : List Arc} (h : Par M az) : ∀ (P : Kn) (M0 : List Kn) (E : Kn), P.k = 1 → M = M0 ++ [E] → Par (M0.reverse ++ [P]) (revA P.sp az) := by
  induction h with
  | nil => intro s M0 E _ h; simp at h
  | seg l K az M bs h1 h2 h3 ih =>
    intro P M0 E hP h
    have e : revA P.sp (az ++ bs) = revA K.sp bs ++ revA P.sp az := by
      have gen : ∀ (s : Sp) (az bs : List Arc), revA s (az ++ bs) = revA (endL s az) bs ++ revA s az := by
        intro s az
        induction az generalizing s with
        | nil => intro bs; simp [revA, endL]
        | cons a az ih => intro bs; rw [List.cons_append, revA, ih a.e bs, revA, endL, List.append_assoc]
      rw [gen, h1.last]
    rw [e]
    have hs : Par (l.reverse ++ [P]) (revA P.sp az) := by
      have := Par.seg l.reverse P (revA P.sp az) [] [] (h1.rev P.sp) hP .nil
      simpa using this
    rcases List.eq_nil_or_concat M with e | ⟨M1, E1, e⟩
    · subst e
      have hb : bs = [] := by
        generalize hM : ([] : List Kn) = M at h3
        cases h3 with
        | nil => rfl
        | seg => exact absurd (congrArg List.length hM) (by simp)
      subst hb
      have : M0 = l := by
        have := congrArg List.dropLast h
        simpa using this.symm
      subst this
      exact hs
    · rw [List.concat_eq_append] at e
      subst e
      have : M0 = l ++ K :: M1 := by
        rw [show l ++ K :: (M1 ++ [E1]) = (l ++ K :: M1) ++ [E1] by simp] at h
        exact (List.append_inj' h rfl).1.symm
      subst this
      have := (ih K M1 E1 h2 rfl).app hs
      simpa using this

/-- A list that ends on the curve. -/
def EndOn (M : List Kn) : Prop := M = [] ∨ ∃ M0 E, M = M0 ++ [E] ∧ E.k = 1
theorem endOn_tail {k : Kn} {r : List Kn} (h : EndOn (k :: r)) (hr : r ≠ [] ∨ k.k ≠ 1) : EndOn r ∧ (k.k ≠ 1 → r ≠ []) := by
  rcases h with h | ⟨M0, E, h, hE⟩
  · cases h
  · cases M0 with
    | nil =>
      simp at h
      obtain ⟨rfl, rfl⟩ := h
      exact ⟨.inl rfl, fun h => absurd hE h⟩
    | cons m M0 =>
      simp at h
      obtain ⟨rfl, rfl⟩ := h
      exact ⟨.inr ⟨M0, E, rfl, hE⟩, fun _ => by simp⟩
theorem endOn_on {k : Kn} {r : List Kn} (h : EndOn (k :: r)) : EndOn r := by
  by_cases hr : r = []
  · exact .inl hr
  · exact (endOn_tail h (.inl hr)).1
theorem arcsL_cons {st : Sp} {l r : List Kn} {a : Arc} {c : Bool} (h : arc1 st l = some (a, r, c)) {az : List Arc} {d : Bool} (hs : arcsL st l = some (az, d)) : ∃ bs e, arcsL st r = some (bs, e) ∧ az = a :: bs ∧ d = (c || e) := by
  rw [arcsL_some h] at hs
  cases e : arcsL st r with
  | none => rw [e] at hs; cases hs
  | some x =>
    obtain ⟨bs, e'⟩ := x
    rw [e] at hs
    cases hs
    exact ⟨bs, e', rfl, rfl, rfl⟩
theorem Par.ofArcs (st : Sp) : ∀ (n : Nat) (M : List Kn) (az : List Arc) (d : Bool), M.length ≤ n → EndOn M → (∀ k ∈ M, k.k = 1 ∨ k.k = 2 ∨ k.k = 3) → arcsL st M = some (az, d) → d = false ∧ Par M az
  | 0, M, az, d, hn, _, _, h => by
    have : M = [] := List.eq_nil_of_length_eq_zero (by omega)
    subst this
    rw [arcsL_nil] at h; cases h; exact ⟨rfl, .nil⟩
  | n + 1, [], az, d, hn, _, _, h => by rw [arcsL_nil] at h; cases h; exact ⟨rfl, .nil⟩
  | n + 1, k :: r, az, d, hn, he, hk, h => by
    have hlen : r.length ≤ n := by simpa using hn
    rcases hk k (List.mem_cons_self ..) with h1 | h2 | h3
    · have e : arc1 st (k :: r) = some (⟨[], k.sp⟩, r, false) := by unfold arc1; simp [h1]
      obtain ⟨bs, x, a1, rfl, hd⟩ := arcsL_cons e h
      obtain ⟨rfl, hp⟩ := Par.ofArcs st n r bs x hlen (endOn_on he) (fun y hy => hk y (List.mem_cons_of_mem _ hy)) a1
      exact ⟨hd, .seg [] k [⟨[], k.sp⟩] r bs (.line _) h1 hp⟩
    · obtain ⟨he1, hne⟩ := endOn_tail he (.inr (by omega))
      have hne := hne (by omega)
      cases r with
      | nil => exact absurd rfl hne
      | cons e r2 =>
        rcases hk e (by simp) with g1 | g2 | g3
        · have e' : arc1 st (k :: e :: r2) = some (⟨[k.sp], e.sp⟩, r2, false) := by unfold arc1; simp [h2, g1]
          obtain ⟨bs, x, a1, rfl, hd⟩ := arcsL_cons e' h
          obtain ⟨rfl, hp⟩ := Par.ofArcs st n r2 bs x (by simp at hlen; omega) (endOn_on he1) (fun y hy => hk y (by simp [hy])) a1
          exact ⟨hd, .seg [k] e [⟨[k.sp], e.sp⟩] r2 bs (.quad _ _ h2) g1 hp⟩
        · have e' : arc1 st (k :: e :: r2) = some (⟨[k.sp], mid k.sp e.sp⟩, e :: r2, false) := by unfold arc1; simp [h2, g2]
          obtain ⟨bs, x, a1, rfl, hd⟩ := arcsL_cons e' h
          obtain ⟨rfl, hp⟩ := Par.ofArcs st n (e :: r2) bs x hlen he1 (fun y hy => hk y (List.mem_cons_of_mem _ hy)) a1
          refine ⟨hd, ?_⟩
          generalize hM : e :: r2 = M at hp
          cases hp with
          | nil => cases hM
          | seg l K az M' bs' q1 q2 q3 =>
            cases l with
            | nil => simp at hM; obtain ⟨rfl, rfl⟩ := hM; omega
            | cons y l =>
              simp at hM
              obtain ⟨rfl, rfl⟩ := hM
              exact .seg (k :: e :: l) K (⟨[k.sp], mid k.sp e.sp⟩ :: az) M' bs' (.more _ _ _ _ _ h2 g2 q1) q2 q3
        · have e' : arc1 st (k :: e :: r2) = none := by unfold arc1; simp [h2, g3]
          rw [arcsL_none (by simp) e'] at h; cases h
    · obtain ⟨he1, hne⟩ := endOn_tail he (.inr (by omega))
      have hne := hne (by omega)
      cases r with
      | nil => exact absurd rfl hne
      | cons e r2 =>
        by_cases g3 : e.k = 3
        · obtain ⟨he2, hne2⟩ := endOn_tail he1 (.inr (by omega))
          have hne2 := hne2 (by omega)
          cases r2 with
          | nil => exact absurd rfl hne2
          | cons f r3 =>
            by_cases f1 : f.k = 1
            · have e' : arc1 st (k :: e :: f :: r3) = some (⟨[k.sp, e.sp], f.sp⟩, r3, false) := by unfold arc1; simp [h3, g3, f1]
              obtain ⟨bs, x, a1, rfl, hd⟩ := arcsL_cons e' h
              obtain ⟨rfl, hp⟩ := Par.ofArcs st n r3 bs x (by simp at hlen; omega) (endOn_on he2) (fun y hy => hk y (by simp [hy])) a1
              exact ⟨hd, .seg [k, e] f [⟨[k.sp, e.sp], f.sp⟩] r3 bs (.cub _ _ _ h3 g3) f1 hp⟩
            · have e' : arc1 st (k :: e :: f :: r3) = none := by unfold arc1; simp [h3, g3, f1]
              rw [arcsL_none (by simp) e'] at h; cases h
        · have e' : arc1 st (k :: e :: r2) = none := by unfold arc1; simp [h3, g3]
          rw [arcsL_none (by simp) e'] at h; cases h
theorem Seg.arcs {l : List Kn} {K : Kn} {az : List Arc} (st : Sp) {M : List Kn} {bs : List Arc} {E : Sp} (hs : Seg l E az) (hE : E = K.sp) (hK : K.k = 1) (hM : arcsL st M = some (bs, false)) : arcsL st (l ++ K :: M) = some (az ++ bs, false) := by
  induction hs with
  | line E =>
    subst hE
    have e : arc1 st ([] ++ K :: M) = some (⟨[], K.sp⟩, M, false) := by unfold arc1; simp [hK]
    rw [arcsL_some e, hM]; rfl
  | quad q E h =>
    subst hE
    have e : arc1 st ([q] ++ K :: M) = some (⟨[q.sp], K.sp⟩, M, false) := by unfold arc1; simp [hK, h]
    rw [arcsL_some e, hM]; rfl
  | more q q2 l E az h1 h2 h3 ih =>
    have e : arc1 st ((q :: q2 :: l) ++ K :: M) = some (⟨[q.sp], mid q.sp q2.sp⟩, (q2 :: l) ++ K :: M, false) := by unfold arc1; simp [h1, h2]
    rw [arcsL_some e, ih hE]; rfl
  | cub c d E h1 h2 =>
    subst hE
    have e : arc1 st ([c, d] ++ K :: M) = some (⟨[c.sp, d.sp], K.sp⟩, M, false) := by unfold arc1; simp [hK, h1, h2]
    rw [arcsL_some e, hM]; rfl
theorem Par.arcs {M : List Kn} {az : List Arc} (h : Par M az) (st : Sp) : arcsL st M = some (az, false) := by
  induction h with
  | nil => rfl
  | seg l K az M bs h1 h2 h3 ih => exact h1.arcs st rfl h2 ih

/-- All arcs round to the start. -/
def fullA (s : Sp) (bs : List Arc) (cl : Bool) : List Arc := if cl = true then bs else bs ++ [⟨[], s⟩]
theorem arcs_close (s : Sp) (S : Kn) (hS : S.sp = s) (hk : S.k = 1) : ∀ (n : Nat) (L : List Kn), L.length ≤ n → arcsL s (L ++ [S]) = (arcsL s L).map fun x => (fullA s x.1 x.2, false)
  | n, [], _ => by
    have e : arc1 s [S] = some (⟨[], s⟩, [], false) := by unfold arc1; simp [hk, hS]
    rw [List.nil_append, arcsL_some e, arcsL_nil]; rfl
  | 0, k :: r, hn => by simp at hn
  | n + 1, k :: r, hn => by
    have hlen : r.length ≤ n := by simpa using hn
    have step : ∀ (l r' : List Kn) (a : Arc), r'.length ≤ n → arc1 s l = some (a, r', false) → arc1 s (l ++ [S]) = some (a, r' ++ [S], false) → arcsL s (l ++ [S]) = (arcsL s l).map fun x => (fullA s x.1 x.2, false) := by
      intro l r' a hr' h1 h2
      rw [arcsL_some h2, arcsL_some h1, arcs_close s S hS hk n r' hr']
      cases arcsL s r' with
      | none => rfl
      | some x =>
        obtain ⟨bs, d⟩ := x
        cases d <;> simp [fullA]
    have stepC : ∀ (l : List Kn) (a : Arc), arc1 s l = some (a, [], true) → arc1 s (l ++ [S]) = some (a, [], false) → arcsL s (l ++ [S]) = (arcsL s l).map fun x => (fullA s x.1 x.2, false) := by
      intro l a h1 h2
      rw [arcsL_some h2, arcsL_some h1, arcsL_nil]; simp [fullA]
    have stepN : ∀ (l : List Kn), l ≠ [] → arc1 s l = none → arc1 s (l ++ [S]) = none → arcsL s (l ++ [S]) = (arcsL s l).map fun x => (fullA s x.1 x.2, false) := by
      intro l hl h1 h2
      rw [arcsL_none (by simp) h2, arcsL_none hl h1]; rfl
    by_cases h1 : k.k = 1
    · exact step _ r ⟨[], k.sp⟩ hlen (by unfold arc1; simp [h1]) (by unfold arc1; simp [h1])
    · by_cases h3 : k.k = 3
      · match r, hlen with
        | [], _ => exact stepN _ (by simp) (by unfold arc1; simp [h3]) (by unfold arc1; simp [h3, hk])
        | [d], _ =>
          by_cases d3 : d.k = 3
          · exact stepC _ ⟨[k.sp, d.sp], s⟩ (by unfold arc1; simp [h3, d3]) (by unfold arc1; simp [h3, d3, hk, hS])
          · exact stepN _ (by simp) (by unfold arc1; simp [h3, d3]) (by unfold arc1; simp [h3, d3])
        | d :: e :: r3, hl =>
          by_cases d3 : d.k = 3
          · by_cases e1 : e.k = 1
            · exact step _ r3 ⟨[k.sp, d.sp], e.sp⟩ (by simp at hl; omega) (by unfold arc1; simp [h3, d3, e1]) (by unfold arc1; simp [h3, d3, e1])
            · exact stepN _ (by simp) (by unfold arc1; simp [h3, d3, e1]) (by unfold arc1; simp [h3, d3, e1])
          · exact stepN _ (by simp) (by unfold arc1; simp [h3, d3]) (by unfold arc1; simp [h3, d3])
      · match r, hlen with
        | [], _ => exact stepC _ ⟨[k.sp], s⟩ (by unfold arc1; simp [h1, h3]) (by unfold arc1; simp [h1, h3, hk, hS])
        | e :: r2, hl =>
          by_cases e1 : e.k = 1
          · exact step _ r2 ⟨[k.sp], e.sp⟩ (by simp at hl; omega) (by unfold arc1; simp [h1, h3, e1]) (by unfold arc1; simp [h1, h3, e1])
          · by_cases e2 : e.k = 2
            · exact step _ (e :: r2) ⟨[k.sp], mid k.sp e.sp⟩ hl (by unfold arc1; simp [h1, h3, e2]) (by unfold arc1; simp [h1, h3, e2])
            · exact stepN _ (by simp) (by unfold arc1; simp [h1, h3, e1, e2]) (by unfold arc1; simp [h1, h3, e1, e2])

/-- Where closed arcs end. -/
theorem arcs_closed {st : Sp} : ∀ (n : Nat) (L : List Kn) (bs : List Arc), L.length ≤ n → arcsL st L = some (bs, true) → ∀ s, endL s bs = st ∧ bs ≠ []
  | 0, L, bs, hn, h, s => by
    have : L = [] := List.eq_nil_of_length_eq_zero (by omega)
    subst this; rw [arcsL_nil] at h; cases h
  | n + 1, L, bs, hn, h, s => by
    cases e : arc1 st L with
    | none =>
      by_cases hl : L = []
      · subst hl; rw [arcsL_nil] at h; cases h
      · rw [arcsL_none hl e] at h; cases h
    | some x =>
      obtain ⟨a, r, c⟩ := x
      have hless := arc1_less e
      obtain ⟨az, x, a1, rfl, hx⟩ := arcsL_cons e h
      refine ⟨?_, by simp⟩
      rw [endL]
      cases c with
      | false =>
        have : x = true := by simpa using hx.symm
        subst this
        exact (arcs_closed n r az (by omega) a1 a.e).1
      | true =>
        have hr := hless.2 rfl
        subst hr
        rw [arcsL_nil] at a1
        cases a1
        rw [endL]
        unfold arc1 at e
        split at e
        · cases e
        · split at e
          · cases e
          · split at e
            · split at e
              · cases e
              · split at e
                · split at e
                  · cases e; rfl
                  · split at e <;> cases e
                · cases e
            · split at e
              · cases e; rfl
              · split at e
                · cases e
                · split at e <;> cases e
theorem ring_full {s : Sp} {L : List Kn} {bs : List Arc} {cl : Bool} (h : arcsL s L = some (bs, cl)) : ringL s bs cl ++ [s] = s :: ptsL s (fullA s bs cl) ∧ endL s (fullA s bs cl) = s := by
  cases cl with
  | false =>
    unfold ringL fullA
    simp only [Bool.false_eq_true, if_false]
    rw [ptsL_snoc, endL_snoc]
    simp [arcPts]
  | true =>
    obtain ⟨h1, h2⟩ := arcs_closed _ L bs (Nat.le_refl _) h s
    unfold ringL fullA
    simp only [if_true]
    refine ⟨?_, h1⟩
    rcases List.eq_nil_or_concat bs with e | ⟨az, a, e⟩
    · exact absurd e h2
    · rw [List.concat_eq_append] at e
      subst e
      rw [endL_snoc] at h1
      have h3 := arcPts_last (endL s az) a
      rw [h1] at h3
      rw [ptsL_snoc, ← List.cons_append]
      have h4 : arcPts (endL s az) a = (arcPts (endL s az) a).dropLast ++ [s] := last_split h3
      rw [h4, ← List.append_assoc, List.dropLast_concat]
theorem begun_first {k : Kn} {L : List Kn} (hk : k.k = 1) : begunL (k :: L) = some (k.sp, L) := by
  simp [begunL, firstOn, hk]
theorem poly_first {k : Kn} {L : List Kn} (hk : k.k = 1) : polyL (k :: L) = (arcsL k.sp L).map fun x => ringL k.sp x.1 x.2 := by
  simp only [polyL, begun_first hk]
  cases arcsL k.sp L <;> rfl
theorem ring_cons (s : Sp) {L : List Kn} {bs : List Arc} {cl : Bool} (h : arcsL s L = some (bs, cl)) : ∃ t, ringL s bs cl = s :: t := by
  have h1 := (ring_full h).1
  cases e : ringL s bs cl with
  | nil =>
    rw [e] at h1
    have h2 : ptsL s (fullA s bs cl) = [] := by simpa using h1.symm
    cases cl with
    | false =>
      unfold fullA at h2
      simp [ptsL_snoc, arcPts] at h2
    | true =>
      obtain ⟨h3, h4⟩ := arcs_closed _ L bs (Nat.le_refl _) h s
      unfold fullA at h2
      simp only [if_true] at h2
      cases bs with
      | nil => exact absurd rfl h4
      | cons a az =>
        rw [ptsL] at h2
        have := (arcPts_length s a).1
        have h5 := congrArg List.length h2
        rw [List.length_append] at h5
        simp only [List.length_nil] at h5
        omega
  | cons x t =>
    rw [e] at h1
    simp at h1
    exact ⟨t, by rw [h1.1]⟩
/-- One way gives the other. -/
theorem arcs_back {k : Kn} {L : List Kn} (hk : k.k = 1) (hg : ∀ x ∈ L, x.k = 1 ∨ x.k = 2 ∨ x.k = 3) {bs : List Arc} {cl : Bool} (h : arcsL k.sp L = some (bs, cl)) : ∃ bs' cl', arcsL k.sp L.reverse = some (bs', cl') ∧ ∃ t, ringL k.sp bs cl = k.sp :: t ∧ ringL k.sp bs' cl' = k.sp :: t.reverse := by
  have h1 := arcs_close k.sp k rfl hk _ L (Nat.le_refl _)
  rw [h] at h1
  obtain ⟨_, hp⟩ := Par.ofArcs k.sp _ (L ++ [k]) _ _ (Nat.le_refl _) (.inr ⟨L, k, rfl, hk⟩) (fun x hx => by
    rcases List.mem_append.1 hx with hx | hx
    · exact hg x hx
    · simp at hx; subst hx; exact .inl hk) h1
  have hr := hp.rev k L k hk rfl
  have h2 := hr.arcs k.sp
  have h3 := arcs_close k.sp k rfl hk _ L.reverse (Nat.le_refl _)
  rw [h2] at h3
  cases h4 : arcsL k.sp L.reverse with
  | none => rw [h4] at h3; cases h3
  | some x =>
    obtain ⟨bs', cl'⟩ := x
    rw [h4] at h3
    have h5 : revA k.sp (fullA k.sp bs cl) = fullA k.sp bs' cl' := by simpa using h3
    refine ⟨bs', cl', rfl, ?_⟩
    obtain ⟨t, ht⟩ := ring_cons k.sp h
    refine ⟨t, ht, ?_⟩
    have a1 := ring_full h
    have a2 := ring_full h4
    have a3 := ptsL_rev k.sp (fullA k.sp bs cl) hp.ok
    rw [a1.2, h5, ← a2.1, ← a1.1, ht] at a3
    have a4 : k.sp :: t.reverse ++ [k.sp] = ringL k.sp bs' cl' ++ [k.sp] := by
      rw [← a3]; simp
    exact (List.append_cancel_right a4).symm
theorem poly_back {k : Kn} {L : List Kn} (hk : k.k = 1) (hg : ∀ x ∈ L, x.k = 1 ∨ x.k = 2 ∨ x.k = 3) :
    (polyL (k :: L) = none ∧ polyL (k :: L.reverse) = none) ∨ ∃ t, polyL (k :: L) = some (k.sp :: t) ∧ polyL (k :: L.reverse) = some (k.sp :: t.reverse) := by
  rw [poly_first hk, poly_first hk]
  cases h : arcsL k.sp L with
  | some x =>
    obtain ⟨bs, cl⟩ := x
    obtain ⟨bs', cl', h1, t, h2, h3⟩ := arcs_back hk hg h
    right
    exact ⟨t, by simp [h2], by rw [h1]; simp [h3]⟩
  | none =>
    left
    refine ⟨rfl, ?_⟩
    cases h2 : arcsL k.sp L.reverse with
    | none => rfl
    | some x =>
      obtain ⟨bs, cl⟩ := x
      obtain ⟨bs', cl', h1, _⟩ := arcs_back hk (fun x hx => hg x (List.mem_reverse.1 hx)) h2
      rw [List.reverse_reverse, h] at h1
      cases h1

end Go.Proofs.Ythjhekmlhmljlaa
