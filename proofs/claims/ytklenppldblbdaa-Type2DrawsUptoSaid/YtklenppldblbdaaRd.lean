/-
  What is kept while Type2Draws writes its text.
-/
import Derived.Test.YtklenppldblbdaaRc
namespace Go.Proofs.Ytklenppldblbdaa
open Go.RowKit Go.PlainAid
set_option linter.unusedSimpArgs false
set_option linter.unusedVariables false

structure InP (O : List (List Kn)) (a : Nat) (c : List Kn) (b : Nat) (t : ByteArray) (x y : Int) (n : Nat) (dk pk : List Kn) (x0 y0 : Int) : Prop where
  cut : c.take b = dk ++ pk
  le : b ≤ c.length
  few : pk.length ≤ 2
  k3 : ∀ k ∈ pk, k.k = 3
  bnd : ∀ k ∈ pk, Bnd k
  last : 0 < b → ∃ d' K', dk = d' ++ [K'] ∧ K'.k = 1
  more : 0 < pk.length → b < c.length
  two : pk.length = 2 → ∃ K, c[b]? = some K ∧ K.k = 1
  pos : (x, y) = lastP x0 y0 pk
  bx : -9000 ≤ x0 ∧ x0 ≤ 9000
  by' : -9000 ≤ y0 ∧ y0 ≤ 9000
  bp : (-9000 ≤ x ∧ x ≤ 9000) ∧ (-9000 ≤ y ∧ y ≤ 9000)
  rch : Rch O t (O.take a ++ (if b = 0 then [] else [dk])) pk x0 y0 n
  size : t.size ≤ 7 * n
  cnt : n = knotsTo O a + b

section
variable {O : List (List Kn)} {a : Nat} {c : List Kn} {b : Nat} {t : ByteArray} {x y : Int} {n : Nat} {dk pk : List Kn} {x0 y0 : Int} {K : Kn}

theorem take_snoc {m : Nat} {J : Kn} (h : c[m]? = some J) : c.take (m + 1) = c.take m ++ [J] := by rw [List.take_add_one, h]; rfl

theorem snoc_inj {A B : List Kn} {J L : Kn} (h : A ++ [J] = B ++ [L]) : A = B ∧ J = L := by
  have := List.append_inj' h rfl
  exact ⟨this.1, by simpa using this.2⟩

/-- Which knots lie on the stack. -/
theorem InP.tail (h : InP O a c b t x y n dk pk x0 y0) {m : Nat} (hb : b = m + 1) {J : Kn} (hJ : c[m]? = some J) : (pk = [] ∧ dk = c.take m ++ [J] ∧ J.k = 1) ∨ ∃ p', pk = p' ++ [J] ∧ J.k = 3 ∧ c.take m = dk ++ p' := by
  have hc := h.cut
  rw [hb, take_snoc hJ] at hc
  rcases List.eq_nil_or_concat pk with hp | ⟨p', L, hp⟩
  · rw [hp, List.append_nil] at hc
    obtain ⟨d', K', h1, h2⟩ := h.last (by omega)
    have := snoc_inj (hc.trans h1)
    exact .inl ⟨hp, hc.symm, by rw [this.2]; exact h2⟩
  · rw [hp, List.concat_eq_append, ← List.append_assoc] at hc
    have := snoc_inj hc
    refine .inr ⟨p', by rw [hp, List.concat_eq_append, this.2], ?_, this.1⟩
    rw [this.2]
    exact h.k3 L (by rw [hp]; simp)

theorem InP.pos1 (h : InP O a c b t x y n dk pk x0 y0) : (lastP x0 y0 pk).1 = x ∧ (lastP x0 y0 pk).2 = y := by
  have := h.pos; exact ⟨by rw [← this], by rw [← this]⟩

/-- The text behind one knot's numbers. -/
def penB (t : ByteArray) (x y : Int) (K : Kn) : ByteArray := t ++ numB (K.x - x) ++ numB (K.y - y)
theorem penB_size (t : ByteArray) (x y : Int) (K : Kn) : (penB t x y K).size = t.size + 6 := by unfold penB; rw [ByteArray.size_append, ByteArray.size_append, numB_size, numB_size]

theorem InP.pen (h : InP O a c b t x y n dk pk x0 y0) (hK : Bnd K) : Rch O (penB t x y K) (O.take a ++ (if b = 0 then [] else [dk])) (pk ++ [K]) x0 y0 (n + 1) := by
  obtain ⟨p1, p2⟩ := h.pos1
  have := h.rch.pend (K := K) (by rw [p1, p2]; exact h.bp) hK (by have := h.few; omega)
  rw [p1, p2] at this
  exact this

theorem InP.move (h : InP O a c 0 t x y n dk pk x0 y0) (hc : c[0]? = some K) (hK : Bnd K) (hk : K.k = 1) (ha : a < O.length) :
    InP O a c 1 (penB t x y K ++ ⟨#[21]⟩) K.x K.y (n + 1) [K] [] K.x K.y := by
  have hcut := h.cut
  have hpk : dk = [] ∧ pk = [] := by simpa using hcut.symm
  have hr := h.pen hK
  rw [hpk.2, if_pos rfl, List.append_nil, List.nil_append] at hr
  have hr2 := Rch.move hr h.bx h.by' hK hk (by rw [List.length_take]; omega) (by omega)
  refine ⟨by rw [take_snoc hc]; rfl, by have := (List.getElem?_eq_some_iff.1 hc).1; omega, by simp, fun k hk => by simp at hk, fun k hk => by simp at hk, fun _ => ⟨[], K, rfl, hk⟩, fun h => by simp at h, fun h => by simp at h, rfl, hK.1, hK.2, hK, ?_, ?_, ?_⟩
  · rw [if_neg (by decide)]; exact hr2
  · rw [ByteArray.size_append, penB_size]; have := h.size; show t.size + 6 + 1 ≤ _; omega
  · have := h.cnt; omega

theorem InP.line (h : InP O a c b t x y n dk pk x0 y0) {m : Nat} (hb : b = m + 1) {J : Kn} (hJ : c[m]? = some J) (hj : J.k = 1) (hc : c[b]? = some K) (hK : Bnd K) (hk : K.k = 1) :
    InP O a c (b + 1) (penB t x y K ++ ⟨#[5]⟩) K.x K.y (n + 1) (dk ++ [K]) [] K.x K.y := by
  rcases h.tail hb hJ with ⟨h1, h2, _⟩ | ⟨p', _, h3, _⟩
  · have hr := h.pen hK
    rw [if_neg (by omega)] at hr
    rw [h1, List.nil_append] at hr
    have hr2 := Rch.line hr h.bx h.by' hK hk (by omega)
    refine ⟨?_, by have := (List.getElem?_eq_some_iff.1 hc).1; omega, by simp, fun k hk => by simp at hk, fun k hk => by simp at hk, fun _ => ⟨dk, K, rfl, hk⟩, fun h => by simp at h, fun h => by simp at h, rfl, hK.1, hK.2, hK, ?_, ?_, ?_⟩
    · rw [take_snoc hc, h.cut, h1]; simp
    · rw [if_neg (by omega)]; exact hr2
    · rw [ByteArray.size_append, penB_size]; have := h.size; show t.size + 6 + 1 ≤ _; omega
    · have := h.cnt; omega
  · omega

theorem InP.curve (h : InP O a c b t x y n dk pk x0 y0) {m : Nat} (hb : b = m + 3) {J1 J2 : Kn} (hJ1 : c[m + 1]? = some J1) (hJ2 : c[m + 2]? = some J2) (hj1 : J1.k = 3) (hj2 : J2.k = 3) (hc : c[b]? = some K) (hK : Bnd K) (hk : K.k = 1) :
    InP O a c (b + 1) (penB t x y K ++ ⟨#[8]⟩) K.x K.y (n + 1) (dk ++ [J1, J2, K]) [] K.x K.y := by
  rcases h.tail (m := m + 2) hb hJ2 with ⟨_, _, h3⟩ | ⟨p', h2, h3, h4⟩
  · omega
  have hpk : pk = [J1, J2] := by
    rw [take_snoc hJ1] at h4
    rcases List.eq_nil_or_concat p' with hp | ⟨p2, L, hp⟩
    · rw [hp, List.append_nil] at h4
      obtain ⟨d', K', e1, e2⟩ := h.last (by omega)
      have := snoc_inj (h4.trans e1)
      rw [this.2] at hj1; omega
    · rw [hp, List.concat_eq_append, ← List.append_assoc] at h4
      have := snoc_inj h4
      have hf := h.few
      rw [h2, hp] at hf
      simp at hf
      rw [h2, hp, hf, ← this.2]
      rfl
  have hr := h.pen hK
  rw [if_neg (by omega)] at hr
  rw [hpk] at hr
  have b1 := h.bnd J1 (by rw [hpk]; simp)
  have b2 := h.bnd J2 (by rw [hpk]; simp)
  have hr2 := Rch.curve hr h.bx h.by' b1 b2 hK hj1 hj2 hk (by have := h.cnt; omega)
  refine ⟨?_, by have := (List.getElem?_eq_some_iff.1 hc).1; omega, by simp, fun k hk => by simp at hk, fun k hk => by simp at hk, fun _ => ⟨dk ++ [J1, J2], K, by simp, hk⟩, fun h => by simp at h, fun h => by simp at h, rfl, hK.1, hK.2, hK, ?_, ?_, ?_⟩
  · rw [take_snoc hc, h.cut, hpk]; simp
  · rw [if_neg (by omega)]; exact hr2
  · rw [ByteArray.size_append, penB_size]; have := h.size; show t.size + 6 + 1 ≤ _; omega
  · have := h.cnt; omega

theorem InP.pend (h : InP O a c b t x y n dk pk x0 y0) {m : Nat} (hb : b = m + 1) {J L : Kn} (hJ : c[m]? = some J) (hc : c[b]? = some K) (hK : Bnd K) (hk : K.k = 3) (hL : c[b + 1]? = some L) (ho : J.k = 3 → L.k = 1) :
    InP O a c (b + 1) (penB t x y K) K.x K.y (n + 1) dk (pk ++ [K]) x0 y0 := by
  have hr := h.pen hK
  have hne : pk.length ≠ 2 := fun e => by
    obtain ⟨K', e1, e2⟩ := h.two e
    rw [hc] at e1; cases e1; omega
  have hf := h.few
  refine ⟨?_, by have := (List.getElem?_eq_some_iff.1 hc).1; omega, by rw [List.length_append, List.length_singleton]; omega, fun k hk' => ?_, fun k hk' => ?_, fun _ => h.last (by omega), fun _ => (List.getElem?_eq_some_iff.1 hL).1, fun e => ⟨L, hL, ho ?_⟩, ?_, h.bx, h.by', hK, ?_, ?_, ?_⟩
  · rw [take_snoc hc, h.cut]; simp
  · rcases List.mem_append.1 hk' with hq | hq
    · exact h.k3 k hq
    · rw [List.mem_singleton.1 hq]; exact hk
  · rcases List.mem_append.1 hk' with hq | hq
    · exact h.bnd k hq
    · rw [List.mem_singleton.1 hq]; exact hK
  · rcases h.tail hb hJ with ⟨h1, _, _⟩ | ⟨p', _, h3, _⟩
    · rw [h1] at e; simp at e
    · exact h3
  · rw [lastP_snoc]
  · rw [if_neg (by omega)]; rw [if_neg (by omega)] at hr; exact hr
  · rw [penB_size]; have := h.size; omega
  · have := h.cnt; omega

/-- Between contours. -/
structure OutP (O : List (List Kn)) (a : Nat) (t : ByteArray) (x y : Int) (n : Nat) : Prop where
  bp : (-9000 ≤ x ∧ x ≤ 9000) ∧ (-9000 ≤ y ∧ y ≤ 9000)
  rch : Rch O t (O.take a) [] x y n
  size : t.size ≤ 7 * n
  cnt : n = knotsTo O a

theorem outP_start (O : List (List Kn)) : OutP O 0 ByteArray.empty 0 0 0 := ⟨⟨by omega, by omega⟩, rch_start O, Nat.le_refl _, rfl⟩

theorem OutP.inP (h : OutP O a t x y n) (c : List Kn) : InP O a c 0 t x y n [] [] x y :=
  ⟨rfl, Nat.zero_le _, by simp, fun k hk => by simp at hk, fun k hk => by simp at hk, fun h => absurd h (by omega), fun h => by simp at h, fun h => by simp at h, rfl, h.bp.1, h.bp.2, h.bp, by rw [if_pos rfl, List.append_nil]; exact h.rch, h.size, h.cnt⟩

theorem InP.outP (h : InP O a c b t x y n dk pk x0 y0) (hb : b = c.length) (h0 : 0 < b) (hc : O[a]? = some c) : OutP O (a + 1) t x y n := by
  have hpk : pk = [] := by
    by_cases hp : 0 < pk.length
    · have := h.more hp; omega
    · exact List.eq_nil_of_length_eq_zero (by omega)
  have hcut := h.cut
  rw [hpk, List.append_nil, hb, List.take_length] at hcut
  have hr := h.rch
  have hp := h.pos
  rw [hpk] at hp hr
  have e1 : x0 = x := by have := congrArg Prod.fst hp; exact this.symm
  have e2 : y0 = y := by have := congrArg Prod.snd hp; exact this.symm
  rw [if_neg (by omega), ← hcut, e1, e2] at hr
  refine ⟨h.bp, ?_, h.size, ?_⟩
  · rw [List.take_add_one, hc]; exact hr
  · rw [knotsTo_succ hc, h.cnt, hb]

theorem OutP.done (h : OutP O a t x y n) (ha : a = O.length) (hn : n ≤ 2000) (hO : O.length ≤ 256) (f : FS) (hf : f.glyphs[0]? = some (t ++ ⟨#[14]⟩)) : (glyphM f 0).1 = O ∧ (glyphM f 0).2.2 = 0 := by
  have hr := h.rch
  rw [ha, List.take_length] at hr
  exact hr.done hn hO f hf
end

end Go.Proofs.Ytklenppldblbdaa
