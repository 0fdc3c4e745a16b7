/-
  What the document's Part answers, and the law's decode, for a table all of whose glyphs hold glyphs of it.
-/
import Derived.Test.YtllbegmgknlaiaaGlA
namespace Go.Proofs.Ytllbegmgknlaiaa
open Go.RowKit Go.PlainAid
set_option linter.unusedSimpArgs false
set_option linter.unusedVariables false

theorem elI : ElT 24 3 1 8 := ⟨Try.underlying24, by decide, .int .i64 0, by kernel_rfl, rfl⟩
theorem elB : ElT 23 5 1 1 := ⟨Try.underlying23, by decide, .int .u8 0, by kernel_rfl, rfl⟩
theorem own_base {w : World} {B B' : Nat} {e : TypeId} {s n : Nat} {v : Value} {xs : List Value} (h : w.ownsRow B e s v n xs) (hB : B' ≤ B) : w.ownsRow B' e s v n xs := by
  refine ⟨h.1, ?_⟩
  rcases h.2 with hn | ⟨g, cap, cur, hv, hb, rest⟩
  · exact .inl hn
  · exact .inr ⟨g, cap, cur, hv, Nat.le_trans hB hb, rest⟩
/-- A row of two bytes each, new. -/
def NewB (w : World) (s : ByteArray) (e : Ending) (w' : World) : Prop := ∃ g c, e = .returned (.slice (some ⟨g, 0, none⟩) s.size c) ∧ OwnB w.heap.size w' g c s ∧ Below w.heap.size w w'
theorem two_n (a : Option Addr) (n cap : Nat) (L : List Int) (w : World) (h : IsI w a n cap L) (hn : n ≤ 100000) (hL : ∀ x ∈ L, -65536 ≤ x ∧ x ≤ 4611686018427387904) :
    Calls Try.prog 6 #[.slice a n cap] w (NewB w (twoB L)) := by
  refine (two_c a n cap L w h hn hL).mono ?_
  rintro e w' ⟨g, c, rfl, h1, h2⟩
  refine ⟨g, c, ?_, h1, h2⟩
  rw [twoB_size, h.1]

theorem isI_new2 (w : World) (x y : Int) : IsI (w.alloc (.cells #[.int .i64 x, .int .i64 y] 3)) (some ⟨w.heap.size, 0, none⟩) 2 2 [x, y] := (intsAt_alloc w [x, y]).isI rfl 2

set_option maxHeartbeats 1000000 in
theorem part_c (fl g : Int) (b : Nat) (w : World) (h : IntsAt w b [0, 0]) (hf : 0 ≤ fl ∧ fl ≤ 65535) (hg : 0 ≤ g ∧ g ≤ 65535) :
    Calls Try.prog 7 #[.int .i64 fl, .int .i64 g, .slice (some ⟨b, 0, none⟩) 2 2] w (NewB w (partB fl g)) := by
  have H := Lib.hid h
  have HF := Lib.hid hf
  have HG := Lib.hid hg
  clear h hf hg
  have HB0 : Hid (Below w.heap.size w (w.alloc (.cells #[.int .i64 fl, .int .i64 g] 3))) := (Below.refl _ _).alloc (Nat.le_refl _) _
  go_enter Try.func7, Try.ntmps7
  go_wp2_with fail
  refine (two_n _ 2 2 [fl, g] _ (isI_new2 w fl g) (by omega) (by have := HF.out; have := HG.out; intro x hx; simp at hx; rcases hx with rfl | rfl <;> omega)).mono ?_
  rintro e w1 ⟨g1, c1, rfl, o1, b1⟩
  have HB1 := Lib.hid (bel_next HB0.out b1)
  have HO1 := Lib.hid (own_base o1 (B' := w.heap.size) HB0.out.size)
  clear o1 b1
  go_wp2_with fail
  refine (two_n _ 2 2 [0, 0] w1 ((H.out.below HB1.out).isI rfl 2) (by omega) (by intro x hx; simp at hx; omega)).mono ?_
  rintro e w2 ⟨g2, c2, rfl, o2, b2⟩
  have HO2 := Lib.hid (owns_stay HO1.out b2)
  have HI2 := Lib.hid (isB_of_owns o2)
  have HB2 := Lib.hid (bel_next HB1.out b2)
  clear o2 b2
  go_wp2_with (at_builtin; refine wpList_add rfl _ _ rfl w2 w.heap.size g1 c1 (twoB [fl, g]) (twoB [0, 0]) (some ⟨g2, 0, none⟩) c2 (twoB [fl, g]).size (twoB [0, 0]).size rfl rfl rfl rfl HO2.out HI2.out (by rw [twoB_size, twoB_size]; simp) HB2.out.size ?_; intro g3 c3 w3 o3 k3 hat)
  have HB3 := Lib.hid (grown_below HB2.out k3 HB2.out.size (owns_lt HO2.out).2)
  have HO3 := Lib.hid o3
  clear o3 k3 hat
  go_ret
  refine ⟨g3, c3, ?_, HO3.out, HB3.out⟩
  rw [partB, ByteArray.size_append]
  rfl

/-- An owned row of numbers. -/
abbrev OwnI (B : Nat) (w : World) (g c : Nat) (L : List Int) : Prop := w.ownsRow B 3 1 (.slice (some ⟨g, 0, none⟩) L.length c) L.length (L.map (Value.int .i64))
theorem own_ints {B g c : Nat} {w : World} {L : List Int} (h : OwnI B w g c L) : ∀ (i : Nat) (x : Int), L[i]? = some x → w.cell? ⟨g, i, none⟩ = some (.int .i64 x) := by
  intro i x hx
  have := own_lies h i (.int .i64 x) (by simp [hx])
  rwa [Nat.zero_add] at this

theorem isB_lies {w : World} {a : Option Addr} {len cap : Nat} {s : ByteArray} (h : IsB w a len cap s) : len = 0 ∨ ∃ b off, a = some ⟨b, off, none⟩ ∧ Lies w b off (cellsOfStr s) := by
  obtain ⟨h1, h2, h3 | ⟨b, off, rfl, hc⟩⟩ := h
  · exact .inl h3
  · refine .inr ⟨b, off, rfl, fun j u hj => ?_⟩
    have hjl : j < s.size := by
      rcases Nat.lt_or_ge j s.size with h | h
      · exact h
      · rw [List.getElem?_eq_none (by rw [cellsOfStr_length]; exact h)] at hj; cases hj
    rw [cellsOfStr_get s j hjl] at hj
    rw [hc j (by omega)]; exact hj
theorem bytes_one {s : ByteArray} : ∀ u ∈ cellsOfStr s, u.oneCell' = true := by
  intro u hu; simp [cellsOfStr] at hu; obtain ⟨_, _, rfl⟩ := hu; rfl
theorem ints_one {L : List Int} : ∀ u ∈ L.map (Value.int .i64), u.oneCell' = true := by
  intro u hu; simp at hu; obtain ⟨_, _, rfl⟩ := hu; rfl
/-- A new row of none. -/
theorem own_none (w : World) (e : TypeId) (s N : Nat) (hN : w.heap.size = N) : (w.alloc (.cells #[] e)).ownsRow N e s (.slice (some ⟨N, 0, none⟩) 0 0) 0 [] := by
  subst hN
  exact World.ownsRow_lit (base := w.heap.size) (e := e) (size := s) w #[] 0 (Nat.le_refl _) (by decide) (by simp)

set_option maxHeartbeats 1000000 in
theorem lawDecode_b (s : ByteArray) (L : List Int) (hT : Tbl s L) (w : World) (B gb cb gp cp g : Nat) (hb : OwnB B w gb cb s) (hp : OwnI B w gp cp L) (hg : g + 1 < L.length) :
    Calls Try.prog 8 #[.slice (some ⟨gb, 0, none⟩) s.size cb, .slice (some ⟨gp, 0, none⟩) L.length cp, .int .i64 g] w fun e w' => e = .returned (.tuple #[.agg #[.slice none 0 0, .slice none 0 0], .int .i64 73]) ∧ Below w.heap.size w w' := by
  have HT := Lib.hid hT
  have HG := Lib.hid hg
  have HBB := Lib.hid hb
  have HPP := Lib.hid hp
  obtain ⟨n, HN⟩ : ∃ n, Hid (L.length = n) := ⟨_, rfl⟩
  obtain ⟨m, HM⟩ : ∃ m, Hid (s.size = m) := ⟨_, rfl⟩
  have HB0 : Hid (Below w.heap.size w (w.alloc (.cells #[.slice none 0 0, .slice none 0 0] 29))) := (Below.refl _ _).alloc (Nat.le_refl _) _
  have HA0 : Hid ((w.alloc (.cells #[.slice none 0 0, .slice none 0 0] 29)).heap[w.heap.size]? = some (.cells #[.slice none 0 0, .slice none 0 0] 29 (0, 0))) := heap_alloc_new w _
  have HI0 : Hid (IsB (w.alloc (.cells #[.slice none 0 0, .slice none 0 0] 29)) (some ⟨gb, 0, none⟩) m cb s) := by have := (isB_of_owns hb).below HB0.out; rwa [HM.out] at this
  rw [HN.out, HM.out]
  clear hT hg hb hp
  go_enter Try.func8, Try.ntmps8
  have HE0 := Lib.hid (own_none (w.alloc (.cells #[.slice none 0 0, .slice none 0 0] 29)) 5 1 (w.heap.size + 1) (by simp))
  have HC0 : Hid (IsB ((w.alloc (.cells #[.slice none 0 0, .slice none 0 0] 29)).alloc (.cells #[] 5)) (some ⟨gb, 0, none⟩) m cb s) := HI0.out.below ((Below.refl _ _).alloc (Nat.le_refl _) _)
  go_wp2_with (at_builtin; refine wpList_app elB rfl _ _ rfl ((w.alloc (.cells #[.slice none 0 0, .slice none 0 0] 29)).alloc (.cells #[] 5)) (w.heap.size + 1) (w.heap.size + 1) 0 0 [] (some ⟨gb, 0, none⟩) m cb (cellsOfStr s) rfl rfl HE0.out (by rw [cellsOfStr_length, HM.out, Nat.mul_one]) (isB_lies HC0.out) bytes_one (by have := HT.out.1; have := HM.out; omega) (by have := HT.out.1; have := HM.out; omega) (by simp) ?_; intro g1 c1 w1 o1 k1 hat1)
  have HB1 : Hid (Below w.heap.size w w1) := belGrown (bel_alloc HB0.out _) k1 (by omega) (by simp; omega)
  have HI1 : Hid (IsB w1 (some ⟨g1, 0, none⟩) m c1 s) := by
    have h2 := o1
    rw [Nat.zero_add, List.nil_append, ← HM.out] at h2
    have := isB_of_owns h2
    rwa [HM.out] at this
  have HA1 : Hid (w1.heap[w.heap.size]? = some (.cells #[.slice none 0 0, .slice none 0 0] 29 (0, 0))) := grown_blk k1 (by omega) ((Below.heap_alloc _ _ _ (by simp)).trans HA0.out)
  clear o1 k1 hat1
  refine (new_c _ m c1 s w1 HI1.out).mono ?_
  rintro e w2 ⟨rfl, rfl⟩
  have HB2 := Lib.hid (bel_alloc HB1.out (.cells #[.string s] 53))
  have HE2 := Lib.hid (own_none (w1.alloc (.cells #[.string s] 53)) 3 1 (w1.heap.size + 1) (by simp))
  have HB3 := Lib.hid (bel_alloc HB2.out (.cells #[] 3))
  have HZ3 : Hid (w.heap.size < w1.heap.size) := (Array.getElem?_eq_some_iff.1 HA1.out).1
  have HV3 : Hid (((w1.alloc (.cells #[.string s] 53)).alloc (.cells #[] 3)).cell? ⟨w1.heap.size, 0, none⟩ = some (.string s)) := keepC ((Below.refl _ _).alloc (Nat.le_refl _) _) (blk_cell (heap_alloc_new w1 (.cells #[.string s] 53)) 0 _ rfl)
  have HA3 : Hid (((w1.alloc (.cells #[.string s] 53)).alloc (.cells #[] 3)).heap[w.heap.size]? = some (.cells #[.slice none 0 0, .slice none 0 0] 29 (0, 0))) :=
    (Below.heap_alloc _ _ _ (by have := HZ3.out; simp; omega)).trans ((Below.heap_alloc _ _ _ HZ3.out).trans HA1.out)
  have HP3 : Hid (((w1.alloc (.cells #[.string s] 53)).alloc (.cells #[] 3)).ownsRow B 3 1 (.slice (some ⟨gp, 0, none⟩) L.length cp) L.length (L.map (Value.int .i64))) := own_below HPP.out HB3.out
  have HNZ : Hid ((n : Int) ≤ 1000000) := by have := HT.out.2.1; rwa [HN.out] at this
  go_wp2_with (at_builtin; refine wpList_app elI rfl _ _ rfl ((w1.alloc (.cells #[.string s] 53)).alloc (.cells #[] 3)) (w1.heap.size + 1) (w1.heap.size + 1) 0 0 [] (some ⟨gp, 0, none⟩) n cp (L.map (Value.int .i64)) rfl rfl HE2.out (by rw [List.length_map, HN.out, Nat.mul_one]) (.inr ⟨gp, 0, rfl, own_lies HP3.out⟩) ints_one (by have := HNZ.out; omega) (by have := HNZ.out; omega) (by simp) ?_; intro g4 c4 w4 o4 k4 hat4)
  have HO4 : Hid (OwnI (w1.heap.size + 1) w4 g4 c4 L) := by
    have h2 := o4
    rw [Nat.zero_add, List.nil_append, ← HN.out] at h2
    exact h2
  have HV4 := Lib.hid (grown_cell k4 (by omega) HV3.out)
  have HA4 := Lib.hid (grown_blk k4 (by have := HZ3.out; omega) HA3.out)
  have HB4 : Hid (Below w.heap.size w w4) := belGrown HB3.out k4 (by have := HZ3.out; omega) (by have := HZ3.out; simp; omega)
  clear o4 k4 hat4
  have HD := Lib.hid (decode_b s L HT.out w4 w1.heap.size g4 c4 g HV4.out (ownsRow_cap HO4.out).2.2 (own_ints HO4.out) HG.out)
  rw [HN.out] at HD
  refine HD.out.mono ?_
  rintro e w5 ⟨rfl, hb5⟩
  have hA := (hb5.block _ (Array.getElem?_eq_some_iff.1 HA4.out).1).trans HA4.out
  have a0 := blk_cell hA 0 (.slice none 0 0) rfl
  have a1 := blk_cell hA 1 (.slice none 0 0) rfl
  have a2 := blk_free hA
  have HB5 := Lib.hid (bel_next HB4.out hb5)
  clear hb5 hA
  go_wp2_with fail
  refine bodyPost_ret (v := .tuple #[.agg #[.slice none 0 0, .slice none 0 0], .int .i64 73]) (by simp [results, Try.results8, go_sem, a0, a1]) rfl ⟨rfl, ?_⟩
  exact bel_set (bel_set HB5.out (Nat.le_refl _) _) (Nat.le_refl _) _

end Go.Proofs.Ytllbegmgknlaiaa
