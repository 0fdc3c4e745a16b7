import Derived.Test.YtklenppldblbdaaGreatK08
import Derived.Test.YtklenppldblbdaaGreatK10
import Derived.Test.YtklenppldblbdaaGreatK07
import Derived.Deep.RegionHeld3
import Derived.Deep.CutBlock
import Derived.Deep.DeepCutAuto
import Derived.Test.YtklenppldblbdaaGreatK04
import Derived.Test.YtklenppldblbdaaGreatK06
set_option linter.unusedSimpArgs false
set_option linter.unusedVariables false
namespace Go.Proofs.YtklenppldblbdaaGreat
open Go.RowKit Go.PlainAid
set_option maxHeartbeats 1000000 in
theorem near_d (n : Int) (w : World) (h0 : -2147483648 ≤ n) (h1 : n ≤ 2147483648) :
 Calls Tryz.prog 41 #[.int .i64 n] w fun e w' => e = .returned (.int .i64 (nearM n)) ∧ Below w.heap.size w w' := by
 have HM := Lib.hid (refmd_any n 1 65536 (mulDiv n 1 65536).1 (mulDiv n 1 65536).2 w ⟨by omega, by omega⟩ ⟨by omega, by omega⟩ ⟨by omega, by omega⟩ rfl)
 clear h0 h1
 go_enter Tryz.func41, Tryz.ntmps41
 go_wp2_with fail
 refine HM.out.mono ?_
 rintro e w1 ⟨rfl, hb1⟩
 have HB := Lib.hid hb1
 clear hb1
 generalize hq : (mulDiv n 1 65536).1 = q at *
 generalize (mulDiv n 1 65536).2 = q2 at *
 have HQ := Lib.hid hq
 clear hq
 go_wp2_with fail
 go_ret
 exact ⟨by rw [nearM, HQ.out]; rfl, HB.out⟩
theorem alloc3 (w : World) (o1 o2 o3 : Obj) : (((w.alloc o1).alloc o2).alloc o3).heap[w.heap.size]? = some o1 ∧ (((w.alloc o1).alloc o2).alloc o3).heap[w.heap.size + 1]? = some o2 ∧ (((w.alloc o1).alloc o2).alloc o3).heap[w.heap.size + 1 + 1]? = some o3 ∧
 Below w.heap.size w (((w.alloc o1).alloc o2).alloc o3) := by
 have h1 : (w.alloc o1).heap.size = w.heap.size + 1 := by simp
 have h2 : ((w.alloc o1).alloc o2).heap.size = w.heap.size + 1 + 1 := by simp
 have b1 : Below w.heap.size w (w.alloc o1) := (Below.refl _ _).alloc (Nat.le_refl _) _
 have b2 : Below (w.alloc o1).heap.size (w.alloc o1) ((w.alloc o1).alloc o2) := (Below.refl _ _).alloc (Nat.le_refl _) _
 have b3 : Below ((w.alloc o1).alloc o2).heap.size ((w.alloc o1).alloc o2) (((w.alloc o1).alloc o2).alloc o3) := (Below.refl _ _).alloc (Nat.le_refl _) _
 refine ⟨blk_below (blk_below (heap_alloc_new w o1) b2) b3, ?_, ?_, bel_next (bel_next b1 b2) b3⟩
 ·have := blk_below (heap_alloc_new (w.alloc o1) o2) b3; rwa [h1] at this
 ·have := heap_alloc_new ((w.alloc o1).alloc o2) o3; rwa [h2] at this
def stV (sa : Option Addr) (sc : Nat) (oa : Option Addr) (oc : Nat) (s : MS) : Array Value :=
 #[.slice sa s.stack.length sc, .slice oa s.out.length oc, .int .i64 s.x, .int .i64 s.y, .int .i64 (s.knots : Int), .int .i64 (s.stems : Int), .int .i64 (s.fuel : Int), .int .i64 s.width, .bool s.asked]
def ToldPost (oa : Option Addr) (oc : Nat) (s' : MS) (w : World) (e : Ending) (w' : World) : Prop :=
 ∃ sa sc, e = .returned (.agg (stV sa sc oa oc s')) ∧ Opds w' s'.stack sa ∧ s'.stack.length ≤ sc ∧ Below w.heap.size w w'
set_option maxRecDepth 20000 in
set_option maxHeartbeats 2000000 in
theorem told_yes (v0 v1 v2 : Value) (u0 u1 : Int) (g off sc : Nat) (oa : Option Addr) (oc : Nat) (s : MS) (x : Int) (t : List Int) (w : World) (hs : s.stack = x :: t) (ha : s.asked = false) (ho : Opds w s.stack (some ⟨g, off, none⟩)) (hc : s.stack.length ≤ sc) (hl : s.stack.length ≤ 1000) (hx : -2147483648 ≤ x ∧ x ≤ 2147483648)
 (h0 : ∃ a n c, v0 = .slice a n c) (h1 : ∃ a n c, v1 = .slice a n c) (h2 : ∃ a n c, v2 = .slice a n c) (hw1 : -4294967296 ≤ u1 ∧ u1 ≤ 4294967296) :
 Calls Tryz.prog 26 #[.agg #[v0, v1, v2, .int .i64 u0, .int .i64 u1], .agg (stV (some ⟨g, off, none⟩) sc oa oc s), .bool true] w (ToldPost oa oc { s with asked := true, width := nearM x + u1, stack := t } w) := by
 obtain ⟨a0, n0, c0, rfl⟩ := h0
 obtain ⟨a1, n1, c1, rfl⟩ := h1
 obtain ⟨a2, n2, c2, rfl⟩ := h2
 obtain ⟨n, HN⟩ : ∃ n, Hid (t.length = n) := ⟨_, rfl⟩
 have HO := Lib.hid ho
 have hlen : s.stack.length = n + 1 := by have := HN.out; rw [hs]; simp; omega
 obtain ⟨k, HK⟩ : ∃ k, Hid (s.out.length = k) := ⟨_, rfl⟩
 unfold stV
 rw [hlen, HK.out, ha]
 have HC : Hid (n + 1 ≤ sc ∧ n ≤ 1000) := by unfold Hid; omega
 have HX := Lib.hid hx
 have HW := Lib.hid hw1
 have HS := Lib.hid hs
 clear ho hc hl hx hw1 hs hlen ha
 obtain ⟨A, HAA⟩ : ∃ A, Hid (w.heap.size = A) := ⟨_, rfl⟩
 go_enter Tryz.func26, Tryz.ntmps26
 go_wp2_with fail
 have h3 := alloc3 w (.cells #[.slice a0 n0 c0, .slice a1 n1 c1, .slice a2 n2 c2, .int .i64 u0, .int .i64 u1] 29) (.cells #[.slice (some ⟨g, off, none⟩) (n + 1) sc, .slice oa k oc, .int .i64 s.x, .int .i64 s.y, .int .i64 (s.knots : Int), .int .i64 (s.stems : Int), .int .i64 (s.fuel : Int), .int .i64 s.width, .bool false] 52) (.cells #[.slice none 0 0, .slice none 0 0, .int .i64 0, .int .i64 0, .int .i64 0, .int .i64 0, .int .i64 0, .int .i64 0, .bool false] 52)
 generalize (((w.alloc (.cells #[.slice a0 n0 c0, .slice a1 n1 c1, .slice a2 n2 c2, .int .i64 u0, .int .i64 u1] 29)).alloc (.cells #[.slice (some ⟨g, off, none⟩) (n + 1) sc, .slice oa k oc, .int .i64 s.x, .int .i64 s.y, .int .i64 (s.knots : Int), .int .i64 (s.stems : Int), .int .i64 (s.fuel : Int), .int .i64 s.width, .bool false] 52)).alloc (.cells #[.slice none 0 0, .slice none 0 0, .int .i64 0, .int .i64 0, .int .i64 0, .int .i64 0, .int .i64 0, .int .i64 0, .bool false] 52)) = w0 at *
 rw [HAA.out] at h3 ⊢
 obtain ⟨e1, e2, e3, hb0⟩ := h3
 have hb0' : Below w.heap.size w w0 := by rw [HAA.out]; exact hb0
 obtain ⟨g', off', hgo, hcell⟩ := (HO.out.keep (keep_bel hb0')).at (by rw [HS.out]; simp)
 cases hgo
 have k0 := hcell 0 x (by rw [HS.out]; rfl)
 rw [Nat.add_zero] at k0
 have HGL : Hid (g < A) := by
  have h := HO.out
  rw [HS.out] at h
  rcases h with h | ⟨g', off', cs, fr, q1, q2, _⟩
  ·cases h
  ·cases q1; have := blk_lt q2; rw [HAA.out] at this; exact this
 have HGA : Hid (A + 1 ≠ g) := by have := HGL.out; unfold Hid; omega
 have HNE : Hid (A + 1 ≠ A) := by unfold Hid; omega
 have HE1 := Lib.hid e1
 have HE2 := Lib.hid e2
 have HE3 := Lib.hid e3
 have HB0 := Lib.hid hb0
 have kfd : w0.drew.cell? ⟨A, 4, none⟩ = some (.int .i64 u1) := blk_cell e1 4 _ rfl
 have ksd : w0.drew.cell? ⟨A + 1, 0, none⟩ = some (.slice (some ⟨g, off, none⟩) (n + 1) sc) := blk_cell e2 0 _ rfl
 have kxd : w0.drew.cell? ⟨g, off, none⟩ = some (.int .i64 x) := k0
 have q7 : w0.drew.cell? ⟨A + 1, 7, none⟩ = some (.int .i64 s.width) := blk_cell e2 7 _ rfl
 have p7 : w0.drew.frozen? ⟨A + 1, 7, none⟩ = false := blk_free e2 7
 have b0 : (0 : Int) < (n : Int) + 1 := by omega
 have es : IntKind.i64.wrap (u1 + nearM x) = u1 + nearM x := IntWalk.i64_in _ (by have h1 := nearM_bound x; have h2 := HW.out; omega)
 clear e1 e2 e3 hb0 hb0' hcell k0
 go_region_held3 (fun W => W.cell? ⟨A, 4, none⟩ = some (.int .i64 u1) ∧ W.cell? ⟨A + 1, 0, none⟩ = some (.slice (some ⟨g, off, none⟩) (n + 1) sc) ∧ W.cell? ⟨g, off, none⟩ = some (.int .i64 x)) (first | with_reducible exact ⟨kfd, ksd, kxd⟩ | with_reducible exact ⟨jf, js, jx⟩ | with_reducible exact ⟨(keepS HNE.out).trans jf, (World.cell?_setCell_other _ _ _ _ (by simp)).trans js, (keepS HGA.out).trans jx⟩)
  ((go_at_call 41; (with_reducible refine (near_d x _ HX.out.1 HX.out.2).mono ?_); rintro e w2 ⟨rfl, hb2⟩; have jf := keepC hb2 kfd; have js := keepC hb2 ksd; have jx := keepC hb2 kxd; have j7 := keepC hb2 q7; have i7 := keepF hb2 q7 p7; have HB2 := Lib.hid hb2; have hn1 := (nearM_bound x).1; have hn2 := (nearM_bound x).2; have hw2 := HW.out.1; have hw3 := HW.out.2; clear hb2))
 have HBW : Hid (Below A w (w2.setCell ⟨A + 1, 7, none⟩ (.int .i64 (u1 + nearM x)))) := by
  have h1 := HB0.out.drew
  have h2 := h1.trans (HB2.out.mono (by have h := HB0.out.size; rw [HAA.out] at h; exact h))
  exact h2.setCell (Nat.le_succ _) _
 have e2 := blk_set (blk_below (show w0.drew.heap[A + 1]? = _ from HE2.out) HB2.out) 7 (.int .i64 (u1 + nearM x))
 have e3 : (w2.setCell ⟨A + 1, 7, none⟩ (.int .i64 (u1 + nearM x))).heap[A + 1 + 1]? = _ := (Below.heap_setCell _ _ _ _ (show A + 1 + 1 ≠ A + 1 by omega)).trans (blk_below (show w0.drew.heap[A + 1 + 1]? = _ from HE3.out) HB2.out)
 have kx3 : (w2.setCell ⟨A + 1, 7, none⟩ (.int .i64 (u1 + nearM x))).cell? ⟨g, off, none⟩ = some (.int .i64 x) := (keepS HGA.out).trans jx
 clear jf js jx j7 i7 HB2 HE1 HE2 HE3 HB0 kfd ksd kxd q7 p7
 generalize (w2.setCell ⟨A + 1, 7, none⟩ (.int .i64 (u1 + nearM x))) = w3 at *
 have hDE : A + 1 ≠ A + 1 + 1 := by omega
 have hAD : A ≤ A + 1 := by omega
 have hAE : A ≤ A + 1 + 1 := by omega
 generalize A + 1 + 1 = E at *
 generalize A + 1 = D at *
 simp at e2
 have c0 := blk_cell e2 0 _ rfl
 have c1 := blk_cell e2 1 _ rfl
 have c2 := blk_cell e2 2 _ rfl
 have c3 := blk_cell e2 3 _ rfl
 have c4 := blk_cell e2 4 _ rfl
 have c5 := blk_cell e2 5 _ rfl
 have c6 := blk_cell e2 6 _ rfl
 have c7 := blk_cell e2 7 _ rfl
 have c8 := blk_cell e2 8 _ rfl
 have f0 := blk_free e2 0
 have f8 := blk_free e2 8
 have d0 := blk_cell e3 0 _ rfl
 have d1 := blk_cell e3 1 _ rfl
 have d2 := blk_cell e3 2 _ rfl
 have d3 := blk_cell e3 3 _ rfl
 have d4 := blk_cell e3 4 _ rfl
 have d5 := blk_cell e3 5 _ rfl
 have d6 := blk_cell e3 6 _ rfl
 have d7 := blk_cell e3 7 _ rfl
 have d8 := blk_cell e3 8 _ rfl
 have h0 := blk_free e3 0
 have h1 := blk_free e3 1
 have h2 := blk_free e3 2
 have h3 := blk_free e3 3
 have h4 := blk_free e3 4
 have h5 := blk_free e3 5
 have h6 := blk_free e3 6
 have h7 := blk_free e3 7
 have h8 := blk_free e3 8
 have hED : E ≠ D := fun e => hDE e.symm
 have b1 : (1 : Int) ≤ (n : Int) + 1 := by omega
 have hcn : n + 1 ≤ sc := HC.out.1
 clear e2 e3
 have HD9 := Lib.hid (And.intro hAD hAE)
 have hw : u1 + nearM x = nearM x + u1 := Int.add_comm _ _
 have HWC := Lib.hid hw
 clear hw
 go_wp2_with fail
 ·rename_i hsc
  have hfin := (((((((((((HBW.out.setCell HD9.out.1 (p := ⟨D, 0, none⟩) (.slice (some ⟨g, off, none⟩) n 0)).setCell HD9.out.1 (p := ⟨D, 8, none⟩) (.bool true)).setCell HD9.out.2 (p := ⟨E, 0, none⟩) (.slice (some ⟨g, off, none⟩) n 0)).setCell HD9.out.2 (p := ⟨E, 1, none⟩) (.slice oa k oc)).setCell HD9.out.2 (p := ⟨E, 2, none⟩) (.int .i64 s.x)).setCell HD9.out.2 (p := ⟨E, 3, none⟩) (.int .i64 s.y)).setCell HD9.out.2 (p := ⟨E, 4, none⟩) (.int .i64 (s.knots : Int))).setCell HD9.out.2 (p := ⟨E, 5, none⟩) (.int .i64 (s.stems : Int))).setCell HD9.out.2 (p := ⟨E, 6, none⟩) (.int .i64 (s.fuel : Int))).setCell HD9.out.2 (p := ⟨E, 7, none⟩) (.int .i64 (u1 + nearM x))).setCell HD9.out.2 (p := ⟨E, 8, none⟩) (.bool true))
  refine bodyPost_ret (v := .agg #[.slice (some ⟨g, off, none⟩) n 0, .slice oa k oc, .int .i64 s.x, .int .i64 s.y, .int .i64 (s.knots : Int), .int .i64 (s.stems : Int), .int .i64 (s.fuel : Int), .int .i64 (u1 + nearM x), .bool true]) ?_ rfl ?_
  ·simp [results, Tryz.results26, go_sem, d0, d1, d2, d3, d4, d5, d6, d7, d8, h0, h1, h2, h3, h4, h5, h6, h7, h8, hED]
  ·refine ⟨some ⟨g, off, none⟩, 0, by rw [HWC.out]; unfold stV; rw [show ({ s with asked := true, width := nearM x + u1, stack := t } : MS).stack.length = n from HN.out, show ({ s with asked := true, width := nearM x + u1, stack := t } : MS).out.length = k from HK.out], ?_, by show t.length ≤ 0; have := HN.out; have := HC.out; omega, by rw [HAA.out]; exact hfin⟩
   have ht0 : t = [] := List.eq_nil_of_length_eq_zero (by have := HN.out; have := HC.out; omega)
   exact .inl ht0
 ·rename_i hsc
  have hfin := (((((((((((HBW.out.setCell HD9.out.1 (p := ⟨D, 0, none⟩) (.slice (some ⟨g, off + 1, none⟩) n (sc - 1))).setCell HD9.out.1 (p := ⟨D, 8, none⟩) (.bool true)).setCell HD9.out.2 (p := ⟨E, 0, none⟩) (.slice (some ⟨g, off + 1, none⟩) n (sc - 1))).setCell HD9.out.2 (p := ⟨E, 1, none⟩) (.slice oa k oc)).setCell HD9.out.2 (p := ⟨E, 2, none⟩) (.int .i64 s.x)).setCell HD9.out.2 (p := ⟨E, 3, none⟩) (.int .i64 s.y)).setCell HD9.out.2 (p := ⟨E, 4, none⟩) (.int .i64 (s.knots : Int))).setCell HD9.out.2 (p := ⟨E, 5, none⟩) (.int .i64 (s.stems : Int))).setCell HD9.out.2 (p := ⟨E, 6, none⟩) (.int .i64 (s.fuel : Int))).setCell HD9.out.2 (p := ⟨E, 7, none⟩) (.int .i64 (u1 + nearM x))).setCell HD9.out.2 (p := ⟨E, 8, none⟩) (.bool true))
  refine bodyPost_ret (v := .agg #[.slice (some ⟨g, off + 1, none⟩) n (sc - 1), .slice oa k oc, .int .i64 s.x, .int .i64 s.y, .int .i64 (s.knots : Int), .int .i64 (s.stems : Int), .int .i64 (s.fuel : Int), .int .i64 (u1 + nearM x), .bool true]) ?_ rfl ?_
  ·simp [results, Tryz.results26, go_sem, d0, d1, d2, d3, d4, d5, d6, d7, d8, h0, h1, h2, h3, h4, h5, h6, h7, h8, hED]
  ·refine ⟨some ⟨g, off + 1, none⟩, sc - 1, by rw [HWC.out]; unfold stV; rw [show ({ s with asked := true, width := nearM x + u1, stack := t } : MS).stack.length = n from HN.out, show ({ s with asked := true, width := nearM x + u1, stack := t } : MS).out.length = k from HK.out], ?_, by show t.length ≤ _; have := HN.out; have := HC.out; omega, by rw [HAA.out]; exact hfin⟩
   have hk := HO.out.keep (keep_bel (show Below w.heap.size w _ by rw [HAA.out]; exact hfin))
   have hr := hk.rest (c := sc) 1 (r := t) (by rw [HS.out]; rfl) (by rw [HS.out]; have := HN.out; have := HC.out; simp; omega)
   rw [if_neg (by omega)] at hr
   exact hr
set_option maxRecDepth 20000 in
set_option maxHeartbeats 2000000 in
theorem told_no (v0 v1 v2 : Value) (u0 u1 : Int) (sa : Option Addr) (sc : Nat) (oa : Option Addr) (oc : Nat) (s : MS) (many : Bool) (w : World) (hd : ¬ (s.asked = false ∧ many = true)) (ho : Opds w s.stack sa) (hc : s.stack.length ≤ sc)
 (h0 : ∃ a n c, v0 = .slice a n c) (h1 : ∃ a n c, v1 = .slice a n c) (h2 : ∃ a n c, v2 = .slice a n c) :
 Calls Tryz.prog 26 #[.agg #[v0, v1, v2, .int .i64 u0, .int .i64 u1], .agg (stV sa sc oa oc s), .bool many] w (ToldPost oa oc { s with asked := true } w) := by
 obtain ⟨a0, n0, c0, rfl⟩ := h0
 obtain ⟨a1, n1, c1, rfl⟩ := h1
 obtain ⟨a2, n2, c2, rfl⟩ := h2
 obtain ⟨n, HN⟩ : ∃ n, Hid (s.stack.length = n) := ⟨_, rfl⟩
 have HO := Lib.hid ho
 obtain ⟨k, HK⟩ : ∃ k, Hid (s.out.length = k) := ⟨_, rfl⟩
 obtain ⟨q, HQ⟩ : ∃ q, Hid (s.asked = q) := ⟨_, rfl⟩
 unfold stV
 rw [HN.out, HK.out, HQ.out]
 rw [HQ.out] at hd
 have HC : Hid (n ≤ sc) := by have := HN.out; unfold Hid; omega
 clear ho hc
 obtain ⟨A, HAA⟩ : ∃ A, Hid (w.heap.size = A) := ⟨_, rfl⟩
 have hpost : ∀ w', Below w.heap.size w w' → ToldPost oa oc { s with asked := true } w (.returned (.agg #[.slice sa n sc, .slice oa k oc, .int .i64 s.x, .int .i64 s.y, .int .i64 (s.knots : Int), .int .i64 (s.stems : Int), .int .i64 (s.fuel : Int), .int .i64 s.width, .bool true])) w' := fun w' hb =>
  ⟨sa, sc, by unfold stV; rw [show ({ s with asked := true } : MS).stack.length = n from HN.out, show ({ s with asked := true } : MS).out.length = k from HK.out], HO.out.keep (keep_bel hb), by show s.stack.length ≤ sc; rw [HN.out]; exact HC.out, hb⟩
 have HPO := Lib.hid hpost
 clear hpost
 have hcase : many = false ∨ (many = true ∧ q = true) := by
  cases many
  ·exact .inl rfl
  ·cases q
   ·exact absurd ⟨rfl, rfl⟩ hd
   ·exact .inr ⟨rfl, rfl⟩
 have h3 := alloc3 w (.cells #[.slice a0 n0 c0, .slice a1 n1 c1, .slice a2 n2 c2, .int .i64 u0, .int .i64 u1] 29) (.cells #[.slice sa n sc, .slice oa k oc, .int .i64 s.x, .int .i64 s.y, .int .i64 (s.knots : Int), .int .i64 (s.stems : Int), .int .i64 (s.fuel : Int), .int .i64 s.width, .bool q] 52) (.cells #[.slice none 0 0, .slice none 0 0, .int .i64 0, .int .i64 0, .int .i64 0, .int .i64 0, .int .i64 0, .int .i64 0, .bool false] 52)
 have H3 := Lib.hid h3
 clear hd h3
 generalize ToldPost oa oc { s with asked := true } w = QQ at *
 rcases hcase with rfl | ⟨rfl, rfl⟩
 all_goals
  go_enter Tryz.func26, Tryz.ntmps26
  have h3 := H3.out
  go_upto_region 4 with fail
  generalize (((w.alloc (.cells #[.slice a0 n0 c0, .slice a1 n1 c1, .slice a2 n2 c2, .int .i64 u0, .int .i64 u1] 29)).alloc (.cells #[.slice sa n sc, .slice oa k oc, .int .i64 s.x, .int .i64 s.y, .int .i64 (s.knots : Int), .int .i64 (s.stems : Int), .int .i64 (s.fuel : Int), .int .i64 s.width, _] 52)).alloc _) = w3 at *
  rw [HAA.out] at H3 HPO ⊢
  obtain ⟨_, e2, e3, hbw⟩ := H3.out
  have HBW := Lib.hid hbw
  have hDE : A + 1 ≠ A + 1 + 1 := by omega
  have hAD : A ≤ A + 1 := by omega
  have hAE : A ≤ A + 1 + 1 := by omega
  clear H3 h3 hbw
  generalize A + 1 + 1 = E at *
  generalize A + 1 = D at *
  have c0' := blk_cell e2 0 _ rfl
  have c1' := blk_cell e2 1 _ rfl
  have c2' := blk_cell e2 2 _ rfl
  have c3' := blk_cell e2 3 _ rfl
  have c4' := blk_cell e2 4 _ rfl
  have c5' := blk_cell e2 5 _ rfl
  have c6' := blk_cell e2 6 _ rfl
  have c7' := blk_cell e2 7 _ rfl
  have c8' := blk_cell e2 8 _ rfl
  have f8 := blk_free e2 8
  have d0 := blk_cell e3 0 _ rfl
  have d1 := blk_cell e3 1 _ rfl
  have d2 := blk_cell e3 2 _ rfl
  have d3 := blk_cell e3 3 _ rfl
  have d4 := blk_cell e3 4 _ rfl
  have d5 := blk_cell e3 5 _ rfl
  have d6 := blk_cell e3 6 _ rfl
  have d7 := blk_cell e3 7 _ rfl
  have d8 := blk_cell e3 8 _ rfl
  have h0 := blk_free e3 0
  have h1 := blk_free e3 1
  have h2 := blk_free e3 2
  have h3 := blk_free e3 3
  have h4 := blk_free e3 4
  have h5 := blk_free e3 5
  have h6 := blk_free e3 6
  have h7 := blk_free e3 7
  have h8 := blk_free e3 8
  have hED : E ≠ D := fun e => hDE e.symm
  have HD9 := Lib.hid (And.intro hAD hAE)
  clear e2 e3
  go_wp2_with fail
  have hfin := ((((((((((HBW.out.setCell HD9.out.1 (p := ⟨D, 8, none⟩) (.bool true)).setCell HD9.out.2 (p := ⟨E, 0, none⟩) (.slice sa n sc)).setCell HD9.out.2 (p := ⟨E, 1, none⟩) (.slice oa k oc)).setCell HD9.out.2 (p := ⟨E, 2, none⟩) (.int .i64 s.x)).setCell HD9.out.2 (p := ⟨E, 3, none⟩) (.int .i64 s.y)).setCell HD9.out.2 (p := ⟨E, 4, none⟩) (.int .i64 (s.knots : Int))).setCell HD9.out.2 (p := ⟨E, 5, none⟩) (.int .i64 (s.stems : Int))).setCell HD9.out.2 (p := ⟨E, 6, none⟩) (.int .i64 (s.fuel : Int))).setCell HD9.out.2 (p := ⟨E, 7, none⟩) (.int .i64 s.width)).setCell HD9.out.2 (p := ⟨E, 8, none⟩) (.bool true))
  refine bodyPost_ret (v := .agg #[.slice sa n sc, .slice oa k oc, .int .i64 s.x, .int .i64 s.y, .int .i64 (s.knots : Int), .int .i64 (s.stems : Int), .int .i64 (s.fuel : Int), .int .i64 s.width, .bool true]) ?_ rfl (HPO.out _ hfin)
  simp [results, Tryz.results26, go_sem, d0, d1, d2, d3, d4, d5, d6, d7, d8, h0, h1, h2, h3, h4, h5, h6, h7, h8, hED]
theorem tail_of {s : MS} {many : Bool} {w1 : Int} (h : s.asked = false ∧ many = true) (x : Int) (t : List Int) (hs : s.stack = x :: t) : s.behind w1 s.stack many = (t, { s with asked := true, width := nearM x + w1 }) := by
 unfold MS.behind; rw [if_pos h, hs]; rfl
theorem told_d (v0 v1 v2 : Value) (u0 u1 : Int) (sa : Option Addr) (sc : Nat) (oa : Option Addr) (oc : Nat) (s : MS) (many : Bool) (w : World) (ho : Opds w s.stack sa) (hc : s.stack.length ≤ sc) (hl : s.stack.length ≤ 1000) (hm : many = true → 0 < s.stack.length) (hx : ∀ v ∈ s.stack, -2147483648 ≤ v ∧ v ≤ 2147483648)
 (h0 : ∃ a n c, v0 = .slice a n c) (h1 : ∃ a n c, v1 = .slice a n c) (h2 : ∃ a n c, v2 = .slice a n c) (hw1 : -4294967296 ≤ u1 ∧ u1 ≤ 4294967296) :
 Calls Tryz.prog 26 #[.agg #[v0, v1, v2, .int .i64 u0, .int .i64 u1], .agg (stV sa sc oa oc s), .bool many] w (ToldPost oa oc { (s.behind u1 s.stack many).2 with stack := (s.behind u1 s.stack many).1 } w) := by
 by_cases hd : s.asked = false ∧ many = true
 ·have h0l := hm hd.2
  obtain ⟨x, t, hs⟩ : ∃ x t, s.stack = x :: t := by
   cases hq : s.stack with
   | nil => rw [hq] at h0l; simp at h0l
   | cons x t => exact ⟨x, t, rfl⟩
  obtain ⟨g, off, rfl, _⟩ := ho.at h0l
  rw [tail_of hd x t hs, hd.2]
  exact told_yes v0 v1 v2 u0 u1 g off sc oa oc s x t w hs hd.1 ho hc hl (hx x (by rw [hs]; simp)) h0 h1 h2 hw1
 ·have e : s.behind u1 s.stack many = (s.stack, { s with asked := true }) := by unfold MS.behind; rw [if_neg hd]
  rw [e]
  exact told_no v0 v1 v2 u0 u1 sa sc oa oc s many w hd ho hc h0 h1 h2
end Go.Proofs.YtklenppldblbdaaGreat
namespace Go.Proofs.YtklenppldblbdaaGreat
open Go.RowKit Go.PlainAid
theorem abs_sq (u v : Int) : v * v < u * u ↔ max v (-v) < max u (-u) := by
 have e1 : ∀ z : Int, max z (-z) = (z.natAbs : Int) := fun z => by omega
 have e2 : ∀ z : Int, z * z = ((z.natAbs * z.natAbs : Nat) : Int) := fun z => by rw [Int.natCast_mul]; exact (Int.natAbs_mul_self' z).symm
 rw [e1, e1, e2, e2]
 constructor
 ·intro h
  have h' : v.natAbs * v.natAbs < u.natAbs * u.natAbs := by omega
  have := Nat.mul_self_lt_mul_self_iff.1 h'
  omega
 ·intro h
  have h' : v.natAbs < u.natAbs := by omega
  have := Nat.mul_self_lt_mul_self_iff.2 h'
  omega
theorem knot_fault (s : MS) (a b k : Int) (h : s.fault ≠ 0) : s.knot a b k = s := by unfold MS.knot; rw [if_pos h]
theorem penL_fault : ∀ (p : List Stp) (s : MS), s.fault ≠ 0 → penL s p = s
 | [], s, _ => rfl
 | d :: p, s, h => by rw [penL_cons, knot_fault s _ _ _ h]; exact penL_fault p s h
theorem curves_fault (l : List Int) (s : MS) (h : s.fault ≠ 0) : MS.curves l s = s := by rw [pen_curves]; exact penL_fault _ s h
theorem curve_fault (s : MS) (a b c d e f : Int) (h : s.fault ≠ 0) : s.curve a b c d e f = s := by unfold MS.curve; rw [knot_fault s _ _ _ h, knot_fault s _ _ _ h, knot_fault s _ _ _ h]
theorem fault_same (s : MS) (h : s.fault = 0) : ({ s with fault := 0 } : MS) = s := by rw [← h]
def flexN (op : Int) : Option Nat := if op = 1234 then some 7 else if op = 1235 then some 13 else if op = 1236 then some 9 else if op = 1237 then some 11 else none
theorem flex_pen (op : Int) (l : List Int) (s : MS) (n : Nat) (h0 : s.fault = 0) (hop : flexN op = some n) (hn : l.length = n) :
 ((flexD op l).2 = 0 → s.flex op l = penL s (flexD op l).1) ∧ ((flexD op l).2 ≠ 0 → (s.flex op l).fault = (flexD op l).2) := by
 have hcase : (op = 1234 ∧ n = 7) ∨ (op = 1235 ∧ n = 13) ∨ (op = 1236 ∧ n = 9) ∨ (op = 1237 ∧ n = 11) := by
  unfold flexN at hop
  split at hop
  ·simp at hop; omega
  split at hop
  ·simp at hop; omega
  split at hop
  ·simp at hop; omega
  split at hop
  ·simp at hop; omega
  ·cases hop
 rcases hcase with ⟨rfl, rfl⟩ | ⟨rfl, rfl⟩ | ⟨rfl, rfl⟩ | ⟨rfl, rfl⟩
 ·unfold flexD MS.flex
  simp only [Int.reduceEq, if_true, if_false]
  rw [if_neg (by omega)]
  exact ⟨fun _ => rfl, fun h => absurd rfl h⟩
 ·unfold flexD MS.flex
  simp only [Int.reduceEq, if_true, if_false]
  rw [if_neg (by omega)]
  exact ⟨fun _ => pen_curves _ _, fun h => absurd rfl h⟩
 ·unfold flexD MS.flex
  simp only [Int.reduceEq, if_true, if_false]
  rw [if_neg (by omega)]
  rw [h0]
  by_cases ht : (totalD [l.getD 1 0, l.getD 3 0, l.getD 7 0] 0).2 = 0
  ·rw [if_neg (by omega), sumsF_total _ _ ht]
   simp only
   rw [fault_same s h0]
   exact ⟨fun _ => rfl, fun h => absurd rfl h⟩
  ·rw [if_pos ht]
   refine ⟨fun h => by simp at h, fun _ => ?_⟩
   have hb := sumsF_bad _ _ ht
   rw [curve_fault _ _ _ _ _ _ _ (by rw [curve_fault _ _ _ _ _ _ _ (by show (sumsF _ 0 0).2 ≠ 0; rw [hb]; decide)]; show (sumsF _ 0 0).2 ≠ 0; rw [hb]; decide), curve_fault _ _ _ _ _ _ _ (by show (sumsF _ 0 0).2 ≠ 0; rw [hb]; decide)]
   exact hb
 ·unfold flexD MS.flex
  simp only [Int.reduceEq, if_true, if_false]
  rw [if_neg (by omega)]
  rw [h0]
  by_cases hx : (totalD [l.getD 0 0, l.getD 2 0, l.getD 4 0, l.getD 6 0, l.getD 8 0] 0).2 = 0
  ·by_cases hy : (totalD [l.getD 1 0, l.getD 3 0, l.getD 5 0, l.getD 7 0, l.getD 9 0] 0).2 = 0
   ·rw [if_neg (by omega), sumsF_total _ _ hx]
    simp only
    rw [sumsF_total _ _ hy]
    simp only
    rw [fault_same s h0]
    refine ⟨fun _ => ?_, fun h => absurd rfl h⟩
    have h6 : l.take 6 = [l.getD 0 0, l.getD 1 0, l.getD 2 0, l.getD 3 0, l.getD 4 0, l.getD 5 0] := by
     match l, hn with
     | [_, _, _, _, _, _, _, _, _, _, _], _ => rfl
    rw [h6]
    by_cases hc : (totalD [l.getD 1 0, l.getD 3 0, l.getD 5 0, l.getD 7 0, l.getD 9 0] 0).1 * (totalD [l.getD 1 0, l.getD 3 0, l.getD 5 0, l.getD 7 0, l.getD 9 0] 0).1 < (totalD [l.getD 0 0, l.getD 2 0, l.getD 4 0, l.getD 6 0, l.getD 8 0] 0).1 * (totalD [l.getD 0 0, l.getD 2 0, l.getD 4 0, l.getD 6 0, l.getD 8 0] 0).1
    ·have hc2 := (abs_sq _ _).1 hc
     rw [if_pos hc, if_pos hc2, if_pos hc2]
     rfl
    ·have hc2 := fun h => hc ((abs_sq _ _).2 h)
     rw [if_neg hc, if_neg hc2, if_neg hc2]
     rfl
   ·rw [if_pos (.inr hy)]
    refine ⟨fun h => by simp at h, fun _ => ?_⟩
    rw [sumsF_total _ _ hx]
    simp only
    have hb := sumsF_bad _ _ hy
    rw [curve_fault _ _ _ _ _ _ _ (by rw [curves_fault _ _ (by show (sumsF _ 0 0).2 ≠ 0; rw [hb]; decide)]; show (sumsF _ 0 0).2 ≠ 0; rw [hb]; decide), curves_fault _ _ (by show (sumsF _ 0 0).2 ≠ 0; rw [hb]; decide)]
    exact hb
  ·rw [if_pos (.inl hx)]
   refine ⟨fun h => by simp at h, fun _ => ?_⟩
   have hb := sumsF_bad _ _ hx
   have hb2 : (sumsF [l.getD 1 0, l.getD 3 0, l.getD 5 0, l.getD 7 0, l.getD 9 0] 0 (sumsF [l.getD 0 0, l.getD 2 0, l.getD 4 0, l.getD 6 0, l.getD 8 0] 0 0).2).2 = 84 := by
    rw [hb]; exact sumsF_keeps _ _ _ (by decide)
   rw [curve_fault _ _ _ _ _ _ _ (by rw [curves_fault _ _ (by show (sumsF _ 0 _).2 ≠ 0; rw [hb2]; decide)]; show (sumsF _ 0 _).2 ≠ 0; rw [hb2]; decide), curves_fault _ _ (by show (sumsF _ 0 _).2 ≠ 0; rw [hb2]; decide)]
   exact hb2
open Classical in
noncomputable def drawD (op : Int) (l : List Int) : List Stp × Int :=
 if strokeOp op then (if (stepsD op l).2 = true then ((stepsD op l).1, 0) else ([], 81))
 else match flexN op with
  | some n => if l.length = n then flexD op l else ([], 81)
  | none => ([], 82)
theorem takes_flex (op : Int) (n m : Nat) (h : flexN op = some m) : takesN op n = (decide (n = m), true) ∧ 1200 ≤ op := by
 unfold flexN at h
 split at h
 ·rename_i e; simp at h; subst e; subst h; exact ⟨rfl, by decide⟩
 split at h
 ·rename_i e; simp at h; subst e; subst h; exact ⟨rfl, by decide⟩
 split at h
 ·rename_i e; simp at h; subst e; subst h; exact ⟨rfl, by decide⟩
 split at h
 ·rename_i e; simp at h; subst e; subst h; exact ⟨rfl, by decide⟩
 ·cases h
theorem takes_none (op : Int) (n : Nat) (h1 : ¬ strokeOp op) (h2 : flexN op = none) : takesN op n = (false, false) := by
 unfold strokeOp at h1
 unfold flexN at h2
 have g1 : op ≠ 1234 := fun e => by subst e; simp at h2
 have g2 : op ≠ 1235 := fun e => by subst e; simp at h2
 have g3 : op ≠ 1236 := fun e => by subst e; simp at h2
 have g4 : op ≠ 1237 := fun e => by subst e; simp at h2
 unfold takesN
 rw [if_neg (by omega), if_neg (by omega), if_neg (by omega), if_neg (by omega), if_neg (by omega), if_neg (by omega), if_neg g1, if_neg g2, if_neg g3, if_neg g4]
theorem draw_pen (op : Int) (l : List Int) (s : MS) (h0 : s.fault = 0) :
 ((drawD op l).2 = 0 → s.draw op l = penL s (drawD op l).1) ∧ ((drawD op l).2 ≠ 0 → (s.draw op l).fault = (drawD op l).2) := by
 unfold drawD
 by_cases hs : strokeOp op
 ·rw [if_pos hs]
  have ht := strokes_takes op l hs
  unfold MS.draw
  rw [ht]
  simp only [Bool.true_eq_false, if_false]
  by_cases hr : (stepsD op l).2 = true
  ·rw [if_pos hr, if_neg (by rw [hr]; decide), if_neg (by unfold strokeOp at hs; omega)]
   exact ⟨fun _ => strokes_pen op l s hs hr, fun h => absurd rfl h⟩
  ·rw [if_neg hr, if_pos (by simpa using hr)]
   exact ⟨fun h => by simp at h, fun _ => by unfold MS.refuse; rw [if_pos h0]⟩
 ·rw [if_neg hs]
  cases hf : flexN op with
  | some n =>
    obtain ⟨ht, hop⟩ := takes_flex op l.length n hf
    simp only
    unfold MS.draw
    rw [ht]
    simp only [Bool.true_eq_false, if_false]
    by_cases hn : l.length = n
    ·rw [if_pos hn, if_neg (by simp [hn]), if_pos hop]
     exact flex_pen op l s n h0 hf hn
    ·rw [if_neg hn, if_pos (by simp [hn])]
     exact ⟨fun h => by simp at h, fun _ => by unfold MS.refuse; rw [if_pos h0]⟩
  | none =>
    simp only
    unfold MS.draw
    rw [takes_none op l.length hs hf]
    simp only [if_true]
    exact ⟨fun h => by simp at h, fun _ => by unfold MS.refuse; rw [if_pos h0]⟩
end Go.Proofs.YtklenppldblbdaaGreat
namespace Go.Proofs.YtklenppldblbdaaGreat
open Go.RowKit Go.PlainAid
theorem OutW.knotted {w w' : World} {B g g' oc c' : Nat} {vs : List Value} {O : List (List Kn)} {k : Kn} {c : List Kn} {ai : Option Addr} {ci : Nat} (h : OutW w B (some ⟨g, 0, none⟩) oc vs O) (hc : O[O.length - 1]? = some c) (hv : vs[O.length - 1]? = some (.slice ai c.length ci))
 (ho : w'.ownsRow B 43 3 (.slice (some ⟨g', 0, none⟩) (c.length + 1) c') (c.length + 1) (c.flatMap clK ++ clK k))
 (hg : w.grownBy w' (Value.slice ai c.length ci).ownBlock) (hat : (Value.slice ai c.length ci).ownBlock = some g' ∨ g' = w.heap.size) :
 OutW (w'.setCell ⟨g, O.length - 1, none⟩ (.slice (some ⟨g', 0, none⟩) (c.length + 1) c')) B (some ⟨g, 0, none⟩) oc (vs.set (O.length - 1) (.slice (some ⟨g', 0, none⟩) (c.length + 1) c')) (snocLast O k) := by
 have hn : 0 < O.length := by have := (List.getElem?_eq_some_iff.1 hc).1; omega
 obtain ⟨a2, c2, hv2, hown⟩ := h.conts _ c hc
 rw [hv] at hv2
 have hv2' : ai = a2 ∧ ci = c2 := by simpa using hv2
 obtain ⟨rfl, rfl⟩ := hv2'
 have ht := typ_own hown
 have hor := own_chg h.own hg ht (by decide)
 have hg2 := grown_set w' g (O.length - 1) (.slice (some ⟨g', 0, none⟩) (c.length + 1) c')
 have ht2 : TypAt w' (some g) 41 := typ_own hor
 have hl : vs.length = O.length := by have := h.own.1; omega
 have hsl := snocLast_length O k hn
 refine ⟨?_, ?_, ?_⟩
 ·rw [hsl]
  exact own_put hor _ _
 ·intro i d hd
  have hil := (List.getElem?_eq_some_iff.1 hd).1
  by_cases hi : i + 1 < O.length
  ·rw [snocLast_at _ _ _ hi] at hd
   obtain ⟨a3, c3, h1, h2⟩ := h.conts i d hd
   refine ⟨a3, c3, by rw [List.getElem?_set_ne (by omega)]; exact h1, own_chg (own_apart h2 hg fun x hx => ?_) hg2 ht2 (by decide)⟩
   intro e
   exact h.apart i (O.length - 1) _ _ x (by omega) h1 hv hx e
  ·have hi2 : i = O.length - 1 := by omega
   subst hi2
   rw [snocLast_last _ _ _ hc] at hd
   have e : c ++ [k] = d := by simpa using hd
   subst e
   refine ⟨some ⟨g', 0, none⟩, c', by rw [List.getElem?_set_self (by omega), List.length_append]; rfl, ?_⟩
   rw [List.length_append, List.flatMap_append]
   have := own_chg ho hg2 ht2 (by decide)
   simpa using this
 ·intro i j v u x hij hvi hvj hx
  have hlt : ∀ (i : Nat) (v : Value) (x : Nat), vs[i]? = some v → v.ownBlock = some x → x < w.heap.size := by
   intro i v x h1 h2
   have hi := (List.getElem?_eq_some_iff.1 h1).1
   obtain ⟨d, hd⟩ := get_of (show i < O.length by omega)
   obtain ⟨a3, c3, h3, h4⟩ := h.conts i d hd
   rw [h1] at h3
   have e : v = .slice a3 d.length c3 := by simpa using h3
   subst e
   exact (h4.lt x h2).2
  by_cases hi : i = O.length - 1
  ·subst hi
   rw [List.getElem?_set_self (by omega)] at hvi
   have e : Value.slice (some ⟨g', 0, none⟩) (c.length + 1) c' = v := by simpa using hvi
   subst e
   rw [List.getElem?_set_ne hij] at hvj
   have e2 : g' = x := by simpa [Value.ownBlock] using hx
   subst e2
   intro hu
   rcases hat with e3 | e3
   ·exact h.apart _ j _ _ _ hij hv hvj e3 hu
   ·have := hlt j u _ hvj hu
    omega
  ·rw [List.getElem?_set_ne (by omega)] at hvi
   by_cases hj : j = O.length - 1
   ·subst hj
    rw [List.getElem?_set_self (by omega)] at hvj
    have e : Value.slice (some ⟨g', 0, none⟩) (c.length + 1) c' = u := by simpa using hvj
    subst e
    intro hu
    have e2 : g' = x := by simpa [Value.ownBlock] using hu
    subst e2
    rcases hat with e3 | e3
    ·exact h.apart i _ _ _ _ hij hvi hv hx e3
    ·have := hlt i v _ hvi hx
     omega
   ·rw [List.getElem?_set_ne (by omega)] at hvj
    exact h.apart i j v u x hij hvi hvj hx
theorem alloc2 (w : World) (o1 o2 : Obj) : ((w.alloc o1).alloc o2).heap[w.heap.size]? = some o1 ∧ ((w.alloc o1).alloc o2).heap[w.heap.size + 1]? = some o2 ∧ Below w.heap.size w ((w.alloc o1).alloc o2) := by
 have h1 : (w.alloc o1).heap.size = w.heap.size + 1 := by simp
 have b1 : Below w.heap.size w (w.alloc o1) := (Below.refl _ _).alloc (Nat.le_refl _) _
 have b2 : Below (w.alloc o1).heap.size (w.alloc o1) ((w.alloc o1).alloc o2) := (Below.refl _ _).alloc (Nat.le_refl _) _
 refine ⟨blk_below (heap_alloc_new w o1) b2, ?_, bel_next b1 b2⟩
 have := heap_alloc_new (w.alloc o1) o2; rwa [h1] at this
end Go.Proofs.YtklenppldblbdaaGreat
