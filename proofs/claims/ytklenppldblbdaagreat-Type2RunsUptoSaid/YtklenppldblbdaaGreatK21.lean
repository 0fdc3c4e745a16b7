import Derived.Test.YtklenppldblbdaaGreatK20
import Derived.Test.YtklenppldblbdaaGreatK12
set_option linter.unusedSimpArgs false
set_option linter.unusedVariables false
namespace Go.Proofs.YtklenppldblbdaaGreat
open Go.RowKit Go.PlainAid
set_option maxRecDepth 20000 in
set_option maxHeartbeats 4000000 in
theorem flex1237_d (x0 x1 x2 x3 x4 x5 x6 x7 x8 x9 x10 : Int) (a : Option Addr) (c : Nat) (w : World) (ho : Opds w [x0, x1, x2, x3, x4, x5, x6, x7, x8, x9, x10] a) (hc : 11 ≤ c) :
 Calls Tryz.prog 44 #[.int .i64 1237, .slice a 11 c] w (FlexPost (flexD 1237 [x0, x1, x2, x3, x4, x5, x6, x7, x8, x9, x10]) w) := by
 obtain ⟨q, off, rfl, hat⟩ := ho.at (by simp)
 have HO := Lib.hid ho
 have hcell : ∀ W, IntKeep w W → ∀ (i : Nat) (v : Int), [x0, x1, x2, x3, x4, x5, x6, x7, x8, x9, x10][i]? = some v → W.cell? ⟨q, off + i, none⟩ = some (.int .i64 v) := by
  intro W hW
  obtain ⟨g', off', hgo, hh⟩ := (ho.keep hW).at (by simp)
  cases hgo
  exact hh
 have HX := Lib.hid hcell
 obtain ⟨fd, HF0⟩ : ∃ fd, Hid (flexD 1237 [x0, x1, x2, x3, x4, x5, x6, x7, x8, x9, x10] = fd) := ⟨_, rfl⟩
 rw [HF0.out]
 clear ho hat hcell
 go_enter Tryz.func44, Tryz.ntmps44
 go_wp2_with fail
 refine wp_gen _ fun w1 hw1 => ?_
 have hb1 : Below w.heap.size w w1 := by rw [hw1]; exact ((Below.refl _ _).alloc (Nat.le_refl _) _).alloc (by simp) _
 have HB1 := Lib.hid hb1
 have HS1 : Hid (w.heap.size ≤ w1.heap.size) := hb1.size
 have HP1 : Hid (w1.ownsRow w.heap.size 3 1 (.slice (some ⟨w.heap.size + 1, 0, none⟩) 0 0) 0 []) := by
  rw [hw1]
  have h := World.ownsRow_lit (base := w.heap.size) (e := 3) (size := 1) (w.alloc (.cells #[.int .i64 7, .int .i64 13, .int .i64 9, .int .i64 11] 124)) #[] 0 (by simp) (by decide) rfl
  rwa [show (w.alloc (.cells #[.int .i64 7, .int .i64 13, .int .i64 9, .int .i64 11] 124)).heap.size = w.heap.size + 1 by simp] at h
 clear hb1 hw1
 have HSAt : Hid (∀ W, IntKeep w W → W.cell? ⟨q, off, none⟩ = some (.int .i64 x0) ∧ W.cell? ⟨q, off + 2, none⟩ = some (.int .i64 x2) ∧ W.cell? ⟨q, off + 4, none⟩ = some (.int .i64 x4) ∧ W.cell? ⟨q, off + 6, none⟩ = some (.int .i64 x6) ∧ W.cell? ⟨q, off + 8, none⟩ = some (.int .i64 x8)) := fun W KK => ⟨(by have := HX.out _ (KK) 0 x0 rfl; rwa [Nat.add_zero] at this), HX.out _ (KK) 2 x2 rfl, HX.out _ (KK) 4 x4 rfl, HX.out _ (KK) 6 x6 rfl, HX.out _ (KK) 8 x8 rfl⟩
 have KAt := keep_bel HB1.out.drew
 have KBt := (keep_bel HB1.out).trans (keep_bel (bel_al w1 (.cells #[.int .i64 x0, .int .i64 x2, .int .i64 x4, .int .i64 x6, .int .i64 x8] 3)))
 have KCt := (keep_bel HB1.out).trans (keep_bel (bel_ad w1 (.cells #[.int .i64 x0, .int .i64 x2, .int .i64 x4, .int .i64 x6, .int .i64 x8] 3)))
 go_region_held3 (fun W => W.cell? ⟨q, off, none⟩ = some (.int .i64 x0) ∧ W.cell? ⟨q, off + 2, none⟩ = some (.int .i64 x2) ∧ W.cell? ⟨q, off + 4, none⟩ = some (.int .i64 x4) ∧ W.cell? ⟨q, off + 6, none⟩ = some (.int .i64 x6) ∧ W.cell? ⟨q, off + 8, none⟩ = some (.int .i64 x8)) (first | with_reducible exact HSAt.out _ KAt | with_reducible exact HSAt.out _ KBt | with_reducible exact HSAt.out _ KCt | with_reducible exact HSAt.out _ Kt)
  ((go_at_call 63; (with_reducible refine (total_at [x0, x2, x4, x6, x8] (some ⟨w1.heap.size, 0, none⟩) 5 5 _ (opds_new w1 [x0, x2, x4, x6, x8] #[.int .i64 x0, .int .i64 x2, .int .i64 x4, .int .i64 x6, .int .i64 x8] w1.heap.size rfl rfl).drew rfl (by decide) (by decide)).mono ?_); rintro e w2 ⟨rfl, hht⟩; have Kt := KCt.trans (keep_bel hht)))
 have HSt : Hid (Below w1.heap.size w1 w2) := bel_next (bel_ad _ _) hht
 have HB2 : Hid (Below w.heap.size w w2) := bel_next HB1.out HSt.out
 clear KAt KBt KCt HSAt hht Kt
 have HUX := Lib.hid (totalD_bound [x0, x2, x4, x6, x8] 0 (by decide) (by decide))
 have HEX := Lib.hid (totalD_err [x0, x2, x4, x6, x8] 0)
 have HTX : Hid (∀ u v, totalD [x0, x2, x4, x6, x8] 0 = (u, v) → True) := fun _ _ _ => trivial
 obtain ⟨ux, hux⟩ : ∃ u, (totalD [x0, x2, x4, x6, x8] 0).1 = u := ⟨_, rfl⟩
 obtain ⟨ex, hex⟩ : ∃ u, (totalD [x0, x2, x4, x6, x8] 0).2 = u := ⟨_, rfl⟩
 rw [hux, hex]
 rw [hux] at HUX
 rw [hex] at HEX
 have HQX := Lib.hid (And.intro hux hex)
 clear hux hex HTX
 go_wp2_with fail
 have HSAv : Hid (∀ W, IntKeep w W → W.cell? ⟨q, off + 1, none⟩ = some (.int .i64 x1) ∧ W.cell? ⟨q, off + 3, none⟩ = some (.int .i64 x3) ∧ W.cell? ⟨q, off + 5, none⟩ = some (.int .i64 x5) ∧ W.cell? ⟨q, off + 7, none⟩ = some (.int .i64 x7) ∧ W.cell? ⟨q, off + 9, none⟩ = some (.int .i64 x9)) := fun W KK => ⟨HX.out _ (KK) 1 x1 rfl, HX.out _ (KK) 3 x3 rfl, HX.out _ (KK) 5 x5 rfl, HX.out _ (KK) 7 x7 rfl, HX.out _ (KK) 9 x9 rfl⟩
 have KAv := keep_bel HB2.out.drew
 have KBv := (keep_bel HB2.out).trans (keep_bel (bel_al w2 (.cells #[.int .i64 x1, .int .i64 x3, .int .i64 x5, .int .i64 x7, .int .i64 x9] 3)))
 have KCv := (keep_bel HB2.out).trans (keep_bel (bel_ad w2 (.cells #[.int .i64 x1, .int .i64 x3, .int .i64 x5, .int .i64 x7, .int .i64 x9] 3)))
 go_region_held3 (fun W => W.cell? ⟨q, off + 1, none⟩ = some (.int .i64 x1) ∧ W.cell? ⟨q, off + 3, none⟩ = some (.int .i64 x3) ∧ W.cell? ⟨q, off + 5, none⟩ = some (.int .i64 x5) ∧ W.cell? ⟨q, off + 7, none⟩ = some (.int .i64 x7) ∧ W.cell? ⟨q, off + 9, none⟩ = some (.int .i64 x9)) (first | with_reducible exact HSAv.out _ KAv | with_reducible exact HSAv.out _ KBv | with_reducible exact HSAv.out _ KCv | with_reducible exact HSAv.out _ Kv)
  ((go_at_call 63; (with_reducible refine (total_at [x1, x3, x5, x7, x9] (some ⟨w2.heap.size, 0, none⟩) 5 5 _ (opds_new w2 [x1, x3, x5, x7, x9] #[.int .i64 x1, .int .i64 x3, .int .i64 x5, .int .i64 x7, .int .i64 x9] w2.heap.size rfl rfl).drew rfl (by decide) (by decide)).mono ?_); rintro e w3 ⟨rfl, hhv⟩; have Kv := KCv.trans (keep_bel hhv)))
 have HSv : Hid (Below w2.heap.size w2 w3) := bel_next (bel_ad _ _) hhv
 have HB3 : Hid (Below w.heap.size w w3) := bel_next HB2.out HSv.out
 clear KAv KBv KCv HSAv hhv Kv
 have HUY := Lib.hid (totalD_bound [x1, x3, x5, x7, x9] 0 (by decide) (by decide))
 have HEY := Lib.hid (totalD_err [x1, x3, x5, x7, x9] 0)
 obtain ⟨uy, huy⟩ : ∃ u, (totalD [x1, x3, x5, x7, x9] 0).1 = u := ⟨_, rfl⟩
 obtain ⟨ey, hey⟩ : ∃ u, (totalD [x1, x3, x5, x7, x9] 0).2 = u := ⟨_, rfl⟩
 rw [huy, hey]
 rw [huy] at HUY
 rw [hey] at HEY
 have HFD : Hid (fd = if (totalD [x0, x2, x4, x6, x8] 0).2 ≠ 0 ∨ (totalD [x1, x3, x5, x7, x9] 0).2 ≠ 0 then ([], 84) else (curvD ([x0, x1, x2, x3, x4, x5, x6, x7, x8, x9] ++ (if (totalD [x1, x3, x5, x7, x9] 0).1 * (totalD [x1, x3, x5, x7, x9] 0).1 < (totalD [x0, x2, x4, x6, x8] 0).1 * (totalD [x0, x2, x4, x6, x8] 0).1 then [x10, -(totalD [x1, x3, x5, x7, x9] 0).1] else [-(totalD [x0, x2, x4, x6, x8] 0).1, x10])), 0)) := HF0.out.symm
 have hfd := HFD.out
 rw [HQX.out.1, HQX.out.2, huy, hey] at hfd
 clear HFD HF0
 have HFD := Lib.hid hfd
 clear huy hey HQX hfd
 rcases HEX.out with rfl | rfl
 ·rcases HEY.out with rfl | rfl
  ·have hfd := HFD.out
   rw [if_neg (by decide)] at hfd
   have HFE0 := Lib.hid hfd
   clear HFD hfd
   have hx1 := HUX.out.1
   have hx2 := HUX.out.2
   have hy1 := HUY.out.1
   have hy2 := HUY.out.2
   have hsx := sq_bound hx1 hx2
   have hsy := sq_bound hy1 hy2
   have HP3 := Lib.hid (own_below (own_below HP1.out HSt.out) HSv.out)
   have HLS : Hid (Lies w3 q off ([x0, x1, x2, x3, x4, x5, x6, x7, x8, x9].map (Value.int .i64))) := by
    intro j u hj
    rw [List.getElem?_map] at hj
    obtain ⟨v, hv, rfl⟩ := Option.map_eq_some_iff.1 hj
    refine HX.out w3 (keep_bel HB3.out) j v ?_
    have hjl : j < 10 := (List.getElem?_eq_some_iff.1 hv).1
    rw [show [x0, x1, x2, x3, x4, x5, x6, x7, x8, x9, x10] = [x0, x1, x2, x3, x4, x5, x6, x7, x8, x9] ++ [x10] from rfl, List.getElem?_append_left (by simpa using hjl)]
    exact hv
   have HX10 := Lib.hid (fun W hW => HX.out W hW 10 x10 rfl)
   have hc10 : (10 : Int) ≤ (c : Int) := by omega
   by_cases hc2 : uy * uy < ux * ux
   ·have hfd := HFE0.out
    rw [if_pos hc2] at hfd
    have HFE := Lib.hid hfd
    clear hfd HFE0
    go_wp2_with (at_builtin; first
     | (refine wpList_app elI rfl _ _ rfl w3 w.heap.size (w.heap.size + 1) 0 0 [] (some ⟨q, off, none⟩) 10 c ([x0, x1, x2, x3, x4, x5, x6, x7, x8, x9].map (Value.int .i64)) rfl rfl HP3.out rfl (.inr ⟨q, off, rfl, HLS.out⟩) (ints_one _) (by decide) (by decide) HB3.out.size ?_
        intro g9 c9 w9 ho9 hg9 hat9
        have HB9 : Hid (Below w.heap.size w w9) := Below.trans HB3.out ⟨hg9.os, hg9.tape, hg9.output, hg9.size, fun j hj => hg9.block j (Nat.lt_of_lt_of_le hj HB3.out.size) (fun e => by have := Option.some.inj e; omega)⟩
        have HO9 := Lib.hid ho9
        have k10 := HX10.out w9 (keep_bel HB9.out)
        clear ho9 hg9 hat9)
     | (refine wpList_app elI rfl _ _ rfl (w9.alloc (.cells #[.int .i64 x10, .int .i64 (-uy)] 3)) w.heap.size g9 c9 10 ([x0, x1, x2, x3, x4, x5, x6, x7, x8, x9].map (Value.int .i64)) (some ⟨w9.heap.size, 0, none⟩) 2 2 ([x10, -uy].map (Value.int .i64)) rfl rfl (own_below HO9.out (bel_al _ _)) rfl (.inr ⟨_, 0, rfl, lies_new⟩) (ints_one _) (by decide) (by decide) (HB9.out.alloc HB9.out.size _).size ?_
        intro g11 c11 w11 ho11 hg11 hat11
        have HB10 := Lib.hid (HB9.out.alloc HB9.out.size (.cells #[.int .i64 x10, .int .i64 (-uy)] 3))
        have HB11 : Hid (Below w.heap.size w w11) := Below.trans HB10.out ⟨hg11.os, hg11.tape, hg11.output, hg11.size, fun j hj => hg11.block j (Nat.lt_of_lt_of_le hj HB10.out.size) (fun e => by have := Option.some.inj e; have := (ownsRow_cap HO9.out).2.1; omega)⟩
        have HO11 := Lib.hid ho11
        clear ho11 hg11 hat11))
    have HC := Lib.hid (steps8_d ([x0, x1, x2, x3, x4, x5, x6, x7, x8, x9] ++ [x10, -uy]) (some ⟨g11, 0, none⟩) c11 w11 (opds_own (by rw [List.map_append]; exact HO11.out)) (by simp) (by have := (ownsRow_cap HO11.out).1; simp; omega))
    refine HC.out.mono ?_
    rintro e w12 ⟨g, cc, rfl, hp, hbz⟩
    go_wp2_with fail
    go_ret2
    rw [HFE.out]
    exact flexPost_ok hp (HB11.out.size) (bel_next HB11.out hbz)
   ·have hfd := HFE0.out
    rw [if_neg hc2] at hfd
    have HFE := Lib.hid hfd
    clear hfd HFE0
    go_wp2_with (at_builtin; first
     | (refine wpList_app elI rfl _ _ rfl w3 w.heap.size (w.heap.size + 1) 0 0 [] (some ⟨q, off, none⟩) 10 c ([x0, x1, x2, x3, x4, x5, x6, x7, x8, x9].map (Value.int .i64)) rfl rfl HP3.out rfl (.inr ⟨q, off, rfl, HLS.out⟩) (ints_one _) (by decide) (by decide) HB3.out.size ?_
        intro g9 c9 w9 ho9 hg9 hat9
        have HB9 : Hid (Below w.heap.size w w9) := Below.trans HB3.out ⟨hg9.os, hg9.tape, hg9.output, hg9.size, fun j hj => hg9.block j (Nat.lt_of_lt_of_le hj HB3.out.size) (fun e => by have := Option.some.inj e; omega)⟩
        have HO9 := Lib.hid ho9
        have k10 := HX10.out w9 (keep_bel HB9.out)
        clear ho9 hg9 hat9)
     | (refine wpList_app elI rfl _ _ rfl (w9.alloc (.cells #[.int .i64 (-ux), .int .i64 x10] 3)) w.heap.size g9 c9 10 ([x0, x1, x2, x3, x4, x5, x6, x7, x8, x9].map (Value.int .i64)) (some ⟨w9.heap.size, 0, none⟩) 2 2 ([-ux, x10].map (Value.int .i64)) rfl rfl (own_below HO9.out (bel_al _ _)) rfl (.inr ⟨_, 0, rfl, lies_new⟩) (ints_one _) (by decide) (by decide) (HB9.out.alloc HB9.out.size _).size ?_
        intro g11 c11 w11 ho11 hg11 hat11
        have HB10 := Lib.hid (HB9.out.alloc HB9.out.size (.cells #[.int .i64 (-ux), .int .i64 x10] 3))
        have HB11 : Hid (Below w.heap.size w w11) := Below.trans HB10.out ⟨hg11.os, hg11.tape, hg11.output, hg11.size, fun j hj => hg11.block j (Nat.lt_of_lt_of_le hj HB10.out.size) (fun e => by have := Option.some.inj e; have := (ownsRow_cap HO9.out).2.1; omega)⟩
        have HO11 := Lib.hid ho11
        clear ho11 hg11 hat11))
    have HC := Lib.hid (steps8_d ([x0, x1, x2, x3, x4, x5, x6, x7, x8, x9] ++ [-ux, x10]) (some ⟨g11, 0, none⟩) c11 w11 (opds_own (by rw [List.map_append]; exact HO11.out)) (by simp) (by have := (ownsRow_cap HO11.out).1; simp; omega))
    refine HC.out.mono ?_
    rintro e w12 ⟨g, cc, rfl, hp, hbz⟩
    go_wp2_with fail
    go_ret2
    rw [HFE.out]
    exact flexPost_ok hp (HB11.out.size) (bel_next HB11.out hbz)
  ·have hfd := HFD.out
   rw [if_pos (by decide)] at hfd
   have HFE := Lib.hid hfd
   clear HFD hfd
   go_wp2_with fail
   go_ret2
   rw [HFE.out]
   exact flexPost_no (by decide) HB3.out
 ·have hfd := HFD.out
  rw [if_pos (by simp)] at hfd
  have HFE := Lib.hid hfd
  clear HFD hfd
  go_wp2_with fail
  go_ret2
  rw [HFE.out]
  exact flexPost_no (by decide) HB3.out
end Go.Proofs.YtklenppldblbdaaGreat
namespace Go.Proofs.YtklenppldblbdaaGreat
open Go.RowKit Go.PlainAid
def KeepD (N : Nat) (w w' : World) : Prop := ∀ (b : Nat) (cs : Array Value) (t : TypeId) (fr : Nat × Nat), b < N → t ≠ 43 → t ≠ 41 → w.heap[b]? = some (.cells cs t fr) → w'.heap[b]? = some (.cells cs t fr)
theorem KeepD.refl (N : Nat) (w : World) : KeepD N w w := fun _ _ _ _ _ _ _ h => h
theorem KeepD.trans {N : Nat} {a b c : World} (h : KeepD N a b) (k : KeepD N b c) : KeepD N a c := fun x cs t fr hx h1 h2 hc => k x cs t fr hx h1 h2 (h x cs t fr hx h1 h2 hc)
theorem KeepD.mono {N M : Nat} {a b : World} (h : KeepD N a b) (hm : M ≤ N) : KeepD M a b := fun x cs t fr hx => h x cs t fr (Nat.lt_of_lt_of_le hx hm)
theorem keepD_bel {N b : Nat} {w w' : World} (hN : N ≤ b) (h : Below b w w') : KeepD N w w' := fun x cs t fr hx _ _ hc => by rw [h.block x (Nat.lt_of_lt_of_le hx hN)]; exact hc
theorem keepD_new {N A : Nat} {w w' : World} (h : w.grownBy w' (some A)) (hA : N ≤ A) : KeepD N w w' := fun x cs t fr hx _ _ hc => by
 rw [h.block x (blk_lt hc) (fun e => by cases e; omega)]; exact hc
theorem keepD_chg {N : Nat} {w w' : World} {r : Option Nat} {T : TypeId} (h : w.grownBy w' r) (ht : TypAt w r T) (hT : T = 43 ∨ T = 41) : KeepD N w w' := fun x cs t fr hx h1 h2 hc =>
 blk_chg hc h ht (by rcases hT with rfl | rfl; exact h1; exact h2)
theorem KeepD.int {w w' : World} (h : KeepD w.heap.size w w') : IntKeep w w' := fun b cs fr hb => h b cs _ fr (blk_lt hb) (by decide) (by decide) hb
def StepPostK (B : Nat) (sa : Option Addr) (sc : Nat) (oa : Option Addr) (oc : Nat) (s' : MS) (w : World) (e : Ending) (w' : World) : Prop :=
 ∃ vs, e = .returned (.tuple #[.agg (stV sa sc oa oc s'), .int .i64 0]) ∧ OutW w' B oa oc vs s'.out ∧ Below B w w' ∧ KeepD w.heap.size w w'
set_option maxRecDepth 20000 in
set_option maxHeartbeats 4000000 in
theorem step_yesK (B : Nat) (sa : Option Addr) (sc : Nat) (oa : Option Addr) (oc : Nat) (vs : List Value) (s : MS) (dx dy kd x y : Int) (w : World) (hz : OutW w B oa oc vs s.out) (hB : B ≤ w.heap.size) (ho : 0 < s.out.length) (hk : s.knots < 4096) (hp : PenFit s) (hsx : sumOr s.x dx = (x, 0)) (hsy : sumOr s.y dy = (y, 0)) :
 Calls Tryz.prog 42 #[.agg (stV sa sc oa oc s), .int .i64 dx, .int .i64 dy, .int .i64 kd] w (StepPostK B sa sc oa oc { s with x := x, y := y, out := snocLast s.out ⟨nearM x, nearM y, kd⟩, knots := s.knots + 1 } w) := by
 obtain ⟨m, HN⟩ : ∃ m, Hid (s.out.length = m + 1) := ⟨s.out.length - 1, by unfold Hid; omega⟩
 obtain ⟨G, hG, hGB, hGl, hGc⟩ := own_some hz.own ho
 subst hG
 obtain ⟨c, hc⟩ := get_of (show s.out.length - 1 < s.out.length by omega)
 obtain ⟨ai, ci, hv, hown⟩ := hz.conts _ c hc
 have HZ := Lib.hid hz
 have HC := Lib.hid hc
 have HV := Lib.hid hv
 have HCL : Hid (c.length ≤ 4096) := hp.len (List.mem_of_getElem? hc)
 obtain ⟨q, HQ⟩ : ∃ q, Hid (c.length = q) := ⟨_, rfl⟩
 have hbx := sumOr_bound s.x dx
 have hby := sumOr_bound s.y dy
 rw [hsx] at hbx
 rw [hsy] at hby
 have HXB : Hid (-2147483648 ≤ x ∧ x ≤ 2147483648) := by unfold Hid; simp only at hbx; omega
 have HYB : Hid (-2147483648 ≤ y ∧ y ≤ 2147483648) := by unfold Hid; simp only at hby; omega
 have HSX := Lib.hid hsx
 have HSY := Lib.hid hsy
 have HBS := Lib.hid hB
 have HGL := Lib.hid hGl
 obtain ⟨l, HL⟩ : ∃ l, Hid (s.stack.length = l) := ⟨_, rfl⟩
 have dgw := own_lies hz.own _ _ hv
 rw [HN.out, Nat.add_sub_cancel, Nat.zero_add, HQ.out] at dgw
 unfold stV
 rw [HN.out, HL.out]
 have z1 : (((m + 1 : Nat) : Int) == 0) = false := by simp; omega
 have z2 : ¬ (4096 : Int) ≤ (s.knots : Int) := by omega
 have hkw : wrap64 ((s.knots : Int) + 1) = ((s.knots + 1 : Nat) : Int) := by unfold wrap64; omega
 have hm255 : m ≤ 255 := by have := hp.2.1; have := HN.out; omega
 have hmw : wrap64 ((m : Int) + 1 - 1) = (m : Int) := by unfold wrap64; omega
 have h2 := alloc2 w (.cells #[.slice sa l sc, .slice (some ⟨G, 0, none⟩) (m + 1) oc, .int .i64 s.x, .int .i64 s.y, .int .i64 (s.knots : Int), .int .i64 (s.stems : Int), .int .i64 (s.fuel : Int), .int .i64 s.width, .bool s.asked] 52) (.cells #[.slice none 0 0, .slice none 0 0, .int .i64 0, .int .i64 0, .int .i64 0, .int .i64 0, .int .i64 0, .int .i64 0, .bool false] 52)
 obtain ⟨A, HAA⟩ : ∃ A, Hid (w.heap.size = A) := ⟨_, rfl⟩
 have HA1 := Lib.hid h2
 clear hz hB ho hk hp hsx hsy hbx hby hc hv hown h2 hGB hGl hGc
 go_enter Tryz.func42, Tryz.ntmps42
 have h2 := HA1.out
 go_wp2_with fail
 generalize ((w.alloc (.cells #[.slice sa l sc, .slice (some ⟨G, 0, none⟩) (m + 1) oc, .int .i64 s.x, .int .i64 s.y, .int .i64 (s.knots : Int), .int .i64 (s.stems : Int), .int .i64 (s.fuel : Int), .int .i64 s.width, .bool s.asked] 52)).alloc (.cells #[.slice none 0 0, .slice none 0 0, .int .i64 0, .int .i64 0, .int .i64 0, .int .i64 0, .int .i64 0, .int .i64 0, .bool false] 52)) = w0 at *
 rw [HAA.out] at h2 ⊢
 obtain ⟨e2, e3, hb0⟩ := h2
 have hb0' : Below w.heap.size w w0 := by rw [HAA.out]; exact hb0
 have HZ0 := Lib.hid (HZ.out.below hb0')
 have HK0 : Hid (KeepD w.heap.size w w0) := keepD_bel (Nat.le_refl _) hb0'
 have HB0 : Hid (Below B w w0) := hb0'.mono HBS.out
 have hGA : G ≠ A := by have := HGL.out; have := HAA.out; omega
 have hGE : G ≠ A + 1 := by have := HGL.out; have := HAA.out; omega
 have hED : A + 1 ≠ A := by omega
 have hBA : B ≤ A := by have := HBS.out; have := HAA.out; omega
 generalize hE : A + 1 = E at *
 have hBE : B ≤ E := by omega
 have c1 := blk_cell e2 1 _ rfl
 have c2 := blk_cell e2 2 _ rfl
 have c3 := blk_cell e2 3 _ rfl
 have c4 := blk_cell e2 4 _ rfl
 have f2 := blk_free e2 2
 have f3 := blk_free e2 3
 have f4 := blk_free e2 4
 have HE2 := Lib.hid e2
 have HE3 := Lib.hid e3
 have HBA := Lib.hid (And.intro hBA hBE)
 have HAE : Hid (A < E) := by unfold Hid; omega
 have HNE := Lib.hid (And.intro hGA (And.intro hGE hED))
 clear HA1 hb0 hb0' dgw e2 e3 hE
 refine (refsum_d s.x dx x 0 w0 HSX).mono ?_
 rintro e w1 ⟨rfl, rfl⟩
 go_wp2_with fail
 refine (refsum_d s.y dy y 0 w0 HSY).mono ?_
 rintro e w1 ⟨rfl, rfl⟩
 go_wp2_with fail
 have HGR : Hid (w0.grownBy (((w0.setCell ⟨A, 2, none⟩ (.int .i64 x)).setCell ⟨A, 3, none⟩ (.int .i64 y)).setCell ⟨A, 4, none⟩ (.int .i64 ((s.knots : Int) + 1))) (some A)) := grown_trans (grown_trans (grown_set w0 A 2 (.int .i64 x)) (grown_set _ A 3 (.int .i64 y))) (grown_set _ A 4 (.int .i64 ((s.knots : Int) + 1)))
 have ht2 := typ_blk HE2.out
 have hzc := HZ0.out.chg HGR.out ht2 (by decide) (by decide)
 have hdc := blk_set (blk_set (blk_set HE2.out 2 (.int .i64 x)) 3 (.int .i64 y)) 4 (.int .i64 ((s.knots : Int) + 1))
 have hec : (((w0.setCell ⟨A, 2, none⟩ (.int .i64 x)).setCell ⟨A, 3, none⟩ (.int .i64 y)).setCell ⟨A, 4, none⟩ (.int .i64 ((s.knots : Int) + 1))).heap[E]? = _ := (grown_other HGR.out (blk_lt HE3.out) (fun e => HNE.out.2.2 (Option.some.inj e).symm)).trans HE3.out
 have hbc : Below B w (((w0.setCell ⟨A, 2, none⟩ (.int .i64 x)).setCell ⟨A, 3, none⟩ (.int .i64 y)).setCell ⟨A, 4, none⟩ (.int .i64 ((s.knots : Int) + 1))) := ((HB0.out.setCell HBA.out.1 (p := ⟨A, 2, none⟩) (.int .i64 x)).setCell HBA.out.1 (p := ⟨A, 3, none⟩) (.int .i64 y)).setCell HBA.out.1 (p := ⟨A, 4, none⟩) (.int .i64 ((s.knots : Int) + 1))
 have hkc : KeepD w.heap.size w (((w0.setCell ⟨A, 2, none⟩ (.int .i64 x)).setCell ⟨A, 3, none⟩ (.int .i64 y)).setCell ⟨A, 4, none⟩ (.int .i64 ((s.knots : Int) + 1))) := HK0.out.trans (keepD_new HGR.out (by have := HAA.out; omega))
 clear c1 c2 c3 c4 f2 f3 f4 HGR ht2 HZ0 HB0 HK0 HE2 HE3
 generalize (((w0.setCell ⟨A, 2, none⟩ (.int .i64 x)).setCell ⟨A, 3, none⟩ (.int .i64 y)).setCell ⟨A, 4, none⟩ (.int .i64 ((s.knots : Int) + 1))) = wc at *
 simp at hdc
 have dg := own_lies hzc.own _ _ HV.out
 rw [HN.out, Nat.add_sub_cancel, Nat.zero_add, HQ.out] at dg
 have d0 := blk_cell hdc 1 _ rfl
 have hbd : Below wc.heap.size wc wc.drew := (Below.refl _ _).drew
 have HZd := Lib.hid (hzc.below hbd)
 have HDd : Hid (wc.drew.heap[A]? = _) := hdc
 have HEd : Hid (wc.drew.heap[E]? = _) := hec
 have HBd := Lib.hid hbc.drew
 have HSd : Hid (B ≤ wc.drew.heap.size) := by have h1 := blk_lt hec; have h2 := HBA.out.2; unfold Hid; show B ≤ wc.heap.size; omega
 have HNd : Hid (w.heap.size ≤ wc.drew.heap.size) := by have h1 := blk_lt hec; have h2 := HAA.out; have h3 := HAE.out; unfold Hid; show w.heap.size ≤ wc.heap.size; omega
 have HKd := Lib.hid (hkc.trans (keepD_bel (show w.heap.size ≤ wc.heap.size by have h1 := blk_lt hec; have h2 := HAA.out; have h3 := HAE.out; omega) hbd))
 clear hzc hdc hec hbc hkc hbd
 generalize A = D at *
 refine wp_region_upto (fun V => V.cell? ⟨D, 1, none⟩ = some (.slice (some ⟨G, 0, none⟩) (m + 1) oc) ∧ V.cell? ⟨G, m, none⟩ = some (.slice ai q ci)) 17 (by kernel_rfl) ⟨d0, dg⟩ (fun hH => ?_)
 refine takeK 0 (.pointer (some ⟨D, 1, none⟩)) rfl (by kernel_rfl) hH ?_
 try simp only [Act.put, sA, sB, sC]
 refine takeK 1 (.slice (some ⟨G, 0, none⟩) (m + 1) oc) rfl (by kernel_rfl) hH ?_ (Or.inl ⟨by rfl, fun V hV => by obtain ⟨h0, h1⟩ := hV; go_simp⟩)
 try simp only [Act.put, sA, sB, sC]
 refine takeK 2 (.int .i64 (m : Int)) rfl (by kernel_rfl) hH ?_
 try simp only [Act.put, sA, sB, sC]
 refine takeK 3 (.pointer (some ⟨D, 1, none⟩)) rfl (by kernel_rfl) hH ?_
 try simp only [Act.put, sA, sB, sC]
 refine takeK 4 (.slice (some ⟨G, 0, none⟩) (m + 1) oc) rfl (by kernel_rfl) hH ?_ (Or.inl ⟨by rfl, fun V hV => by obtain ⟨h0, h1⟩ := hV; go_simp⟩)
 try simp only [Act.put, sA, sB, sC]
 refine takeK 5 (.int .i64 (m : Int)) rfl (by kernel_rfl) hH ?_
 try simp only [Act.put, sA, sB, sC]
 refine takeK 6 (.pointer (some ⟨G, m, none⟩)) rfl (by kernel_rfl) hH ?_ (Or.inl ⟨by rfl, fun V hV => by go_simp; intro h; omega⟩)
 try simp only [Act.put, sA, sB, sC]
 refine takeK 7 (.slice ai q ci) rfl (by kernel_rfl) hH ?_ (Or.inl ⟨by rfl, fun V hV => by obtain ⟨h0, h1⟩ := hV; go_simp⟩)
 try simp only [Act.put, sA, sB, sC]
 refine takeK 8 (.int .i64 x) rfl (by kernel_rfl) hH ?_
 try simp only [Act.put, sA, sB, sC]
 refine takeK 10 (.int .i64 y) rfl (by kernel_rfl) hH ?_
 try simp only [Act.put, sA, sB, sC]
 refine takeK 12 (.int .i64 kd) rfl (by kernel_rfl) hH ?_
 try simp only [Act.put, sA, sB, sC]
 refine wpUpto_one (i := 9) (by kernel_rfl) rfl (fun K hK => ?_)
 go_simp
 refine (near_d x wc.drew HXB.out.1 HXB.out.2).mono ?_
 rintro e w6 ⟨rfl, hb6⟩
 have hH6 : w6.cell? ⟨D, 1, none⟩ = some (.slice (some ⟨G, 0, none⟩) (m + 1) oc) ∧ w6.cell? ⟨G, m, none⟩ = some (.slice ai q ci) := ⟨keepC hb6 hH.1, keepC hb6 hH.2⟩
 refine hK.out _ _ (fun _ => hH6) ?_
 replace hH := hH6
 have HZw6 := Lib.hid (HZd.out.below hb6)
 have HDw6 := Lib.hid (blk_below HDd.out hb6)
 have HEw6 := Lib.hid (blk_below HEd.out hb6)
 have HBw6 := Lib.hid (HBd.out.trans (hb6.mono HSd.out))
 have HSw6 : Hid (B ≤ w6.heap.size) := Nat.le_trans HSd.out hb6.size
 have HNw6 : Hid (w.heap.size ≤ w6.heap.size) := Nat.le_trans HNd.out hb6.size
 have HKw6 := Lib.hid (HKd.out.trans (keepD_bel HNd.out hb6))
 clear hb6 hH6
 clear hK K
 try simp only [Act.put, sA, sB, sC]
 refine wpUpto_one (i := 11) (by kernel_rfl) rfl (fun K hK => ?_)
 go_simp
 refine (near_d y w6 HYB.out.1 HYB.out.2).mono ?_
 rintro e w7 ⟨rfl, hb6⟩
 have hH6 : w7.cell? ⟨D, 1, none⟩ = some (.slice (some ⟨G, 0, none⟩) (m + 1) oc) ∧ w7.cell? ⟨G, m, none⟩ = some (.slice ai q ci) := ⟨keepC hb6 hH.1, keepC hb6 hH.2⟩
 refine hK.out _ _ (fun _ => hH6) ?_
 replace hH := hH6
 have HZw7 := Lib.hid (HZw6.out.below hb6)
 have HDw7 := Lib.hid (blk_below HDw6.out hb6)
 have HEw7 := Lib.hid (blk_below HEw6.out hb6)
 have HBw7 := Lib.hid (HBw6.out.trans (hb6.mono HSw6.out))
 have HSw7 : Hid (B ≤ w7.heap.size) := Nat.le_trans HSw6.out hb6.size
 have HNw7 : Hid (w.heap.size ≤ w7.heap.size) := Nat.le_trans HNw6.out hb6.size
 have HKw7 := Lib.hid (HKw6.out.trans (keepD_bel HNw6.out hb6))
 clear hb6 hH6
 clear hK K
 try simp only [Act.put, sA, sB, sC]
 refine wpUpto_one (i := 13) (by kernel_rfl) rfl (fun K hK => ?_)
 go_simp
 refine hK.out _ _ (fun _ => hH) ?_
 clear hK K
 try simp only [Act.put, sA, sB, sC]
 refine wpUpto_one (i := 14) (by kernel_rfl) rfl (fun K hK => ?_)
 go_simp
 have hb8 : Below w7.heap.size w7 (w7.alloc (.cells #[.int .i64 (nearM x), .int .i64 (nearM y), .int .i64 kd] 43)) := (Below.refl _ _).alloc (Nat.le_refl _) _
 have hH8 : (w7.alloc (.cells #[.int .i64 (nearM x), .int .i64 (nearM y), .int .i64 kd] 43)).cell? ⟨D, 1, none⟩ = some (.slice (some ⟨G, 0, none⟩) (m + 1) oc) ∧ (w7.alloc (.cells #[.int .i64 (nearM x), .int .i64 (nearM y), .int .i64 kd] 43)).cell? ⟨G, m, none⟩ = some (.slice ai q ci) := ⟨keepC hb8 hH.1, keepC hb8 hH.2⟩
 refine hK.out _ _ (fun _ => hH8) ?_
 replace hH := hH8
 have HZ8 := Lib.hid (HZw7.out.below hb8)
 have HD8 := Lib.hid (blk_below HDw7.out hb8)
 have HE8 := Lib.hid (blk_below HEw7.out hb8)
 have HB8 := Lib.hid (HBw7.out.trans (hb8.mono HSw7.out))
 have HS8 : Hid (B ≤ (w7.alloc (.cells #[.int .i64 (nearM x), .int .i64 (nearM y), .int .i64 kd] 43)).heap.size) := Nat.le_trans HSw7.out hb8.size
 have HK8 := Lib.hid (HKw7.out.trans (keepD_bel HNw7.out hb8))
 clear hb8 hH8
 clear hK K
 try simp only [Act.put, sA, sB, sC]
 have HOW : Hid ((w7.alloc (.cells #[.int .i64 (nearM x), .int .i64 (nearM y), .int .i64 kd] 43)).ownsRow B 43 3 (.slice ai q ci) q (c.flatMap clK)) := by have h1 := HZ8.out.conts _ c HC.out; obtain ⟨a9, c9, h2, h3⟩ := h1; rw [HV.out] at h2; simp only [Option.some.injEq, Value.slice.injEq] at h2; obtain ⟨rfl, _, rfl⟩ := h2; rw [HQ.out] at h3; exact h3
 have HQL : Hid (q ≤ 4096) := by have h1 := HCL.out; have h2 := HQ.out; unfold Hid; omega
 refine wpUpto_one (i := 15) (by kernel_rfl) rfl (fun K hK => ?_)
 refine step_appA elK rfl _ _ rfl (w7.alloc (.cells #[.int .i64 (nearM x), .int .i64 (nearM y), .int .i64 kd] 43)) B ai q ci (c.flatMap clK) w7.heap.size 1 1 (clK ⟨nearM x, nearM y, kd⟩) rfl rfl HOW.out rfl lies_new (by intro u hu; exact clK_one (L := [⟨nearM x, nearM y, kd⟩]) u (by simpa using hu)) (by decide) (by have := HQL.out; omega) (by have := HQL.out; omega) HS8.out ?_
 intro g9 c9 w9 ho9 hg9 hat9
 have ht9 := typ_own HOW.out
 have hor9 := own_chg HZ8.out.own hg9 ht9 (by decide)
 have hv9 := own_lies hor9 _ _ HV.out
 rw [HN.out, Nat.add_sub_cancel, Nat.zero_add, HQ.out] at hv9
 have hm9 := blk_chg HD8.out hg9 ht9 (by decide)
 have he9 := blk_chg HE8.out hg9 ht9 (by decide)
 have hH9 : w9.cell? ⟨D, 1, none⟩ = some (.slice (some ⟨G, 0, none⟩) (m + 1) oc) ∧ w9.cell? ⟨G, m, none⟩ = some (.slice ai q ci) := ⟨blk_cell hm9 1 _ rfl, hv9⟩
 have hfz9 : w9.frozen? ⟨G, m, none⟩ = false := by rcases hor9.2 with ⟨hx, _⟩ | ⟨gg, cap, cur, hx, hb, hgg, _⟩; { cases hx }; { cases hx; exact blk_free hgg m }
 have hz10 := OutW.knotted (k := ⟨nearM x, nearM y, kd⟩) HZ8.out HC.out HV.out (by rw [HQ.out]; exact ho9) (by rw [HQ.out]; exact hg9) (by rw [HQ.out]; exact hat9)
 rw [HQ.out, HN.out, Nat.add_sub_cancel] at hz10
 have HZ10 := Lib.hid hz10
 have HD10 := Lib.hid (blk_chg hm9 (grown_set w9 G m (.slice (some ⟨g9, 0, none⟩) (q + 1) c9)) (typ_own hor9) (by decide))
 have HE10 := Lib.hid (blk_chg he9 (grown_set w9 G m (.slice (some ⟨g9, 0, none⟩) (q + 1) c9)) (typ_own hor9) (by decide))
 have HB10 : Hid (Below B w (w9.setCell ⟨G, m, none⟩ (.slice (some ⟨g9, 0, none⟩) (q + 1) c9))) := by
  refine bel_set (Below.trans HB8.out ?_) (ownsRow_cap hor9).2.1 _
  refine ⟨hg9.os, hg9.tape, hg9.output, hg9.size, fun j hj => hg9.block j (Nat.lt_of_lt_of_le hj HS8.out) (fun e => ?_)⟩
  have := (HOW.out.lt j e.symm).1
  omega
 have HK10 : Hid (KeepD w.heap.size w (w9.setCell ⟨G, m, none⟩ (.slice (some ⟨g9, 0, none⟩) (q + 1) c9))) := (HK8.out.trans (keepD_chg hg9 ht9 (.inl rfl))).trans (keepD_chg (grown_set w9 G m _) (typ_own hor9) (.inr rfl))
 clear ho9 hg9 hat9 ht9 hor9 hv9 hm9 he9 hz10
 refine hK.out _ _ (fun _ => hH9) ?_
 replace hH := hH9
 clear hK K hH9
 try simp only [Act.put, sA, sB, sC]
 refine wpUpto_one (i := 16) (by kernel_rfl) rfl (fun K hK => ?_)
 go_simp
 rw [if_pos (show (m : Int) < (m : Int) + 1 by omega)]
 go_simp
 refine hK.out _ _ (fun _ => hH) ?_
 clear hK K
 try simp only [Act.put, sA, sB, sC]
 refine wpUpto_one (i := 17) (by kernel_rfl) rfl (fun K hK => ?_)
 go_simp
 refine hK.out _ _ (fun h => absurd rfl h) ?_
 clear hK K
 try simp only [Act.put, sA, sB, sC]
 refine wpUpto_done (by kernel_rfl) ?_ _
 generalize w9.setCell ⟨G, m, none⟩ (.slice (some ⟨g9, 0, none⟩) (q + 1) c9) = w10 at *
 have e2 := HD10.out
 have e3 := HE10.out
 have cc0 := blk_cell e2 0 _ rfl
 have cc1 := blk_cell e2 1 _ rfl
 have cc2 := blk_cell e2 2 _ rfl
 have cc3 := blk_cell e2 3 _ rfl
 have cc4 := blk_cell e2 4 _ rfl
 have cc5 := blk_cell e2 5 _ rfl
 have cc6 := blk_cell e2 6 _ rfl
 have cc7 := blk_cell e2 7 _ rfl
 have cc8 := blk_cell e2 8 _ rfl
 have dd0 := blk_cell e3 0 _ rfl
 have dd1 := blk_cell e3 1 _ rfl
 have dd2 := blk_cell e3 2 _ rfl
 have dd3 := blk_cell e3 3 _ rfl
 have dd4 := blk_cell e3 4 _ rfl
 have dd5 := blk_cell e3 5 _ rfl
 have dd6 := blk_cell e3 6 _ rfl
 have dd7 := blk_cell e3 7 _ rfl
 have dd8 := blk_cell e3 8 _ rfl
 have hh0 := blk_free e3 0
 have hh1 := blk_free e3 1
 have hh2 := blk_free e3 2
 have hh3 := blk_free e3 3
 have hh4 := blk_free e3 4
 have hh5 := blk_free e3 5
 have hh6 := blk_free e3 6
 have hh7 := blk_free e3 7
 have hh8 := blk_free e3 8
 have hED : E ≠ D := HNE.out.2.2
 have hDE : D ≠ E := fun e => hED e.symm
 clear e2 e3 hH
 go_wp2_with fail
 have hgr : Hid (w10.grownBy (((((((((w10.setCell ⟨E, 0, none⟩ (.slice sa l sc)).setCell ⟨E, 1, none⟩ (.slice (some ⟨G, 0, none⟩) (m + 1) oc)).setCell ⟨E, 2, none⟩ (.int .i64 x)).setCell ⟨E, 3, none⟩ (.int .i64 y)).setCell ⟨E, 4, none⟩ (.int .i64 ((s.knots : Int) + 1))).setCell ⟨E, 5, none⟩ (.int .i64 (s.stems : Int))).setCell ⟨E, 6, none⟩ (.int .i64 (s.fuel : Int))).setCell ⟨E, 7, none⟩ (.int .i64 s.width)).setCell ⟨E, 8, none⟩ (.bool s.asked)) (some E)) := grown_trans (grown_trans (grown_trans (grown_trans (grown_trans (grown_trans (grown_trans (grown_trans (grown_set w10 E 0 (.slice sa l sc)) (grown_set _ E 1 (.slice (some ⟨G, 0, none⟩) (m + 1) oc))) (grown_set _ E 2 (.int .i64 x))) (grown_set _ E 3 (.int .i64 y))) (grown_set _ E 4 (.int .i64 ((s.knots : Int) + 1)))) (grown_set _ E 5 (.int .i64 (s.stems : Int)))) (grown_set _ E 6 (.int .i64 (s.fuel : Int)))) (grown_set _ E 7 (.int .i64 s.width))) (grown_set _ E 8 (.bool s.asked))
 have hfin := (((((((((HB10.out.setCell HBA.out.2 (p := ⟨E, 0, none⟩) (.slice sa l sc)).setCell HBA.out.2 (p := ⟨E, 1, none⟩) (.slice (some ⟨G, 0, none⟩) (m + 1) oc)).setCell HBA.out.2 (p := ⟨E, 2, none⟩) (.int .i64 x)).setCell HBA.out.2 (p := ⟨E, 3, none⟩) (.int .i64 y)).setCell HBA.out.2 (p := ⟨E, 4, none⟩) (.int .i64 ((s.knots : Int) + 1))).setCell HBA.out.2 (p := ⟨E, 5, none⟩) (.int .i64 (s.stems : Int))).setCell HBA.out.2 (p := ⟨E, 6, none⟩) (.int .i64 (s.fuel : Int))).setCell HBA.out.2 (p := ⟨E, 7, none⟩) (.int .i64 s.width)).setCell HBA.out.2 (p := ⟨E, 8, none⟩) (.bool s.asked))
 have hte := typ_blk HE10.out
 refine bodyPost_ret (v := .tuple #[.agg #[.slice sa l sc, .slice (some ⟨G, 0, none⟩) (m + 1) oc, .int .i64 x, .int .i64 y, .int .i64 ((s.knots : Int) + 1), .int .i64 (s.stems : Int), .int .i64 (s.fuel : Int), .int .i64 s.width, .bool s.asked], .int .i64 0]) ?_ rfl ?_
 ·simp [results, Tryz.results42, go_sem, dd0, hh0, dd1, hh1, dd2, hh2, dd3, hh3, dd4, hh4, dd5, hh5, dd6, hh6, dd7, hh7, dd8, hh8, hED]
 ·refine ⟨_, ?_, HZ10.out.chg hgr.out hte (by decide) (by decide), hfin, HK10.out.trans (keepD_new hgr.out (by have := HAA.out; have := HAE.out; omega))⟩
  unfold stV
  have hsl : (snocLast s.out ⟨nearM x, nearM y, kd⟩).length = m + 1 := by rw [snocLast_length _ _ (by have := HN.out; omega)]; exact HN.out
  show Ending.returned _ = Ending.returned (.tuple #[.agg #[.slice sa s.stack.length sc, .slice _ (snocLast s.out ⟨nearM x, nearM y, kd⟩).length oc, _, _, _, _, _, _, _], _])
  rw [hsl, HL.out]
  rfl
def StepDK (B : Nat) (sa : Option Addr) (sc : Nat) (oa : Option Addr) (oc : Nat) (s s' : MS) (w : World) (e : Ending) (w' : World) : Prop :=
 (s'.fault = 0 → StepPostK B sa sc oa oc s' w e w') ∧ (s'.fault ≠ 0 → e = .returned (.tuple #[.agg (stV sa sc oa oc s), .int .i64 s'.fault]) ∧ Below w.heap.size w w')
theorem step_dK (B : Nat) (sa : Option Addr) (sc : Nat) (oa : Option Addr) (oc : Nat) (vs : List Value) (s : MS) (dx dy kd : Int) (w : World) (hz : OutW w B oa oc vs s.out) (hB : B ≤ w.heap.size) (hp : PenFit s) (h0 : s.fault = 0) :
 Calls Tryz.prog 42 #[.agg (stV sa sc oa oc s), .int .i64 dx, .int .i64 dy, .int .i64 kd] w (StepDK B sa sc oa oc s (s.knot dx dy kd) w) := by
 by_cases ho : s.out.length = 0
 ·refine (step_no sa sc oa oc s dx dy kd 81 w (.inl ⟨ho, rfl⟩)).mono ?_
  rintro e w' h
  have hf : (s.knot dx dy kd).fault = 81 := by unfold MS.knot MS.refuse; rw [if_neg (by omega), if_pos ho, if_pos h0]
  exact ⟨fun h9 => by omega, fun _ => by rw [hf]; exact h⟩
 ·by_cases hk : s.knots = 4096
  ·refine (step_no sa sc oa oc s dx dy kd 83 w (.inr (.inl ⟨by omega, by omega, rfl⟩))).mono ?_
   rintro e w' h
   have hf : (s.knot dx dy kd).fault = 83 := by unfold MS.knot MS.refuse; rw [if_neg (by omega), if_neg ho, if_pos hk, if_pos h0]
   exact ⟨fun h9 => by omega, fun _ => by rw [hf]; exact h⟩
  ·have hk2 : s.knots < 4096 := by have := hp.1; omega
   obtain ⟨x, ex, hx⟩ : ∃ x ex, sumOr s.x dx = (x, ex) := ⟨_, _, rfl⟩
   obtain ⟨y, ey, hy⟩ : ∃ y ey, sumOr s.y dy = (y, ey) := ⟨_, _, rfl⟩
   by_cases hne : ex ≠ 0 ∨ (ex = 0 ∧ ey ≠ 0)
   ·refine (step_no sa sc oa oc s dx dy kd 84 w (.inr (.inr ⟨by omega, hk2, ⟨x, y, ex, ey, hx, hy, hne⟩, rfl⟩))).mono ?_
    rintro e w' h
    have hf := knot_bad (k := kd) h0 (by omega) hk2 hx hy hne
    exact ⟨fun h9 => by omega, fun _ => by rw [hf]; exact h⟩
   ·have e1 : ex = 0 := by omega
    have e2 : ey = 0 := by omega
    subst e1
    subst e2
    have hok := knot_ok (k := kd) h0 (by omega) hk2 hx hy
    rw [hok]
    refine (step_yesK B sa sc oa oc vs s dx dy kd x y w hz hB (by omega) hk2 hp hx hy).mono ?_
    rintro e w' h
    exact ⟨fun _ => h, fun h9 => absurd h0 h9⟩
end Go.Proofs.YtklenppldblbdaaGreat
