/-
  The walk of Type2Draws: it answers true for every outline, and changes nothing that was there.
-/
import Derived.Test.YtklenppldblbdaaRd
import Derived.Deep.CutRange
namespace Go.Proofs.Ytklenppldblbdaa.type2Draws
open Go.RowKit Go.PlainAid
set_option linter.unusedSimpArgs false
set_option linter.unusedVariables false

theorem wrap_small (n : Int) (h0 : -100000 ≤ n) (h1 : n ≤ 100000) : wrap64 n = n := by unfold wrap64; omega

/-- The world in which a knot has been laid for a round. -/
theorem knot_laid (w : World) (x y k : Int) : ∃ w', Hid ((((w.alloc (.cells #[.int .i64 0, .int .i64 0, .int .i64 0] 38)).setCell ⟨w.heap.size, 0, none⟩ (.int .i64 x)).setCell ⟨w.heap.size, 1, none⟩ (.int .i64 y)).setCell ⟨w.heap.size, 2, none⟩ (.int .i64 k) = w') ∧
    Hid (w'.heap[w.heap.size]? = some (.cells #[.int .i64 x, .int .i64 y, .int .i64 k] 38 (0, 0))) ∧ Hid (Below w.heap.size w w') :=
  ⟨_, rfl, blk_set (blk_set (blk_set (heap_alloc_new w _) 0 (.int .i64 x)) 1 (.int .i64 y)) 2 (.int .i64 k), ((((Below.refl _ _).alloc (Nat.le_refl _) _).setCell (Nat.le_refl _) _).setCell (Nat.le_refl _) _).setCell (Nat.le_refl _) _⟩


/-- What holds in the worlds of a round. -/
structure RW (w wx : World) (R g cc : Nat) (K : Kn) (t : ByteArray) : Prop where
  kb : wx.heap[R]? = some (.cells #[.int .i64 K.x, .int .i64 K.y, .int .i64 K.k] 38 (0, 0))
  own : OwnB w.heap.size wx g cc t
  bel : Below w.heap.size w wx
theorem RW.below {w wx wy : World} {R g cc : Nat} {K : Kn} {t : ByteArray} (h : RW w wx R g cc K t) (hb : Below wx.heap.size wx wy) : RW w wy R g cc K t := ⟨blk_below h.kb hb, own_bel h.own hb, bel_next h.bel hb⟩
theorem RW.add {w wx wy : World} {R g cc g' c' : Nat} {K : Kn} {t u : ByteArray} (h : RW w wx R g cc K t) (ho : wy.ownsRow w.heap.size 5 1 (.slice (some ⟨g', 0, none⟩) (t ++ u).size c') (t ++ u).size (cellsOfStr (t ++ u))) (hg : wx.grownBy wy (some g)) : RW w wy R g' c' K (t ++ u) :=
  ⟨blk_chg h.kb hg (typ_own h.own) (by decide), ho, grown_below h.bel hg h.bel.size (World.ownsRow.lt h.own g rfl).1⟩
theorem RW.cx {w wx : World} {R g cc : Nat} {K : Kn} {t : ByteArray} (h : RW w wx R g cc K t) : wx.cell? ⟨R, 0, none⟩ = some (.int .i64 K.x) := blk_cell h.kb 0 _ rfl
theorem RW.cy {w wx : World} {R g cc : Nat} {K : Kn} {t : ByteArray} (h : RW w wx R g cc K t) : wx.cell? ⟨R, 1, none⟩ = some (.int .i64 K.y) := blk_cell h.kb 1 _ rfl
theorem RW.ck {w wx : World} {R g cc : Nat} {K : Kn} {t : ByteArray} {v : Int} (h : RW w wx R g cc K t) (hv : K.k = v) : wx.cell? ⟨R, 2, none⟩ = some (.int .i64 v) := by rw [← hv]; exact blk_cell h.kb 2 _ rfl
theorem isR_kind {w : World} {p q : Nat} {c : List Kn} {i : Nat} {J : Kn} {v : Int} (h : IsR clK w (some ⟨p, q, none⟩) c) (hJ : c[i]? = some J) (hv : J.k = v) : w.cell? ⟨p, q + i * 3 + 2, none⟩ = some (.int .i64 v) := by
  obtain ⟨b, off, he, _, _, h2⟩ := h.knot hJ
  cases he
  rw [← hv]; exact h2
theorem num_isB (w : World) (n : Int) (h0 : -32768 ≤ n) (h1 : n ≤ 32767) : IsB (w.alloc (.cells #[.int .u8 28, .int .u8 ((unsN n / 256 : Nat) : Int), .int .u8 ((unsN n % 256 : Nat) : Int)] 5)) (some ⟨w.heap.size, 0, none⟩) 3 3 (numB n) := lit_isB (0, 0) (numB_cells n h0 h1)
theorem op_isB (w : World) (k : Nat) (h : k ≤ 21) : IsB (w.alloc (.cells #[.int .u8 (k : Int)] 5)) (some ⟨w.heap.size, 0, none⟩) 1 1 ⟨#[k.toUInt8]⟩ := by
  refine lit_isB (s := ⟨#[k.toUInt8]⟩) (0, 0) ?_
  show [Value.int .u8 (k : Int)] = [Value.int .u8 (bt (⟨#[k.toUInt8]⟩ : ByteArray) 0)]
  rw [opr_byte k h]

def drawF (P : ByteArray) : FS := { glyphs := [P], locals := [], globals := [], w0 := 0, w1 := 0 }
theorem draw_ok (P : ByteArray) (h : P.size ≤ 60000) : FOk (drawF P) :=
  ⟨⟨by show 1 ≤ 60000; decide, by show 0 ≤ 60000; decide, by show 0 ≤ 60000; decide⟩, ⟨by show P.size + 0 ≤ 60000; omega, by show 0 ≤ 60000; decide, by show 0 ≤ 60000; decide⟩, ⟨by show (-2147483648 : Int) ≤ 0; decide, by show (0 : Int) ≤ 2147483647; decide⟩, ⟨by show (-2147483648 : Int) ≤ 0; decide, by show (0 : Int) ≤ 2147483647; decide⟩, by show 0 < 1; decide⟩


set_option maxRecDepth 20000 in
set_option maxHeartbeats 40000000 in
theorem walk (O : List (List Kn)) (a0 : Option Addr) (ca : Nat) (w : World) (hO : IsO clK w a0 O) (htot : (O.map List.length).sum ≤ 1048576) (hlen : O.length ≤ 1048576) :
    Calls Try.prog 5 #[.slice a0 O.length ca] w fun e w' => e = .returned (.bool true) ∧ Below w.heap.size w w' := by
  have HA := Lib.hid (type2Alive_c w)
  have HO := Lib.hid hO
  have HTOT := Lib.hid htot
  have HLEN := Lib.hid hlen
  have HLA : Hid (LongA O) := by
    refine ⟨by omega, fun c hc => ?_⟩
    have := sum_mem (O.map List.length) c.length (List.mem_map.2 ⟨c, hc, rfl⟩)
    omega
  obtain ⟨k, HK⟩ : ∃ k, Hid (O.length = k) := ⟨_, rfl⟩
  rw [HK.out]
  clear hO htot hlen
  go_enter Try.func5, Try.ntmps5
  go_wp2_with fail
  refine HA.out.mono ?_
  rintro e w1 ⟨rfl, hb1⟩
  have HB2 := Lib.hid (bel_alloc hb1 (.cells #[] 5))
  have HW2 : Hid (OwnB w.heap.size (w1.alloc (.cells #[] 5)) w1.heap.size 0 ByteArray.empty) := own_empty w w1 hb1.size
  clear hb1 HA
  go_wp2_with fail
  generalize w1.heap.size = N at *
  generalize (w1.alloc (.cells #[] 5)) = w2 at *
  go_loopw [3, 4, 5, 6, 20] (fun cv xv yv nv iv wr => ∃ (a g cc n : Nat) (t : ByteArray) (x y : Int), a ≤ k ∧ cv = .slice (some ⟨g, 0, none⟩) t.size cc ∧ xv = .int .i64 x ∧ yv = .int .i64 y ∧ nv = .int .i64 (n : Int) ∧ iv = .int .i64 (a : Int) ∧ Hid (OutP O a t x y n) ∧ Hid (OwnB w.heap.size wr g cc t) ∧ Hid (Below w.heap.size w wr)) (fun _ _ _ _ iv _ => k - (intOf iv).toNat)
  case atStart => exact ⟨0, N, 0, 0, ByteArray.empty, 0, 0, Nat.zero_le _, rfl, rfl, rfl, rfl, rfl, outP_start O, HW2, HB2⟩
  case round =>
    clear HW2 HB2
    obtain ⟨a, g, cc, n, t, x, y, hak, rfl, rfl, rfl, rfl, rfl, HP, HW, HB⟩ := hrel
    by_cases hlt : a < k
    · have hlt' : (a : Int) < (k : Int) := by omega
      have ha0 : (0 : Int) ≤ (a : Int) := by omega
      have HLT := Lib.hid hlt
      obtain ⟨c, hcc⟩ := get_of (show a < O.length by rw [HK.out]; exact hlt)
      have HCC := Lib.hid hcc
      obtain ⟨b1, o1, a1, c1, rfl, x1, _, r1⟩ := HO.out.at hcc
      have HR := Lib.hid r1
      have y1 := keepC HB.out x1
      obtain ⟨m, HM⟩ : ∃ m, Hid (c.length = m) := ⟨_, rfl⟩
      rw [HM.out] at x1 y1
      have hw1 : wrap64 ((a : Int) + 1) = ((a + 1 : Nat) : Int) := by have := HLEN.out; have := HK.out; unfold wrap64; omega
      have HIN : Hid (InP O a c 0 t x y n [] [] x y) := HP.out.inP c
      clear hak hlt hcc r1 x1
      go_wp2_with fail
      generalize hwo : wr = wo at *
      clear hwo y1 HP
      go_loopw [3, 4, 5, 6, 26] (fun cv xv yv nv iv wr => ∃ (b g cc n : Nat) (t : ByteArray) (x y : Int) (dk pk : List Kn) (x0 y0 : Int), b ≤ m ∧ cv = .slice (some ⟨g, 0, none⟩) t.size cc ∧ xv = .int .i64 x ∧ yv = .int .i64 y ∧ nv = .int .i64 (n : Int) ∧ iv = .int .i64 (b : Int) ∧ Hid (InP O a c b t x y n dk pk x0 y0) ∧ Hid (OwnB w.heap.size wr g cc t) ∧ Hid (Below w.heap.size w wr)) (fun _ _ _ _ iv _ => m - (intOf iv).toNat)
      case atStart => exact ⟨0, g, cc, n, t, x, y, [], [], x, y, Nat.zero_le _, rfl, rfl, rfl, rfl, rfl, HIN, HW, HB⟩
      case round =>
        clear HIN HW HB
        obtain ⟨b, g, cc, n, t, x, y, dk, pk, x0, y0, hbm, rfl, rfl, rfl, rfl, rfl, HP, HW, HB⟩ := hrel
        by_cases hlt : b < m
        · have hlt' : (b : Int) < (m : Int) := by omega
          have hb0 : (0 : Int) ≤ (b : Int) := by omega
          have HLB := Lib.hid hlt
          obtain ⟨K, hcK⟩ := get_of (show b < c.length by rw [HM.out]; exact hlt)
          have HCK := Lib.hid hcK
          obtain ⟨p1, q1, rfl, e0, e1, e2⟩ := (HR.out.below HB.out).knot hcK
          have hbn : wrap64 ((b : Int) + 1) = ((b + 1 : Nat) : Int) := by
            have h1 := sum_mem (O.map List.length) c.length (List.mem_map.2 ⟨c, List.mem_of_getElem? HCC.out, rfl⟩)
            have := HTOT.out; have := HM.out; unfold wrap64; omega
          have HNN : Hid (n + 1 ≤ 1048576) := by
            have h1 := knotsTo_le O (a + 1); have h2 := knotsTo_succ HCC.out; have h3 := HP.out.cnt; have h4 := HTOT.out; have h5 := HM.out; unfold Hid; omega
          have hnn : wrap64 ((n : Int) + 1) = ((n + 1 : Nat) : Int) := by have := HNN.out; unfold wrap64; omega
          have HTS : Hid (t.size ≤ 8000000) := by have h1 := HP.out.size; have h2 := HNN.out; unfold Hid; omega
          clear hbm hlt hcK

          by_cases hB : Bnd K
          · by_cases hz : b = 0
            · by_cases hk : K.k = 1
              · skip
                as_aux_lemma =>
                  subst hz
                  rw [Nat.zero_mul, Nat.add_zero] at e0 e1 e2
                  have HBND := Lib.hid hB
                  have HKV := Lib.hid hk
                  clear hB hk
                  have g1 : ¬ K.x < -9000 := by have := HBND.out.1; omega
                  have g2 : ¬ 9000 < K.x := by have := HBND.out.1; omega
                  have g3 : ¬ K.y < -9000 := by have := HBND.out.2; omega
                  have g4 : ¬ 9000 < K.y := by have := HBND.out.2; omega
                  have hdx : wrap64 (K.x - x) = K.x - x := wrap_small _ (by have := HBND.out.1; have := HP.out.bp; omega) (by have := HBND.out.1; have := HP.out.bp; omega)
                  have hdy : wrap64 (K.y - y) = K.y - y := wrap_small _ (by have := HBND.out.2; have := HP.out.bp; omega) (by have := HBND.out.2; have := HP.out.bp; omega)
                  rw [HKV.out] at e2
                  go_wp2_with fail
                  have hbk : Below wr.heap.size wr (wr.alloc (.cells #[.int .i64 K.x, .int .i64 K.y, .int .i64 1] 38)) := (Below.refl _ _).alloc (Nat.le_refl _) _
                  have HK1 : Hid (RW w (wr.alloc (.cells #[.int .i64 K.x, .int .i64 K.y, .int .i64 1] 38)) wr.heap.size g cc K t) := ⟨by rw [HKV.out]; exact heap_alloc_new wr _, own_bel HW.out hbk, bel_next HB.out hbk⟩
                  generalize (wr.alloc (.cells #[.int .i64 K.x, .int .i64 K.y, .int .i64 1] 38)) = wk at *
                  generalize wr.heap.size = R at *
                  clear hbk e0 e1 e2 HW HB
                  refine (operand2_c (K.x - x) wk (by have := HBND.out.1; have := HP.out.bp; omega) (by have := HBND.out.1; have := HP.out.bp; omega)).mono ?_
                  rintro e w3 ⟨rfl, hw3⟩
                  have hb3 : Below wk.heap.size wk w3 := by rw [hw3]; exact (Below.refl _ _).alloc (Nat.le_refl _) _
                  have HN3 : Hid (IsB w3 (some ⟨wk.heap.size, 0, none⟩) 3 3 (numB (K.x - x))) := by rw [hw3]; exact num_isB wk _ (by have := HBND.out.1; have := HP.out.bp; omega) (by have := HBND.out.1; have := HP.out.bp; omega)
                  have HK3 := Lib.hid (HK1.out.below hb3)
                  generalize wk.heap.size = S3 at *
                  clear hw3 hb3
                  go_wp2_with (at_builtin; refine wpList_add rfl _ _ rfl w3 w.heap.size g cc t (numB (K.x - x)) (some ⟨S3, 0, none⟩) 3 t.size 3 rfl (numB_size _).symm rfl rfl HK3.out.own HN3.out (by have h1 := HTS.out; have h2 := numB_size (K.x - x); omega) HK3.out.bel.size ?_; intro g4 c4 w4 ho4 hg4 hat4; have HK4 := Lib.hid (HK3.out.add ho4 hg4); have y4 := HK4.out.cy; clear ho4 hg4 hat4 HN3)
                  refine (operand2_c (K.y - y) w4 (by have := HBND.out.2; have := HP.out.bp; omega) (by have := HBND.out.2; have := HP.out.bp; omega)).mono ?_
                  rintro e w5 ⟨rfl, hw5⟩
                  have hb5 : Below w4.heap.size w4 w5 := by rw [hw5]; exact (Below.refl _ _).alloc (Nat.le_refl _) _
                  have HN5 : Hid (IsB w5 (some ⟨w4.heap.size, 0, none⟩) 3 3 (numB (K.y - y))) := by rw [hw5]; exact num_isB w4 _ (by have := HBND.out.2; have := HP.out.bp; omega) (by have := HBND.out.2; have := HP.out.bp; omega)
                  have HK5 := Lib.hid (HK4.out.below hb5)
                  generalize w4.heap.size = S5 at *
                  clear hw5 hb5 y4
                  have hs4 : (t ++ numB (K.x - x)).size = t.size + 3 := by rw [ByteArray.size_append, numB_size]
                  go_wp2_with (at_builtin; first
                    | (refine wpList_add rfl _ _ rfl w5 w.heap.size g4 c4 (t ++ numB (K.x - x)) (numB (K.y - y)) (some ⟨S5, 0, none⟩) 3 (t.size + 3) 3 hs4.symm (numB_size _).symm rfl rfl HK5.out.own HN5.out (by have h1 := HTS.out; have h2 := numB_size (K.y - y); omega) HK5.out.bel.size ?_; intro g6 c6 w6 ho6 hg6 hat6; have HK6 := Lib.hid (HK5.out.add ho6 hg6); have x6 := HK6.out.cx; have y6 := HK6.out.cy; have k6 := HK6.out.ck HKV.out; clear ho6 hg6 hat6 HN5)
                    | (refine wpList_add rfl _ _ rfl (w6.alloc (.cells #[.int .u8 21] 5)) w.heap.size g6 c6 (t ++ numB (K.x - x) ++ numB (K.y - y)) ⟨#[21]⟩ (some ⟨w6.heap.size, 0, none⟩) 1 (t.size + 3 + 3) 1 (by rw [ByteArray.size_append, hs4, numB_size]) rfl rfl rfl (HK6.out.below ((Below.refl _ _).alloc (Nat.le_refl _) _)).own (op_isB w6 21 (by decide)) (by have h1 := HTS.out; rw [ByteArray.size_append, hs4, numB_size]; show t.size + 3 + 3 + 1 ≤ _; omega) (HK6.out.below ((Below.refl _ _).alloc (Nat.le_refl _) (.cells #[.int .u8 21] 5))).bel.size ?_; intro g8 c8 w8 ho8 hg8 hat8; have HK8 := Lib.hid ((HK6.out.below ((Below.refl _ _).alloc (Nat.le_refl _) (.cells #[.int .u8 21] 5))).add ho8 hg8); have x8 := HK8.out.cx; have y8 := HK8.out.cy; have k8 := HK8.out.ck HKV.out; clear ho8 hg8 hat8))
                  have hts : (penB t x y K ++ ⟨#[21]⟩).size = t.size + 3 + 3 + 1 := by rw [ByteArray.size_append, penB_size]; rfl
                  try go_wp2_with fail
                  refine ⟨⟨0 + 1, g8, c8, n + 1, penB t x y K ++ (⟨#[21]⟩ : ByteArray), K.x, K.y, _, _, _, _, HLB.out, by rw [hts], rfl, rfl, by first | rw [hnn] | go_num, by first | rw [hbn] | go_num, HP.out.move HCK.out HBND.out HKV.out (by have := HLT.out; have := HK.out; omega), HK8.out.own, HK8.out.bel⟩, ?_⟩
                  (try rw [hbn]); have := HLB.out; simp only [intOf]; omega
              · have hk1 : (K.k == 1) = false := by simp; exact hk
                have hk2 : (K.k != 1) = true := by simp; exact hk
                subst hz
                rw [Nat.zero_mul, Nat.add_zero] at e0 e1 e2
                have HBND := Lib.hid hB
                clear hB hk
                as_aux_lemma =>
                  have g1 : ¬ K.x < -9000 := by have := HBND.out.1; omega
                  have g2 : ¬ 9000 < K.x := by have := HBND.out.1; omega
                  have g3 : ¬ K.y < -9000 := by have := HBND.out.2; omega
                  have g4 : ¬ 9000 < K.y := by have := HBND.out.2; omega
                  go_wp2_with fail
                  go_ret
                  exact ⟨rfl, HB.out.alloc HB.out.size _⟩
            · skip
              obtain ⟨m1, hm1⟩ : ∃ m1, b = m1 + 1 := ⟨b - 1, by omega⟩
              have HM1 := Lib.hid hm1
              obtain ⟨J, hJ⟩ := get_of (show m1 < c.length by have := HM.out; have := HLB.out; omega)
              have HJ := Lib.hid hJ
              have z0 : ((b : Int) == 0) = false := by simp; omega
              have z1 : (0 : Int) < (b : Int) := by omega
              have w1m : wrap64 ((b : Int) - 1) = (m1 : Int) := by have := HNN.out; have := HP.out.cnt; unfold wrap64; omega
              have v1a : (0 : Int) ≤ (m1 : Int) := by omega
              have v1b : (m1 : Int) < (m : Int) := by have := HLB.out; omega
              have HBND := Lib.hid hB
              clear hB hz hm1 hJ
              have g1 : ¬ K.x < -9000 := by have := HBND.out.1; omega
              have g2 : ¬ 9000 < K.x := by have := HBND.out.1; omega
              have g3 : ¬ K.y < -9000 := by have := HBND.out.2; omega
              have g4 : ¬ 9000 < K.y := by have := HBND.out.2; omega
              have hdx : wrap64 (K.x - x) = K.x - x := wrap_small _ (by have := HBND.out.1; have := HP.out.bp; omega) (by have := HBND.out.1; have := HP.out.bp; omega)
              have hdy : wrap64 (K.y - y) = K.y - y := wrap_small _ (by have := HBND.out.2; have := HP.out.bp; omega) (by have := HBND.out.2; have := HP.out.bp; omega)
              obtain ⟨t6, HT6⟩ : ∃ t6, Hid (penB t x y K = t6) := ⟨_, rfl⟩
              have HTZ6 : Hid (t6.size = t.size + 3 + 3) := by rw [← HT6.out]; exact penB_size t x y K
              go_upto_region 17 with fail
              have hbk : Below wr.heap.size wr (wr.alloc (.cells #[.int .i64 K.x, .int .i64 K.y, .int .i64 K.k] 38)) := (Below.refl _ _).alloc (Nat.le_refl _) _
              have HK1 : Hid (RW w (wr.alloc (.cells #[.int .i64 K.x, .int .i64 K.y, .int .i64 K.k] 38)) wr.heap.size g cc K t) := ⟨heap_alloc_new wr _, own_bel HW.out hbk, bel_next HB.out hbk⟩
              generalize (wr.alloc (.cells #[.int .i64 K.x, .int .i64 K.y, .int .i64 K.k] 38)) = wk at *
              generalize wr.heap.size = R at *
              clear hbk e0 e1 e2 HW HB
              refine (operand2_c (K.x - x) wk (by have := HBND.out.1; have := HP.out.bp; omega) (by have := HBND.out.1; have := HP.out.bp; omega)).mono ?_
              rintro e w3 ⟨rfl, hw3⟩
              have hb3 : Below wk.heap.size wk w3 := by rw [hw3]; exact (Below.refl _ _).alloc (Nat.le_refl _) _
              have HN3 : Hid (IsB w3 (some ⟨wk.heap.size, 0, none⟩) 3 3 (numB (K.x - x))) := by rw [hw3]; exact num_isB wk _ (by have := HBND.out.1; have := HP.out.bp; omega) (by have := HBND.out.1; have := HP.out.bp; omega)
              have HK3 := Lib.hid (HK1.out.below hb3)
              generalize wk.heap.size = S3 at *
              clear hw3 hb3
              go_upto_region 17 with (at_builtin; refine wpList_add rfl _ _ rfl w3 w.heap.size g cc t (numB (K.x - x)) (some ⟨S3, 0, none⟩) 3 t.size 3 rfl (numB_size _).symm rfl rfl HK3.out.own HN3.out (by have h1 := HTS.out; have h2 := numB_size (K.x - x); omega) HK3.out.bel.size ?_; intro g4 c4 w4 ho4 hg4 hat4; have HK4 := Lib.hid (HK3.out.add ho4 hg4); have y4 := HK4.out.cy; clear ho4 hg4 hat4 HN3)
              refine (operand2_c (K.y - y) w4 (by have := HBND.out.2; have := HP.out.bp; omega) (by have := HBND.out.2; have := HP.out.bp; omega)).mono ?_
              rintro e w5 ⟨rfl, hw5⟩
              have hb5 : Below w4.heap.size w4 w5 := by rw [hw5]; exact (Below.refl _ _).alloc (Nat.le_refl _) _
              have HN5 : Hid (IsB w5 (some ⟨w4.heap.size, 0, none⟩) 3 3 (numB (K.y - y))) := by rw [hw5]; exact num_isB w4 _ (by have := HBND.out.2; have := HP.out.bp; omega) (by have := HBND.out.2; have := HP.out.bp; omega)
              have HK5 := Lib.hid (HK4.out.below hb5)
              generalize w4.heap.size = S5 at *
              clear hw5 hb5 y4
              have hs4 : (t ++ numB (K.x - x)).size = t.size + 3 := by rw [ByteArray.size_append, numB_size]
              go_upto_region 17 with (at_builtin; refine wpList_add rfl _ _ rfl w5 w.heap.size g4 c4 (t ++ numB (K.x - x)) (numB (K.y - y)) (some ⟨S5, 0, none⟩) 3 (t.size + 3) 3 hs4.symm (numB_size _).symm rfl rfl HK5.out.own HN5.out (by have h1 := HTS.out; have h2 := numB_size (K.y - y); omega) HK5.out.bel.size ?_; intro g6 c6 w6 ho6 hg6 hat6; have HK6 := Lib.hid (HK5.out.add ho6 hg6); have x6 := HK6.out.cx; have y6 := HK6.out.cy; clear ho6 hg6 hat6 HN5)
              go_cut [3, 4, 5, 6, 9, 10, 26] from 26 to 188 (fun cv xv yv nv iv pv bv wx => ∃ g6 c6 R, cv = .slice (some ⟨g6, 0, none⟩) t6.size c6 ∧ xv = .int .i64 K.x ∧ yv = .int .i64 K.y ∧ nv = .int .i64 ((n + 1 : Nat) : Int) ∧ iv = .int .i64 (b : Int) ∧ pv = .pointer (some ⟨R, 0, none⟩) ∧ bv = .int .i64 (b : Int) ∧ Hid (RW w wx R g6 c6 K t6))
              case first =>
                go_wp2_with fail
                go_meet
                exact ⟨g6, c6, R, by rw [HTZ6.out], rfl, rfl, by first | rw [hnn] | go_num, rfl, rfl, rfl, by rw [← HT6.out]; exact HK6.out⟩
              case rest =>
                obtain ⟨g6, c6, R, rfl, rfl, rfl, rfl, rfl, rfl, rfl, HK6⟩ := hcut
                by_cases hk : K.k = 1
                · by_cases hj : J.k = 1
                  · have HKV := Lib.hid hk
                    have HJK := Lib.hid hj
                    clear hk hj
                    as_aux_lemma =>
                      have k6 := HK6.out.ck HKV.out
                      have x6 := HK6.out.cx
                      have n6_0 := isR_kind (HR.out.below HK6.out.bel) HJ.out HJK.out
                      go_wp2_with (at_builtin; refine wpList_add rfl _ _ rfl (wc.alloc (.cells #[.int .u8 5] 5)) w.heap.size g6 c6 t6 ⟨#[5]⟩ (some ⟨wc.heap.size, 0, none⟩) 1 t6.size 1 rfl rfl rfl rfl (HK6.out.below ((Below.refl _ _).alloc (Nat.le_refl _) _)).own (op_isB wc 5 (by decide)) (by have h1 := HTS.out; have h2 := HTZ6.out; show t6.size + 1 ≤ _; omega) (HK6.out.below ((Below.refl _ _).alloc (Nat.le_refl _) (.cells #[.int .u8 5] 5))).bel.size ?_; intro g8 c8 w8 ho8 hg8 hat8; have HK8 := Lib.hid ((HK6.out.below ((Below.refl _ _).alloc (Nat.le_refl _) (.cells #[.int .u8 5] 5))).add ho8 hg8); have x8 := HK8.out.cx; have y8 := HK8.out.cy; have k8 := HK8.out.ck HKV.out; have n8_0 := isR_kind (HR.out.below HK8.out.bel) HJ.out HJK.out; clear ho8 hg8 hat8)
                      have hts : (t6 ++ (⟨#[5]⟩ : ByteArray)).size = t6.size + 1 := by rw [ByteArray.size_append]; rfl
                      have hin := HP.out.line HM1.out HJ.out HJK.out HCK.out HBND.out HKV.out
                      rw [HT6.out] at hin
                      try go_wp2_with fail
                      refine ⟨⟨b + 1, g8, c8, n + 1, t6 ++ (⟨#[5]⟩ : ByteArray), K.x, K.y, _, _, _, _, HLB.out, by rw [hts], rfl, rfl, rfl, by first | rw [hbn] | go_num, hin, HK8.out.own, HK8.out.bel⟩, ?_⟩
                      (try rw [hbn]); have := HLB.out; simp only [intOf]; omega
                  · by_cases h3 : b < 3
                    · have z3 : (b : Int) < 3 := by omega
                      have kd1 : (J.k == 1) = false := by simp; exact hj
                      have kn1 : (J.k != 1) = true := by simp; exact hj
                      have HJb : Hid (c[b - 1]? = some J) := by rw [HM1.out]; exact HJ.out
                      have HKV := Lib.hid hk
                      clear hk hj h3
                      as_aux_lemma =>
                        have k6 := HK6.out.ck HKV.out
                        have x6 := HK6.out.cx
                        have n6_0 := isR_kind (HR.out.below HK6.out.bel) HJ.out rfl
                        have n6_1 := isR_kind (HR.out.below HK6.out.bel) HJb.out rfl
                        go_wp2_with fail
                        go_ret
                        exact ⟨rfl, HK6.out.bel⟩
                    · skip
                      obtain ⟨m3, hm3⟩ : ∃ m3, b = m3 + 3 := ⟨b - 3, by omega⟩
                      have HM3 := Lib.hid hm3
                      have e12 : m1 = m3 + 2 := by have := HM1.out; omega
                      subst e12
                      obtain ⟨J1, hJ1⟩ := get_of (show m3 + 1 < c.length by have := HM.out; have := HLB.out; omega)
                      have HJ1 := Lib.hid hJ1
                      obtain ⟨J0, hJ0⟩ := get_of (show m3 < c.length by have := HM.out; have := HLB.out; omega)
                      have HJ0 := Lib.hid hJ0
                      have w2m : wrap64 ((b : Int) - 2) = ((m3 + 1 : Nat) : Int) := by have := HNN.out; have := HP.out.cnt; unfold wrap64; omega
                      have w3m : wrap64 ((b : Int) - 3) = (m3 : Int) := by have := HNN.out; have := HP.out.cnt; unfold wrap64; omega
                      have v2a : (0 : Int) ≤ ((m3 + 1 : Nat) : Int) := by omega
                      have v2b : ((m3 + 1 : Nat) : Int) < (m : Int) := by have := HLB.out; omega
                      have v3a : (0 : Int) ≤ (m3 : Int) := by omega
                      have v3b : (m3 : Int) < (m : Int) := by have := HLB.out; omega
                      have z3 : ¬ (b : Int) < 3 := by omega
                      clear hm3 hJ1 hJ0
                      have kd1 : (J.k == 1) = false := by simp; exact hj
                      have HKV := Lib.hid hk
                      clear hk
                      by_cases hj3 : J.k = 3
                      · by_cases hj13 : J1.k = 3
                        · by_cases hj01 : J0.k = 1
                          · have HJ2K := Lib.hid hj3
                            have HJ1K := Lib.hid hj13
                            have HJ0K := Lib.hid hj01
                            clear hj hj3 hj13 hj01 kd1 h3
                            as_aux_lemma =>
                              have k6 := HK6.out.ck HKV.out
                              have x6 := HK6.out.cx
                              have n6_0 := isR_kind (HR.out.below HK6.out.bel) HJ.out HJ2K.out
                              have n6_1 := isR_kind (HR.out.below HK6.out.bel) HJ1.out HJ1K.out
                              have n6_2 := isR_kind (HR.out.below HK6.out.bel) HJ0.out HJ0K.out
                              go_wp2_with (at_builtin; refine wpList_add rfl _ _ rfl (wc.alloc (.cells #[.int .u8 8] 5)) w.heap.size g6 c6 t6 ⟨#[8]⟩ (some ⟨wc.heap.size, 0, none⟩) 1 t6.size 1 rfl rfl rfl rfl (HK6.out.below ((Below.refl _ _).alloc (Nat.le_refl _) _)).own (op_isB wc 8 (by decide)) (by have h1 := HTS.out; have h2 := HTZ6.out; show t6.size + 1 ≤ _; omega) (HK6.out.below ((Below.refl _ _).alloc (Nat.le_refl _) (.cells #[.int .u8 8] 5))).bel.size ?_; intro g8 c8 w8 ho8 hg8 hat8; have HK8 := Lib.hid ((HK6.out.below ((Below.refl _ _).alloc (Nat.le_refl _) (.cells #[.int .u8 8] 5))).add ho8 hg8); have x8 := HK8.out.cx; have y8 := HK8.out.cy; have k8 := HK8.out.ck HKV.out; have n8_0 := isR_kind (HR.out.below HK8.out.bel) HJ.out HJ2K.out; have n8_1 := isR_kind (HR.out.below HK8.out.bel) HJ1.out HJ1K.out; have n8_2 := isR_kind (HR.out.below HK8.out.bel) HJ0.out HJ0K.out; clear ho8 hg8 hat8)
                              have hts : (t6 ++ (⟨#[8]⟩ : ByteArray)).size = t6.size + 1 := by rw [ByteArray.size_append]; rfl
                              have hin := HP.out.curve HM3.out HJ1.out HJ.out HJ1K.out HJ2K.out HCK.out HBND.out HKV.out
                              rw [HT6.out] at hin
                              try go_wp2_with fail
                              refine ⟨⟨b + 1, g8, c8, n + 1, t6 ++ (⟨#[8]⟩ : ByteArray), K.x, K.y, _, _, _, _, HLB.out, by rw [hts], rfl, rfl, rfl, by first | rw [hbn] | go_num, hin, HK8.out.own, HK8.out.bel⟩, ?_⟩
                              (try rw [hbn]); have := HLB.out; simp only [intOf]; omega
                          · have HJ2K := Lib.hid hj3
                            have HJ1K := Lib.hid hj13
                            have kd0 : (J0.k == 1) = false := by simp; exact hj01
                            have kn0 : (J0.k != 1) = true := by simp; exact hj01
                            clear hj hj3 hj13 hj01 kd1 h3
                            as_aux_lemma =>
                              have k6 := HK6.out.ck HKV.out
                              have x6 := HK6.out.cx
                              have n6_0 := isR_kind (HR.out.below HK6.out.bel) HJ.out HJ2K.out
                              have n6_1 := isR_kind (HR.out.below HK6.out.bel) HJ1.out HJ1K.out
                              have n6_2 := isR_kind (HR.out.below HK6.out.bel) HJ0.out rfl
                              go_wp2_with fail
                              go_ret
                              exact ⟨rfl, HK6.out.bel⟩
                        · have HJ2K := Lib.hid hj3
                          have kd0 : (J1.k == 3) = false := by simp; exact hj13
                          have kn0 : (J1.k != 3) = true := by simp; exact hj13
                          clear hj hj3 hj13 kd1 h3
                          as_aux_lemma =>
                            have k6 := HK6.out.ck HKV.out
                            have x6 := HK6.out.cx
                            have n6_0 := isR_kind (HR.out.below HK6.out.bel) HJ.out HJ2K.out
                            have n6_1 := isR_kind (HR.out.below HK6.out.bel) HJ1.out rfl
                            go_wp2_with fail
                            go_ret
                            exact ⟨rfl, HK6.out.bel⟩
                      · have kd3 : (J.k == 3) = false := by simp; exact hj3
                        have kn3 : (J.k != 3) = true := by simp; exact hj3
                        have kn1 : (J.k != 1) = true := by simp; exact hj
                        clear hj hj3 h3
                        as_aux_lemma =>
                          have k6 := HK6.out.ck HKV.out
                          have x6 := HK6.out.cx
                          have n6_0 := isR_kind (HR.out.below HK6.out.bel) HJ.out rfl
                          go_wp2_with fail
                          go_ret
                          exact ⟨rfl, HK6.out.bel⟩
                · have hk1 : (K.k == 1) = false := by simp; exact hk
                  by_cases hk3 : K.k = 3
                  · have HKV := Lib.hid hk3
                    have hml : wrap64 ((m : Int) - 1) = (m : Int) - 1 := by have h1 := sum_mem (O.map List.length) c.length (List.mem_map.2 ⟨c, List.mem_of_getElem? HCC.out, rfl⟩); have := HTOT.out; have := HM.out; unfold wrap64; omega
                    clear hk1
                    by_cases hl : b + 1 = m
                    · have z5 : ((b : Int) == (m : Int) - 1) = true := by simp; omega
                      clear hk hk3 hl
                      as_aux_lemma =>
                        have k6 := HK6.out.ck HKV.out
                        have x6 := HK6.out.cx
                        go_wp2_with fail
                        go_ret
                        exact ⟨rfl, HK6.out.bel⟩
                    · have z5 : ((b : Int) == (m : Int) - 1) = false := by simp; omega
                      obtain ⟨L, hL⟩ := get_of (show b + 1 < c.length by have := HM.out; have := HLB.out; omega)
                      have HL := Lib.hid hL
                      have v4 : (b : Int) + 1 < (m : Int) := by have := HLB.out; omega
                      have v4a : (0 : Int) ≤ (b : Int) + 1 := by omega
                      clear hk hk3 hl hL
                      by_cases hj3 : J.k = 3
                      · by_cases hL1 : L.k = 1
                        · have HJK := Lib.hid hj3
                          have HLK := Lib.hid hL1
                          clear hj3 hL1
                          as_aux_lemma =>
                            have k6 := HK6.out.ck HKV.out
                            have x6 := HK6.out.cx
                            have n6_0 := isR_kind (HR.out.below HK6.out.bel) HJ.out HJK.out
                            have n6_1 := isR_kind (HR.out.below HK6.out.bel) HL.out HLK.out
                            go_wp2_with fail
                            have hin := HP.out.pend HM1.out HJ.out HCK.out HBND.out HKV.out HL.out (fun _ => HLK.out)
                            rw [HT6.out] at hin
                            try go_wp2_with fail
                            refine ⟨⟨b + 1, g6, c6, n + 1, t6, K.x, K.y, _, _, _, _, HLB.out, rfl, rfl, rfl, rfl, by first | rw [hbn] | go_num, hin, HK6.out.own, HK6.out.bel⟩, ?_⟩
                            (try rw [hbn]); have := HLB.out; simp only [intOf]; omega
                        · have HJK := Lib.hid hj3
                          have kd9 : (L.k == 1) = false := by simp; exact hL1
                          have kd8 : (L.k != 1) = true := by simp; exact hL1
                          clear hj3 hL1
                          as_aux_lemma =>
                            have k6 := HK6.out.ck HKV.out
                            have x6 := HK6.out.cx
                            have n6_0 := isR_kind (HR.out.below HK6.out.bel) HJ.out HJK.out
                            have n6_1 := isR_kind (HR.out.below HK6.out.bel) HL.out rfl
                            go_wp2_with fail
                            go_ret
                            exact ⟨rfl, HK6.out.bel⟩
                      · have kd3 : (J.k == 3) = false := by simp; exact hj3
                        have HJ3 := Lib.hid hj3
                        clear hj3
                        as_aux_lemma =>
                          have k6 := HK6.out.ck HKV.out
                          have x6 := HK6.out.cx
                          have n6_0 := isR_kind (HR.out.below HK6.out.bel) HJ.out rfl
                          go_wp2_with fail
                          have hin := HP.out.pend HM1.out HJ.out HCK.out HBND.out HKV.out HL.out (fun h => absurd h HJ3.out)
                          rw [HT6.out] at hin
                          try go_wp2_with fail
                          refine ⟨⟨b + 1, g6, c6, n + 1, t6, K.x, K.y, _, _, _, _, HLB.out, rfl, rfl, rfl, rfl, by first | rw [hbn] | go_num, hin, HK6.out.own, HK6.out.bel⟩, ?_⟩
                          (try rw [hbn]); have := HLB.out; simp only [intOf]; omega
                  · have hk3' : (K.k == 3) = false := by simp; exact hk3
                    have hk4 : (K.k != 3) = true := by simp; exact hk3
                    have hk2 : (K.k != 1) = true := by simp; exact hk
                    have HKV : Hid (K.k = K.k) := rfl
                    clear hk hk3
                    as_aux_lemma =>
                      have k6 := HK6.out.ck HKV.out
                      have x6 := HK6.out.cx
                      go_wp2_with fail
                      go_ret
                      exact ⟨rfl, HK6.out.bel⟩
          · clear hbn hnn
            by_cases q1' : K.x < -9000
            · clear hB
              as_aux_lemma =>
                go_wp2_with fail
                all_goals (go_ret; exact ⟨rfl, HB.out.alloc HB.out.size _⟩)
            by_cases q2' : 9000 < K.x
            · clear hB
              as_aux_lemma =>
                go_wp2_with fail
                all_goals (go_ret; exact ⟨rfl, HB.out.alloc HB.out.size _⟩)
            by_cases q3' : K.y < -9000
            · clear hB
              as_aux_lemma =>
                go_wp2_with fail
                all_goals (go_ret; exact ⟨rfl, HB.out.alloc HB.out.size _⟩)
            have q4' : 9000 < K.y := by unfold Bnd at hB; omega
            clear hB
            as_aux_lemma =>
              go_wp2_with fail
              all_goals (go_ret; exact ⟨rfl, HB.out.alloc HB.out.size _⟩)
        · obtain rfl : b = m := by omega
          have h1 : ¬ (b : Int) < (b : Int) := by omega
          by_cases hb0 : b = 0
          · have z0 : ((b : Int) == 0) = true := by simp; omega
            clear hlt
            as_aux_lemma =>
              subst hb0
              go_wp2_with fail
              go_ret
              exact ⟨rfl, HB.out⟩
          · have z0 : ((b : Int) == 0) = false := by simp; omega
            have HPO := Lib.hid (HP.out.outP HM.out.symm (by omega) HCC.out)
            clear hlt hb0 hbm
            as_aux_lemma =>
              go_wp2_with fail
              refine ⟨⟨a + 1, g, cc, n, t, x, y, HLT.out, rfl, rfl, rfl, rfl, by first | rw [hw1] | go_num, HPO, HW, HB⟩, ?_⟩
              (try rw [hw1]); have := HLT.out; simp only [intOf]; omega
    · obtain rfl : a = k := by omega
      have h1 : ¬ (a : Int) < (a : Int) := by omega
      clear hlt hak
      by_cases hn : n ≤ 2000
      · by_cases ha : a ≤ 256
        · skip
          as_aux_lemma =>
            have g1 : ¬ (2000 : Int) < (n : Int) := by omega
            have g2 : ¬ (256 : Int) < (a : Int) := by omega
            have HTZ : Hid (t.size ≤ 14000) := by have := HP.out.size; unfold Hid; omega
            have HGM := Lib.hid (fun f hf => HP.out.done (f := f) HK.out.symm hn (by rw [HK.out]; exact ha) hf)
            have hz1 : (t ++ ⟨#[14]⟩).size = t.size + 1 := by rw [ByteArray.size_append]; rfl
            have HB1 : Hid (Below w.heap.size w (wr.alloc (.cells #[.int .u8 14] 5))) := HB.out.alloc HB.out.size _
            have HW1 : Hid (OwnB w.heap.size (wr.alloc (.cells #[.int .u8 14] 5)) g cc t) := own_bel HW.out ((Below.refl _ _).alloc (Nat.le_refl _) _)
            clear hn ha HP
            go_wp2_with (at_builtin; refine wpList_add rfl _ _ rfl (wr.alloc (.cells #[.int .u8 14] 5)) w.heap.size g cc t ⟨#[14]⟩ (some ⟨wr.heap.size, 0, none⟩) 1 t.size 1 rfl rfl rfl rfl HW1.out (op_isB wr 14 (by decide)) (by have h1 := HTZ.out; show t.size + 1 ≤ _; omega) HB1.out.size ?_; intro g3 c3 w3 ho3 hg3 hat3; have HB3 := Lib.hid (grown_below HB1.out hg3 HB1.out.size (World.ownsRow.lt HW1.out g rfl).1); have HI3 := Lib.hid (isB_of_owns ho3); clear ho3 hg3 hat3)
            have hl := isL_one HI3.out 23
            have hb4 : Below w3.heap.size w3 (w3.alloc (.cells #[.slice (some ⟨g3, 0, none⟩) (t ++ ⟨#[14]⟩).size c3] 23)) := (Below.refl _ _).alloc (Nat.le_refl _) _
            rw [hz1] at hl hb4
            have HOK := Lib.hid (draw_ok (t ++ ⟨#[14]⟩) (by rw [hz1]; have := HTZ.out; omega))
            obtain ⟨k1, k2⟩ := HGM.out (drawF (t ++ ⟨#[14]⟩)) rfl
            have HFA : Hid (FArg (w3.alloc (.cells #[.slice (some ⟨g3, 0, none⟩) (t.size + 1) c3] 23)) (drawF (t ++ ⟨#[14]⟩)) (some ⟨w3.heap.size, 0, none⟩) 1 none 0 none 0) := ⟨hl, .inl rfl, .inl rfl, HOK.out.n1, HOK.out.n2, HOK.out.w0, HOK.out.w1⟩
            refine (pack_c (drawF (t ++ ⟨#[14]⟩)) _ _ _ _ _ _ _ HFA.out).mono ?_
            rintro e w5 ⟨g5, c5, rfl, ho5, hb5⟩
            have HI5 := Lib.hid (isB_of_owns ho5)
            have HB5 := Lib.hid (bel_next (bel_next HB3.out hb4) hb5)
            have HK12 := Lib.hid (And.intro k1 k2)
            clear ho5 hb5 hb4 hl HFA k1 k2 HGM HI3
            generalize drawF (t ++ ⟨#[14]⟩) = f at *
            go_wp2_with fail
            refine (lawOpen_c f HOK.out (some ⟨g5, 0, none⟩) c5 w5 HI5.out).mono ?_
            rintro e w6 ⟨F, fl, rfl, hF, hb6⟩
            have HF6 := Lib.hid hF
            have HB6 := Lib.hid (bel_next HB5.out hb6)
            clear hF hb6
            go_wp2_with fail
            have hgl := glyph_c w6 F fl f 0 (by decide) HF6.out
            unfold GPost at hgl
            rw [HK12.out.1, HK12.out.2, HK.out] at hgl
            refine hgl.mono ?_
            rintro e w7 ⟨a7, c7, vs7, rfl, how7, hb7⟩
            have HO7 := Lib.hid how7.isO
            have HB7 := Lib.hid (bel_next HB6.out hb7)
            clear hgl how7 hb7
            go_wp2_with fail
            have hso := sameOutline_c a7 a0 c7 ca O w7 HO7.out (HO.out.below HB7.out) HLA.out
            rw [HK.out] at hso
            refine hso.mono ?_
            rintro e w8 ⟨rfl, hb8⟩
            have HB8 := Lib.hid (bel_next HB7.out hb8)
            clear hb8 hso
            go_wp2_with fail
            go_ret
            exact ⟨rfl, HB8.out⟩
        · have g1 : ¬ (2000 : Int) < (n : Int) := by omega
          have g2 : (256 : Int) < (a : Int) := by omega
          as_aux_lemma =>
            go_wp2_with fail
            go_ret
            exact ⟨rfl, HB.out⟩
      · have g1 : (2000 : Int) < (n : Int) := by omega
        as_aux_lemma =>
          go_wp2_with fail
          all_goals (go_ret; exact ⟨rfl, HB.out⟩)

end Go.Proofs.Ytklenppldblbdaa.type2Draws
