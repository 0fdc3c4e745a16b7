/-
  The walk of PathHulls: it answers true for every outline of moderate size, and changes nothing that was there.
-/
import Derived.Test.YthjhekmlhmljlaaHlH
import Derived.Test.YthjhekmlhmljlaaHlF
import Derived.Test.YthjhekmlhmljlaaHlE
import Derived.Test.YthjhekmlhmljlaaHlB
import Derived.Test.YthjhekmlhmljlaaCpB
import Derived.Test.YthjhekmlhmljlaaAlP
import Derived.Test.YthjhekmlhmljlaaOpK
namespace Go.Proofs.Ythjhekmlhmljlaa
open Go.RowKit Go.PlainAid
set_option linter.unusedSimpArgs false
set_option linter.unusedVariables false

theorem refhull_b (a : Option Addr) (cap : Nat) (l : List Sp) (w : World) (hr : IsR clS w a l) (hl : l.length ≤ 140737488355328) : Calls Try.prog 20 #[.slice a l.length cap] w (BoxPost w l) := refhull_c a cap l w hr hl
theorem totalL_flat : ∀ O : List (List Kn), (spotsL O).length = totalL O
  | [] => rfl
  | c :: O => by
    have := totalL_flat O
    unfold spotsL at this ⊢
    simp only [List.flatten_cons, List.map_append, List.length_append, List.length_map, totalL] at this ⊢
    omega
theorem flat_take_len {O : List (List Sp)} {i : Nat} {c : List Sp} (h : O[i]? = some c) : (O.take i).flatten.length + c.length ≤ O.flatten.length := by
  have e : O.flatten = (O.take (i + 1)).flatten ++ (O.drop (i + 1)).flatten := by rw [← List.flatten_append, List.take_append_drop]
  rw [e, List.length_append, flatten_succ h, List.length_append]
  omega

theorem OutAt.low {α : Type} {cl : α → List Value} {s : Nat} {T TS : TypeId} {g : Nat} {vs : List Value} {Ls : List (List α)} {k : Nat} {N : Nat → Nat} {V : World} (h : OutAt cl s T TS g vs Ls k N V) {b o : Nat} (hb : b < g) (u : Value) : OutAt cl s T TS g vs Ls k N (V.setCell ⟨b, o, none⟩ u) := by
  refine ⟨by rw [Below.heap_setCell _ _ _ _ (show g ≠ b by omega)]; exact h.blk, h.len, fun i v L hv hL => ?_, h.up, h.lo, by simpa using h.hi⟩
  obtain ⟨a, c, e, ho, hlt⟩ := h.row i v L hv hL
  refine ⟨a, c, e, own_keep ho (fun x hx => Below.heap_setCell _ _ _ _ ?_), hlt⟩
  have h1 := (ho.lt x hx).1
  have h2 := up_le h.up i 0 (Nat.zero_le _)
  have h3 := h.lo
  show x ≠ b
  omega

namespace pathHulls
set_option maxRecDepth 20000 in
set_option maxHeartbeats 8000000 in
theorem walk (a : Option Addr) (cap : Nat) (O : List (List Kn)) (w : World) (hcap : O.length ≤ cap) (ho : IsO clK w a O) (hwf : ∀ c ∈ O, ∀ k ∈ c, WfK k) (hl : Long O) (hs : O.length ≤ 1048576 ∧ totalL O ≤ 1048576) :
    Calls Try.prog 6 #[.slice a O.length cap] w fun e w' => e = .returned (.bool true) ∧ Below w.heap.size w w' := by
  have HO := Lib.hid ho
  have HL := Lib.hid hl
  have HS := Lib.hid hs
  clear hcap ho hwf hl hs
  obtain ⟨Bh, HBH⟩ : ∃ b, Hid (hullB (spotsL O) = b) := ⟨_, rfl⟩
  obtain ⟨ah, HAH⟩ : ∃ b, Hid (anyS (spotsL O) = b) := ⟨_, rfl⟩
  go_enter Try.func6, Try.ntmps6
  go_wp2_with fail
  refine (pathAlive_c _).mono ?_
  rintro e w1 ⟨rfl, hb1⟩
  have HB1 := Lib.hid hb1
  clear hb1
  go_wp2_with fail
  refine (spots_c a cap O w1 (HO.out.below HB1.out) HS.out.1 HS.out.2).mono ?_
  rintro e w2 ⟨gs, cs, rfl, ho2, hb2⟩
  have HB2 := Lib.hid (bel_next HB1.out hb2)
  have HRH := Lib.hid (refhull_b (some ⟨gs, 0, none⟩) cs (spotsL O) w2 (own_isR rfl ho2) (by rw [totalL_flat]; have := HS.out.2; omega))
  unfold BoxPost at HRH
  rw [HBH.out, HAH.out] at HRH
  clear hb2 ho2
  go_wp2_with fail
  refine HRH.out.mono ?_
  rintro e w3 ⟨rfl, hb3⟩
  have HB3 := Lib.hid (bel_alloc (bel_next HB2.out hb3) (.cells #[.int .i64 Bh.x0, .int .i64 Bh.y0, .int .i64 Bh.x1, .int .i64 Bh.y1] 50))
  have HG3 : Hid (w.heap.size ≤ w3.heap.size) := Nat.le_trans HB2.out.size hb3.size
  have HX3 : Hid (BoxAt (w3.alloc (.cells #[.int .i64 Bh.x0, .int .i64 Bh.y0, .int .i64 Bh.x1, .int .i64 Bh.y1] 50)) w3.heap.size Bh) := heap_alloc_new w3 _
  clear hb3 HRH
  unfold bxV
  go_wp2_with fail
  refine (copy_c a cap O _ (HO.out.below HB3.out) HL.out).mono ?_
  rintro e w4 ⟨g4, c4, vs4, rfl, ho4, hr4, hb4⟩
  have HB4 := Lib.hid (bel_next HB3.out hb4)
  have HX4 := Lib.hid (HX3.out.below hb4)
  have HHU := Lib.hid (hull_c (some ⟨g4, 0, none⟩) c4 O w4 (hr4.isO ho4) HL.out)
  unfold BoxPost at HHU
  rw [HBH.out, HAH.out] at HHU
  generalize hg3 : w3.heap.size = g3 at *
  clear hb4 ho4 hr4 HX3 hg3
  go_wp2_with fail
  refine HHU.out.mono ?_
  rintro e w5 ⟨rfl, hb5⟩
  have HB5 := Lib.hid (bel_alloc (bel_next HB4.out hb5) (.cells #[.int .i64 Bh.x0, .int .i64 Bh.y0, .int .i64 Bh.x1, .int .i64 Bh.y1] 50))
  have HN5 : Hid (Below w4.heap.size w4 (w5.alloc (.cells #[.int .i64 Bh.x0, .int .i64 Bh.y0, .int .i64 Bh.x1, .int .i64 Bh.y1] 50))) := hb5.alloc hb5.size _
  have HY5 : Hid (BoxAt (w5.alloc (.cells #[.int .i64 Bh.x0, .int .i64 Bh.y0, .int .i64 Bh.x1, .int .i64 Bh.y1] 50)) w5.heap.size Bh) := heap_alloc_new w5 _
  have HX5 := Lib.hid (HX4.out.below HN5.out)
  obtain ⟨p0, p1, p2, p3⟩ := HX5.out.cells
  obtain ⟨q0, q1, q2, q3⟩ := HY5.out.cells
  have HNE : Hid (g3 ≠ w5.heap.size) := by have h1 := HX4.out.lt; have h2 := hb5.size; unfold Hid; omega
  clear hb5 HHU HX4
  unfold bxV
  go_wp2_with fail
  clear p0 p1 p2 p3 q0 q1 q2 q3
  generalize (w5.alloc (.cells #[.int .i64 Bh.x0, .int .i64 Bh.y0, .int .i64 Bh.x1, .int .i64 Bh.y1] 50)) = v5 at *
  generalize w5.heap.size = g5 at *
  refine (copy_c a cap O v5 (HO.out.below HB5.out) HL.out).mono ?_
  rintro e w6 ⟨g6, c6, vs6, rfl, ho6, hr6, hb6⟩
  have HB6 := Lib.hid (bel_next HB5.out hb6)
  have HX6 := Lib.hid (HX5.out.below hb6)
  have HY6 := Lib.hid (HY5.out.below hb6)
  have HQ6 := Lib.hid (hr6.isO ho6)
  clear hb6 ho6 hr6 HX5 HY5
  by_cases hck : checkE O = 0
  case neg =>
    have HF := Lib.hid (flat_refused (some ⟨g6, 0, none⟩) c6 O w6 HQ6.out HL.out hck)
    obtain ⟨E, HE⟩ : ∃ E, Hid (checkE O = E) := ⟨_, rfl⟩
    rw [HE.out] at HF hck
    have q : (E == 0) = false := by simpa using hck
    clear hck
    go_wp2_with fail
    refine HF.out.mono ?_
    rintro e w7 ⟨rfl, hb7⟩
    have HB7 := Lib.hid (bel_next HB6.out hb7)
    clear hb7
    go_wp2_with fail
    go_ret
    exact ⟨rfl, HB7.out⟩
  case pos =>
    have HF := Lib.hid (flat_run (some ⟨g6, 0, none⟩) c6 O w6 HQ6.out HL.out hck)
    have HCK := Lib.hid hck
    clear hck
    go_wp2_with fail
    refine HF.out.mono ?_
    intro e w7 hp7
    unfold FlatsPost at hp7
    cases hfl : flatL O with
    | none =>
      rw [hfl] at hp7
      obtain ⟨rfl, hb7⟩ := hp7
      have HB7 := Lib.hid (bel_next HB6.out hb7)
      clear hb7 hfl
      go_wp2_with fail
      go_ret
      exact ⟨rfl, HB7.out⟩
    | some P =>
      rw [hfl] at hp7
      obtain ⟨gp, vp, Np, rfl, hout, hge, hb7⟩ := hp7
      have HFL := Lib.hid hfl
      have HB7 := Lib.hid (bel_next HB6.out hb7)
      have HX7 := Lib.hid (HX6.out.below hb7)
      have HY7 := Lib.hid (HY6.out.below hb7)
      have HPO := Lib.hid hout.isO
      have HOT := Lib.hid hout
      have HGP : Hid (g3 < gp) := by have := HX6.out.lt; unfold Hid; omega
      obtain ⟨l1, l2, l3⟩ := flatL_len hfl
      obtain ⟨n1, n2, n3⟩ := many_no (check_ok HCK.out).1
      have HLA : Hid (LongA P) := ⟨by omega, fun p hp => by have := l2 p hp; omega⟩
      have HP1 : Hid (P.length ≤ 256) := by unfold Hid; omega
      have HP2 : Hid (P.flatten.length ≤ 70000) := by unfold Hid; omega
      have HO1 := Lib.hid (World.ownsRow_lit (base := w7.heap.size) (e := 47) (size := 2) w7 #[] 0 (Nat.le_refl _) (by decide) rfl)
      have HE7 : Hid (Below w7.heap.size w7 (w7.alloc (.cells #[] 47))) := (Below.refl _ _).alloc (Nat.le_refl _) _
      obtain ⟨p, HP⟩ : ∃ p, Hid (P.length = p) := ⟨_, rfl⟩
      rw [HP.out] at HP1
      rw [HP.out]
      clear hb7 hfl hout hge l1 l2 l3 n1 n2 n3 HF HX6 HY6
      go_wp2_with fail
      go_loopw [9, 49] (fun v x wr => ∃ i n g c : Nat, i ≤ p ∧ v = .slice (some ⟨g, 0, none⟩) n c ∧ x = .int .i64 i ∧ Hid ((P.take i).flatten.length = n) ∧ Hid (wr.ownsRow w7.heap.size 47 2 (.slice (some ⟨g, 0, none⟩) n c) n ((P.take i).flatten.flatMap clS)) ∧ Hid (Below w7.heap.size w7 wr)) (fun _ x _ => p - (intOf x).toNat)
      case atStart => exact ⟨0, 0, _, _, Nat.zero_le _, rfl, rfl, rfl, HO1, HE7⟩
      case round =>
        clear HO1 HE7
        obtain ⟨i, n, g, c, hi, rfl, rfl, HN, HW, HB⟩ := hrel
        by_cases hlt : i < p
        · have hlt' : (i : Int) < (p : Int) := by omega
          obtain ⟨d, hd⟩ := get_of (show i < P.length by rw [HP.out]; exact hlt)
          obtain ⟨b, off, ai, ci, e0, c0, hci, hr⟩ := (HPO.out.below HB.out).at hd
          cases e0
          rw [Nat.zero_add] at c0
          have HD := Lib.hid hd
          have HRD := Lib.hid hr
          have HLT := Lib.hid hlt
          have HX := Lib.hid (next64 (j := i) (by have := HP1.out; omega))
          have HTD : Hid (n + d.length ≤ 70000) := by have h := flat_take_len hd; have := HN.out; have := HP2.out; unfold Hid; omega
          clear hd hr hi hlt hci
          go_wp2_with (at_builtin; refine wpList_app elS rfl _ _ rfl wr w7.heap.size g c n ((P.take i).flatten.flatMap clS) ai d.length ci (d.flatMap clS) rfl rfl HW.out (flat_length clS_length d) (isR_src HRD.out) clS_one (by have := HTD.out; omega) (by have := HTD.out; omega) HB.out.size ?_; intro g8 c8 w8 ho8 hg8 hat8)
          have HB8 : Hid (Below w7.heap.size w7 w8) := belGrown HB.out hg8 (ownsRow_cap HW.out).2.1 HB.out.size
          have HW8 : Hid (w8.ownsRow w7.heap.size 47 2 (.slice (some ⟨g8, 0, none⟩) (n + d.length) c8) (n + d.length) ((P.take (i + 1)).flatten.flatMap clS)) := by unfold Hid; rw [flatten_succ HD.out, List.flatMap_append]; exact ho8
          have HN8 : Hid ((P.take (i + 1)).flatten.length = n + d.length) := by unfold Hid; rw [flatten_succ HD.out, List.length_append, HN.out]
          clear ho8 hg8 hat8 c0
          go_wp2_with fail
          go_roundw
          case rel => exact ⟨i + 1, n + d.length, g8, c8, HLT.out, rfl, by first | rw [HX.out] | go_num, HN8, HW8, HB8⟩
          case measure => (try rw [HX.out]); have := HLT.out; simp only [intOf]; omega
        · have hlt' : ¬ (i : Int) < (p : Int) := by omega
          obtain rfl : i = p := by omega
          have HTA : Hid (P.take i = P) := List.take_of_length_le (by rw [HP.out]; exact Nat.le_refl _)
          rw [HTA.out] at HW HN
          obtain ⟨Bp, HBP⟩ : ∃ b, Hid (hullB P.flatten = b) := ⟨_, rfl⟩
          obtain ⟨ap, HAP⟩ : ∃ b, Hid (anyS P.flatten = b) := ⟨_, rfl⟩
          have HRH := Lib.hid (refhull_b (some ⟨g, 0, none⟩) c P.flatten wr (by have := HW.out; rw [← HN.out] at this; exact own_isR rfl this) (by have := HP2.out; omega))
          unfold BoxPost at HRH
          rw [HBP.out, HAP.out, HN.out] at HRH
          have HX9 := Lib.hid (HX7.out.below HB.out)
          have HY9 := Lib.hid (HY7.out.below HB.out)
          have HOT9 := Lib.hid (HOT.out.below HB.out)
          have HB9 := Lib.hid (bel_next HB7.out HB.out)
          clear hi hlt
          go_wp2_with fail
          refine HRH.out.mono ?_
          rintro e wa ⟨rfl, hba⟩
          have HBa := Lib.hid (bel_next HB9.out hba)
          have HXa := Lib.hid (HX9.out.below hba)
          have HYa := Lib.hid (HY9.out.below hba)
          have HOTa := Lib.hid (HOT9.out.below hba)
          obtain ⟨r0, r1, r2, r3⟩ := HXa.out.cells
          have f0 := HXa.out.fr 0
          have f1 := HXa.out.fr 1
          have f2 := HXa.out.fr 2
          have f3 := HXa.out.fr 3
          clear hba HRH HX9 HY9 HOT9 HX7 HY7
          unfold bxV
          go_wp2_with fail
          have HXb : Hid (BoxAt ((((wa.setCell ⟨g3, 0, none⟩ (.int .i64 Bp.x0)).setCell ⟨g3, 1, none⟩ (.int .i64 Bp.y0)).setCell ⟨g3, 2, none⟩ (.int .i64 Bp.x1)).setCell ⟨g3, 3, none⟩ (.int .i64 Bp.y1)) g3 Bp) := (((HXa.out.set0 _).set1 _).set2 _).set3 _
          have HYb : Hid (BoxAt ((((wa.setCell ⟨g3, 0, none⟩ (.int .i64 Bp.x0)).setCell ⟨g3, 1, none⟩ (.int .i64 Bp.y0)).setCell ⟨g3, 2, none⟩ (.int .i64 Bp.x1)).setCell ⟨g3, 3, none⟩ (.int .i64 Bp.y1)) g5 Bh) := (((HYa.out.other (Ne.symm HNE.out)).other (Ne.symm HNE.out)).other (Ne.symm HNE.out)).other (Ne.symm HNE.out)
          have HOTb : Hid (OutAt clS 2 47 45 gp vp P 0 Np ((((wa.setCell ⟨g3, 0, none⟩ (.int .i64 Bp.x0)).setCell ⟨g3, 1, none⟩ (.int .i64 Bp.y0)).setCell ⟨g3, 2, none⟩ (.int .i64 Bp.x1)).setCell ⟨g3, 3, none⟩ (.int .i64 Bp.y1))) := (((HOTa.out.low HGP.out _).low HGP.out _).low HGP.out _).low HGP.out _
          have HBb : Hid (Below w.heap.size w ((((wa.setCell ⟨g3, 0, none⟩ (.int .i64 Bp.x0)).setCell ⟨g3, 1, none⟩ (.int .i64 Bp.y0)).setCell ⟨g3, 2, none⟩ (.int .i64 Bp.x1)).setCell ⟨g3, 3, none⟩ (.int .i64 Bp.y1))) := bel_set (bel_set (bel_set (bel_set HBa.out HG3.out _) HG3.out _) HG3.out _) HG3.out _
          clear r0 r1 r2 r3 f0 f1 f2 f3 HXa HYa HOTa HBa
          generalize ((((wa.setCell ⟨g3, 0, none⟩ (.int .i64 Bp.x0)).setCell ⟨g3, 1, none⟩ (.int .i64 Bp.y0)).setCell ⟨g3, 2, none⟩ (.int .i64 Bp.x1)).setCell ⟨g3, 3, none⟩ (.int .i64 Bp.y1)) = wb at *
          have HBO := Lib.hid (bounds_c (some ⟨gp, 0, none⟩) i P wb HOTb.out.isO HLA.out)
          unfold BoxPost at HBO
          rw [HBP.out, HAP.out, HP.out] at HBO
          refine HBO.out.mono ?_
          rintro e wc ⟨rfl, hbc⟩
          have HNc : Hid (Below wb.heap.size wb (wc.alloc (.cells #[.int .i64 Bp.x0, .int .i64 Bp.y0, .int .i64 Bp.x1, .int .i64 Bp.y1] 50))) := hbc.alloc hbc.size _
          have HBc := Lib.hid (bel_next HBb.out HNc.out)
          have HXc := Lib.hid (HXb.out.below HNc.out)
          have HYc := Lib.hid (HYb.out.below HNc.out)
          have HZc : Hid (BoxAt (wc.alloc (.cells #[.int .i64 Bp.x0, .int .i64 Bp.y0, .int .i64 Bp.x1, .int .i64 Bp.y1] 50)) wc.heap.size Bp) := heap_alloc_new wc _
          obtain ⟨p0, p1, p2, p3⟩ := HXc.out.cells
          obtain ⟨q0, q1, q2, q3⟩ := HYc.out.cells
          obtain ⟨z0, z1, z2, z3⟩ := HZc.out.cells
          clear hbc HBO
          unfold bxV
          cases ap
          · go_wp2_with fail
            go_ret
            exact ⟨rfl, HBc.out⟩
          · have hfh := flat_hull HFL.out (fun e => by have := HAP.out; rw [e] at this; simp [anyS] at this)
            rw [HBH.out, HBP.out] at hfh
            obtain ⟨y0, y1, y2, y3⟩ := hfh
            go_wp2_with fail
            go_ret
            exact ⟨rfl, HBc.out⟩

end pathHulls
end Go.Proofs.Ythjhekmlhmljlaa
