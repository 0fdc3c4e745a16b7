/-
  The walk of PathMaps: it answers true for every outline and every four numbers, and changes nothing that was there.
-/
import Derived.Test.YthjhekmlhmljlaaMq
import Derived.Test.YthjhekmlhmljlaaAlP
import Derived.Test.YthjhekmlhmljlaaSmA
import Derived.Test.YthjhekmlhmljlaaOpK
namespace Go.Proofs.Ythjhekmlhmljlaa
open Go.RowKit Go.PlainAid
set_option linter.unusedSimpArgs false
set_option linter.unusedVariables false

/-- Four numbers in memory. -/
structure FourAt (V : World) (b : Nat) (m0 m1 m2 m3 : Int) : Prop where
  c0 : V.cell? ⟨b, 0, none⟩ = some (.int .i64 m0)
  c1 : V.cell? ⟨b, 1, none⟩ = some (.int .i64 m1)
  c2 : V.cell? ⟨b, 2, none⟩ = some (.int .i64 m2)
  c3 : V.cell? ⟨b, 3, none⟩ = some (.int .i64 m3)
theorem FourAt.below {V V' : World} {b : Nat} {m0 m1 m2 m3 : Int} (h : FourAt V b m0 m1 m2 m3) (q : Below V.heap.size V V') : FourAt V' b m0 m1 m2 m3 := ⟨keepC q h.c0, keepC q h.c1, keepC q h.c2, keepC q h.c3⟩
theorem Gots.appCell {s : Nat} {T TS : TypeId} {V V' : World} {G n i M : Nat} {vs : List Value} {N : Nat → Nat} {a : Option Addr} {m c : Nat} {v : Value} (h : Gots s T TS V G n (i + 1) M vs N) (hr : RowI s T V G n i N a m c) (hg : V.grownBy V' (Value.slice a m c).ownBlock) (hv : vs[i]? = some v) :
    V'.cell? ⟨G, i, none⟩ = some v ∧ V'.frozen? ⟨G, i, none⟩ = false := by
  obtain ⟨xs, h1, h2⟩ := hr
  have hGV : G < V.heap.size := (Array.getElem?_eq_some_iff.1 h.blk).1
  have hk : V'.heap[G]? = V.heap[G]? := hg.block G hGV (fun e => by have := (h1.lt G e.symm).1; omega)
  have hb : V'.heap[G]? = some (.cells vs.toArray TS (0, 0)) := by rw [hk]; exact h.blk
  exact ⟨by rw [cell_blk hb i]; simpa using hv, frozen_blk hb i⟩
theorem belGr {B : Nat} {w a b : World} {r : Option Nat} (h : Below B w a) (k : a.grownBy b r) (hg : ∀ g, r = some g → B ≤ g) (hB : B ≤ a.heap.size) : Below B w b :=
  ⟨k.os.trans h.os, k.tape.trans h.tape, k.output.trans h.output, Nat.le_trans h.size k.size, fun i hi => (k.block i (by omega) (fun e => by have := hg i e.symm; omega)).trans (h.block i hi)⟩
theorem RowI.ge {s : Nat} {T : TypeId} {V : World} {G n i : Nat} {N : Nat → Nat} {a : Option Addr} {m c B : Nat} (h : RowI s T V G n i N a m c) (hB : B ≤ G) : ∀ g, (Value.slice a m c).ownBlock = some g → B ≤ g := by
  obtain ⟨xs, h1, h2⟩ := h
  intro g hg
  have := (h1.lt g hg).1
  omega
theorem RowI.below {s : Nat} {T : TypeId} {V V' : World} {G n i : Nat} {N : Nat → Nat} {a : Option Addr} {m c : Nat} (h : RowI s T V G n i N a m c) (hb : Below V.heap.size V V') : RowI s T V' G n i N a m c := by
  obtain ⟨xs, h1, h2⟩ := h
  exact ⟨xs, own_below h1 hb, h2⟩
theorem Gots.below {s : Nat} {T TS : TypeId} {V V' : World} {G n i M : Nat} {vs : List Value} {N : Nat → Nat} (h : Gots s T TS V G n i M vs N) (hb : Below V.heap.size V V') : Gots s T TS V' G n i M vs N :=
  h.keep hb.size (fun x hx => hb.block x (by
    have h1 := (Array.getElem?_eq_some_iff.1 h.blk).1
    have h2 := h.hi
    omega))
theorem longA_of {O : List (List Kn)} (h : Long O) : LongA O := ⟨by have := h.1; omega, fun c hc => by have := h.2 c hc; omega⟩
theorem longA_map {fx fy : Kn → Int × Int} {O P : List (List Kn)} (h : mapO fx fy O = some P) (hc : checkE O = 0) : LongA P ∧ (∀ L ∈ P, L.length ≤ 4096) ∧ P.length ≤ 256 := by
  obtain ⟨h1, h2⟩ := mapO_len h
  obtain ⟨n1, n2, n3⟩ := many_no (check_ok hc).1
  exact ⟨⟨by omega, fun p hp => by have := h2 p hp; omega⟩, fun p hp => by have := h2 p hp; omega, by omega⟩

namespace pathMaps
set_option maxRecDepth 20000 in
set_option maxHeartbeats 8000000 in
theorem walk (a : Option Addr) (cap : Nat) (O : List (List Kn)) (m0 m1 m2 m3 : Int) (w : World) (hcap : O.length ≤ cap) (ho : IsO clK w a O) (hwf : ∀ c ∈ O, ∀ k ∈ c, WfK k) (hl : Long O) (hm : I64 m0 ∧ I64 m1 ∧ I64 m2 ∧ I64 m3) :
    Calls Try.prog 4 #[.slice a O.length cap, .agg #[.int .i64 m0, .int .i64 m1, .int .i64 m2, .int .i64 m3]] w fun e w' => e = .returned (.bool true) ∧ Below w.heap.size w w' := by
  have HO := Lib.hid ho
  have HWF := Lib.hid hwf
  have HL := Lib.hid hl
  have HM := Lib.hid hm
  have HB0 : Hid (Below w.heap.size w (w.alloc (.cells #[.int .i64 m0, .int .i64 m1, .int .i64 m2, .int .i64 m3] 24))) := (Below.refl _ _).alloc (Nat.le_refl _) _
  have HF0 : Hid (FourAt (w.alloc (.cells #[.int .i64 m0, .int .i64 m1, .int .i64 m2, .int .i64 m3] 24)) w.heap.size m0 m1 m2 m3) := by constructor <;> simp [go_sem]
  clear hcap ho hwf hl hm
  go_enter Try.func4, Try.ntmps4
  go_wp2_with fail
  refine (pathAlive_c _).mono ?_
  rintro e w1 ⟨rfl, hb1⟩
  have HB1 := Lib.hid (bel_next HB0.out hb1)
  have HF1 := Lib.hid (HF0.out.below hb1)
  clear hb1 HB0 HF0
  go_wp2_with fail
  go_loopw [5] (fun x wr => ∃ kd : Int, (1 ≤ kd ∧ kd ≤ 4) ∧ x = .int .i64 kd ∧ Hid (Below w1.heap.size w1 wr)) (fun x _ => (4 - intOf x).toNat)
  case atStart => exact ⟨1, by decide, rfl, Below.refl _ _⟩
  case round =>
    obtain ⟨kd, hkd, rfl, HBk⟩ := hrel
    have HBw := Lib.hid (bel_next HB1.out HBk.out)
    have HF := Lib.hid (HF1.out.below HBk.out)
    obtain rfl | rfl | rfl | rfl : kd = 1 ∨ kd = 2 ∨ kd = 3 ∨ kd = 4 := by omega
    · clear hkd
      go_wp2_with fail
      refine (copy_c a cap O wr (HO.out.below HBw.out) HL.out).mono ?_
      rintro e w2 ⟨go, co, vso, rfl, ho2, hr2, hb2⟩
      have HBk2 := Lib.hid (bel_next HBk.out hb2)
      have HBw2 := Lib.hid (bel_next HBw.out hb2)
      have HOW := Lib.hid (hr2.isO ho2)
      obtain ⟨c0, c1, c2, c3⟩ := HF.out.below hb2
      have HF2 := Lib.hid (HF.out.below hb2)
      clear ho2 hr2 hb2
      by_cases hck : checkE O = 0
      case neg =>
        have HAP := Lib.hid (apply_refused a cap O 1 m0 m1 m2 m3 w2 (HO.out.below HBw2.out) HL.out hck)
        unfold mapV at HAP
        obtain ⟨E, HE⟩ : ∃ E, Hid (checkE O = E) := ⟨_, rfl⟩
        rw [HE.out] at HAP
        have HCK := Lib.hid hck
        clear hck
        go_wp2_with fail
        refine HAP.out.mono ?_
        rintro e w3 ⟨rfl, hb3⟩
        have HBk3 := Lib.hid (bel_next HBk2.out hb3)
        have HBw3 := Lib.hid (bel_next HBw2.out hb3)
        have HOW3 := Lib.hid (HOW.out.below hb3)
        clear c0 c1 c2 c3
        obtain ⟨c0, c1, c2, c3⟩ := HF2.out.below hb3
        have HMV := Lib.hid (move_c (some ⟨go, 0, none⟩) co O m0 m1 w3 HOW3.out HWF.out HL.out)
        clear hb3 HAP
        go_wp2_with fail
        refine HMV.out.mono ?_
        intro e w4 hp
        rcases hp with ⟨_, rfl, hb4⟩ | ⟨h0, _⟩
        case inr => exact absurd h0 HCK.out
        rw [HE.out]
        have HN4 := Lib.hid hb4
        have HSM := Lib.hid (sameOutline_c none none 0 0 [] w4 (.inl rfl) (.inl rfl) ⟨by decide, fun c hc => by simp at hc⟩)
        simp only [List.length_nil] at HSM
        clear hb4 c0 c1 c2 c3 HMV
        go_wp2_with fail
        refine HSM.out.mono ?_
        rintro e w5 ⟨rfl, hb5⟩
        have HN5 := Lib.hid (bel_next HN4.out hb5)
        clear hb5 HN4 HSM
        go_wp2_with fail
        go_loopw [79] (fun x wq => x = .int .i64 0 ∧ Hid (Below w3.heap.size w3 wq)) (fun _ _ => 0)
        case atStart => exact ⟨rfl, HN5⟩
        case round =>
          clear HN5
          obtain ⟨rfl, HN⟩ := hrel
          have HSO := Lib.hid (sameOutline_c (some ⟨go, 0, none⟩) a co cap O wr (HOW3.out.below HN.out) ((HO.out.below HBw3.out).below HN.out) (longA_of HL.out))
          have HBk6 := Lib.hid (bel_next HBk3.out HN.out)
          go_wp2_with fail
          refine HSO.out.mono ?_
          rintro e w6 ⟨rfl, hb6⟩
          have HBk7 := Lib.hid (bel_next HBk6.out hb6)
          clear hb6 HSO
          go_wp2_with fail
          go_roundw
          case rel => exact ⟨2, by decide, by first | rfl | go_num, HBk7⟩
          case measure => decide
      case pos =>
        have HCK := Lib.hid hck
        have HAP := Lib.hid (apply_run a cap O 1 m0 m1 m2 m3 (fun k => sumOr k.x m0) (fun k => sumOr k.y m1) w2 (HO.out.below HBw2.out) HWF.out HL.out hck (fun k hk w => one1_c k m0 m1 m2 m3 w))
        unfold mapV at HAP
        clear hck
        go_wp2_with fail
        refine HAP.out.mono ?_
        intro e w3 hp3
        unfold RMapPost at hp3
        cases hmo : mapO (fun k => sumOr k.x m0) (fun k => sumOr k.y m1) O with
        | none =>
          rw [hmo] at hp3
          obtain ⟨rfl, hb3⟩ := hp3
          have HMO := Lib.hid hmo
          have HBk3 := Lib.hid (bel_next HBk2.out hb3)
          have HBw3 := Lib.hid (bel_next HBw2.out hb3)
          have HOW3 := Lib.hid (HOW.out.below hb3)
          clear c0 c1 c2 c3 hmo
          obtain ⟨c0, c1, c2, c3⟩ := HF2.out.below hb3
          have HMV := Lib.hid (move_c (some ⟨go, 0, none⟩) co O m0 m1 w3 HOW3.out HWF.out HL.out)
          clear hb3 HAP
          go_wp2_with fail
          refine HMV.out.mono ?_
          intro e w4 hp
          rcases hp with ⟨h0, _⟩ | ⟨_, hp⟩
          case inl => exact absurd HCK.out h0
          unfold MapPost at hp
          rw [HMO.out] at hp
          obtain ⟨rfl, hb4⟩ := hp
          have HN4 := Lib.hid hb4
          have HSM := Lib.hid (sameOutline_c none none 0 0 [] w4 (.inl rfl) (.inl rfl) ⟨by decide, fun c hc => by simp at hc⟩)
          simp only [List.length_nil] at HSM
          clear hb4 c0 c1 c2 c3 HMV
          go_wp2_with fail
          refine HSM.out.mono ?_
          rintro e w5 ⟨rfl, hb5⟩
          have HN5 := Lib.hid (bel_next HN4.out hb5)
          clear hb5 HN4 HSM
          go_wp2_with fail
          go_loopw [79] (fun x wq => x = .int .i64 0 ∧ Hid (Below w3.heap.size w3 wq)) (fun _ _ => 0)
          case atStart => exact ⟨rfl, HN5⟩
          case round =>
            clear HN5
            obtain ⟨rfl, HN⟩ := hrel
            have HSO := Lib.hid (sameOutline_c (some ⟨go, 0, none⟩) a co cap O wr (HOW3.out.below HN.out) ((HO.out.below HBw3.out).below HN.out) (longA_of HL.out))
            have HBk6 := Lib.hid (bel_next HBk3.out HN.out)
            go_wp2_with fail
            refine HSO.out.mono ?_
            rintro e w6 ⟨rfl, hb6⟩
            have HBk7 := Lib.hid (bel_next HBk6.out hb6)
            clear hb6 HSO
            go_wp2_with fail
            go_roundw
            case rel => exact ⟨2, by decide, by first | rfl | go_num, HBk7⟩
            case measure => decide
        | some P =>
          rw [hmo] at hp3
          obtain ⟨gw, cw, vw, rfl, how3, hrw3, hb3⟩ := hp3
          have HMO := Lib.hid hmo
          have HBk3 := Lib.hid (bel_next HBk2.out hb3)
          have HBw3 := Lib.hid (bel_next HBw2.out hb3)
          have HOW3 := Lib.hid (HOW.out.below hb3)
          have HWT := Lib.hid (hrw3.isO how3)
          obtain ⟨HLP, HMX, HPL⟩ := longA_map hmo HCK.out
          have HLP := Lib.hid HLP
          have HMX := Lib.hid HMX
          have HPL := Lib.hid HPL
          clear c0 c1 c2 c3 hmo how3 hrw3
          obtain ⟨c0, c1, c2, c3⟩ := HF2.out.below hb3
          have HMV := Lib.hid (move_c (some ⟨go, 0, none⟩) co O m0 m1 w3 HOW3.out HWF.out HL.out)
          clear hb3 HAP
          go_wp2_with fail
          refine HMV.out.mono ?_
          intro e w4 hp
          rcases hp with ⟨h0, _⟩ | ⟨_, hp⟩
          case inl => exact absurd HCK.out h0
          unfold MapPost at hp
          rw [HMO.out] at hp
          obtain ⟨G, vs, N, rfl, hout, hge, hb4⟩ := hp
          have HSM := Lib.hid (sameOutline_c (some ⟨G, 0, none⟩) (some ⟨gw, 0, none⟩) P.length cw P w4 hout.isO (HWT.out.below hb4) HLP.out)
          have HGT := Lib.hid (gots_of hout HMX.out)
          have HGE := Lib.hid hge
          have HN4 := Lib.hid hb4
          obtain ⟨p, HP⟩ : ∃ p, Hid (P.length = p) := ⟨_, rfl⟩
          rw [HP.out] at HSM HGT HPL
          rw [HP.out]
          clear hb4 hout hge c0 c1 c2 c3 HMV
          go_wp2_with fail
          refine HSM.out.mono ?_
          rintro e w5 ⟨rfl, hb5⟩
          have HN5 := Lib.hid (bel_next HN4.out hb5)
          have HG5 := Lib.hid (HGT.out.below hb5)
          clear hb5 HGT HN4 HSM
          go_wp2_with fail
          go_loopw [79] (fun x wq => ∃ i : Nat, ∃ vs : List Value, i ≤ p ∧ x = .int .i64 i ∧ Hid (Gots 3 37 35 wq G p i 4096 vs N) ∧ Hid (Below w3.heap.size w3 wq)) (fun x _ => p - (intOf x).toNat)
          case atStart => exact ⟨0, vs, Nat.zero_le _, rfl, HG5, HN5⟩
          case round =>
            clear HG5 HN5
            obtain ⟨i, vs, hip, rfl, HG, HN⟩ := hrel
            by_cases hlt : i < p
            · have hlt' : (i : Int) < (p : Int) := by omega
              have hi0 : (0 : Int) ≤ (i : Int) := by omega
              obtain ⟨a1, r1, e1, hv1, hr1, HRI, HG1⟩ := HG.out.take hlt
              obtain ⟨d0, d1⟩ := HG.out.cell hv1
              have HLT := Lib.hid hlt
              have HV1 := Lib.hid hv1
              have HR1 := Lib.hid hr1
              have HRI := Lib.hid HRI
              have HG1 := Lib.hid HG1
              have HX := Lib.hid (next64 (j := i) (by have := HPL.out; omega))
              clear hv1 hr1 hip hlt HG
              go_wp2_with fail
              clear d0 d1
              go_loopw [87] (fun x wq => ∃ j : Nat, j ≤ r1 ∧ x = .int .i64 j ∧ Hid (RowI 3 37 wq G p i N a1 r1 e1) ∧ Hid (Gots 3 37 35 wq G p (i + 1) 4096 vs N) ∧ Hid (Below w3.heap.size w3 wq)) (fun x _ => r1 - (intOf x).toNat)
              case atStart => exact ⟨0, Nat.zero_le _, rfl, HRI, HG1, HN⟩
              case round =>
                clear HRI HG1 HN
                obtain ⟨j, hjr, rfl, HRI, HG1, HN⟩ := hrel
                by_cases hjl : j < r1
                · have hjl' : (j : Int) < (r1 : Int) := by omega
                  have hj0 : (0 : Int) ≤ (j : Int) := by omega
                  obtain ⟨b, rfl, hGb, hbN⟩ := HRI.out.isSome (by omega)
                  obtain ⟨d0, d1⟩ := HG1.out.cell HV1.out
                  obtain ⟨⟨u0, q0⟩, z0⟩ := HRI.out.cell (j := j * 3) (by omega)
                  obtain ⟨⟨u1, q1⟩, z1⟩ := HRI.out.cell (j := j * 3 + 1) (by omega)
                  obtain ⟨⟨u2, q2⟩, z2⟩ := HRI.out.cell (j := j * 3 + 2) (by omega)
                  have HJL := Lib.hid hjl
                  have HXJ := Lib.hid (next64 (j := j) (by have := HR1.out; omega))
                  have HW3 : Hid (w3.heap.size ≤ b) := by have := HGE.out; unfold Hid; omega
                  have HRI2 := Lib.hid (((HRI.out.put (j * 3) (.int .i64 1)).put (j * 3 + 1) (.int .i64 2)).put (j * 3 + 2) (.int .i64 9))
                  have HG2 := Lib.hid (((HG1.out.put hGb hbN (j * 3) (.int .i64 1)).put hGb hbN (j * 3 + 1) (.int .i64 2)).put hGb hbN (j * 3 + 2) (.int .i64 9))
                  have HN2 := Lib.hid (bel_set (bel_set (bel_set HN.out HW3.out (.int .i64 1) (o := j * 3)) HW3.out (.int .i64 2) (o := j * 3 + 1)) HW3.out (.int .i64 9) (o := j * 3 + 2))
                  clear hjl hjr
                  go_wp2_with fail
                  go_roundw
                  case rel => exact ⟨j + 1, HJL.out, by first | rw [HXJ.out] | go_num, HRI2, HG2, HN2⟩
                  case measure => (try rw [HXJ.out]); have := HJL.out; simp only [intOf]; omega
                · have hjl' : ¬ (j : Int) < (r1 : Int) := by omega
                  clear hjl hjr
                  go_wp2_with fail
                  go_loopw [13] (fun x wq => ∃ t : Nat, ∃ (a2 : Option Addr) (r2 e2 : Nat) (vs2 : List Value), t ≤ 9 ∧ x = .int .i64 t ∧ Hid (vs2[i]? = some (.slice a2 r2 e2)) ∧ Hid (r2 ≤ 4096 + t) ∧ Hid (RowI 3 37 wq G p i N a2 r2 e2) ∧ Hid (Gots 3 37 35 wq G p (i + 1) 4096 vs2 N) ∧ Hid (Below w3.heap.size w3 wq)) (fun x _ => 9 - (intOf x).toNat)
                  case atStart => exact ⟨0, a1, r1, e1, vs, by decide, rfl, HV1, HR1, HRI, HG1, HN⟩
                  case round =>
                    clear HRI HG1 HN
                    obtain ⟨t, a2, r2, e2, vs2, ht9, rfl, HV2, HR2, HRI, HG1, HN⟩ := hrel
                    by_cases htl : t < 9
                    · have htl' : (t : Int) < 9 := by omega
                      obtain ⟨d0, d1⟩ := HG1.out.cell HV2.out
                      have HTL := Lib.hid htl
                      have HXT := Lib.hid (next64 (j := t) (by omega))
                      have HNA : Hid (Below wr.heap.size wr (wr.alloc (.cells #[.int .i64 0, .int .i64 0, .int .i64 8] 37))) := (Below.refl _ _).alloc (Nat.le_refl _) _
                      have HRA := Lib.hid (HRI.out.below HNA.out)
                      have HGA := Lib.hid (HG1.out.below HNA.out)
                      have HNX := Lib.hid (bel_to HN.out HNA.out HN.out.size)
                      have HGS : Hid (G < wr.heap.size) := (Array.getElem?_eq_some_iff.1 HG1.out.blk).1
                      obtain ⟨xs, hxo, hxn⟩ := HRA.out
                      have HXO := Lib.hid hxo
                      clear htl ht9 hxo hxn
                      go_wp2_with (at_builtin; refine wpList_appA elK rfl _ _ rfl (wr.alloc (.cells #[.int .i64 0, .int .i64 0, .int .i64 8] 37)) (G + 1) a2 r2 e2 xs wr.heap.size 1 1 [.int .i64 0, .int .i64 0, .int .i64 8] rfl rfl HXO.out rfl (lies_new (w := wr) (cs := #[.int .i64 0, .int .i64 0, .int .i64 8]) (T := 37)) (by simp [Value.oneCell']) (by decide) (by have := HR2.out; have := HTL.out; omega) (by have := HR2.out; have := HTL.out; omega) (by have := HGS.out; simp; omega) ?_; intro g8 c8 w8 ho8 hg8 hat8; have x0 := (HGA.out.appCell HRA.out hg8 HV2.out).1; have x1 := (HGA.out.appCell HRA.out hg8 HV2.out).2)
                      obtain ⟨y0, y1, y2⟩ := HGA.out.app HRA.out HLT.out ho8 hg8 hat8
                      have HN8 := Lib.hid (bel_set (belGr HNX.out hg8 (HRA.out.ge HGE.out) HNX.out.size) HGE.out (.slice (some ⟨g8, 0, none⟩) (r2 + 1) c8) (o := i))
                      have Y0 := Lib.hid y0
                      have Y1 := Lib.hid y1
                      have Y2 := Lib.hid y2
                      have HR8 : Hid (r2 + 1 ≤ 4096 + (t + 1)) := by have := HR2.out; unfold Hid; omega
                      clear ho8 hg8 hat8 x0 x1 y0 y1 y2 d0 d1
                      go_wp2_with fail
                      go_roundw
                      case rel => exact ⟨t + 1, _, _, _, _, HTL.out, by first | rw [HXT.out] | go_num, Y1, HR8, Y2, Y0, HN8⟩
                      case measure => (try rw [HXT.out]); have := HTL.out; simp only [intOf]; omega
                    · have htl' : ¬ (t : Int) < 9 := by omega
                      go_wp2_with fail
                      go_roundw
                      case rel => exact ⟨i + 1, vs2, HLT.out, by first | rw [HX.out] | go_num, HG1, HN⟩
                      case measure => (try rw [HX.out]); have := HLT.out; simp only [intOf]; omega
            · have hlt' : ¬ (i : Int) < (p : Int) := by omega
              have HSO := Lib.hid (sameOutline_c (some ⟨go, 0, none⟩) a co cap O wr (HOW3.out.below HN.out) ((HO.out.below HBw3.out).below HN.out) (longA_of HL.out))
              have HBk6 := Lib.hid (bel_next HBk3.out HN.out)
              clear hlt hip
              go_wp2_with fail
              refine HSO.out.mono ?_
              rintro e w6 ⟨rfl, hb6⟩
              have HBk7 := Lib.hid (bel_next HBk6.out hb6)
              clear hb6 HSO
              go_wp2_with fail
              go_roundw
              case rel => exact ⟨2, by decide, by first | rfl | go_num, HBk7⟩
              case measure => decide
    · clear hkd
      go_wp2_with fail
      refine (copy_c a cap O wr (HO.out.below HBw.out) HL.out).mono ?_
      rintro e w2 ⟨go, co, vso, rfl, ho2, hr2, hb2⟩
      have HBk2 := Lib.hid (bel_next HBk.out hb2)
      have HBw2 := Lib.hid (bel_next HBw.out hb2)
      have HOW := Lib.hid (hr2.isO ho2)
      obtain ⟨c0, c1, c2, c3⟩ := HF.out.below hb2
      have HF2 := Lib.hid (HF.out.below hb2)
      clear ho2 hr2 hb2
      by_cases hck : checkE O = 0
      case neg =>
        have HAP := Lib.hid (apply_refused a cap O 2 m0 m1 m2 m3 w2 (HO.out.below HBw2.out) HL.out hck)
        unfold mapV at HAP
        obtain ⟨E, HE⟩ : ∃ E, Hid (checkE O = E) := ⟨_, rfl⟩
        rw [HE.out] at HAP
        have HCK := Lib.hid hck
        clear hck
        go_wp2_with fail
        refine HAP.out.mono ?_
        rintro e w3 ⟨rfl, hb3⟩
        have HBk3 := Lib.hid (bel_next HBk2.out hb3)
        have HBw3 := Lib.hid (bel_next HBw2.out hb3)
        have HOW3 := Lib.hid (HOW.out.below hb3)
        clear c0 c1 c2 c3
        obtain ⟨c0, c1, c2, c3⟩ := HF2.out.below hb3
        have HMV := Lib.hid (turn_c (some ⟨go, 0, none⟩) co O m0 m1 m2 m3 w3 HOW3.out HWF.out HL.out)
        clear hb3 HAP
        go_wp2_with fail
        refine HMV.out.mono ?_
        intro e w4 hp
        rcases hp with ⟨_, rfl, hb4⟩ | ⟨h0, _⟩
        case inr => exact absurd h0 HCK.out
        rw [HE.out]
        have HN4 := Lib.hid hb4
        have HSM := Lib.hid (sameOutline_c none none 0 0 [] w4 (.inl rfl) (.inl rfl) ⟨by decide, fun c hc => by simp at hc⟩)
        simp only [List.length_nil] at HSM
        clear hb4 c0 c1 c2 c3 HMV
        go_wp2_with fail
        refine HSM.out.mono ?_
        rintro e w5 ⟨rfl, hb5⟩
        have HN5 := Lib.hid (bel_next HN4.out hb5)
        clear hb5 HN4 HSM
        go_wp2_with fail
        go_loopw [79] (fun x wq => x = .int .i64 0 ∧ Hid (Below w3.heap.size w3 wq)) (fun _ _ => 0)
        case atStart => exact ⟨rfl, HN5⟩
        case round =>
          clear HN5
          obtain ⟨rfl, HN⟩ := hrel
          have HSO := Lib.hid (sameOutline_c (some ⟨go, 0, none⟩) a co cap O wr (HOW3.out.below HN.out) ((HO.out.below HBw3.out).below HN.out) (longA_of HL.out))
          have HBk6 := Lib.hid (bel_next HBk3.out HN.out)
          go_wp2_with fail
          refine HSO.out.mono ?_
          rintro e w6 ⟨rfl, hb6⟩
          have HBk7 := Lib.hid (bel_next HBk6.out hb6)
          clear hb6 HSO
          go_wp2_with fail
          go_roundw
          case rel => exact ⟨3, by decide, by first | rfl | go_num, HBk7⟩
          case measure => decide
      case pos =>
        have HCK := Lib.hid hck
        have HAP := Lib.hid (apply_run a cap O 2 m0 m1 m2 m3 (fun k => dotOr m0 m1 k.x k.y) (fun k => dotOr m2 m3 k.x k.y) w2 (HO.out.below HBw2.out) HWF.out HL.out hck (fun k hk w => one2_c k m0 m1 m2 m3 w))
        unfold mapV at HAP
        clear hck
        go_wp2_with fail
        refine HAP.out.mono ?_
        intro e w3 hp3
        unfold RMapPost at hp3
        cases hmo : mapO (fun k => dotOr m0 m1 k.x k.y) (fun k => dotOr m2 m3 k.x k.y) O with
        | none =>
          rw [hmo] at hp3
          obtain ⟨rfl, hb3⟩ := hp3
          have HMO := Lib.hid hmo
          have HBk3 := Lib.hid (bel_next HBk2.out hb3)
          have HBw3 := Lib.hid (bel_next HBw2.out hb3)
          have HOW3 := Lib.hid (HOW.out.below hb3)
          clear c0 c1 c2 c3 hmo
          obtain ⟨c0, c1, c2, c3⟩ := HF2.out.below hb3
          have HMV := Lib.hid (turn_c (some ⟨go, 0, none⟩) co O m0 m1 m2 m3 w3 HOW3.out HWF.out HL.out)
          clear hb3 HAP
          go_wp2_with fail
          refine HMV.out.mono ?_
          intro e w4 hp
          rcases hp with ⟨h0, _⟩ | ⟨_, hp⟩
          case inl => exact absurd HCK.out h0
          unfold MapPost at hp
          rw [HMO.out] at hp
          obtain ⟨rfl, hb4⟩ := hp
          have HN4 := Lib.hid hb4
          have HSM := Lib.hid (sameOutline_c none none 0 0 [] w4 (.inl rfl) (.inl rfl) ⟨by decide, fun c hc => by simp at hc⟩)
          simp only [List.length_nil] at HSM
          clear hb4 c0 c1 c2 c3 HMV
          go_wp2_with fail
          refine HSM.out.mono ?_
          rintro e w5 ⟨rfl, hb5⟩
          have HN5 := Lib.hid (bel_next HN4.out hb5)
          clear hb5 HN4 HSM
          go_wp2_with fail
          go_loopw [79] (fun x wq => x = .int .i64 0 ∧ Hid (Below w3.heap.size w3 wq)) (fun _ _ => 0)
          case atStart => exact ⟨rfl, HN5⟩
          case round =>
            clear HN5
            obtain ⟨rfl, HN⟩ := hrel
            have HSO := Lib.hid (sameOutline_c (some ⟨go, 0, none⟩) a co cap O wr (HOW3.out.below HN.out) ((HO.out.below HBw3.out).below HN.out) (longA_of HL.out))
            have HBk6 := Lib.hid (bel_next HBk3.out HN.out)
            go_wp2_with fail
            refine HSO.out.mono ?_
            rintro e w6 ⟨rfl, hb6⟩
            have HBk7 := Lib.hid (bel_next HBk6.out hb6)
            clear hb6 HSO
            go_wp2_with fail
            go_roundw
            case rel => exact ⟨3, by decide, by first | rfl | go_num, HBk7⟩
            case measure => decide
        | some P =>
          rw [hmo] at hp3
          obtain ⟨gw, cw, vw, rfl, how3, hrw3, hb3⟩ := hp3
          have HMO := Lib.hid hmo
          have HBk3 := Lib.hid (bel_next HBk2.out hb3)
          have HBw3 := Lib.hid (bel_next HBw2.out hb3)
          have HOW3 := Lib.hid (HOW.out.below hb3)
          have HWT := Lib.hid (hrw3.isO how3)
          obtain ⟨HLP, HMX, HPL⟩ := longA_map hmo HCK.out
          have HLP := Lib.hid HLP
          have HMX := Lib.hid HMX
          have HPL := Lib.hid HPL
          clear c0 c1 c2 c3 hmo how3 hrw3
          obtain ⟨c0, c1, c2, c3⟩ := HF2.out.below hb3
          have HMV := Lib.hid (turn_c (some ⟨go, 0, none⟩) co O m0 m1 m2 m3 w3 HOW3.out HWF.out HL.out)
          clear hb3 HAP
          go_wp2_with fail
          refine HMV.out.mono ?_
          intro e w4 hp
          rcases hp with ⟨h0, _⟩ | ⟨_, hp⟩
          case inl => exact absurd HCK.out h0
          unfold MapPost at hp
          rw [HMO.out] at hp
          obtain ⟨G, vs, N, rfl, hout, hge, hb4⟩ := hp
          have HSM := Lib.hid (sameOutline_c (some ⟨G, 0, none⟩) (some ⟨gw, 0, none⟩) P.length cw P w4 hout.isO (HWT.out.below hb4) HLP.out)
          have HGT := Lib.hid (gots_of hout HMX.out)
          have HGE := Lib.hid hge
          have HN4 := Lib.hid hb4
          obtain ⟨p, HP⟩ : ∃ p, Hid (P.length = p) := ⟨_, rfl⟩
          rw [HP.out] at HSM HGT HPL
          rw [HP.out]
          clear hb4 hout hge c0 c1 c2 c3 HMV
          go_wp2_with fail
          refine HSM.out.mono ?_
          rintro e w5 ⟨rfl, hb5⟩
          have HN5 := Lib.hid (bel_next HN4.out hb5)
          have HG5 := Lib.hid (HGT.out.below hb5)
          clear hb5 HGT HN4 HSM
          go_wp2_with fail
          go_loopw [79] (fun x wq => ∃ i : Nat, ∃ vs : List Value, i ≤ p ∧ x = .int .i64 i ∧ Hid (Gots 3 37 35 wq G p i 4096 vs N) ∧ Hid (Below w3.heap.size w3 wq)) (fun x _ => p - (intOf x).toNat)
          case atStart => exact ⟨0, vs, Nat.zero_le _, rfl, HG5, HN5⟩
          case round =>
            clear HG5 HN5
            obtain ⟨i, vs, hip, rfl, HG, HN⟩ := hrel
            by_cases hlt : i < p
            · have hlt' : (i : Int) < (p : Int) := by omega
              have hi0 : (0 : Int) ≤ (i : Int) := by omega
              obtain ⟨a1, r1, e1, hv1, hr1, HRI, HG1⟩ := HG.out.take hlt
              obtain ⟨d0, d1⟩ := HG.out.cell hv1
              have HLT := Lib.hid hlt
              have HV1 := Lib.hid hv1
              have HR1 := Lib.hid hr1
              have HRI := Lib.hid HRI
              have HG1 := Lib.hid HG1
              have HX := Lib.hid (next64 (j := i) (by have := HPL.out; omega))
              clear hv1 hr1 hip hlt HG
              go_wp2_with fail
              clear d0 d1
              go_loopw [87] (fun x wq => ∃ j : Nat, j ≤ r1 ∧ x = .int .i64 j ∧ Hid (RowI 3 37 wq G p i N a1 r1 e1) ∧ Hid (Gots 3 37 35 wq G p (i + 1) 4096 vs N) ∧ Hid (Below w3.heap.size w3 wq)) (fun x _ => r1 - (intOf x).toNat)
              case atStart => exact ⟨0, Nat.zero_le _, rfl, HRI, HG1, HN⟩
              case round =>
                clear HRI HG1 HN
                obtain ⟨j, hjr, rfl, HRI, HG1, HN⟩ := hrel
                by_cases hjl : j < r1
                · have hjl' : (j : Int) < (r1 : Int) := by omega
                  have hj0 : (0 : Int) ≤ (j : Int) := by omega
                  obtain ⟨b, rfl, hGb, hbN⟩ := HRI.out.isSome (by omega)
                  obtain ⟨d0, d1⟩ := HG1.out.cell HV1.out
                  obtain ⟨⟨u0, q0⟩, z0⟩ := HRI.out.cell (j := j * 3) (by omega)
                  obtain ⟨⟨u1, q1⟩, z1⟩ := HRI.out.cell (j := j * 3 + 1) (by omega)
                  obtain ⟨⟨u2, q2⟩, z2⟩ := HRI.out.cell (j := j * 3 + 2) (by omega)
                  have HJL := Lib.hid hjl
                  have HXJ := Lib.hid (next64 (j := j) (by have := HR1.out; omega))
                  have HW3 : Hid (w3.heap.size ≤ b) := by have := HGE.out; unfold Hid; omega
                  have HRI2 := Lib.hid (((HRI.out.put (j * 3) (.int .i64 1)).put (j * 3 + 1) (.int .i64 2)).put (j * 3 + 2) (.int .i64 9))
                  have HG2 := Lib.hid (((HG1.out.put hGb hbN (j * 3) (.int .i64 1)).put hGb hbN (j * 3 + 1) (.int .i64 2)).put hGb hbN (j * 3 + 2) (.int .i64 9))
                  have HN2 := Lib.hid (bel_set (bel_set (bel_set HN.out HW3.out (.int .i64 1) (o := j * 3)) HW3.out (.int .i64 2) (o := j * 3 + 1)) HW3.out (.int .i64 9) (o := j * 3 + 2))
                  clear hjl hjr
                  go_wp2_with fail
                  go_roundw
                  case rel => exact ⟨j + 1, HJL.out, by first | rw [HXJ.out] | go_num, HRI2, HG2, HN2⟩
                  case measure => (try rw [HXJ.out]); have := HJL.out; simp only [intOf]; omega
                · have hjl' : ¬ (j : Int) < (r1 : Int) := by omega
                  clear hjl hjr
                  go_wp2_with fail
                  go_loopw [13] (fun x wq => ∃ t : Nat, ∃ (a2 : Option Addr) (r2 e2 : Nat) (vs2 : List Value), t ≤ 9 ∧ x = .int .i64 t ∧ Hid (vs2[i]? = some (.slice a2 r2 e2)) ∧ Hid (r2 ≤ 4096 + t) ∧ Hid (RowI 3 37 wq G p i N a2 r2 e2) ∧ Hid (Gots 3 37 35 wq G p (i + 1) 4096 vs2 N) ∧ Hid (Below w3.heap.size w3 wq)) (fun x _ => 9 - (intOf x).toNat)
                  case atStart => exact ⟨0, a1, r1, e1, vs, by decide, rfl, HV1, HR1, HRI, HG1, HN⟩
                  case round =>
                    clear HRI HG1 HN
                    obtain ⟨t, a2, r2, e2, vs2, ht9, rfl, HV2, HR2, HRI, HG1, HN⟩ := hrel
                    by_cases htl : t < 9
                    · have htl' : (t : Int) < 9 := by omega
                      obtain ⟨d0, d1⟩ := HG1.out.cell HV2.out
                      have HTL := Lib.hid htl
                      have HXT := Lib.hid (next64 (j := t) (by omega))
                      have HNA : Hid (Below wr.heap.size wr (wr.alloc (.cells #[.int .i64 0, .int .i64 0, .int .i64 8] 37))) := (Below.refl _ _).alloc (Nat.le_refl _) _
                      have HRA := Lib.hid (HRI.out.below HNA.out)
                      have HGA := Lib.hid (HG1.out.below HNA.out)
                      have HNX := Lib.hid (bel_to HN.out HNA.out HN.out.size)
                      have HGS : Hid (G < wr.heap.size) := (Array.getElem?_eq_some_iff.1 HG1.out.blk).1
                      obtain ⟨xs, hxo, hxn⟩ := HRA.out
                      have HXO := Lib.hid hxo
                      clear htl ht9 hxo hxn
                      go_wp2_with (at_builtin; refine wpList_appA elK rfl _ _ rfl (wr.alloc (.cells #[.int .i64 0, .int .i64 0, .int .i64 8] 37)) (G + 1) a2 r2 e2 xs wr.heap.size 1 1 [.int .i64 0, .int .i64 0, .int .i64 8] rfl rfl HXO.out rfl (lies_new (w := wr) (cs := #[.int .i64 0, .int .i64 0, .int .i64 8]) (T := 37)) (by simp [Value.oneCell']) (by decide) (by have := HR2.out; have := HTL.out; omega) (by have := HR2.out; have := HTL.out; omega) (by have := HGS.out; simp; omega) ?_; intro g8 c8 w8 ho8 hg8 hat8; have x0 := (HGA.out.appCell HRA.out hg8 HV2.out).1; have x1 := (HGA.out.appCell HRA.out hg8 HV2.out).2)
                      obtain ⟨y0, y1, y2⟩ := HGA.out.app HRA.out HLT.out ho8 hg8 hat8
                      have HN8 := Lib.hid (bel_set (belGr HNX.out hg8 (HRA.out.ge HGE.out) HNX.out.size) HGE.out (.slice (some ⟨g8, 0, none⟩) (r2 + 1) c8) (o := i))
                      have Y0 := Lib.hid y0
                      have Y1 := Lib.hid y1
                      have Y2 := Lib.hid y2
                      have HR8 : Hid (r2 + 1 ≤ 4096 + (t + 1)) := by have := HR2.out; unfold Hid; omega
                      clear ho8 hg8 hat8 x0 x1 y0 y1 y2 d0 d1
                      go_wp2_with fail
                      go_roundw
                      case rel => exact ⟨t + 1, _, _, _, _, HTL.out, by first | rw [HXT.out] | go_num, Y1, HR8, Y2, Y0, HN8⟩
                      case measure => (try rw [HXT.out]); have := HTL.out; simp only [intOf]; omega
                    · have htl' : ¬ (t : Int) < 9 := by omega
                      go_wp2_with fail
                      go_roundw
                      case rel => exact ⟨i + 1, vs2, HLT.out, by first | rw [HX.out] | go_num, HG1, HN⟩
                      case measure => (try rw [HX.out]); have := HLT.out; simp only [intOf]; omega
            · have hlt' : ¬ (i : Int) < (p : Int) := by omega
              have HSO := Lib.hid (sameOutline_c (some ⟨go, 0, none⟩) a co cap O wr (HOW3.out.below HN.out) ((HO.out.below HBw3.out).below HN.out) (longA_of HL.out))
              have HBk6 := Lib.hid (bel_next HBk3.out HN.out)
              clear hlt hip
              go_wp2_with fail
              refine HSO.out.mono ?_
              rintro e w6 ⟨rfl, hb6⟩
              have HBk7 := Lib.hid (bel_next HBk6.out hb6)
              clear hb6 HSO
              go_wp2_with fail
              go_roundw
              case rel => exact ⟨3, by decide, by first | rfl | go_num, HBk7⟩
              case measure => decide
    · clear hkd
      go_wp2_with fail
      refine (copy_c a cap O wr (HO.out.below HBw.out) HL.out).mono ?_
      rintro e w2 ⟨go, co, vso, rfl, ho2, hr2, hb2⟩
      have HBk2 := Lib.hid (bel_next HBk.out hb2)
      have HBw2 := Lib.hid (bel_next HBw.out hb2)
      have HOW := Lib.hid (hr2.isO ho2)
      obtain ⟨c0, c1, c2, c3⟩ := HF.out.below hb2
      have HF2 := Lib.hid (HF.out.below hb2)
      clear ho2 hr2 hb2
      by_cases hck : checkE O = 0
      case neg =>
        have HAP := Lib.hid (apply_refused a cap O 3 m0 m1 m2 m3 w2 (HO.out.below HBw2.out) HL.out hck)
        unfold mapV at HAP
        obtain ⟨E, HE⟩ : ∃ E, Hid (checkE O = E) := ⟨_, rfl⟩
        rw [HE.out] at HAP
        have HCK := Lib.hid hck
        clear hck
        go_wp2_with fail
        refine HAP.out.mono ?_
        rintro e w3 ⟨rfl, hb3⟩
        have HBk3 := Lib.hid (bel_next HBk2.out hb3)
        have HBw3 := Lib.hid (bel_next HBw2.out hb3)
        have HOW3 := Lib.hid (HOW.out.below hb3)
        clear c0 c1 c2 c3
        obtain ⟨c0, c1, c2, c3⟩ := HF2.out.below hb3
        have HMV := Lib.hid (resize_c (some ⟨go, 0, none⟩) co O m0 m1 w3 HOW3.out HWF.out HL.out HM.out.1 HM.out.2.1)
        clear hb3 HAP
        go_wp2_with fail
        refine HMV.out.mono ?_
        intro e w4 hp
        rcases hp with ⟨_, rfl, hb4⟩ | ⟨h0, _⟩
        case inr => exact absurd h0 HCK.out
        rw [HE.out]
        have HN4 := Lib.hid hb4
        have HSM := Lib.hid (sameOutline_c none none 0 0 [] w4 (.inl rfl) (.inl rfl) ⟨by decide, fun c hc => by simp at hc⟩)
        simp only [List.length_nil] at HSM
        clear hb4 c0 c1 c2 c3 HMV
        go_wp2_with fail
        refine HSM.out.mono ?_
        rintro e w5 ⟨rfl, hb5⟩
        have HN5 := Lib.hid (bel_next HN4.out hb5)
        clear hb5 HN4 HSM
        go_wp2_with fail
        go_loopw [79] (fun x wq => x = .int .i64 0 ∧ Hid (Below w3.heap.size w3 wq)) (fun _ _ => 0)
        case atStart => exact ⟨rfl, HN5⟩
        case round =>
          clear HN5
          obtain ⟨rfl, HN⟩ := hrel
          have HSO := Lib.hid (sameOutline_c (some ⟨go, 0, none⟩) a co cap O wr (HOW3.out.below HN.out) ((HO.out.below HBw3.out).below HN.out) (longA_of HL.out))
          have HBk6 := Lib.hid (bel_next HBk3.out HN.out)
          go_wp2_with fail
          refine HSO.out.mono ?_
          rintro e w6 ⟨rfl, hb6⟩
          have HBk7 := Lib.hid (bel_next HBk6.out hb6)
          clear hb6 HSO
          go_wp2_with fail
          go_roundw
          case rel => exact ⟨4, by decide, by first | rfl | go_num, HBk7⟩
          case measure => decide
      case pos =>
        have HCK := Lib.hid hck
        have HAP := Lib.hid (apply_run a cap O 3 m0 m1 m2 m3 (fun k => mulDiv k.x m0 m1) (fun k => mulDiv k.y m0 m1) w2 (HO.out.below HBw2.out) HWF.out HL.out hck (fun k hk w => one3_c k m0 m1 m2 m3 w (wf_x hk) (wf_y hk) HM.out.1 HM.out.2.1))
        unfold mapV at HAP
        clear hck
        go_wp2_with fail
        refine HAP.out.mono ?_
        intro e w3 hp3
        unfold RMapPost at hp3
        cases hmo : mapO (fun k => mulDiv k.x m0 m1) (fun k => mulDiv k.y m0 m1) O with
        | none =>
          rw [hmo] at hp3
          obtain ⟨rfl, hb3⟩ := hp3
          have HMO := Lib.hid hmo
          have HBk3 := Lib.hid (bel_next HBk2.out hb3)
          have HBw3 := Lib.hid (bel_next HBw2.out hb3)
          have HOW3 := Lib.hid (HOW.out.below hb3)
          clear c0 c1 c2 c3 hmo
          obtain ⟨c0, c1, c2, c3⟩ := HF2.out.below hb3
          have HMV := Lib.hid (resize_c (some ⟨go, 0, none⟩) co O m0 m1 w3 HOW3.out HWF.out HL.out HM.out.1 HM.out.2.1)
          clear hb3 HAP
          go_wp2_with fail
          refine HMV.out.mono ?_
          intro e w4 hp
          rcases hp with ⟨h0, _⟩ | ⟨_, hp⟩
          case inl => exact absurd HCK.out h0
          unfold MapPost at hp
          rw [HMO.out] at hp
          obtain ⟨rfl, hb4⟩ := hp
          have HN4 := Lib.hid hb4
          have HSM := Lib.hid (sameOutline_c none none 0 0 [] w4 (.inl rfl) (.inl rfl) ⟨by decide, fun c hc => by simp at hc⟩)
          simp only [List.length_nil] at HSM
          clear hb4 c0 c1 c2 c3 HMV
          go_wp2_with fail
          refine HSM.out.mono ?_
          rintro e w5 ⟨rfl, hb5⟩
          have HN5 := Lib.hid (bel_next HN4.out hb5)
          clear hb5 HN4 HSM
          go_wp2_with fail
          go_loopw [79] (fun x wq => x = .int .i64 0 ∧ Hid (Below w3.heap.size w3 wq)) (fun _ _ => 0)
          case atStart => exact ⟨rfl, HN5⟩
          case round =>
            clear HN5
            obtain ⟨rfl, HN⟩ := hrel
            have HSO := Lib.hid (sameOutline_c (some ⟨go, 0, none⟩) a co cap O wr (HOW3.out.below HN.out) ((HO.out.below HBw3.out).below HN.out) (longA_of HL.out))
            have HBk6 := Lib.hid (bel_next HBk3.out HN.out)
            go_wp2_with fail
            refine HSO.out.mono ?_
            rintro e w6 ⟨rfl, hb6⟩
            have HBk7 := Lib.hid (bel_next HBk6.out hb6)
            clear hb6 HSO
            go_wp2_with fail
            go_roundw
            case rel => exact ⟨4, by decide, by first | rfl | go_num, HBk7⟩
            case measure => decide
        | some P =>
          rw [hmo] at hp3
          obtain ⟨gw, cw, vw, rfl, how3, hrw3, hb3⟩ := hp3
          have HMO := Lib.hid hmo
          have HBk3 := Lib.hid (bel_next HBk2.out hb3)
          have HBw3 := Lib.hid (bel_next HBw2.out hb3)
          have HOW3 := Lib.hid (HOW.out.below hb3)
          have HWT := Lib.hid (hrw3.isO how3)
          obtain ⟨HLP, HMX, HPL⟩ := longA_map hmo HCK.out
          have HLP := Lib.hid HLP
          have HMX := Lib.hid HMX
          have HPL := Lib.hid HPL
          clear c0 c1 c2 c3 hmo how3 hrw3
          obtain ⟨c0, c1, c2, c3⟩ := HF2.out.below hb3
          have HMV := Lib.hid (resize_c (some ⟨go, 0, none⟩) co O m0 m1 w3 HOW3.out HWF.out HL.out HM.out.1 HM.out.2.1)
          clear hb3 HAP
          go_wp2_with fail
          refine HMV.out.mono ?_
          intro e w4 hp
          rcases hp with ⟨h0, _⟩ | ⟨_, hp⟩
          case inl => exact absurd HCK.out h0
          unfold MapPost at hp
          rw [HMO.out] at hp
          obtain ⟨G, vs, N, rfl, hout, hge, hb4⟩ := hp
          have HSM := Lib.hid (sameOutline_c (some ⟨G, 0, none⟩) (some ⟨gw, 0, none⟩) P.length cw P w4 hout.isO (HWT.out.below hb4) HLP.out)
          have HGT := Lib.hid (gots_of hout HMX.out)
          have HGE := Lib.hid hge
          have HN4 := Lib.hid hb4
          obtain ⟨p, HP⟩ : ∃ p, Hid (P.length = p) := ⟨_, rfl⟩
          rw [HP.out] at HSM HGT HPL
          rw [HP.out]
          clear hb4 hout hge c0 c1 c2 c3 HMV
          go_wp2_with fail
          refine HSM.out.mono ?_
          rintro e w5 ⟨rfl, hb5⟩
          have HN5 := Lib.hid (bel_next HN4.out hb5)
          have HG5 := Lib.hid (HGT.out.below hb5)
          clear hb5 HGT HN4 HSM
          go_wp2_with fail
          go_loopw [79] (fun x wq => ∃ i : Nat, ∃ vs : List Value, i ≤ p ∧ x = .int .i64 i ∧ Hid (Gots 3 37 35 wq G p i 4096 vs N) ∧ Hid (Below w3.heap.size w3 wq)) (fun x _ => p - (intOf x).toNat)
          case atStart => exact ⟨0, vs, Nat.zero_le _, rfl, HG5, HN5⟩
          case round =>
            clear HG5 HN5
            obtain ⟨i, vs, hip, rfl, HG, HN⟩ := hrel
            by_cases hlt : i < p
            · have hlt' : (i : Int) < (p : Int) := by omega
              have hi0 : (0 : Int) ≤ (i : Int) := by omega
              obtain ⟨a1, r1, e1, hv1, hr1, HRI, HG1⟩ := HG.out.take hlt
              obtain ⟨d0, d1⟩ := HG.out.cell hv1
              have HLT := Lib.hid hlt
              have HV1 := Lib.hid hv1
              have HR1 := Lib.hid hr1
              have HRI := Lib.hid HRI
              have HG1 := Lib.hid HG1
              have HX := Lib.hid (next64 (j := i) (by have := HPL.out; omega))
              clear hv1 hr1 hip hlt HG
              go_wp2_with fail
              clear d0 d1
              go_loopw [87] (fun x wq => ∃ j : Nat, j ≤ r1 ∧ x = .int .i64 j ∧ Hid (RowI 3 37 wq G p i N a1 r1 e1) ∧ Hid (Gots 3 37 35 wq G p (i + 1) 4096 vs N) ∧ Hid (Below w3.heap.size w3 wq)) (fun x _ => r1 - (intOf x).toNat)
              case atStart => exact ⟨0, Nat.zero_le _, rfl, HRI, HG1, HN⟩
              case round =>
                clear HRI HG1 HN
                obtain ⟨j, hjr, rfl, HRI, HG1, HN⟩ := hrel
                by_cases hjl : j < r1
                · have hjl' : (j : Int) < (r1 : Int) := by omega
                  have hj0 : (0 : Int) ≤ (j : Int) := by omega
                  obtain ⟨b, rfl, hGb, hbN⟩ := HRI.out.isSome (by omega)
                  obtain ⟨d0, d1⟩ := HG1.out.cell HV1.out
                  obtain ⟨⟨u0, q0⟩, z0⟩ := HRI.out.cell (j := j * 3) (by omega)
                  obtain ⟨⟨u1, q1⟩, z1⟩ := HRI.out.cell (j := j * 3 + 1) (by omega)
                  obtain ⟨⟨u2, q2⟩, z2⟩ := HRI.out.cell (j := j * 3 + 2) (by omega)
                  have HJL := Lib.hid hjl
                  have HXJ := Lib.hid (next64 (j := j) (by have := HR1.out; omega))
                  have HW3 : Hid (w3.heap.size ≤ b) := by have := HGE.out; unfold Hid; omega
                  have HRI2 := Lib.hid (((HRI.out.put (j * 3) (.int .i64 1)).put (j * 3 + 1) (.int .i64 2)).put (j * 3 + 2) (.int .i64 9))
                  have HG2 := Lib.hid (((HG1.out.put hGb hbN (j * 3) (.int .i64 1)).put hGb hbN (j * 3 + 1) (.int .i64 2)).put hGb hbN (j * 3 + 2) (.int .i64 9))
                  have HN2 := Lib.hid (bel_set (bel_set (bel_set HN.out HW3.out (.int .i64 1) (o := j * 3)) HW3.out (.int .i64 2) (o := j * 3 + 1)) HW3.out (.int .i64 9) (o := j * 3 + 2))
                  clear hjl hjr
                  go_wp2_with fail
                  go_roundw
                  case rel => exact ⟨j + 1, HJL.out, by first | rw [HXJ.out] | go_num, HRI2, HG2, HN2⟩
                  case measure => (try rw [HXJ.out]); have := HJL.out; simp only [intOf]; omega
                · have hjl' : ¬ (j : Int) < (r1 : Int) := by omega
                  clear hjl hjr
                  go_wp2_with fail
                  go_loopw [13] (fun x wq => ∃ t : Nat, ∃ (a2 : Option Addr) (r2 e2 : Nat) (vs2 : List Value), t ≤ 9 ∧ x = .int .i64 t ∧ Hid (vs2[i]? = some (.slice a2 r2 e2)) ∧ Hid (r2 ≤ 4096 + t) ∧ Hid (RowI 3 37 wq G p i N a2 r2 e2) ∧ Hid (Gots 3 37 35 wq G p (i + 1) 4096 vs2 N) ∧ Hid (Below w3.heap.size w3 wq)) (fun x _ => 9 - (intOf x).toNat)
                  case atStart => exact ⟨0, a1, r1, e1, vs, by decide, rfl, HV1, HR1, HRI, HG1, HN⟩
                  case round =>
                    clear HRI HG1 HN
                    obtain ⟨t, a2, r2, e2, vs2, ht9, rfl, HV2, HR2, HRI, HG1, HN⟩ := hrel
                    by_cases htl : t < 9
                    · have htl' : (t : Int) < 9 := by omega
                      obtain ⟨d0, d1⟩ := HG1.out.cell HV2.out
                      have HTL := Lib.hid htl
                      have HXT := Lib.hid (next64 (j := t) (by omega))
                      have HNA : Hid (Below wr.heap.size wr (wr.alloc (.cells #[.int .i64 0, .int .i64 0, .int .i64 8] 37))) := (Below.refl _ _).alloc (Nat.le_refl _) _
                      have HRA := Lib.hid (HRI.out.below HNA.out)
                      have HGA := Lib.hid (HG1.out.below HNA.out)
                      have HNX := Lib.hid (bel_to HN.out HNA.out HN.out.size)
                      have HGS : Hid (G < wr.heap.size) := (Array.getElem?_eq_some_iff.1 HG1.out.blk).1
                      obtain ⟨xs, hxo, hxn⟩ := HRA.out
                      have HXO := Lib.hid hxo
                      clear htl ht9 hxo hxn
                      go_wp2_with (at_builtin; refine wpList_appA elK rfl _ _ rfl (wr.alloc (.cells #[.int .i64 0, .int .i64 0, .int .i64 8] 37)) (G + 1) a2 r2 e2 xs wr.heap.size 1 1 [.int .i64 0, .int .i64 0, .int .i64 8] rfl rfl HXO.out rfl (lies_new (w := wr) (cs := #[.int .i64 0, .int .i64 0, .int .i64 8]) (T := 37)) (by simp [Value.oneCell']) (by decide) (by have := HR2.out; have := HTL.out; omega) (by have := HR2.out; have := HTL.out; omega) (by have := HGS.out; simp; omega) ?_; intro g8 c8 w8 ho8 hg8 hat8; have x0 := (HGA.out.appCell HRA.out hg8 HV2.out).1; have x1 := (HGA.out.appCell HRA.out hg8 HV2.out).2)
                      obtain ⟨y0, y1, y2⟩ := HGA.out.app HRA.out HLT.out ho8 hg8 hat8
                      have HN8 := Lib.hid (bel_set (belGr HNX.out hg8 (HRA.out.ge HGE.out) HNX.out.size) HGE.out (.slice (some ⟨g8, 0, none⟩) (r2 + 1) c8) (o := i))
                      have Y0 := Lib.hid y0
                      have Y1 := Lib.hid y1
                      have Y2 := Lib.hid y2
                      have HR8 : Hid (r2 + 1 ≤ 4096 + (t + 1)) := by have := HR2.out; unfold Hid; omega
                      clear ho8 hg8 hat8 x0 x1 y0 y1 y2 d0 d1
                      go_wp2_with fail
                      go_roundw
                      case rel => exact ⟨t + 1, _, _, _, _, HTL.out, by first | rw [HXT.out] | go_num, Y1, HR8, Y2, Y0, HN8⟩
                      case measure => (try rw [HXT.out]); have := HTL.out; simp only [intOf]; omega
                    · have htl' : ¬ (t : Int) < 9 := by omega
                      go_wp2_with fail
                      go_roundw
                      case rel => exact ⟨i + 1, vs2, HLT.out, by first | rw [HX.out] | go_num, HG1, HN⟩
                      case measure => (try rw [HX.out]); have := HLT.out; simp only [intOf]; omega
            · have hlt' : ¬ (i : Int) < (p : Int) := by omega
              have HSO := Lib.hid (sameOutline_c (some ⟨go, 0, none⟩) a co cap O wr (HOW3.out.below HN.out) ((HO.out.below HBw3.out).below HN.out) (longA_of HL.out))
              have HBk6 := Lib.hid (bel_next HBk3.out HN.out)
              clear hlt hip
              go_wp2_with fail
              refine HSO.out.mono ?_
              rintro e w6 ⟨rfl, hb6⟩
              have HBk7 := Lib.hid (bel_next HBk6.out hb6)
              clear hb6 HSO
              go_wp2_with fail
              go_roundw
              case rel => exact ⟨4, by decide, by first | rfl | go_num, HBk7⟩
              case measure => decide
    · clear hkd
      go_wp2_with fail
      go_ret
      exact ⟨rfl, HBw.out⟩

end pathMaps
end Go.Proofs.Ythjhekmlhmljlaa
