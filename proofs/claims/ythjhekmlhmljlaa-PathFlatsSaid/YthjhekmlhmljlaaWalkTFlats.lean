/-
  The walk of PathFlats: it answers true for every outline, and changes nothing that was there.
-/
import Derived.Test.YthjhekmlhmljlaaRfX
import Derived.Test.YthjhekmlhmljlaaLwS
import Derived.Test.YthjhekmlhmljlaaCpB
import Derived.Test.YthjhekmlhmljlaaAlP
import Derived.Test.YthjhekmlhmljlaaSmA
import Derived.Test.YthjhekmlhmljlaaOpK
import Derived.Test.YthjhekmlhmljlaaHlB
namespace Go.Proofs.Ythjhekmlhmljlaa
open Go.RowKit Go.PlainAid
set_option linter.unusedSimpArgs false
set_option linter.unusedVariables false

theorem Gots.appCell {s : Nat} {T TS : TypeId} {V V' : World} {G n i M : Nat} {vs : List Value} {N : Nat → Nat} {a : Option Addr} {m c : Nat} {v : Value} (h : Gots s T TS V G n (i + 1) M vs N) (hr : RowI s T V G n i N a m c) (hg : V.grownBy V' (Value.slice a m c).ownBlock) (hv : vs[i]? = some v) :
    V'.cell? ⟨G, i, none⟩ = some v ∧ V'.frozen? ⟨G, i, none⟩ = false := by
  obtain ⟨xs, h1, h2⟩ := hr
  have hGV : G < V.heap.size := (Array.getElem?_eq_some_iff.1 h.blk).1
  have hk : V'.heap[G]? = V.heap[G]? := hg.block G hGV (fun e => by have := (h1.lt G e.symm).1; omega)
  have hb : V'.heap[G]? = some (.cells vs.toArray TS (0, 0)) := by rw [hk]; exact h.blk
  exact ⟨by rw [cell_blk hb i]; simpa using hv, frozen_blk hb i⟩
theorem belGr {B : Nat} {w a b : World} {r : Option Nat} (h : Below B w a) (k : a.grownBy b r) (hg : ∀ g, r = some g → B ≤ g) (hB : B ≤ a.heap.size) : Below B w b :=
  ⟨k.os.trans h.os, k.tape.trans h.tape, k.output.trans h.output, Nat.le_trans h.size k.size, fun i hi => (k.block i (by omega) (fun e => by have := hg i e.symm; omega)).trans (h.block i hi)⟩
theorem RowI.ge {s : Nat} {T : TypeId} {V : World} {G n i : Nat} {N : Nat → Nat} {a : Option Addr} {m c B : Nat} (h : RowI s T V G n i N a m c) (hB : B ≤ G) : ∀ g, (Value.slice a m c).ownBlock = some g → B ≤ g := by
  obtain ⟨xs, h1, h2⟩ := h
  intro g hg
  have := (h1.lt g hg).1
  omega
theorem RowI.below {s : Nat} {T : TypeId} {V V' : World} {G n i : Nat} {N : Nat → Nat} {a : Option Addr} {m c : Nat} (h : RowI s T V G n i N a m c) (hb : Below V.heap.size V V') : RowI s T V' G n i N a m c := by
  obtain ⟨xs, h1, h2⟩ := h
  exact ⟨xs, own_below h1 hb, h2⟩
theorem Gots.below {s : Nat} {T TS : TypeId} {V V' : World} {G n i M : Nat} {vs : List Value} {N : Nat → Nat} (h : Gots s T TS V G n i M vs N) (hb : Below V.heap.size V V') : Gots s T TS V' G n i M vs N :=
  h.keep hb.size (fun x hx => hb.block x (by
    have h1 := (Array.getElem?_eq_some_iff.1 h.blk).1
    have h2 := h.hi
    omega))
theorem longA_of {O : List (List Kn)} (h : Long O) : LongA O := ⟨by have := h.1; omega, fun c hc => by have := h.2 c hc; omega⟩
theorem longA_flats {O : List (List Kn)} {P : List (List Sp)} (h : flatL O = some P) (hc : checkE O = 0) : LongA P ∧ (∀ L ∈ P, L.length ≤ 65537) ∧ P.length ≤ 256 := by
  obtain ⟨h1, h2, h3⟩ := flatL_len h
  obtain ⟨n1, n2, n3⟩ := many_no (check_ok hc).1
  exact ⟨⟨by omega, fun p hp => by have := h2 p hp; omega⟩, fun p hp => by have := h2 p hp; omega, by omega⟩
/-- The blocks from S on that were there are kept. -/
def Kept (S : Nat) (w V : World) : Prop := w.heap.size ≤ V.heap.size ∧ ∀ x, S ≤ x → x < w.heap.size → V.heap[x]? = w.heap[x]?
theorem Kept.refl (S : Nat) (w : World) : Kept S w w := ⟨Nat.le_refl _, fun _ _ _ => rfl⟩
theorem Kept.below {S : Nat} {w V V' : World} (h : Kept S w V) (k : Below V.heap.size V V') : Kept S w V' := ⟨Nat.le_trans h.1 k.size, fun x h1 h2 => (k.block x (by have := h.1; omega)).trans (h.2 x h1 h2)⟩
theorem Kept.set {S : Nat} {w V : World} (h : Kept S w V) {b o : Nat} (hb : b < S ∨ w.heap.size ≤ b) (u : Value) : Kept S w (V.setCell ⟨b, o, none⟩ u) := ⟨by simpa using h.1, fun x h1 h2 => (Below.heap_setCell _ _ _ _ (by show x ≠ b; omega)).trans (h.2 x h1 h2)⟩
theorem Kept.grown {S : Nat} {w V V' : World} {r : Option Nat} (h : Kept S w V) (k : V.grownBy V' r) (hr : ∀ g, r = some g → g < S ∨ w.heap.size ≤ g) : Kept S w V' :=
  ⟨Nat.le_trans h.1 k.size, fun x h1 h2 => (k.block x (by have := h.1; omega) (fun e => by have := hr x e.symm; omega)).trans (h.2 x h1 h2)⟩
theorem OutAt.kept {α : Type} {cl : α → List Value} {s : Nat} {T TS : TypeId} {g : Nat} {vs : List Value} {Ls : List (List α)} {k : Nat} {N : Nat → Nat} {w V : World} {S : Nat} (h : OutAt cl s T TS g vs Ls k N w) (hS : S ≤ g) (q : Kept S w V) : OutAt cl s T TS g vs Ls k N V := by
  have hg := (Array.getElem?_eq_some_iff.1 h.blk).1
  refine ⟨by rw [q.2 g hS hg]; exact h.blk, h.len, fun i v L hv hL => ?_, h.up, h.lo, Nat.le_trans h.hi q.1⟩
  obtain ⟨a, c, e, ho, hlt⟩ := h.row i v L hv hL
  refine ⟨a, c, e, own_keep ho (fun x hx => ?_), hlt⟩
  have h1 := ho.lt x hx
  have h2 := up_le h.up i 0 (Nat.zero_le _)
  have h3 := h.lo
  exact q.2 x (by omega) h1.2

namespace pathFlats
set_option maxRecDepth 20000 in
set_option maxHeartbeats 8000000 in
theorem walk_by (hA : ArcsSay) (a : Option Addr) (cap : Nat) (O : List (List Kn)) (w : World) (ho : IsO clK w a O) (hl : Long O) :
    Calls Try.prog 5 #[.slice a O.length cap] w fun e w' => e = .returned (.bool true) ∧ Below w.heap.size w w' := by
  have HO := Lib.hid ho
  have HL := Lib.hid hl
  have HAS := Lib.hid hA
  clear ho hl hA
  go_enter Try.func5, Try.ntmps5
  go_wp2_with fail
  refine (pathAlive_c _).mono ?_
  rintro e w1 ⟨rfl, hb1⟩
  have HB1 := Lib.hid hb1
  clear hb1
  go_wp2_with fail
  refine (copy_c a cap O w1 (HO.out.below HB1.out) HL.out).mono ?_
  rintro e w2 ⟨go, co, vso, rfl, ho2, hr2, hb2⟩
  have HB2 := Lib.hid (bel_next HB1.out hb2)
  have HOW := Lib.hid (hr2.isO ho2)
  clear ho2 hr2 hb2
  by_cases hck : checkE O = 0
  case neg =>
    have HAP := Lib.hid (rflat_refused a cap O w2 (HO.out.below HB2.out) HL.out hck)
    obtain ⟨E, HE⟩ : ∃ E, Hid (checkE O = E) := ⟨_, rfl⟩
    rw [HE.out] at HAP
    have HCK := Lib.hid hck
    clear hck
    go_wp2_with fail
    refine HAP.out.mono ?_
    rintro e w3 ⟨rfl, hb3⟩
    have HB3 := Lib.hid (bel_next HB2.out hb3)
    have HOW3 := Lib.hid (HOW.out.below hb3)
    have HMV := Lib.hid (flat_refused (some ⟨go, 0, none⟩) co O w3 HOW3.out HL.out HCK.out)
    rw [HE.out] at HMV
    clear hb3 HAP
    go_wp2_with fail
    refine HMV.out.mono ?_
    rintro e w4 ⟨rfl, hb4⟩
    have HOW4 := Lib.hid (HOW3.out.below hb4)
    have HB4 := Lib.hid (bel_next HB3.out hb4)
    have HMW := Lib.hid (flat_refused (some ⟨go, 0, none⟩) co O w4 HOW4.out HL.out HCK.out)
    rw [HE.out] at HMW
    clear hb4 HMV
    go_wp2_with fail
    refine HMW.out.mono ?_
    rintro e w5 ⟨rfl, hb5⟩
    have HOW5 := Lib.hid (HOW4.out.below hb5)
    have HB5 := Lib.hid (bel_next HB4.out hb5)
    have HSM := Lib.hid (sameSpots_c none none 0 0 [] w5 (.inl rfl) (.inl rfl) ⟨by decide, fun c hc => by simp at hc⟩)
    simp only [List.length_nil] at HSM
    clear hb5 HMW
    go_wp2_with fail
    refine HSM.out.mono ?_
    rintro e w6 ⟨rfl, hb6⟩
    have HOW6 := Lib.hid (HOW5.out.below hb6)
    have HB6 := Lib.hid (bel_next HB5.out hb6)
    have HSO := Lib.hid (sameOutline_c (some ⟨go, 0, none⟩) a co cap O w6 HOW6.out (HO.out.below HB6.out) (longA_of HL.out))
    clear hb6 HSM
    go_wp2_with fail
    refine HSO.out.mono ?_
    rintro e w7 ⟨rfl, hb7⟩
    have HB7 := Lib.hid (bel_next HB6.out hb7)
    clear hb7 HSO
    go_wp2_with fail
    go_loopw [49] (fun x wq => x = .int .i64 0 ∧ Hid (Below w.heap.size w wq)) (fun _ _ => 0)
    case atStart => exact ⟨rfl, HB7⟩
    case round =>
      clear HB7
      obtain ⟨rfl, HN⟩ := hrel
      have HSP := Lib.hid (sameSpots_c none none 0 0 [] wr (.inl rfl) (.inl rfl) ⟨by decide, fun c hc => by simp at hc⟩)
      simp only [List.length_nil] at HSP
      go_wp2_with fail
      refine HSP.out.mono ?_
      rintro e w8 ⟨rfl, hb8⟩
      have HB8 := Lib.hid (bel_next HN.out hb8)
      clear hb8 HSP
      go_wp2_with fail
      go_ret
      exact ⟨rfl, HB8.out⟩
  case pos =>
    have HCK := Lib.hid hck
    have HAP := Lib.hid (rflat_run HAS.out a cap O w2 (HO.out.below HB2.out) HL.out hck)
    clear hck
    go_wp2_with fail
    refine HAP.out.mono ?_
    intro e w3 hp3
    unfold RFlatPost at hp3
    cases hmo : flatL O with
    | none =>
      rw [hmo] at hp3
      obtain ⟨rfl, hb3⟩ := hp3
      have HB3 := Lib.hid (bel_next HB2.out hb3)
      have HOW3 := Lib.hid (HOW.out.below hb3)
      have HMV := Lib.hid (flat_run (some ⟨go, 0, none⟩) co O w3 HOW3.out HL.out HCK.out)
      rw [hmo] at HMV
      clear hb3 HAP
      go_wp2_with fail
      refine HMV.out.mono ?_
      rintro e w4 ⟨rfl, hb4⟩
      have HOW4 := Lib.hid (HOW3.out.below hb4)
      have HB4 := Lib.hid (bel_next HB3.out hb4)
      have HMW := Lib.hid (flat_run (some ⟨go, 0, none⟩) co O w4 HOW4.out HL.out HCK.out)
      rw [hmo] at HMW
      clear hb4 HMV hmo
      go_wp2_with fail
      refine HMW.out.mono ?_
      rintro e w5 ⟨rfl, hb5⟩
      have HOW5 := Lib.hid (HOW4.out.below hb5)
      have HB5 := Lib.hid (bel_next HB4.out hb5)
      have HSM := Lib.hid (sameSpots_c none none 0 0 [] w5 (.inl rfl) (.inl rfl) ⟨by decide, fun c hc => by simp at hc⟩)
      simp only [List.length_nil] at HSM
      clear hb5 HMW
      go_wp2_with fail
      refine HSM.out.mono ?_
      rintro e w6 ⟨rfl, hb6⟩
      have HOW6 := Lib.hid (HOW5.out.below hb6)
      have HB6 := Lib.hid (bel_next HB5.out hb6)
      have HSO := Lib.hid (sameOutline_c (some ⟨go, 0, none⟩) a co cap O w6 HOW6.out (HO.out.below HB6.out) (longA_of HL.out))
      clear hb6 HSM
      go_wp2_with fail
      refine HSO.out.mono ?_
      rintro e w7 ⟨rfl, hb7⟩
      have HB7 := Lib.hid (bel_next HB6.out hb7)
      clear hb7 HSO
      go_wp2_with fail
      go_loopw [49] (fun x wq => x = .int .i64 0 ∧ Hid (Below w.heap.size w wq)) (fun _ _ => 0)
      case atStart => exact ⟨rfl, HB7⟩
      case round =>
        clear HB7
        obtain ⟨rfl, HN⟩ := hrel
        have HSP := Lib.hid (sameSpots_c none none 0 0 [] wr (.inl rfl) (.inl rfl) ⟨by decide, fun c hc => by simp at hc⟩)
        simp only [List.length_nil] at HSP
        go_wp2_with fail
        refine HSP.out.mono ?_
        rintro e w8 ⟨rfl, hb8⟩
        have HB8 := Lib.hid (bel_next HN.out hb8)
        clear hb8 HSP
        go_wp2_with fail
        go_ret
        exact ⟨rfl, HB8.out⟩
    | some P =>
      rw [hmo] at hp3
      obtain ⟨gw, cw, vw, rfl, how3, hrw3, hb3⟩ := hp3
      have HB3 := Lib.hid (bel_next HB2.out hb3)
      have HOW3 := Lib.hid (HOW.out.below hb3)
      have HWT := Lib.hid (hrw3.isO how3)
      obtain ⟨HLP, HMX, HPL⟩ := longA_flats hmo HCK.out
      have HLP := Lib.hid HLP
      have HMX := Lib.hid HMX
      have HPL := Lib.hid HPL
      have HMV := Lib.hid (flat_run (some ⟨go, 0, none⟩) co O w3 HOW3.out HL.out HCK.out)
      rw [hmo] at HMV
      obtain ⟨p, HP⟩ : ∃ p, Hid (P.length = p) := ⟨_, rfl⟩
      rw [HP.out] at HPL
      rw [HP.out]
      clear hb3 HAP how3 hrw3
      go_wp2_with fail
      refine HMV.out.mono ?_
      rintro e w4 ⟨G, vs, N, rfl, hout, hge, hb4⟩
      have HOW4 := Lib.hid (HOW3.out.below hb4)
      have HB4 := Lib.hid (bel_next HB3.out hb4)
      have HWT4 := Lib.hid (HWT.out.below hb4)
      have HGE := Lib.hid hge
      have HGT := Lib.hid (gots_of hout HMX.out)
      have HNP : Hid (N P.length ≤ w4.heap.size) := hout.hi
      have HOA := Lib.hid hout
      have HN4 := Lib.hid hb4
      have HMW := Lib.hid (flat_run (some ⟨go, 0, none⟩) co O w4 HOW4.out HL.out HCK.out)
      rw [hmo] at HMW
      rw [HP.out] at HGT HNP
      rw [HP.out]
      clear hb4 hout hge HMV hmo
      go_wp2_with fail
      refine HMW.out.mono ?_
      rintro e w5 ⟨Gb, vb, Nb, rfl, houtb, hgeb, hb5⟩
      have HN5 := Lib.hid (bel_next HN4.out hb5)
      have HSM := Lib.hid (sameSpots_c (some ⟨G, 0, none⟩) (some ⟨gw, 0, none⟩) P.length cw P w5 (HOA.out.below hb5).isO (HWT4.out.below hb5) HLP.out)
      have HG5 := Lib.hid (HGT.out.below hb5)
      have HOB := Lib.hid houtb
      have HGB := Lib.hid hgeb
      have HOW5 := Lib.hid (HOW4.out.below hb5)
      have HB5 := Lib.hid (bel_next HB4.out hb5)
      have HWT5 := Lib.hid (HWT4.out.below hb5)
      rw [HP.out] at HSM
      rw [HP.out]
      clear hb5 houtb hgeb HMW
      go_wp2_with fail
      refine HSM.out.mono ?_
      rintro e w6 ⟨rfl, hb6⟩
      have HN6 := Lib.hid (bel_next HN5.out hb6)
      have HG6 := Lib.hid (HG5.out.below hb6)
      have HOB6 := Lib.hid (HOB.out.below hb6)
      have HOW6 := Lib.hid (HOW5.out.below hb6)
      have HB6 := Lib.hid (bel_next HB5.out hb6)
      have HSO := Lib.hid (sameOutline_c (some ⟨go, 0, none⟩) a co cap O w6 HOW6.out (HO.out.below HB6.out) (longA_of HL.out))
      clear hb6 HSM HN5 HG5 HOB
      go_wp2_with fail
      refine HSO.out.mono ?_
      rintro e w7 ⟨rfl, hb7⟩
      have HN7 := Lib.hid (bel_next HN6.out hb7)
      have HG7 := Lib.hid (HG6.out.below hb7)
      have HOB7 := Lib.hid (HOB6.out.below hb7)
      have HS47 : Hid (w4.heap.size ≤ w7.heap.size) := by have h1 := (Array.getElem?_eq_some_iff.1 HOB7.out.blk).1; have h2 := HGB.out; unfold Hid; omega
      clear hb7 HSO HN6 HG6 HOB6
      go_wp2_with fail
      go_loopw [49] (fun x wq => ∃ i : Nat, ∃ vs : List Value, i ≤ p ∧ x = .int .i64 i ∧ Hid (Gots 2 47 45 wq G p i 65537 vs N) ∧ Hid (Below w3.heap.size w3 wq) ∧ Hid (Kept w4.heap.size w7 wq)) (fun x _ => p - (intOf x).toNat)
      case atStart => exact ⟨0, vs, Nat.zero_le _, rfl, HG7, HN7, Kept.refl _ _⟩
      case round =>
        clear HG7 HN7
        obtain ⟨i, vs, hip, rfl, HG, HN, HK⟩ := hrel
        by_cases hlt : i < p
        · have hlt' : (i : Int) < (p : Int) := by omega
          have hi0 : (0 : Int) ≤ (i : Int) := by omega
          obtain ⟨a1, r1, e1, hv1, hr1, HRI, HG1⟩ := HG.out.take hlt
          have HLO : Hid (∀ h, (Value.slice a1 r1 e1).ownBlock = some h → h < w4.heap.size) := by
            obtain ⟨a', m', c', xs', q1, q2, q3, q4⟩ := HG.out.rows i (Nat.le_refl _) hlt
            rw [hv1] at q1
            cases q1
            intro h hh
            have h1 := q4 h hh
            have h2 := up_le HG.out.up p (i + 1) (by omega)
            have h3 := HNP.out
            omega
          obtain ⟨d0, d1⟩ := HG.out.cell hv1
          have HLT := Lib.hid hlt
          have HV1 := Lib.hid hv1
          have HR1 := Lib.hid hr1
          have HRI := Lib.hid HRI
          have HG1 := Lib.hid HG1
          have HX := Lib.hid (next64 (j := i) (by have := HPL.out; omega))
          clear hv1 hr1 hip hlt HG
          go_wp2_with fail
          clear d0 d1
          go_loopw [57] (fun x wq => ∃ j : Nat, j ≤ r1 ∧ x = .int .i64 j ∧ Hid (RowI 2 47 wq G p i N a1 r1 e1) ∧ Hid (Gots 2 47 45 wq G p (i + 1) 65537 vs N) ∧ Hid (Below w3.heap.size w3 wq) ∧ Hid (Kept w4.heap.size w7 wq)) (fun x _ => r1 - (intOf x).toNat)
          case atStart => exact ⟨0, Nat.zero_le _, rfl, HRI, HG1, HN, HK⟩
          case round =>
            clear HRI HG1 HN HK
            obtain ⟨j, hjr, rfl, HRI, HG1, HN, HK⟩ := hrel
            by_cases hjl : j < r1
            · have hjl' : (j : Int) < (r1 : Int) := by omega
              have hj0 : (0 : Int) ≤ (j : Int) := by omega
              obtain ⟨b, rfl, hGb, hbN⟩ := HRI.out.isSome (by omega)
              have hb4 : b < w4.heap.size := HLO.out b rfl
              obtain ⟨d0, d1⟩ := HG1.out.cell HV1.out
              obtain ⟨⟨u0, q0⟩, z0⟩ := HRI.out.cell (j := j * 2) (by omega)
              obtain ⟨⟨u1, q1⟩, z1⟩ := HRI.out.cell (j := j * 2 + 1) (by omega)
              have HJL := Lib.hid hjl
              have HXJ := Lib.hid (next64 (j := j) (by have := HR1.out; omega))
              have HW3 : Hid (w3.heap.size ≤ b) := by have := HGE.out; unfold Hid; omega
              have HRI2 := Lib.hid ((HRI.out.put (j * 2) (.int .i64 (-7))).put (j * 2 + 1) (.int .i64 (-7)))
              have HG2 := Lib.hid ((HG1.out.put hGb hbN (j * 2) (.int .i64 (-7))).put hGb hbN (j * 2 + 1) (.int .i64 (-7)))
              have HN2 := Lib.hid (bel_set (bel_set HN.out HW3.out (.int .i64 (-7)) (o := j * 2)) HW3.out (.int .i64 (-7)) (o := j * 2 + 1))
              have HK2 := Lib.hid ((HK.out.set (o := j * 2) (.inl hb4) (.int .i64 (-7))).set (o := j * 2 + 1) (.inl hb4) (.int .i64 (-7)))
              clear hjl hjr hb4 hGb hbN
              go_wp2_with fail
              go_roundw
              case rel => exact ⟨j + 1, HJL.out, by first | rw [HXJ.out] | go_num, HRI2, HG2, HN2, HK2⟩
              case measure => (try rw [HXJ.out]); have := HJL.out; simp only [intOf]; omega
            · have hjl' : ¬ (j : Int) < (r1 : Int) := by omega
              clear hjl hjr
              go_wp2_with fail
              go_loopw [12] (fun x wq => ∃ t : Nat, ∃ (a2 : Option Addr) (r2 e2 : Nat) (vs2 : List Value), t ≤ 9 ∧ x = .int .i64 t ∧ Hid (vs2[i]? = some (.slice a2 r2 e2)) ∧ Hid (r2 ≤ 65537 + t) ∧ Hid (RowI 2 47 wq G p i N a2 r2 e2) ∧ Hid (Gots 2 47 45 wq G p (i + 1) 65537 vs2 N) ∧ Hid (Below w3.heap.size w3 wq) ∧ Hid (Kept w4.heap.size w7 wq) ∧ Hid (∀ h, (Value.slice a2 r2 e2).ownBlock = some h → h < w4.heap.size ∨ w7.heap.size ≤ h)) (fun x _ => 9 - (intOf x).toNat)
              case atStart => exact ⟨0, a1, r1, e1, vs, by decide, rfl, HV1, HR1, HRI, HG1, HN, HK, fun h hh => .inl (HLO.out h hh)⟩
              case round =>
                clear HRI HG1 HN HK
                obtain ⟨t, a2, r2, e2, vs2, ht9, rfl, HV2, HR2, HRI, HG1, HN, HK, HZ⟩ := hrel
                by_cases htl : t < 9
                · have htl' : (t : Int) < 9 := by omega
                  obtain ⟨d0, d1⟩ := HG1.out.cell HV2.out
                  have HTL := Lib.hid htl
                  have HXT := Lib.hid (next64 (j := t) (by omega))
                  have HNA : Hid (Below wr.heap.size wr (wr.alloc (.cells #[.int .i64 (-8), .int .i64 0] 47))) := (Below.refl _ _).alloc (Nat.le_refl _) _
                  have HRA := Lib.hid (HRI.out.below HNA.out)
                  have HGA := Lib.hid (HG1.out.below HNA.out)
                  have HNX := Lib.hid (bel_to HN.out HNA.out HN.out.size)
                  have HKA := Lib.hid (HK.out.below HNA.out)
                  have HGS : Hid (G < wr.heap.size) := (Array.getElem?_eq_some_iff.1 HG1.out.blk).1
                  have HG4 : Hid (G < w4.heap.size) := (Array.getElem?_eq_some_iff.1 HOA.out.blk).1
                  obtain ⟨xs, hxo, hxn⟩ := HRA.out
                  have HXO := Lib.hid hxo
                  clear htl ht9 hxo hxn
                  go_wp2_with (at_builtin; refine wpList_appA elS rfl _ _ rfl (wr.alloc (.cells #[.int .i64 (-8), .int .i64 0] 47)) (G + 1) a2 r2 e2 xs wr.heap.size 1 1 [.int .i64 (-8), .int .i64 0] rfl rfl HXO.out rfl (lies_new (w := wr) (cs := #[.int .i64 (-8), .int .i64 0]) (T := 47)) (by simp [Value.oneCell']) (by decide) (by have := HR2.out; have := HTL.out; omega) (by have := HR2.out; have := HTL.out; omega) (by have := HGS.out; simp; omega) ?_; intro g8 c8 w8 ho8 hg8 hat8; have x0 := (HGA.out.appCell HRA.out hg8 HV2.out).1; have x1 := (HGA.out.appCell HRA.out hg8 HV2.out).2)
                  obtain ⟨y0, y1, y2⟩ := HGA.out.app HRA.out HLT.out ho8 hg8 hat8
                  have HN8 := Lib.hid (bel_set (belGr HNX.out hg8 (HRA.out.ge HGE.out) HNX.out.size) HGE.out (.slice (some ⟨g8, 0, none⟩) (r2 + 1) c8) (o := i))
                  have HK8 := Lib.hid ((HKA.out.grown hg8 HZ.out).set (o := i) (.inl HG4.out) (.slice (some ⟨g8, 0, none⟩) (r2 + 1) c8))
                  have HZ8 : Hid (∀ h, (Value.slice (some ⟨g8, 0, none⟩) (r2 + 1) c8).ownBlock = some h → h < w4.heap.size ∨ w7.heap.size ≤ h) := by
                    intro h hh
                    have e : h = g8 := by simpa [Value.ownBlock] using hh.symm
                    subst e
                    rcases hat8 with q | q
                    · exact HZ.out h q
                    · have := HKA.out.1; omega
                  have Y0 := Lib.hid y0
                  have Y1 := Lib.hid y1
                  have Y2 := Lib.hid y2
                  have HR8 : Hid (r2 + 1 ≤ 65537 + (t + 1)) := by have := HR2.out; unfold Hid; omega
                  clear ho8 hg8 hat8 x0 x1 y0 y1 y2 d0 d1
                  go_wp2_with fail
                  go_roundw
                  case rel => exact ⟨t + 1, _, _, _, _, HTL.out, by first | rw [HXT.out] | go_num, Y1, HR8, Y2, Y0, HN8, HK8, HZ8⟩
                  case measure => (try rw [HXT.out]); have := HTL.out; simp only [intOf]; omega
                · have htl' : ¬ (t : Int) < 9 := by omega
                  go_wp2_with fail
                  go_roundw
                  case rel => exact ⟨i + 1, vs2, HLT.out, by first | rw [HX.out] | go_num, HG1, HN, HK⟩
                  case measure => (try rw [HX.out]); have := HLT.out; simp only [intOf]; omega
        · have hlt' : ¬ (i : Int) < (p : Int) := by omega
          have HSP := Lib.hid (sameSpots_c (some ⟨Gb, 0, none⟩) (some ⟨gw, 0, none⟩) P.length cw P wr (HOB7.out.kept HGB.out HK.out).isO (HWT.out.below HN.out) HLP.out)
          rw [HP.out] at HSP
          have HBE := Lib.hid (bel_next HB3.out HN.out)
          clear hlt hip
          go_wp2_with fail
          refine HSP.out.mono ?_
          rintro e w8 ⟨rfl, hb8⟩
          have HB8 := Lib.hid (bel_next HBE.out hb8)
          clear hb8 HSP
          go_wp2_with fail
          go_ret
          exact ⟨rfl, HB8.out⟩

end pathFlats
end Go.Proofs.Ythjhekmlhmljlaa
