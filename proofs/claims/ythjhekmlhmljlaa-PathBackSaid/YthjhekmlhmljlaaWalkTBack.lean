/-
  The walk of PathBack: it answers true for every row of knots, and changes nothing that was there.
-/
import Derived.Test.YthjhekmlhmljlaaCpB
import Derived.Test.YthjhekmlhmljlaaAlP
import Derived.Test.YthjhekmlhmljlaaBkA
import Derived.Test.YthjhekmlhmljlaaHlB
import Derived.Test.YthjhekmlhmljlaaOpK
namespace Go.Proofs.Ythjhekmlhmljlaa
open Go.RowKit Go.PlainAid
set_option linter.unusedSimpArgs false
set_option linter.unusedVariables false

/-- One row in a row of rows that is new. -/
theorem isO_one {α : Type} {cl : α → List Value} {w : World} {a : Option Addr} {cap : Nat} {c : List α} {T : TypeId} (h : IsR cl w a c) (hc : c.length ≤ cap) : IsO cl (w.alloc (.cells #[.slice a c.length cap] T)) (some ⟨w.heap.size, 0, none⟩) [c] := by
  refine .inr ⟨w.heap.size, 0, rfl, fun j d hd => ?_⟩
  have hj : j = 0 := by have := (List.getElem?_eq_some_iff.1 hd).1; simp at this; omega
  subst hj
  have e : c = d := by simpa using hd
  subst e
  exact ⟨a, cap, by simp [go_sem], hc, h.below ((Below.refl _ _).alloc (Nat.le_refl _) _)⟩
theorem check_rev (k : Kn) (L : List Kn) : checkE [k :: L.reverse] = checkE [k :: L] := by
  have h1 : manyB [k :: L.reverse] = manyB [k :: L] := by simp [manyB, totalL]
  have h2 : ([k :: L.reverse].all fun c => c.all kindB) = ([k :: L].all fun c => c.all kindB) := by simp
  have h3 : ([k :: L.reverse].all fun c => c.all fixK) = ([k :: L].all fun c => c.all fixK) := by simp
  unfold checkE
  rw [h1, h2, h3]
theorem flatL_one (c : List Kn) : flatL [c] = (polyL c).map fun p => [p] := by
  simp only [flatL]
  cases polyL c <;> rfl
theorem rev_at {α : Type} {k : α} {L : List α} {t : Nat} (ht : t < L.length) : ∃ q, (k :: L)[L.length - t]? = some q ∧ L.reverse[t]? = some q := by
  obtain ⟨m, hm⟩ : ∃ m, L.length - t = m + 1 := ⟨L.length - t - 1, by omega⟩
  have hlt : m < L.length := by omega
  refine ⟨L[m], ?_, ?_⟩
  · rw [hm, List.getElem?_cons_succ, List.getElem?_eq_getElem hlt]
  · rw [List.getElem?_reverse ht, show L.length - 1 - t = m by omega, List.getElem?_eq_getElem hlt]
theorem back_at {α : Type} {s : α} {t : List α} {i : Nat} (hi : i < t.length + 1) : ∃ q, (s :: t)[i]? = some q ∧ (s :: t.reverse)[(t.length + 1 - i) % (t.length + 1)]? = some q := by
  cases i with
  | zero => exact ⟨s, rfl, by simp⟩
  | succ j =>
    have hj : j < t.length := by omega
    refine ⟨t[j], by rw [List.getElem?_cons_succ, List.getElem?_eq_getElem hj], ?_⟩
    rw [Nat.mod_eq_of_lt (by omega), show t.length + 1 - (j + 1) = (t.length - 1 - j) + 1 by omega, List.getElem?_cons_succ, List.getElem?_reverse (by omega), show t.length - 1 - (t.length - 1 - j) = j by omega, List.getElem?_eq_getElem hj]
theorem snocR (k : Kn) (R : List Kn) (t : Nat) {q : Kn} (hq : R[t]? = some q) : (k :: R.take (t + 1)).flatMap clK = (k :: R.take t).flatMap clK ++ [.int .i64 q.x, .int .i64 q.y, .int .i64 q.k] := by
  rw [List.take_add_one, hq, Option.toList_some, ← List.cons_append, List.flatMap_append]; rfl
theorem belDrew {B : Nat} {a w : World} (h : Below B a w) : Below B a w.drew := ⟨h.os, h.tape, h.output, h.size, h.block⟩

namespace pathBack
set_option maxRecDepth 20000 in
set_option maxHeartbeats 1000000 in
theorem walk_nil (a : Option Addr) (cap : Nat) (w : World) : Calls Try.prog 8 #[.slice a 0 cap] w fun e w' => e = .returned (.bool true) ∧ Below w.heap.size w w' := by
  go_enter Try.func8, Try.ntmps8
  go_wp2_with fail
  refine (pathAlive_c _).mono ?_
  rintro e w1 ⟨rfl, hb1⟩
  have HB1 := Lib.hid hb1
  clear hb1
  go_wp2_with fail
  go_ret
  exact ⟨rfl, HB1.out⟩
set_option maxRecDepth 20000 in
set_option maxHeartbeats 1000000 in
theorem walk_off (b off : Nat) (cap n : Nat) (k : Kn) (w : World) (hn : 0 < n) (k2 : w.cell? ⟨b, off + 2, none⟩ = some (.int .i64 k.k)) (hk : ¬ k.k = 1) : Calls Try.prog 8 #[.slice (some ⟨b, off, none⟩) n cap] w fun e w' => e = .returned (.bool true) ∧ Below w.heap.size w w' := by
  have q0 : ((n : Int) == 0) = false := by simp; omega
  have q1 : ¬ n = 0 := by omega
  have q2 : (k.k == 1) = false := by simpa using hk
  have q3 : (0 : Int) < (n : Int) := by omega
  have HK := Lib.hid k2
  clear k2 hn hk
  go_enter Try.func8, Try.ntmps8
  go_wp2_with fail
  refine (pathAlive_c _).mono ?_
  rintro e w1 ⟨rfl, hb1⟩
  have HB1 := Lib.hid hb1
  have k2 := keepC hb1 HK.out
  clear hb1
  go_wp2_with fail
  go_ret
  exact ⟨rfl, HB1.out⟩

set_option maxRecDepth 20000 in
set_option maxHeartbeats 4000000 in
theorem walk_on (b off : Nat) (cap : Nat) (k : Kn) (L : List Kn) (w : World) (hcap : (k :: L).length ≤ cap) (hr : IsR clK w (some ⟨b, off, none⟩) (k :: L)) (hz : (k :: L).length ≤ 5864062014634) (hk : k.k = 1) :
    Calls Try.prog 8 #[.slice (some ⟨b, off, none⟩) (k :: L).length cap] w fun e w' => e = .returned (.bool true) ∧ Below w.heap.size w w' := by
  have HR := Lib.hid hr
  have HCP := Lib.hid hcap
  obtain ⟨n, HN⟩ : ∃ n, Hid (L.length = n) := ⟨_, rfl⟩
  obtain ⟨m, HLN⟩ : ∃ m, Hid ((k :: L).length = m) := ⟨_, rfl⟩
  have HM : Hid (m = n + 1) := by unfold Hid; rw [← HLN.out, List.length_cons, HN.out]
  have HZ : Hid (m ≤ 5864062014634) := by unfold Hid; rw [← HLN.out]; exact hz
  have HK := Lib.hid hk
  rw [HLN.out]
  clear hr hcap hz
  have q0 : ((m : Int) == 0) = false := by have := HM.out; simp; omega
  have q1 : ¬ m = 0 := by have := HM.out; omega
  have q3 : (0 : Int) < (m : Int) := by have := HM.out; omega
  have q4 : wrap64 ((m : Int) - 1) = (n : Int) := by have := HZ.out; have := HM.out; unfold wrap64; omega
  go_enter Try.func8, Try.ntmps8
  go_wp2_with fail
  refine (pathAlive_c _).mono ?_
  rintro e w1 ⟨rfl, hb1⟩
  have HB1 := Lib.hid hb1
  obtain ⟨b', off', e0, k0, k1, k2⟩ := (HR.out.below hb1).knot (i := 0) (k := k) rfl
  cases e0
  simp only [Nat.zero_mul, Nat.add_zero] at k0 k1 k2
  rw [hk] at k2
  have HO1 : Hid ((w1.alloc (.cells #[.int .i64 k.x, .int .i64 k.y, .int .i64 1] 37)).ownsRow w.heap.size 37 3 (.slice (some ⟨w1.heap.size, 0, none⟩) 1 1) 1 ((k :: L.reverse.take 0).flatMap clK)) := by
    have h := World.ownsRow_lit (base := w.heap.size) (e := 37) (size := 3) w1 #[.int .i64 k.x, .int .i64 k.y, .int .i64 1] 1 hb1.size (by decide) rfl
    have e : (k :: L.reverse.take 0).flatMap clK = [.int .i64 k.x, .int .i64 k.y, .int .i64 1] := by simp [clK, HK.out]
    unfold Hid
    rw [e]; exact h
  have HBA := Lib.hid (bel_alloc hb1 (.cells #[.int .i64 k.x, .int .i64 k.y, .int .i64 1] 37))
  clear hb1 hk
  go_wp2_with fail
  have HQ4 := Lib.hid q4
  clear k0 k1 k2 q0 q1 q3 q4
  go_loopw [3, 4] (fun v x wr => ∃ t i g c : Nat, t + i = n ∧ v = .slice (some ⟨g, 0, none⟩) (t + 1) c ∧ x = .int .i64 i ∧ Hid (wr.ownsRow w.heap.size 37 3 (.slice (some ⟨g, 0, none⟩) (t + 1) c) (t + 1) ((k :: L.reverse.take t).flatMap clK)) ∧ Hid (Below w.heap.size w wr)) (fun _ x _ => (intOf x).toNat)
  case atStart => exact ⟨0, n, _, _, Nat.zero_add _, rfl, by first | rw [HQ4.out] | rfl, HO1, HBA⟩
  case round =>
    clear HO1 HBA
    obtain ⟨t, i, g, c, hti, rfl, rfl, HO, HB⟩ := hrel
    by_cases hi : 0 < i
    · have hi' : (0 : Int) < (i : Int) := by omega
      have him : (i : Int) < (m : Int) := by have := HM.out; omega
      have hi0 : (0 : Int) ≤ (i : Int) := by omega
      obtain ⟨q, hq1, hq2⟩ := rev_at (k := k) (L := L) (t := t) (by have := HN.out; omega)
      rw [show L.length - t = i by have := HN.out; omega] at hq1
      obtain ⟨b', off', e0, k0, k1, k2⟩ := (HR.out.below HB.out).knot hq1
      cases e0
      have HS : Hid (Lies (wr.alloc (.cells #[.int .i64 q.x, .int .i64 q.y, .int .i64 q.k] 37)) wr.heap.size 0 [.int .i64 q.x, .int .i64 q.y, .int .i64 q.k]) := lies_new (w := wr) (cs := #[.int .i64 q.x, .int .i64 q.y, .int .i64 q.k]) (T := 37)
      have HQ := Lib.hid hq2
      have HTI := Lib.hid hti
      have HI := Lib.hid hi
      clear hq1 hq2 hti hi
      have hx : wrap64 ((i : Int) - 1) = ((i - 1 : Nat) : Int) := by have := HI.out; have := HTI.out; have := HM.out; have := HZ.out; unfold wrap64; omega
      go_wp2_with (at_builtin; refine wpList_app elK rfl _ _ rfl (wr.alloc (.cells #[.int .i64 q.x, .int .i64 q.y, .int .i64 q.k] 37)) w.heap.size g c (t + 1) ((k :: L.reverse.take t).flatMap clK) (some ⟨wr.heap.size, 0, none⟩) 1 1 [.int .i64 q.x, .int .i64 q.y, .int .i64 q.k] rfl rfl (HO.out.alloc _) rfl (.inr ⟨_, 0, rfl, HS.out⟩) (by simp [Value.oneCell']) (by have := HI.out; have := HTI.out; have := HM.out; have := HZ.out; omega) (by have := HI.out; have := HTI.out; have := HM.out; have := HZ.out; omega) (by have := HB.out.size; simp; omega) ?_; intro g8 c8 w8 ho8 hg8 hat8)
      have HB8 : Hid (Below w.heap.size w w8) := belGrown (bel_alloc HB.out _) hg8 (ownsRow_cap HO.out).2.1 (by have := HB.out.size; simp; omega)
      have HO8 : Hid (w8.ownsRow w.heap.size 37 3 (.slice (some ⟨g8, 0, none⟩) (t + 1 + 1) c8) (t + 1 + 1) ((k :: L.reverse.take (t + 1)).flatMap clK)) := by
        unfold Hid
        rw [snocR k L.reverse t HQ.out]; exact ho8
      clear ho8 hg8 hat8
      go_wp2_with fail
      go_roundw
      case rel => exact ⟨t + 1, i - 1, g8, c8, by have := HI.out; have := HTI.out; omega, rfl, by first | rw [hx] | rfl, HO8, HB8⟩
      case measure => (try rw [hx]); have := HI.out; simp only [intOf]; omega
    · have hi' : ¬ (0 : Int) < (i : Int) := by omega
      have ht : t = n := by omega
      subst ht
      have HRV : Hid (L.reverse.take t = L.reverse) := List.take_of_length_le (by rw [List.length_reverse, HN.out]; exact Nat.le_refl _)
      rw [HRV.out] at HO
      have HRL : Hid ((k :: L.reverse).length = m) := by unfold Hid; rw [List.length_cons, List.length_reverse, HN.out, HM.out]
      have HMT : Hid (t + 1 = m) := HM.out.symm
      clear hti hi
      rw [HMT.out] at HO
      rw [HMT.out]
      have HRO := Lib.hid (own_isR (cl := clK) (L := k :: L.reverse) (by rw [HRL.out]) HO.out)
      have HRC : Hid (m ≤ c) := (ownsRow_cap HO.out).1
      have HC1 : Hid (m ≤ cap) := by unfold Hid; rw [← HLN.out]; exact HCP.out
      have HQ1 : Hid (IsO clK (wr.alloc (.cells #[.slice (some ⟨b, off, none⟩) m cap] 35)) (some ⟨wr.heap.size, 0, none⟩) [k :: L]) := by
        have h := isO_one (T := 35) (cap := cap) (HR.out.below HB.out) HCP.out
        rwa [HLN.out] at h
      have HLO : Hid (Long [k :: L]) := ⟨by simp, fun d hd => by simp at hd; subst hd; rw [HLN.out]; have := HZ.out; omega⟩
      have HLR : Hid (Long [k :: L.reverse]) := ⟨by simp, fun d hd => by simp at hd; subst hd; rw [HRL.out]; have := HZ.out; omega⟩
      have HBW := Lib.hid (bel_alloc HB.out (.cells #[.slice (some ⟨b, off, none⟩) m cap] 35))
      have HNW : Hid (Below wr.heap.size wr (wr.alloc (.cells #[.slice (some ⟨b, off, none⟩) m cap] 35))) := (Below.refl _ _).alloc (Nat.le_refl _) _
      go_wp2_with fail
      refine (copy_c (some ⟨wr.heap.size, 0, none⟩) 1 [k :: L] _ HQ1.out HLO.out).mono ?_
      rintro e w2 ⟨g2, c2, vs2, rfl, ho2, hr2, hb2⟩
      have HB2 := Lib.hid (bel_next HBW.out hb2)
      have HN2 := Lib.hid (bel_next HNW.out hb2)
      have HQ2 := Lib.hid (hr2.isO ho2)
      clear ho2 hr2 hb2
      simp only [List.length_cons, List.length_nil, Nat.zero_add]
      by_cases hck : checkE [k :: L] = 0
      case neg =>
        have HF2 := Lib.hid (flat_refused (some ⟨g2, 0, none⟩) c2 [k :: L] w2 HQ2.out HLO.out hck)
        obtain ⟨E, HE⟩ : ∃ E, Hid (checkE [k :: L] = E) := ⟨_, rfl⟩
        rw [HE.out] at HF2
        simp only [List.length_cons, List.length_nil, Nat.zero_add] at HF2
        have HCE : Hid (¬ checkE [k :: L.reverse] = 0) := by unfold Hid; rw [check_rev]; exact hck
        have HCR : Hid (checkE [k :: L.reverse] = E) := by unfold Hid; rw [check_rev, HE.out]
        have hE0 : (E == 0) = false := by rw [← HE.out]; simpa using hck
        clear hck
        go_wp2_with fail
        refine HF2.out.mono ?_
        rintro e w3 ⟨rfl, hb3⟩
        have HB3 := Lib.hid (bel_next HB2.out hb3)
        have HN3 := Lib.hid (bel_next HN2.out hb3)
        have HQ3 : Hid (IsO clK (w3.alloc (.cells #[.slice (some ⟨g, 0, none⟩) m c] 35)) (some ⟨w3.heap.size, 0, none⟩) [k :: L.reverse]) := by
          have h := isO_one (T := 35) (cap := c) (HRO.out.below HN3.out) (by rw [HRL.out]; exact HRC.out)
          rwa [HRL.out] at h
        have HF3 := Lib.hid (flat_refused (some ⟨w3.heap.size, 0, none⟩) 1 [k :: L.reverse] _ HQ3.out HLR.out HCE.out)
        rw [HCR.out] at HF3
        simp only [List.length_cons, List.length_nil, Nat.zero_add] at HF3
        have HB3' := Lib.hid (bel_alloc HB3.out (.cells #[.slice (some ⟨g, 0, none⟩) m c] 35))
        clear hb3
        go_wp2_with fail
        refine HF3.out.mono ?_
        rintro e w4 ⟨rfl, hb4⟩
        have HB4 := Lib.hid (bel_next HB3'.out hb4)
        clear hb4
        go_wp2_with fail
        go_ret
        exact ⟨by simp, HB4.out⟩
      case pos =>
        have HF2 := Lib.hid (flat_run (some ⟨g2, 0, none⟩) c2 [k :: L] w2 HQ2.out HLO.out hck)
        have HCK : Hid (checkE [k :: L.reverse] = 0) := by unfold Hid; rw [check_rev]; exact hck
        have HCL := Lib.hid hck
        simp only [List.length_cons, List.length_nil, Nat.zero_add] at HF2
        have hgood := (check_ok hck).2 (k :: L) (by simp)
        have hpb := poly_back (L := L) HK.out (fun x hx => (hgood x (List.mem_cons_of_mem _ hx)).1)
        clear hck hgood
        go_wp2_with fail
        refine HF2.out.mono ?_
        intro e w3 hp3
        rw [flatL_one] at hp3
        rcases hpb with ⟨hp1, hp2⟩ | ⟨s, hp1, hp2⟩
        · rw [hp1] at hp3
          obtain ⟨rfl, hb3⟩ := hp3
          have HB3 := Lib.hid (bel_next HB2.out hb3)
          have HN3 := Lib.hid (bel_next HN2.out hb3)
          have HQ3 : Hid (IsO clK (w3.alloc (.cells #[.slice (some ⟨g, 0, none⟩) m c] 35)) (some ⟨w3.heap.size, 0, none⟩) [k :: L.reverse]) := by
            have h := isO_one (T := 35) (cap := c) (HRO.out.below HN3.out) (by rw [HRL.out]; exact HRC.out)
            rwa [HRL.out] at h
          have HF3 := Lib.hid (flat_run (some ⟨w3.heap.size, 0, none⟩) 1 [k :: L.reverse] _ HQ3.out HLR.out HCK.out)
          rw [flatL_one, hp2] at HF3
          simp only [List.length_cons, List.length_nil, Nat.zero_add] at HF3
          have HB3' := Lib.hid (bel_alloc HB3.out (.cells #[.slice (some ⟨g, 0, none⟩) m c] 35))
          clear hb3 hp1 hp2
          go_wp2_with fail
          refine HF3.out.mono ?_
          rintro e w4 ⟨rfl, hb4⟩
          have HB4 := Lib.hid (bel_next HB3'.out hb4)
          clear hb4
          go_wp2_with fail
          go_ret
          exact ⟨rfl, HB4.out⟩
        · rw [hp1] at hp3
          obtain ⟨g3, vs3, N3, rfl, hout3, hge3, hb3⟩ := hp3
          have HB3 := Lib.hid (bel_next HB2.out hb3)
          have HN3 := Lib.hid (bel_next HN2.out hb3)
          have HQ3 : Hid (IsO clK (w3.alloc (.cells #[.slice (some ⟨g, 0, none⟩) m c] 35)) (some ⟨w3.heap.size, 0, none⟩) [k :: L.reverse]) := by
            have h := isO_one (T := 35) (cap := c) (HRO.out.below HN3.out) (by rw [HRL.out]; exact HRC.out)
            rwa [HRL.out] at h
          have HF3 := Lib.hid (flat_run (some ⟨w3.heap.size, 0, none⟩) 1 [k :: L.reverse] _ HQ3.out HLR.out HCK.out)
          rw [flatL_one, hp2] at HF3
          simp only [List.length_cons, List.length_nil, Nat.zero_add] at HF3
          have HO3 := Lib.hid (hout3.isO.below ((Below.refl w3.heap.size w3).alloc (Nat.le_refl _) (.cells #[.slice (some ⟨g, 0, none⟩) m c] 35)))
          have HB3' := Lib.hid (bel_alloc HB3.out (.cells #[.slice (some ⟨g, 0, none⟩) m c] 35))
          have HPL := Lib.hid (polyL_len hp1)
          have HTT := Lib.hid (many_no (check_ok HCL.out).1).2.1
          clear hb3 hp1 hp2 hout3 hge3
          simp only [List.length_cons, List.length_nil, Nat.zero_add]
          go_wp2_with fail
          refine HF3.out.mono ?_
          rintro e w4 ⟨g4, vs4, N4, rfl, hout4, hge4, hb4⟩
          have HB4 := Lib.hid (bel_next HB3'.out hb4)
          obtain ⟨b5, o5, a5, c5, e5, p0, hc5, hr5⟩ := (HO3.out.below hb4).at (i := 0) (c := k.sp :: s) rfl
          cases e5
          obtain ⟨b6, o6, a6, c6, e6, r0, hc6, hr6⟩ := hout4.isO.at (i := 0) (c := k.sp :: s.reverse) rfl
          cases e6
          have HR5 := Lib.hid hr5
          have HR6 := Lib.hid hr6
          clear hb4 hout4 hge4 hc5 hc6 hr5 hr6 HF3 HF2
          simp only [List.length_cons, List.length_nil, Nat.zero_add, List.length_reverse, Nat.add_zero] at p0 r0 ⊢
          obtain ⟨u, HUU⟩ : ∃ u, Hid (s.length + 1 = u) := ⟨_, rfl⟩
          rw [HUU.out] at p0 r0
          have HUB : Hid (u ≤ 65553) := by
            have h1 := HPL.out
            have h2 := HTT.out
            simp only [totalL, List.length_cons] at h1 h2
            have h3 := HUU.out
            unfold Hid; omega
          go_wp2_with fail
          go_quiet (fail)
          go_wp2_with fail
          have HP0 := Lib.hid p0
          have HQ0 := Lib.hid r0
          clear p0 r0
          go_loopw [91] (fun x wq => ∃ i : Nat, i ≤ u ∧ x = .int .i64 i ∧ Hid (Below w.heap.size w wq) ∧ Hid (Below w4.heap.size w4 wq)) (fun x _ => u - (intOf x).toNat)
          case atStart => exact ⟨0, Nat.zero_le _, rfl, bel_drewN HB4.out _, bel_drewN (Below.refl _ _) _⟩
          case round =>
            obtain ⟨i, hiu, rfl, HBq, HNq⟩ := hrel
            by_cases hlt : i < u
            · have hlt' : (i : Int) < (u : Int) := by omega
              have hi0 : (0 : Int) ≤ (i : Int) := by omega
              obtain ⟨q, hq1, hq2⟩ := back_at (s := k.sp) (t := s) (i := i) (by rw [HUU.out]; exact hlt)
              rw [HUU.out] at hq2
              obtain ⟨d, HD⟩ : ∃ d, Hid (u - i = d) := ⟨_, rfl⟩
              rw [HD.out] at hq2
              obtain ⟨j, HJ⟩ : ∃ j, Hid (d % u = j) := ⟨_, rfl⟩
              rw [HJ.out] at hq2
              obtain ⟨pb, po, rfl, x0, x1⟩ := (HR5.out.below HNq.out).spot hq1
              obtain ⟨rb, ro, rfl, y0, y1⟩ := (HR6.out.below HNq.out).spot hq2
              have p0 := keepC HNq.out HP0.out
              have r0 := keepC HNq.out HQ0.out
              have hsub : wrap64 ((u : Int) - (i : Int)) = (d : Int) := by have := HD.out; have := HUB.out; unfold wrap64; omega
              have hrem : Int.tmod (d : Int) (u : Int) = (j : Int) := by rw [← HJ.out]; rfl
              have hju : (j : Int) < (u : Int) := by have := Nat.mod_lt d (show 0 < u by omega); rw [HJ.out] at this; omega
              have hu0 : ¬ (u : Int) = 0 := by omega
              have hu1 : ((u : Int) == 0) = false := by simp; omega
              have hj0 : (0 : Int) ≤ (j : Int) := by omega
              have HX := Lib.hid (next64 (j := i) (by have := HUB.out; omega))
              have HLT := Lib.hid hlt
              clear hq1 hq2 hlt hiu
              go_wp2_with fail
              go_quiet (fail)
              go_wp2_with fail
              go_roundw
              case rel => exact ⟨i + 1, HLT.out, by first | rw [HX.out] | go_num, bel_drewN HBq.out _, bel_drewN HNq.out _⟩
              case measure => (try rw [HX.out]); have := HLT.out; simp only [intOf]; omega
            · have hlt' : ¬ (i : Int) < (u : Int) := by omega
              go_wp2_with fail
              go_ret
              exact ⟨rfl, HBq.out⟩
theorem walk (a : Option Addr) (cap : Nat) (c : List Kn) (w : World) (hcap : c.length ≤ cap) (hr : IsR clK w a c) (hf : ∀ k ∈ c, WfK k) (hz : c.length ≤ 5864062014634) :
    Calls Try.prog 8 #[.slice a c.length cap] w fun e w' => e = .returned (.bool true) ∧ Below w.heap.size w w' := by
  cases c with
  | nil => exact walk_nil a cap w
  | cons k L =>
    obtain ⟨b, off, rfl, k0, k1, k2⟩ := hr.knot (i := 0) (k := k) rfl
    by_cases hk : k.k = 1
    · exact walk_on b off cap k L w hcap hr hz hk
    · exact walk_off b off cap (k :: L).length k w (by simp) (by simpa using k2) hk

end pathBack
end Go.Proofs.Ythjhekmlhmljlaa
