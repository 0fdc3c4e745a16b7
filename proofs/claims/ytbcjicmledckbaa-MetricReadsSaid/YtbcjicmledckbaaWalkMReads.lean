/-
  The walk of MetricReads: it answers true at every slice of bytes, in every world, and changes nothing that was there.
-/
import Derived.Test.YtbcjicmledckbaaLawB
import Derived.Test.YtbcjicmledckbaaMAlive
import Derived.Deep.DeepCutAuto
import Derived.Deep.LoopGhost
namespace Go.Proofs.Ytbcjicmledckbaa.metricReads
open Go.RowKit Go.PlainAid
set_option linter.unusedSimpArgs false
set_option linter.unusedVariables false

/-- How the document's reading ends, told by its numbers. -/
def DP (w : World) (mk mu mg ma md mgp fe : Int) (adv bear places : List Int) (e : Ending) (w' : World) : Prop :=
  ∃ a0 b0 p0 ca0 cb0 cp0, e = .returned (.tuple #[.agg #[.int .i64 mk, .int .i64 mu, .int .i64 mg, .int .i64 ma, .int .i64 md, .int .i64 mgp, .slice a0 adv.length ca0, .slice b0 bear.length cb0, .slice p0 places.length cp0], .int .i64 fe]) ∧ IsMet w' ⟨mk, mu, mg, ma, md, mgp, adv, bear, places⟩ (.agg #[.int .i64 mk, .int .i64 mu, .int .i64 mg, .int .i64 ma, .int .i64 md, .int .i64 mgp, .slice a0 adv.length ca0, .slice b0 bear.length cb0, .slice p0 places.length cp0]) ∧ Below w.heap.size w w'
/-- How the program's reading ends, told by its numbers. -/
def RP (w : World) (mk mu mg ma md mgp fe : Int) (adv bear places : List Int) (e : Ending) (w' : World) : Prop :=
  ∃ a0 b0 p0 ca0 cb0 cp0, e = .returned (.tuple #[.agg #[.int .i64 mk, .int .i64 mu, .int .i64 mg, .int .i64 ma, .int .i64 md, .int .i64 mgp, .slice a0 adv.length ca0, .slice b0 bear.length cb0, .slice p0 places.length cp0], .int .i64 fe]) ∧
    OwnI w.heap.size w' (.slice a0 adv.length ca0) adv ∧ OwnI w.heap.size w' (.slice b0 bear.length cb0) bear ∧ OwnI w.heap.size w' (.slice p0 places.length cp0) places ∧
    ((∀ k, (Value.slice a0 adv.length ca0).ownBlock = some k → (Value.slice b0 bear.length cb0).ownBlock ≠ some k) ∧ (∀ k, (Value.slice a0 adv.length ca0).ownBlock = some k → (Value.slice p0 places.length cp0).ownBlock ≠ some k) ∧ (∀ k, (Value.slice b0 bear.length cb0).ownBlock = some k → (Value.slice p0 places.length cp0).ownBlock ≠ some k)) ∧
    Below w.heap.size w w'
theorem dread_r {kd : Int} {g c bf of cap : Nat} {l : List Row} {s : ByteArray} {w : World} {mk mu mg ma md mgp fe : Int} {adv bear places : List Int} (hf : RFont w g c bf of cap l s) (hm : metOf (readOf kd l s) = ⟨mk, mu, mg, ma, md, mgp, adv, bear, places⟩) (he : (readOf kd l s).1 = fe) :
    Calls Try.prog 11 #[.agg #[.int .i64 kd, .slice (some ⟨g, 0, none⟩) l.length c, .slice (some ⟨bf, of, none⟩) s.size cap]] w (DP w mk mu mg ma md mgp fe adv bear places) := by
  refine (dread_c kd g c bf of cap l s w hf).mono ?_
  intro e w' hp
  obtain ⟨a, b, p, ca, cb, cp, h1, h2, h3⟩ := dread_met hp
  rw [hm] at h1 h2
  rw [he] at h1
  exact ⟨a, b, p, ca, cb, cp, h1, h2, h3⟩
theorem mread_r {B gf : Nat} {kd : Int} {l : List Row} {s : ByteArray} {w : World} {mk mu mg ma md mgp fe : Int} {adv bear places : List Int} (hk : kd = 1 ∨ kd = 2) (hF : FontIn B w gf kd l s) (hB : B ≤ w.heap.size) (hm : metOf (readOf kd l s) = ⟨mk, mu, mg, ma, md, mgp, adv, bear, places⟩) (he : (readOf kd l s).1 = fe) :
    Calls Try.prog 12 #[.pointer (some ⟨gf, 0, none⟩)] w (RP w mk mu mg ma md mgp fe adv bear places) := by
  refine (read_c B gf kd hk l s w hF hB).mono ?_
  intro e w' hp
  obtain ⟨va, vb, vp, h1, oa, ob, op, n1, n2, n3, _, _, _, hb⟩ := read_rows hp
  rw [hm] at h1 oa ob op
  rw [he] at h1
  obtain ⟨a, ca, rfl, _⟩ := ownI_is oa
  obtain ⟨b, cb, rfl, _⟩ := ownI_is ob
  obtain ⟨p, cp, rfl, _⟩ := ownI_is op
  exact ⟨a, b, p, ca, cb, cp, h1, oa, ob, op, ⟨n1, n2, n3⟩, hb⟩
theorem read_len {kd : Int} {l : List Row} {s : ByteArray} {w : World} {gf B : Nat} (hk : kd = 1 ∨ kd = 2) : (metOf (readOf kd l s)).bear.length = (metOf (readOf kd l s)).adv.length ∧ (metOf (readOf kd l s)).adv.length ≤ 4096 ∧ (metOf (readOf kd l s)).places.length ≤ 4097 := by
  cases h : headsOf l s with
  | mk f o =>
    cases o with
    | none => rw [(read_heads_no (kd := kd) h).1]; simp [metOf, met0]
    | some t =>
      obtain ⟨u, gn, asc, de, gp, fo, wd⟩ := t
      obtain ⟨_, n, wn, _, _, _, hn, _, _, _, hr⟩ := read_heads_yes (kd := kd) h
      rw [hr]
      unfold readRest
      cases tabN l s hmtxTg (2 * (n : Int) + 2 * (wn : Int)) with
      | none => simp [metOf, met0]
      | some hm =>
        simp only
        by_cases hp : (rPlaces kd l s n fo).1 ≠ 0
        · rw [if_pos hp]; simp [metOf, met0]
        · rw [if_neg hp]
          have h1 := advL_length hm wn n
          have h2 := bearL_length hm wn n
          have h3 := rPlaces_length kd l s n fo
          refine ⟨?_, ?_, ?_⟩
          · show (bearL hm wn n).length = (advL hm wn n).length; rw [h1, h2]
          · show (advL hm wn n).length ≤ 4096; rw [h1]; exact hn
          · show (rPlaces kd l s n fo).2.length ≤ 4097; omega
theorem addr_of {B : Nat} {w : World} {a : Option Addr} {n c : Nat} {L : List Int} (h : OwnI B w (.slice a n c) L) (hl : 0 < L.length) : ∃ g, a = some ⟨g, 0, none⟩ := by
  rcases ownI_form h with ⟨_, h2⟩ | ⟨g, c', hv, _⟩
  · rw [h2] at hl; cases hl
  · cases hv; exact ⟨g, rfl⟩
theorem own_at {B : Nat} {w : World} {g n c : Nat} {L : List Int} (h : OwnI B w (.slice (some ⟨g, 0, none⟩) n c) L) (hn : n = L.length) {j : Nat} (hj : j < L.length) : w.cell? ⟨g, j, none⟩ = some (.int .i64 (L.getD j 0)) ∧ w.frozen? ⟨g, j, none⟩ = false := by
  subst hn
  exact owns_cell h (u := .int .i64 (L.getD j 0)) (by simp [List.getD, hj])
theorem lt_start {w7 w8 w10 : World} {mk mu mg ma md mgp : Int} {adv bear places : List Int} {a1 b1 p1 : Option Addr} {ca1 cb1 cp1 : Nat} (o : Obj) (hb8 : Below w7.heap.size w7 w8)
    (oa : OwnI w7.heap.size w8 (.slice a1 adv.length ca1) adv) (ob : OwnI w7.heap.size w8 (.slice b1 bear.length cb1) bear) (op : OwnI w7.heap.size w8 (.slice p1 places.length cp1) places)
    (hn : (∀ k, (Value.slice a1 adv.length ca1).ownBlock = some k → (Value.slice b1 bear.length cb1).ownBlock ≠ some k) ∧ (∀ k, (Value.slice a1 adv.length ca1).ownBlock = some k → (Value.slice p1 places.length cp1).ownBlock ≠ some k) ∧ (∀ k, (Value.slice b1 bear.length cb1).ownBlock = some k → (Value.slice p1 places.length cp1).ownBlock ≠ some k))
    (hb10 : Below (w8.alloc (.cells #[.int .i64 mk, .int .i64 mu, .int .i64 mg, .int .i64 ma, .int .i64 md, .int .i64 mgp, .slice a1 adv.length ca1, .slice b1 bear.length cb1, .slice p1 places.length cp1] 35)).heap.size (w8.alloc (.cells #[.int .i64 mk, .int .i64 mu, .int .i64 mg, .int .i64 ma, .int .i64 md, .int .i64 mgp, .slice a1 adv.length ca1, .slice b1 bear.length cb1, .slice p1 places.length cp1] 35)) w10) :
    LT w7 (w10.alloc o) w8.heap.size (w8.heap.size + 1) mk mu mg ma md mgp (.slice a1 adv.length ca1) adv (.slice b1 bear.length cb1) bear (.slice p1 places.length cp1) places (w10.alloc o) := by
  have b9 : Below w8.heap.size w8 (w8.alloc (.cells #[.int .i64 mk, .int .i64 mu, .int .i64 mg, .int .i64 ma, .int .i64 md, .int .i64 mgp, .slice a1 adv.length ca1, .slice b1 bear.length cb1, .slice p1 places.length cp1] 35)) := (Below.refl _ _).alloc (Nat.le_refl _) _
  have z9 : (w8.alloc (.cells #[.int .i64 mk, .int .i64 mu, .int .i64 mg, .int .i64 ma, .int .i64 md, .int .i64 mgp, .slice a1 adv.length ca1, .slice b1 bear.length cb1, .slice p1 places.length cp1] 35)).heap.size = w8.heap.size + 1 := by simp [go_sem]
  have k9 := blk_alloc w8 [.int .i64 mk, .int .i64 mu, .int .i64 mg, .int .i64 ma, .int .i64 md, .int .i64 mgp, .slice a1 adv.length ca1, .slice b1 bear.length cb1, .slice p1 places.length cp1] 35 rfl
  have e9 : w8.alloc (.cells ([.int .i64 mk, .int .i64 mu, .int .i64 mg, .int .i64 ma, .int .i64 md, .int .i64 mgp, .slice a1 adv.length ca1, .slice b1 bear.length cb1, .slice p1 places.length cp1] : List Value).toArray 35) = w8.alloc (.cells #[.int .i64 mk, .int .i64 mu, .int .i64 mg, .int .i64 ma, .int .i64 md, .int .i64 mgp, .slice a1 adv.length ca1, .slice b1 bear.length cb1, .slice p1 places.length cp1] 35) := rfl
  rw [e9] at k9
  generalize w8.alloc (.cells #[.int .i64 mk, .int .i64 mu, .int .i64 mg, .int .i64 ma, .int .i64 md, .int .i64 mgp, .slice a1 adv.length ca1, .slice b1 bear.length cb1, .slice p1 places.length cp1] 35) = w9 at *
  have b11 : Below w9.heap.size w9 (w10.alloc o) := hb10.alloc hb10.size _
  have b811 : Below w8.heap.size w8 (w10.alloc o) := b9.trans (b11.mono b9.size)
  have hs := b11.size
  have sz8 := hb8.size
  have lt : ∀ (v : Value) (L : List Int), OwnI w7.heap.size w8 v L → ∀ k, v.ownBlock = some k → k ≠ w8.heap.size ∧ (k < w8.heap.size + 1 ∨ (w10.alloc o).heap.size ≤ k) := by
    intro v L h k hk
    have := (ownI_lt h hk).2
    exact ⟨by omega, .inl (by omega)⟩
  exact ⟨hb8.trans (b811.mono hb8.size), k9.below b11, sz8, Nat.lt_succ_self _, by omega, Nat.le_refl _, fun _ _ _ => rfl, ownI_keep oa (fun k _ hl => b811.block k hl), ownI_keep ob (fun k _ hl => b811.block k hl), ownI_keep op (fun k _ hl => b811.block k hl), lt _ _ oa, lt _ _ ob, lt _ _ op, hn.1, hn.2.1, hn.2.2⟩
theorem len_set {L : List Int} {n j : Nat} {x : Int} (h : L.length = n) : (L.set j x).length = n := by simp [h]
theorem len_add {L : List Int} {k : Nat} {x : Int} (h : L.length ≤ 5000 + k) : (L ++ [x]).length ≤ 5000 + (k + 1) := by simp; omega
theorem len_mil {L : List Int} {k : Nat} (h : L.length ≤ 5000 + k) (hk : k ≤ 9) : L.length ≤ 1000000 := by omega

set_option maxHeartbeats 4000000 in
set_option maxRecDepth 20000 in
theorem walk (a : Option Addr) (cap : Nat) (s : ByteArray) (w : World) (hB : IsB w a s.size cap s) (hz : (s.size : Int) ≤ 140737488351232) :
    Calls Try.prog 4 #[.slice a s.size cap] w fun e w' => e = .returned (.bool true) ∧ Below w.heap.size w w' := by
  have HB := Lib.hid hB
  have HS := Lib.hid hz
  clear hB hz
  obtain ⟨f, o, HO⟩ : ∃ f o, Hid (openOf s 0 = (f, o)) := ⟨_, _, rfl⟩
  go_enter Try.func4, Try.ntmps4
  go_wp2_with fail
  refine (alive_c _).mono ?_
  rintro e w1 ⟨rfl, hb1⟩
  have HW1 := Lib.hid hb1
  have HB1 := Lib.hid (HB.out.below hb1)
  clear hb1
  go_wp2_with fail
  refine (ropen_c a cap s w1 HB1.out).mono ?_
  rw [HO.out]
  cases o with
  | none =>
    rintro e w2 ⟨rfl, hb2⟩
    have hff : (f != f) = false := by simp
    have hf0 : (f != 0) = true := by simpa using open_no HO.out
    have hfe : (f == f) = true := by simp
    have HW3 := Lib.hid ((HW1.out.trans (hb2.mono HW1.out.size)).trans (((Below.refl _ _).alloc (Nat.le_refl _) (.cells #[.int .i64 0, .slice none 0 0, .slice none 0 0] 26)).mono (Nat.le_trans HW1.out.size hb2.size)))
    clear hb2
    go_upto_region 4 with fail
    generalize (w2.alloc (.cells #[.int .i64 0, .slice none 0 0, .slice none 0 0] 26)) = w3 at *
    have HB3 := Lib.hid (HB.out.below HW3.out)
    go_wp2_with (at_builtin; refine wpList_copy rfl _ _ rfl w3 a s.size cap s rfl rfl HB3.out (by have := HS.out; omega) ?_; intro g1 c1 w4 hown hb4)
    have HC4 := Lib.hid (isB_of_owns hown)
    have HW4 := Lib.hid (HW3.out.trans (hb4.mono HW3.out.size))
    clear hb4 hown
    refine (open_c (some ⟨g1, 0, none⟩) c1 0 s w4 HC4.out).mono ?_
    intro e w5 hp
    unfold OpenPost at hp
    rw [HO.out] at hp
    obtain ⟨rfl, hb5⟩ := hp
    have HW5 := Lib.hid (HW4.out.trans (hb5.mono HW4.out.size))
    clear hb5 HW4 HC4
    go_wp2_with fail
    go_ret
    exact ⟨rfl, HW5.out⟩
  | some t =>
    obtain ⟨kd, l⟩ := t
    rintro e w2 ⟨rv, rfl, ho2, hb2⟩
    have HW2 := Lib.hid (HW1.out.trans (hb2.mono HW1.out.size))
    obtain ⟨rfl, hkd, _, _, _⟩ := open_yes HO.out
    have HKD := Lib.hid hkd
    obtain ⟨g, c, bf, of, rfl, rfl, hrf⟩ := rfont_of (w := w2) (HB.out.below HW2.out) HO.out ho2
    have HFT := Lib.hid (open_fits HO.out)
    have HT3 := Lib.hid (trip_alloc w2 (.int .i64 kd) (.slice (some ⟨g, 0, none⟩) l.length c) (.slice (some ⟨bf, of, none⟩) s.size cap) 26)
    have hba : Below w2.heap.size w2 (w2.alloc (.cells #[.int .i64 kd, .slice (some ⟨g, 0, none⟩) l.length c, .slice (some ⟨bf, of, none⟩) s.size cap] 26)) := (Below.refl _ _).alloc (Nat.le_refl _) _
    have HW3 := Lib.hid (HW2.out.trans (hba.mono HW2.out.size))
    have HRF := Lib.hid (hrf.below hba)
    clear hkd ho2 hb2 hba hrf
    go_upto_region 4 with fail
    generalize (w2.alloc (.cells #[.int .i64 kd, .slice (some ⟨g, 0, none⟩) l.length c, .slice (some ⟨bf, of, none⟩) s.size cap] 26)) = w3 at *
    generalize w2.heap.size = X3 at *
    have HB3 := Lib.hid (HB.out.below HW3.out)
    go_wp2_with (at_builtin; refine wpList_copy rfl _ _ rfl w3 (some ⟨bf, of, none⟩) s.size cap s rfl rfl HB3.out (by have := HS.out; omega) ?_; intro g1 c1 w4 hown hb4)
    have HC4 := Lib.hid (isB_of_owns hown)
    have HB34 := Lib.hid hb4
    clear hb4 hown
    refine (open_c (some ⟨g1, 0, none⟩) c1 0 s w4 HC4.out).mono ?_
    intro e w5 hp
    unfold OpenPost at hp
    rw [HO.out] at hp
    obtain ⟨⟨gf, rfl, hf5⟩, hb5⟩ := hp
    have HF5 := Lib.hid (hf5.inn HFT.out.1 HFT.out.2)
    have HB35 := Lib.hid (HB34.out.trans (hb5.mono HB34.out.size))
    clear hb5 hf5 HB34 HC4
    have HT5 := Lib.hid (HT3.out.below HB35.out)
    have HRF5 := Lib.hid (HRF.out.below HB35.out)
    have HW5 := Lib.hid (HW3.out.trans (HB35.out.mono HW3.out.size))
    obtain ⟨t0, t1, t2, _, _, _⟩ := HT5.out
    clear HT3 HRF HB3 HB35 HW3 HB1 HW1 HW2
    obtain ⟨⟨mk, mu, mg, ma, md, mgp, adv, bear, places⟩, HM⟩ : ∃ m, Hid (metOf (readOf kd l s) = m) := ⟨_, rfl⟩
    obtain ⟨fe, HFE⟩ : ∃ x, Hid ((readOf kd l s).1 = x) := ⟨_, rfl⟩
    have HLEN : Hid (bear.length = adv.length ∧ adv.length ≤ 4096 ∧ places.length ≤ 4097) := by have h9 := read_len (l := l) (s := s) (w := w) (gf := gf) (B := 0) HKD.out; rw [HM.out] at h9; exact h9
    go_wp2_with fail
    refine (dread_r HRF5.out HM.out HFE.out).mono ?_
    rintro e w6 ⟨a0, b0, p0, ca0, cb0, cp0, rfl, hm6, hb6⟩
    have hba : Below w6.heap.size w6 (w6.alloc (.cells #[.int .i64 mk, .int .i64 mu, .int .i64 mg, .int .i64 ma, .int .i64 md, .int .i64 mgp, .slice a0 adv.length ca0, .slice b0 bear.length cb0, .slice p0 places.length cp0] 35)) := (Below.refl _ _).alloc (Nat.le_refl _) _
    have HMW := Lib.hid (hm6.below hba)
    have HVW := Lib.hid (mvar_alloc w6 [.int .i64 mk, .int .i64 mu, .int .i64 mg, .int .i64 ma, .int .i64 md, .int .i64 mgp, .slice a0 adv.length ca0, .slice b0 bear.length cb0, .slice p0 places.length cp0] 35)
    have HB57 := Lib.hid (hb6.trans (hba.mono hb6.size))
    have HW7 := Lib.hid (HW5.out.trans (HB57.out.mono HW5.out.size))
    have HF7 := Lib.hid (HF5.out.kept HB57.out)
    clear hm6 hb6 hba t0 t1 t2 HT5 HRF5
    go_wp2_with fail
    generalize hw7 : (w6.alloc (.cells #[.int .i64 mk, .int .i64 mu, .int .i64 mg, .int .i64 ma, .int .i64 md, .int .i64 mgp, .slice a0 adv.length ca0, .slice b0 bear.length cb0, .slice p0 places.length cp0] 35)) = w7 at *
    have HZ7 : Hid (w6.heap.size < w7.heap.size) := by unfold Hid; rw [← hw7]; simp [go_sem]
    clear hw7
    generalize w6.heap.size = WV at *
    refine (mread_r HKD.out HF7.out HB57.out.size HM.out HFE.out).mono ?_
    rintro e w8 ⟨a1, b1, p1, ca1, cb1, cp1, rfl, oa1, ob1, op1, hn1, hb8⟩
    have OA1 := Lib.hid oa1
    have OB1 := Lib.hid ob1
    have OP1 := Lib.hid op1
    have HN1 := Lib.hid hn1
    have HB78 := Lib.hid hb8
    have HB89 : Hid (Below w8.heap.size w8 (w8.alloc (.cells #[.int .i64 mk, .int .i64 mu, .int .i64 mg, .int .i64 ma, .int .i64 md, .int .i64 mgp, .slice a1 adv.length ca1, .slice b1 bear.length cb1, .slice p1 places.length cp1] 35))) := (Below.refl _ _).alloc (Nat.le_refl _) _
    have HF9 := Lib.hid ((HF7.out.kept (hb8.mono HB57.out.size)).kept (HB89.out.mono (Nat.le_trans HB57.out.size hb8.size)))
    clear oa1 ob1 op1 hn1 hb8
    go_wp2_with fail
    generalize hw9 : (w8.alloc (.cells #[.int .i64 mk, .int .i64 mu, .int .i64 mg, .int .i64 ma, .int .i64 md, .int .i64 mgp, .slice a1 adv.length ca1, .slice b1 bear.length cb1, .slice p1 places.length cp1] 35)) = w9 at *
    have HZ9 : Hid (w9.heap.size = w8.heap.size + 1) := by unfold Hid; rw [← hw9]; simp [go_sem]
    refine (mread_r HKD.out HF9.out (Nat.le_trans HB57.out.size (Nat.le_trans HB78.out.size HB89.out.size)) HM.out HFE.out).mono ?_
    rintro e w10 ⟨a2, b2, p2, ca2, cb2, cp2, rfl, oa2, ob2, op2, hn2, hb10⟩
    have HLT := Lib.hid (lt_start (.cells #[.int .i64 mk, .int .i64 mu, .int .i64 mg, .int .i64 ma, .int .i64 md, .int .i64 mgp, .slice a2 adv.length ca2, .slice b2 bear.length cb2, .slice p2 places.length cp2] 35) HB78.out OA1.out OB1.out OP1.out HN1.out (by rw [hw9]; exact hb10))
    have hba : Below w10.heap.size w10 (w10.alloc (.cells #[.int .i64 mk, .int .i64 mu, .int .i64 mg, .int .i64 ma, .int .i64 md, .int .i64 mgp, .slice a2 adv.length ca2, .slice b2 bear.length cb2, .slice p2 places.length cp2] 35)) := (Below.refl _ _).alloc (Nat.le_refl _) _
    have OA2 : Hid (OwnI w9.heap.size (w10.alloc (.cells #[.int .i64 mk, .int .i64 mu, .int .i64 mg, .int .i64 ma, .int .i64 md, .int .i64 mgp, .slice a2 adv.length ca2, .slice b2 bear.length cb2, .slice p2 places.length cp2] 35)) (.slice a2 adv.length ca2) adv) := ownI_keep oa2 (fun k _ hl => hba.block k hl)
    have OB2 : Hid (OwnI w9.heap.size (w10.alloc (.cells #[.int .i64 mk, .int .i64 mu, .int .i64 mg, .int .i64 ma, .int .i64 md, .int .i64 mgp, .slice a2 adv.length ca2, .slice b2 bear.length cb2, .slice p2 places.length cp2] 35)) (.slice b2 bear.length cb2) bear) := ownI_keep ob2 (fun k _ hl => hba.block k hl)
    have OP2 : Hid (OwnI w9.heap.size (w10.alloc (.cells #[.int .i64 mk, .int .i64 mu, .int .i64 mg, .int .i64 ma, .int .i64 md, .int .i64 mgp, .slice a2 adv.length ca2, .slice b2 bear.length cb2, .slice p2 places.length cp2] 35)) (.slice p2 places.length cp2) places) := ownI_keep op2 (fun k _ hl => hba.block k hl)
    have HVN := Lib.hid (mvar_alloc w10 [.int .i64 mk, .int .i64 mu, .int .i64 mg, .int .i64 ma, .int .i64 md, .int .i64 mgp, .slice a2 adv.length ca2, .slice b2 bear.length cb2, .slice p2 places.length cp2] 35)
    have HZN : Hid (w9.heap.size ≤ w10.heap.size) := hb10.size
    clear oa2 ob2 op2 hn2 hb10 hba hw9 HF9 HF7 HF5 HB89
    have hff : (fe != fe) = false := by simp
    rw [← HZ9.out] at HLT
    go_upto_region 10 with fail
    generalize (w10.alloc (.cells #[.int .i64 mk, .int .i64 mu, .int .i64 mg, .int .i64 ma, .int .i64 md, .int .i64 mgp, .slice a2 adv.length ca2, .slice b2 bear.length cb2, .slice p2 places.length cp2] 35)) = W11 at *
    generalize w8.heap.size = MV at *
    generalize hn0 : w9.heap.size = N0 at *
    have HZW : Hid (w10.heap.size < W11.heap.size) := by
      have h9 := HVN.out 0 (by omega)
      exact World.block_lt_of_cell? W11 _ (h9.trans rfl)
    generalize w10.heap.size = NV at *
    clear hn0
    obtain ⟨m0, m1, m2, m3, m4, m5, m6, m7, m8⟩ := mvar_cells HLT.out.m.c
    obtain ⟨q0, q1, q2, q3, q4, q5, q6, q7, q8⟩ := mvar_cells (HVW.out.below rfl HLT.out.bel)
    go_wp2_with fail
    clear m0 m1 m2 m3 m4 m5 m6 m7 m8 q0 q1 q2 q3 q4 q5 q6 q7 q8
    refine (same_c ⟨mk, mu, mg, ma, md, mgp, adv, bear, places⟩ (.agg #[.int .i64 mk, .int .i64 mu, .int .i64 mg, .int .i64 ma, .int .i64 md, .int .i64 mgp, .slice a1 adv.length ca1, .slice b1 bear.length cb1, .slice p1 places.length cp1]) (.agg #[.int .i64 mk, .int .i64 mu, .int .i64 mg, .int .i64 ma, .int .i64 md, .int .i64 mgp, .slice a0 adv.length ca0, .slice b0 bear.length cb0, .slice p0 places.length cp0]) W11 (own_isMet (m := ⟨mk, mu, mg, ma, md, mgp, adv, bear, places⟩) HLT.out.oa HLT.out.ob HLT.out.op HLEN.out.1 HLEN.out.2.1 HLEN.out.2.2) (HMW.out.below HLT.out.bel)).mono ?_
    rintro e w12 ⟨rfl, hb12⟩
    have HL2 := Lib.hid (HLT.out.below hb12)
    clear HLT hb12 hff
    have m6 := (mvar_cells HL2.out.m.c).2.2.2.2.2.2.1
    go_wp2_with fail
    clear m6
    go_loopg [74] adv.length (fun gk i wr => ∃ k : Nat, ∃ La Lb : List Int, Hid (gk + k = adv.length) ∧ i = .int .i64 k ∧ Hid (La.length = adv.length ∧ Lb.length = adv.length) ∧ Hid (LT w7 W11 MV N0 mk mu mg ma md mgp (.slice a1 adv.length ca1) La (.slice b1 bear.length cb1) Lb (.slice p1 places.length cp1) places wr))
    case atStart => exact ⟨0, adv, bear, Lib.hid (Nat.add_zero _), rfl, Lib.hid ⟨rfl, HLEN.out.1⟩, HL2⟩
    case round =>
      clear HL2
      obtain ⟨k, La, Lb, HK, rfl, HLL, HL⟩ := hrel
      by_cases hlt : k < adv.length
      · have hlt' : (k : Int) < (adv.length : Int) := Int.ofNat_lt.2 hlt
        have hlb' : (k : Int) < (bear.length : Int) := by rw [HLEN.out.1]; exact hlt'
        obtain ⟨ga, ea⟩ := addr_of HL.out.oa (by rw [HLL.out.1]; omega)
        obtain ⟨gb, eb⟩ := addr_of HL.out.ob (by rw [HLL.out.2]; omega)
        subst ea
        subst eb
        have m6 := (mvar_cells HL.out.m.c).2.2.2.2.2.2.1
        obtain ⟨hc, hfz⟩ := own_at HL.out.oa HLL.out.1.symm (j := k) (by rw [HLL.out.1]; exact hlt)
        have HL3 := Lib.hid (HL.out.putA (j := k) (by rw [HLL.out.1]; exact hlt) (-1))
        go_upto_region 16 with fail
        generalize (wr.setCell ⟨ga, k, none⟩ (.int .i64 (-1))) = wr3 at *
        clear m6 hc hfz HL
        have m7 := (mvar_cells HL3.out.m.c).2.2.2.2.2.2.2.1
        obtain ⟨hc, hfz⟩ := own_at HL3.out.ob (by rw [HLL.out.2]; exact HLEN.out.1) (j := k) (by rw [HLL.out.2]; exact hlt)
        have HL4 := Lib.hid (HL3.out.putB (j := k) (by rw [HLL.out.2]; exact hlt) (-2))
        have HW9 : Hid (wrap64 ((k : Int) + 1) = ((k + 1 : Nat) : Int)) := by have := HLEN.out; unfold Hid wrap64; omega
        go_wp2_with fail
        go_roundg (gk - 1)
        case measure => exact (lps_1 HK.out hlt).2
        case rel => exact ⟨k + 1, La.set k (-1), Lb.set k (-2), Lib.hid (lps_1 HK.out hlt).1, by first | rfl | rw [HW9.out], Lib.hid ⟨len_set HLL.out.1, len_set HLL.out.2⟩, HL4⟩
      · have hlt' : ¬ (k : Int) < (adv.length : Int) := by omega
        have HLA : Hid (La.length ≤ 5000 + 0 ∧ Lb.length ≤ 5000 + 0) := by have := HLL.out; have := HLEN.out; unfold Hid; omega
        have m8 := (mvar_cells HL.out.m.c).2.2.2.2.2.2.2.2
        clear HLL
        go_wp2_with fail
        clear m8
        go_loopg [89] places.length (fun gk i wr => ∃ k : Nat, ∃ Lp : List Int, Hid (gk + k = places.length) ∧ i = .int .i64 k ∧ Hid (Lp.length = places.length) ∧ Hid (LT w7 W11 MV N0 mk mu mg ma md mgp (.slice a1 adv.length ca1) La (.slice b1 bear.length cb1) Lb (.slice p1 places.length cp1) Lp wr))
        case atStart => exact ⟨0, places, Lib.hid (Nat.add_zero _), rfl, Lib.hid rfl, HL⟩
        case round =>
          clear HL HK hlt' hlt
          rename_i kOld _ _
          obtain ⟨k, Lp, HK, rfl, HLL, HL⟩ := hrel
          by_cases hlt : k < places.length
          · have hlt' : (k : Int) < (places.length : Int) := Int.ofNat_lt.2 hlt
            obtain ⟨gp, ep⟩ := addr_of HL.out.op (by rw [HLL.out]; omega)
            subst ep
            have m8 := (mvar_cells HL.out.m.c).2.2.2.2.2.2.2.2
            obtain ⟨hc, hfz⟩ := own_at HL.out.op HLL.out.symm (j := k) (by rw [HLL.out]; exact hlt)
            have HL4 := Lib.hid (HL.out.putP (j := k) (by rw [HLL.out]; exact hlt) (-3))
            have HW9 : Hid (wrap64 ((k : Int) + 1) = ((k + 1 : Nat) : Int)) := by have := HLEN.out; unfold Hid wrap64; omega
            go_wp2_with fail
            go_roundg (gk - 1)
            case measure => exact (lps_1 HK.out hlt).2
            case rel => exact ⟨k + 1, Lp.set k (-3), Lib.hid (lps_1 HK.out hlt).1, by first | rfl | rw [HW9.out], Lib.hid (len_set HLL.out), HL4⟩
          · have hlt' : ¬ (k : Int) < (places.length : Int) := by omega
            have HLP : Hid (La.length ≤ 5000 + 0 ∧ Lb.length ≤ 5000 + 0 ∧ Lp.length ≤ 5000 + 0) := by have := HLL.out; have := HLEN.out; have := HLA.out; unfold Hid; omega
            clear HLL HLA HK
            go_wp2_with fail
            clear hlt' hlt
            go_loopg [14] 9 (fun gk i wr => ∃ k : Nat, ∃ va vb vp : Value, ∃ La Lb Lp : List Int, Hid (gk + k = 9) ∧ i = .int .i64 k ∧ Hid (La.length ≤ 5000 + k ∧ Lb.length ≤ 5000 + k ∧ Lp.length ≤ 5000 + k) ∧ Hid (LT w7 W11 MV N0 mk mu mg ma md mgp va La vb Lb vp Lp wr))
            case atStart => exact ⟨0, _, _, _, La, Lb, Lp, Lib.hid rfl, rfl, HLP, HL⟩
            case round =>
              clear HL HLP
              obtain ⟨k, va, vb, vp, La, Lb, Lp, HK, rfl, HLL, HL⟩ := hrel
              by_cases hlt : k < 9
              · have hlt' : (k : Int) < 9 := by omega
                have HK9 : Hid (k ≤ 9) := Lib.hid (Nat.le_of_lt hlt)
                have HW9 : Hid (wrap64 ((k : Int) + 1) = ((k + 1 : Nat) : Int)) := by unfold Hid wrap64; omega
                have HX : Hid (LT w7 W11 MV N0 mk mu mg ma md mgp va La vb Lb vp Lp (wr.alloc (.cells #[.int .i64 1] 3))) := HL.out.below ((Below.refl _ _).alloc (Nat.le_refl _) _)
                have hx0 : (wr.alloc (.cells #[.int .i64 1] 3)).cell? ⟨wr.heap.size, 0, none⟩ = some (.int .i64 1) := by simp [go_sem]
                have mm := (mvar_cells HL.out.m.c).2.2.2.2.2.2.1
                go_upto_region 27 with (at_builtin; refine wpList_addI rfl _ _ rfl (wr.alloc (.cells #[.int .i64 1] 3)) w7.heap.size va La wr.heap.size 1 rfl rfl HX.out.oa hx0 (len_mil HLL.out.1 HK9.out) HX.out.le ?_; intro gA cA wA ho hg hat hlt2; have HNA := Lib.hid (HX.out.addA ho hg hat); have kk := (mvar_cells (HX.out.growA hg).c).2.2.2.2.2.2.1; have kf := (HX.out.growA hg).f 6 (by omega); clear ho hg hat hlt2)
                generalize hgen : (wA.setCell ⟨MV, 6, none⟩ (.slice (some ⟨gA, 0, none⟩) (La.length + 1) cA)) = wra at *
                clear hgen HX hx0 mm kk kf
                have HX : Hid (LT w7 W11 MV N0 mk mu mg ma md mgp (.slice (some ⟨gA, 0, none⟩) (La.length + 1) cA) (La ++ [1]) vb Lb vp Lp (wra.alloc (.cells #[.int .i64 1] 3))) := HNA.out.below ((Below.refl _ _).alloc (Nat.le_refl _) _)
                have hx0 : (wra.alloc (.cells #[.int .i64 1] 3)).cell? ⟨wra.heap.size, 0, none⟩ = some (.int .i64 1) := by simp [go_sem]
                have mm := (mvar_cells HNA.out.m.c).2.2.2.2.2.2.2.2
                go_upto_region 28 with (at_builtin; refine wpList_addI rfl _ _ rfl (wra.alloc (.cells #[.int .i64 1] 3)) w7.heap.size vp Lp wra.heap.size 1 rfl rfl HX.out.op hx0 (len_mil HLL.out.2.2 HK9.out) HX.out.le ?_; intro gP cP wP ho hg hat hlt2; have HNP := Lib.hid (HX.out.addP ho hg hat); have kk := (mvar_cells (HX.out.growP hg).c).2.2.2.2.2.2.2.2; have kf := (HX.out.growP hg).f 8 (by omega); clear ho hg hat hlt2)
                generalize hgen : (wP.setCell ⟨MV, 8, none⟩ (.slice (some ⟨gP, 0, none⟩) (Lp.length + 1) cP)) = wrp at *
                clear hgen HX hx0 mm kk kf
                have HX : Hid (LT w7 W11 MV N0 mk mu mg ma md mgp (.slice (some ⟨gA, 0, none⟩) (La.length + 1) cA) (La ++ [1]) vb Lb (.slice (some ⟨gP, 0, none⟩) (Lp.length + 1) cP) (Lp ++ [1]) (wrp.alloc (.cells #[.int .i64 1] 3))) := HNP.out.below ((Below.refl _ _).alloc (Nat.le_refl _) _)
                have hx0 : (wrp.alloc (.cells #[.int .i64 1] 3)).cell? ⟨wrp.heap.size, 0, none⟩ = some (.int .i64 1) := by simp [go_sem]
                have mm := (mvar_cells HNP.out.m.c).2.2.2.2.2.2.2.1
                go_wp2_with (at_builtin; refine wpList_addI rfl _ _ rfl (wrp.alloc (.cells #[.int .i64 1] 3)) w7.heap.size vb Lb wrp.heap.size 1 rfl rfl HX.out.ob hx0 (len_mil HLL.out.2.1 HK9.out) HX.out.le ?_; intro gB cB wB ho hg hat hlt2; have HNB := Lib.hid (HX.out.addB ho hg hat); have kk := (mvar_cells (HX.out.growB hg).c).2.2.2.2.2.2.2.1; have kf := (HX.out.growB hg).f 7 (by omega); clear ho hg hat hlt2)
                go_roundg (gk - 1)
                case measure => exact (lps_1 HK.out hlt).2
                case rel => exact ⟨k + 1, _, _, _, La ++ [1], Lb ++ [1], Lp ++ [1], Lib.hid (lps_1 HK.out hlt).1, by first | rfl | rw [HW9.out], Lib.hid ⟨len_add HLL.out.1, len_add HLL.out.2.1, len_add HLL.out.2.2⟩, HNB⟩
              · have hlt' : ¬ (k : Int) < 9 := by omega
                have HVN2 : Hid (MVar wr NV [.int .i64 mk, .int .i64 mu, .int .i64 mg, .int .i64 ma, .int .i64 md, .int .i64 mgp, .slice a2 adv.length ca2, .slice b2 bear.length cb2, .slice p2 places.length cp2]) := by
                  intro i hi
                  rw [World.cell?_of_block (HL.out.keep NV HZN.out HZW.out)]
                  exact HVN.out i hi
                obtain ⟨m0, m1, m2, m3, m4, m5, m6, m7, m8⟩ := mvar_cells HVN2.out
                obtain ⟨q0, q1, q2, q3, q4, q5, q6, q7, q8⟩ := mvar_cells (HVW.out.below rfl HL.out.bel)
                have OA3 : Hid (OwnI N0 wr (.slice a2 adv.length ca2) adv) := ownI_keep OA2.out (fun k hk hl => HL.out.keep k (ownI_lt OA2.out hk).1 hl)
                have OB3 : Hid (OwnI N0 wr (.slice b2 bear.length cb2) bear) := ownI_keep OB2.out (fun k hk hl => HL.out.keep k (ownI_lt OB2.out hk).1 hl)
                have OP3 : Hid (OwnI N0 wr (.slice p2 places.length cp2) places) := ownI_keep OP2.out (fun k hk hl => HL.out.keep k (ownI_lt OP2.out hk).1 hl)
                go_wp2_with fail
                refine (same_c ⟨mk, mu, mg, ma, md, mgp, adv, bear, places⟩ (.agg #[.int .i64 mk, .int .i64 mu, .int .i64 mg, .int .i64 ma, .int .i64 md, .int .i64 mgp, .slice a2 adv.length ca2, .slice b2 bear.length cb2, .slice p2 places.length cp2]) (.agg #[.int .i64 mk, .int .i64 mu, .int .i64 mg, .int .i64 ma, .int .i64 md, .int .i64 mgp, .slice a0 adv.length ca0, .slice b0 bear.length cb0, .slice p0 places.length cp0]) wr (own_isMet (m := ⟨mk, mu, mg, ma, md, mgp, adv, bear, places⟩) OA3.out OB3.out OP3.out HLEN.out.1 HLEN.out.2.1 HLEN.out.2.2) (HMW.out.below HL.out.bel)).mono ?_
                rintro e w13 ⟨rfl, hb13⟩
                have HWF := Lib.hid ((HW7.out.trans (HL.out.bel.mono HW7.out.size)).trans (hb13.mono (Nat.le_trans HW7.out.size HL.out.bel.size)))
                clear hb13
                go_wp2_with fail
                go_ret
                exact ⟨rfl, HWF.out⟩

end Go.Proofs.Ytbcjicmledckbaa.metricReads
