/-
  What Nearest of the document's answer gives, as a contract over the translated program: the nearest of a quotient, halves up, at most 4294967295.
-/
import Derived.Test.YthjhekmlhmljlaaPlus
import Derived.Test.YthjhekmlhmljlaaSize
import Derived.Test.YthjhekmlhmljlaaFxI
import Derived.Test.YthjhekmlhmljlaaMulDiv
import Derived.Deep.RegionHeld3
import Derived.Deep.DeepCutAuto
namespace Go.Proofs.Ythjhekmlhmljlaa
open Go.RowKit
set_option linter.unusedSimpArgs false
set_option linter.unusedVariables false

/-- A long number's cells as a list. -/
def longL (m : Nat) : List Value := [.int .i64 (dig m 0 : Nat), .int .i64 (dig m 1 : Nat), .int .i64 (dig m 2 : Nat), .int .i64 (dig m 3 : Nat), .int .i64 (dig m 4 : Nat), .int .i64 (dig m 5 : Nat), .int .i64 (dig m 6 : Nat), .int .i64 (dig m 7 : Nat), .int .i64 (dig m 8 : Nat), .int .i64 (dig m 9 : Nat)]
theorem longL_get (M k : Nat) (hk : k < 10) : (longL M)[k]? = some (.int .i64 (dig M k : Nat)) := by
  refine ten (P := fun k => (longL M)[k]? = some (.int .i64 (dig M k : Nat))) rfl rfl rfl rfl rfl rfl rfl rfl rfl rfl k hk
theorem longL_one (M : Nat) : ∀ v ∈ longL M, v.oneCell' = true := by
  intro v hv
  simp only [longL, List.mem_cons, List.not_mem_nil, or_false] at hv
  rcases hv with rfl | rfl | rfl | rfl | rfl | rfl | rfl | rfl | rfl | rfl <;> rfl
theorem LongAt.range {w : World} {b m : Nat} (h : LongAt w b m) : w.rangeAt b 0 (longL m) := by
  intro j v hv
  rw [Nat.zero_add]
  have hj : j < 10 := (List.getElem?_eq_some_iff.1 hv).1
  rw [longL_get m j hj] at hv
  rw [h j hj, hv]
theorem long_info (m : Nat) : (Try.prog.info? 105).map (·.size) = some (longL m).length := by
  have h : (Try.prog.info? 105).map (·.size) = some 10 := by kernel_rfl
  exact h

/-- What stays as it is while Nearest runs: the two numbers in their blocks, the number 2 in its own, all that was there before. -/
structure NearW (w0 : World) (T m c : Nat) (W : World) : Prop where
  a : LongAt W w0.heap.size m
  b : LongAt W (w0.heap.size + 1) c
  two : LongAt W T 2
  sb : w0.heap.size + 1 < W.heap.size
  st : T < W.heap.size
  below : Below w0.heap.size w0 W
theorem NearW.next {w0 : World} {T m c : Nat} {W W' : World} (h : NearW w0 T m c W) (k : Below W.heap.size W W') : NearW w0 T m c W' :=
  ⟨h.a.below k (by have := h.sb; omega), h.b.below k h.sb, h.two.below k h.st, Nat.lt_of_lt_of_le h.sb k.size, Nat.lt_of_lt_of_le h.st k.size, h.below.trans (k.mono h.below.size)⟩
theorem NearW.alloc {w0 : World} {T m c : Nat} {W : World} (h : NearW w0 T m c W) (o : Obj) : NearW w0 T m c (W.alloc o) := h.next ((Below.refl _ _).alloc (Nat.le_refl _) o)
theorem NearW.drew {w0 : World} {T m c : Nat} {W : World} (h : NearW w0 T m c W) : NearW w0 T m c W.drew := h.next (Below.refl _ _).drew
/-- A block of ten cells that may be written, behind all that Nearest keeps. -/
structure LeftAt (w0 : World) (T L : Nat) (W : World) : Prop where
  sb : w0.heap.size + 1 < L
  st : T < L
  size : L < W.heap.size
  there : W.there L 0 10
theorem LeftAt.next {w0 : World} {T L : Nat} {W W' : World} (h : LeftAt w0 T L W) (k : Below W.heap.size W W') : LeftAt w0 T L W' :=
  ⟨h.sb, h.st, Nat.lt_of_lt_of_le h.size k.size, fun j hj => by
    rw [k.cell (p := ⟨L, 0 + j, none⟩) h.size, k.frozen (p := ⟨L, 0 + j, none⟩) h.size]
    exact h.there j hj⟩
theorem NearW.left {w0 : World} {T m c : Nat} {W : World} (h : NearW w0 T m c W) : LeftAt w0 T W.heap.size (W.alloc (.cells #[.int .i64 0, .int .i64 0, .int .i64 0, .int .i64 0, .int .i64 0, .int .i64 0, .int .i64 0, .int .i64 0, .int .i64 0, .int .i64 0] 105)) :=
  ⟨h.sb, h.st, by simp, fun j hj => by
    rw [Nat.zero_add, World.cell?_alloc_at _ _ _ _ rfl, World.frozen?_alloc_at _ _ _ _ rfl]
    exact ⟨by simp [hj], rfl⟩⟩
theorem NearW.left_drew {w0 : World} {T m c : Nat} {W : World} (h : NearW w0 T m c W.drew) : LeftAt w0 T W.heap.size (W.alloc (.cells #[.int .i64 0, .int .i64 0, .int .i64 0, .int .i64 0, .int .i64 0, .int .i64 0, .int .i64 0, .int .i64 0, .int .i64 0, .int .i64 0] 105)).drew := NearW.left h
theorem NearW.alloc_drew {w0 : World} {T m c : Nat} {W : World} (h : NearW w0 T m c W.drew) (o : Obj) : NearW w0 T m c (W.alloc o).drew := h.alloc o
theorem below_setCells {B L : Nat} {a : World} (hL : B ≤ L) : ∀ (vs : List Value) (o : Nat) (W : World), Below B a W → Below B a (W.setCells L o vs)
  | [], _, _, h => h
  | v :: r, o, W, h => below_setCells hL r (o + 1) _ (h.setCell hL v)
theorem size_setCells (L : Nat) : ∀ (vs : List Value) (o : Nat) (W : World), (W.setCells L o vs).heap.size = W.heap.size
  | [], _, _ => rfl
  | v :: r, o, W => by rw [World.setCells, size_setCells L r]; simp [World.setCell]
theorem LongAt.setCells {W : World} {b m L : Nat} (h : LongAt W b m) (hb : b ≠ L) (vs : List Value) : LongAt (W.setCells L 0 vs) b m := by
  intro k hk
  rw [World.cell?_setCells_out L vs 0 W ⟨b, k, none⟩ (fun e _ => absurd e hb)]
  exact h k hk
theorem NearW.store {w0 : World} {T m c L : Nat} {W : World} (h : NearW w0 T m c W) (l : LeftAt w0 T L W) (vs : List Value) : NearW w0 T m c (W.setCells L 0 vs) := by
  have h1 := l.sb
  have h2 := l.st
  exact ⟨h.a.setCells (by omega) _, h.b.setCells (by omega) _, h.two.setCells (by omega) _, by rw [size_setCells]; exact h.sb, by rw [size_setCells]; exact h.st, below_setCells (by omega) _ _ _ h.below⟩
theorem LeftAt.long {w0 : World} {T L : Nat} {W : World} (l : LeftAt w0 T L W) (M : Nat) : LongAt (W.setCells L 0 (longL M)) L M := by
  intro k hk
  have h := World.rangeAt_setCells_same W L 0 (longL M) l.there k _ (longL_get M k hk)
  rw [Nat.zero_add] at h
  exact h
/-- The same with the left side of the comparison in its block. -/
structure NearL (w0 : World) (T m c L M : Nat) (W : World) : Prop where
  near : NearW w0 T m c W
  long : LongAt W L M
  size : L < W.heap.size
theorem NearL.next {w0 : World} {T m c L M : Nat} {W W' : World} (h : NearL w0 T m c L M W) (k : Below W.heap.size W W') : NearL w0 T m c L M W' :=
  ⟨h.near.next k, h.long.below k h.size, Nat.lt_of_lt_of_le h.size k.size⟩
theorem NearL.drew {w0 : World} {T m c L M : Nat} {W : World} (h : NearL w0 T m c L M W) : NearL w0 T m c L M W.drew := h.next (Below.refl _ _).drew
theorem mul_lt_ten {x y : Nat} (hx : x < 65536 ^ 5) (hy : y < 65536 ^ 5) : x * y < 65536 ^ 10 := by
  have := Nat.mul_lt_mul'' hx hy
  rw [← Nat.pow_add] at this
  exact this
/-- The test of the document's Nearest asks whether t is not above the nearest. -/
theorem near_test {m c r t : Nat} (hr : r = Nat.min (near m c) 4294967295) (hc : 0 < c) (ht : t ≤ 4294967295) : decide (m + m + c < t * 2 * c) = !decide (t ≤ r) := by
  have h1 : t ≤ near m c ↔ t * 2 * c ≤ m + m + c := by
    unfold near
    rw [Nat.le_div_iff_mul_le (by omega), Nat.mul_assoc, Nat.two_mul m]
  have h2 : t ≤ r ↔ t ≤ near m c := by
    have e : Nat.min (near m c) 4294967295 = min (near m c) 4294967295 := rfl
    rw [hr, e]; omega
  by_cases h : t ≤ r
  · have := h1.1 (h2.1 h)
    simp [h]; omega
  · have : ¬ t * 2 * c ≤ m + m + c := fun x => h (h2.2 (h1.2 x))
    simp [h]; omega

set_option maxRecDepth 100000 in
set_option maxHeartbeats 4000000 in
theorem nearest_any (m c r : Nat) (w : World) (hm : 2 * m + c < 65536 ^ 10) (hc : c < 65536 ^ 4) (hc0 : 0 < c) (HR : Hid (r = Nat.min (near m c) 4294967295)) :
    Calls Try.prog 65 #[longV m, longV c] w fun e w' => e = .returned (.int .i64 (r : Int)) ∧ Below w.heap.size w w' := by
  have HM := Lib.hid hm
  have HC := Lib.hid hc
  have HC0 := Lib.hid hc0
  have hr : r ≤ 4294967295 := by rw [HR.out]; exact Nat.min_le_right _ _
  clear hm hc hc0
  unfold longV
  go_enter Try.func65, Try.ntmps65
  go_wp2_with fail
  refine (size_any 2 2 _ (by show -9223372036854775808 ≤ (2 : Int); decide) (by show (2 : Int) ≤ 9223372036854775807; decide) rfl).mono ?_
  rintro e w1 ⟨rfl, hb⟩
  have LA := Lib.hid (((longAt_new w m 105).alloc (by simp) (.cells #[.int .i64 (dig c 0 : Nat), .int .i64 (dig c 1 : Nat), .int .i64 (dig c 2 : Nat), .int .i64 (dig c 3 : Nat), .int .i64 (dig c 4 : Nat), .int .i64 (dig c 5 : Nat), .int .i64 (dig c 6 : Nat), .int .i64 (dig c 7 : Nat), .int .i64 (dig c 8 : Nat), .int .i64 (dig c 9 : Nat)] 105)).below hb (by simp; omega))
  have LB := Lib.hid ((longAt_new (w.alloc (.cells #[.int .i64 (dig m 0 : Nat), .int .i64 (dig m 1 : Nat), .int .i64 (dig m 2 : Nat), .int .i64 (dig m 3 : Nat), .int .i64 (dig m 4 : Nat), .int .i64 (dig m 5 : Nat), .int .i64 (dig m 6 : Nat), .int .i64 (dig m 7 : Nat), .int .i64 (dig m 8 : Nat), .int .i64 (dig m 9 : Nat)] 105)) c 105).below hb (by simp))
  rw [show (w.alloc (.cells #[.int .i64 (dig m 0 : Nat), .int .i64 (dig m 1 : Nat), .int .i64 (dig m 2 : Nat), .int .i64 (dig m 3 : Nat), .int .i64 (dig m 4 : Nat), .int .i64 (dig m 5 : Nat), .int .i64 (dig m 6 : Nat), .int .i64 (dig m 7 : Nat), .int .i64 (dig m 8 : Nat), .int .i64 (dig m 9 : Nat)] 105)).heap.size = w.heap.size + 1 by simp] at LB
  have HB : Hid (Below w.heap.size w w1) := (((Below.refl _ _).alloc (Nat.le_refl _) _).alloc (by simp) _).trans (hb.mono (by simp; omega))
  have HSZ : Hid (w.heap.size + 1 < w1.heap.size) := by have := hb.size; simp at this; unfold Hid; omega
  clear hb
  simp only [longV]
  go_wp2_with fail
  have K0 : NearW w w1.heap.size m c (w1.alloc (.cells #[.int .i64 (dig 2 0 : Nat), .int .i64 (dig 2 1 : Nat), .int .i64 (dig 2 2 : Nat), .int .i64 (dig 2 3 : Nat), .int .i64 (dig 2 4 : Nat), .int .i64 (dig 2 5 : Nat), .int .i64 (dig 2 6 : Nat), .int .i64 (dig 2 7 : Nat), .int .i64 (dig 2 8 : Nat), .int .i64 (dig 2 9 : Nat)] 105)) :=
    ⟨LA.out.alloc (by have := HSZ.out; omega) _, LB.out.alloc HSZ.out _, longAt_new w1 2 105, by have := HSZ.out; simp; omega, by simp, HB.out.alloc HB.out.size _⟩
  generalize w1.alloc _ = W0 at *
  generalize w1.heap.size = T at *
  clear LA LB HB HSZ
  go_loopw [6, 7] (fun x y wr => ∃ s b : Nat, x = .int .i64 s ∧ y = .int .i64 b ∧ RootRel r s b ∧ NearW w T m c wr) (fun _ y _ => (intOf y).toNat)
  case atStart => exact ⟨0, 2147483648, rfl, rfl, .inr ⟨31, by decide, by omega, by omega, by decide⟩, K0⟩
  case round =>
    obtain ⟨s, b, rfl, rfl, h, K⟩ := hrel
    have HREL := Lib.hid h
    clear h K0
    by_cases hb : 0 < b
    · have hbd := HREL.out.bound hb
      obtain ⟨t, HT⟩ : ∃ t, Hid (s + b = t) := ⟨_, rfl⟩
      have ht : t ≤ 4294967295 := by have := HT.out; omega
      have HTT : Hid (t < 65536 ^ 5) := by unfold Hid; omega
      have HCC : Hid (c < 65536 ^ 5) := Nat.lt_of_lt_of_le HC.out (by decide)
      have HT2 : Hid (t * 2 < 65536 ^ 5) := by unfold Hid; omega
      have SA : Hid (-9223372036854775808 ≤ (t : Int)) := by unfold Hid; omega
      have SB : Hid ((t : Int) ≤ 9223372036854775807) := by unfold Hid; omega
      have SC : Hid ((t : Int).natAbs = t) := by unfold Hid; omega
      go_upto_region 7 with (fail)
      rw [show (s : Int) + (b : Int) = (t : Int) from by have := HT.out; omega]
      have u44 := Try.underlying105
      go_cut [9] (fun l wr => ∃ L, l = .pointer (some ⟨L, 0, none⟩) ∧ NearW w T m c wr ∧ LongAt wr L (t * 2 * c) ∧ L < wr.heap.size)
      case first =>
        refine wp_region_held_drew (S := NearW w T m c) (by kernel_rfl) K.drew (fun hHeld => ?_)
        refine wpAnyH_take (i := 0) (v := .int .i64 (t : Int)) rfl (by kernel_rfl) (by kernel_rfl) (by kernel_rfl) (fun _ _ _ h => h) (Or.inl ⟨by rfl, fun W hW => by go_simp⟩) hHeld ?_
        try simp only [Act.put, List.setIfInBounds_toArray, List.set_cons_zero, List.set_cons_succ]
        refine wpAnyH_take (i := 2) (v := .agg (longL 2).toArray) rfl (by kernel_rfl) (by kernel_rfl) (by kernel_rfl) (fun _ _ _ h => h) (yieldsIf_load_mid (by rfl) _ _ rfl _ _ rfl (longL 2) _ (fun W h => h.two.range) u44 rfl (long_info _)) hHeld ?_
        try simp only [Act.put, List.setIfInBounds_toArray, List.set_cons_zero, List.set_cons_succ]
        refine wpAnyH_take (i := 4) (v := .agg (longL c).toArray) rfl (by kernel_rfl) (by kernel_rfl) (by kernel_rfl) (fun _ _ _ h => h) (yieldsIf_load_mid (by rfl) _ _ rfl _ _ rfl (longL c) _ (fun W h => h.b.range) u44 rfl (long_info _)) hHeld ?_
        try simp only [Act.put, List.setIfInBounds_toArray, List.set_cons_zero, List.set_cons_succ]
        refine wpAnyH_ready (rs := [1, 6]) (by kernel_rfl) (by simp) ?_
        refine AllReadyH.cons rfl (fun K hK => ?_) ?_
        · go_simp
          refine (size_any (t : Int) t _ SA SB SC).mono ?_
          rintro e w1 ⟨rfl, hb1⟩
          refine hK.out _ _ (hHeld.next hb1) (fun hHeld => ?_)
          clear hK K
          try simp only [Act.put, List.setIfInBounds_toArray, List.set_cons_zero, List.set_cons_succ]
          refine wpAnyH_ready (rs := [3, 6]) (by kernel_rfl) (by simp) ?_
          refine AllReadyH.cons rfl (fun K hK => ?_) ?_
          · go_simp
            refine (times_any t 2 _ HTT.out (by decide)).mono ?_
            rintro e w2 ⟨rfl, hb2⟩
            refine hK.out _ _ (hHeld.next hb2) (fun hHeld => ?_)
            clear hK K
            try simp only [Act.put, List.setIfInBounds_toArray, List.set_cons_zero, List.set_cons_succ]
            refine wpAnyH_ready (rs := [5, 6]) (by kernel_rfl) (by simp) ?_
            refine AllReadyH.cons rfl (fun K hK => ?_) ?_
            · go_simp
              refine (times_any (t * 2) c _ HT2.out HCC.out).mono ?_
              rintro e w3 ⟨rfl, hb3⟩
              refine hK.out _ _ (hHeld.next hb3) (fun hHeld => ?_)
              clear hK K
              try simp only [Act.put, List.setIfInBounds_toArray, List.set_cons_zero, List.set_cons_succ]
              refine wpAnyH_ready (rs := [6]) (by kernel_rfl) (by simp) ?_
              refine AllReadyH.cons rfl (fun K hK => ?_) ?_
              · have HLft := hHeld.left
                go_simp
                refine hK.out _ _ (hHeld.alloc _) (fun hHeld => ?_)
                clear hK K
                try simp only [Act.put, List.setIfInBounds_toArray, List.set_cons_zero, List.set_cons_succ]
                refine wpAnyH_ready (rs := [7]) (by kernel_rfl) (by simp) ?_
                refine AllReadyH.cons rfl (fun K hK => ?_) ?_
                · rw [if_pos (by rfl)]
                  refine wp_store_mid _ _ _ rfl _ _ (longL (t * 2 * c)).toArray rfl rfl HLft.there (long_info _) (all_oneCell_toArray (longL_one _)) ?_
                  refine hK.out _ _ (hHeld.store HLft _) (fun hHeld => ?_)
                  have HLng := HLft.long (t * 2 * c)
                  simp only [List.getElem_toArray, List.getElem_cons_succ, List.getElem_cons_zero, Act.put]
                  clear hK K
                  try simp only [Act.put, List.setIfInBounds_toArray, List.set_cons_zero, List.set_cons_succ]
                  refine wpAnyH_done (by kernel_rfl) ?_ _
                  go_wp2_with fail
                  go_meet
                  case rel => exact ⟨_, rfl, hHeld, HLng, by have := HLft.size; rw [size_setCells]; exact this⟩
                · exact AllReadyH.nil
              · exact AllReadyH.nil
            · refine AllReadyH.cons rfl (fun K hK => ?_) ?_
              · have HLft := hHeld.left
                go_simp
                refine hK.out _ _ (hHeld.alloc _) (fun hHeld => ?_)
                clear hK K
                try simp only [Act.put, List.setIfInBounds_toArray, List.set_cons_zero, List.set_cons_succ]
                refine wpAnyH_ready (rs := [5]) (by kernel_rfl) (by simp) ?_
                refine AllReadyH.cons rfl (fun K hK => ?_) ?_
                · go_simp
                  refine (times_any (t * 2) c _ HT2.out HCC.out).mono ?_
                  rintro e w7 ⟨rfl, hb7⟩
                  refine hK.out _ _ (hHeld.next hb7) (fun hHeld => ?_)
                  replace HLft := HLft.next hb7
                  clear hK K
                  try simp only [Act.put, List.setIfInBounds_toArray, List.set_cons_zero, List.set_cons_succ]
                  refine wpAnyH_ready (rs := [7]) (by kernel_rfl) (by simp) ?_
                  refine AllReadyH.cons rfl (fun K hK => ?_) ?_
                  · rw [if_pos (by rfl)]
                    refine wp_store_mid _ _ _ rfl _ _ (longL (t * 2 * c)).toArray rfl rfl HLft.there (long_info _) (all_oneCell_toArray (longL_one _)) ?_
                    refine hK.out _ _ (hHeld.store HLft _) (fun hHeld => ?_)
                    have HLng := HLft.long (t * 2 * c)
                    simp only [List.getElem_toArray, List.getElem_cons_succ, List.getElem_cons_zero, Act.put]
                    clear hK K
                    try simp only [Act.put, List.setIfInBounds_toArray, List.set_cons_zero, List.set_cons_succ]
                    refine wpAnyH_done (by kernel_rfl) ?_ _
                    go_wp2_with fail
                    go_meet
                    case rel => exact ⟨_, rfl, hHeld, HLng, by have := HLft.size; rw [size_setCells]; exact this⟩
                  · exact AllReadyH.nil
                · exact AllReadyH.nil
              · exact AllReadyH.nil
          · refine AllReadyH.cons rfl (fun K hK => ?_) ?_
            · have HLft := hHeld.left
              go_simp
              refine hK.out _ _ (hHeld.alloc _) (fun hHeld => ?_)
              clear hK K
              try simp only [Act.put, List.setIfInBounds_toArray, List.set_cons_zero, List.set_cons_succ]
              refine wpAnyH_ready (rs := [3]) (by kernel_rfl) (by simp) ?_
              refine AllReadyH.cons rfl (fun K hK => ?_) ?_
              · go_simp
                refine (times_any t 2 _ HTT.out (by decide)).mono ?_
                rintro e w10 ⟨rfl, hb10⟩
                refine hK.out _ _ (hHeld.next hb10) (fun hHeld => ?_)
                replace HLft := HLft.next hb10
                clear hK K
                try simp only [Act.put, List.setIfInBounds_toArray, List.set_cons_zero, List.set_cons_succ]
                refine wpAnyH_ready (rs := [5]) (by kernel_rfl) (by simp) ?_
                refine AllReadyH.cons rfl (fun K hK => ?_) ?_
                · go_simp
                  refine (times_any (t * 2) c _ HT2.out HCC.out).mono ?_
                  rintro e w11 ⟨rfl, hb11⟩
                  refine hK.out _ _ (hHeld.next hb11) (fun hHeld => ?_)
                  replace HLft := HLft.next hb11
                  clear hK K
                  try simp only [Act.put, List.setIfInBounds_toArray, List.set_cons_zero, List.set_cons_succ]
                  refine wpAnyH_ready (rs := [7]) (by kernel_rfl) (by simp) ?_
                  refine AllReadyH.cons rfl (fun K hK => ?_) ?_
                  · rw [if_pos (by rfl)]
                    refine wp_store_mid _ _ _ rfl _ _ (longL (t * 2 * c)).toArray rfl rfl HLft.there (long_info _) (all_oneCell_toArray (longL_one _)) ?_
                    refine hK.out _ _ (hHeld.store HLft _) (fun hHeld => ?_)
                    have HLng := HLft.long (t * 2 * c)
                    simp only [List.getElem_toArray, List.getElem_cons_succ, List.getElem_cons_zero, Act.put]
                    clear hK K
                    try simp only [Act.put, List.setIfInBounds_toArray, List.set_cons_zero, List.set_cons_succ]
                    refine wpAnyH_done (by kernel_rfl) ?_ _
                    go_wp2_with fail
                    go_meet
                    case rel => exact ⟨_, rfl, hHeld, HLng, by have := HLft.size; rw [size_setCells]; exact this⟩
                  · exact AllReadyH.nil
                · exact AllReadyH.nil
              · exact AllReadyH.nil
            · exact AllReadyH.nil
        · refine AllReadyH.cons rfl (fun K hK => ?_) ?_
          · have HLft := hHeld.left_drew
            go_simp
            refine hK.out _ _ (hHeld.alloc_drew _) (fun hHeld => ?_)
            clear hK K
            try simp only [Act.put, List.setIfInBounds_toArray, List.set_cons_zero, List.set_cons_succ]
            refine wpAnyH_ready (rs := [1]) (by kernel_rfl) (by simp) ?_
            refine AllReadyH.cons rfl (fun K hK => ?_) ?_
            · go_simp
              refine (size_any (t : Int) t _ SA SB SC).mono ?_
              rintro e w14 ⟨rfl, hb14⟩
              refine hK.out _ _ (hHeld.next hb14) (fun hHeld => ?_)
              replace HLft := HLft.next hb14
              clear hK K
              try simp only [Act.put, List.setIfInBounds_toArray, List.set_cons_zero, List.set_cons_succ]
              refine wpAnyH_ready (rs := [3]) (by kernel_rfl) (by simp) ?_
              refine AllReadyH.cons rfl (fun K hK => ?_) ?_
              · go_simp
                refine (times_any t 2 _ HTT.out (by decide)).mono ?_
                rintro e w15 ⟨rfl, hb15⟩
                refine hK.out _ _ (hHeld.next hb15) (fun hHeld => ?_)
                replace HLft := HLft.next hb15
                clear hK K
                try simp only [Act.put, List.setIfInBounds_toArray, List.set_cons_zero, List.set_cons_succ]
                refine wpAnyH_ready (rs := [5]) (by kernel_rfl) (by simp) ?_
                refine AllReadyH.cons rfl (fun K hK => ?_) ?_
                · go_simp
                  refine (times_any (t * 2) c _ HT2.out HCC.out).mono ?_
                  rintro e w16 ⟨rfl, hb16⟩
                  refine hK.out _ _ (hHeld.next hb16) (fun hHeld => ?_)
                  replace HLft := HLft.next hb16
                  clear hK K
                  try simp only [Act.put, List.setIfInBounds_toArray, List.set_cons_zero, List.set_cons_succ]
                  refine wpAnyH_ready (rs := [7]) (by kernel_rfl) (by simp) ?_
                  refine AllReadyH.cons rfl (fun K hK => ?_) ?_
                  · rw [if_pos (by rfl)]
                    refine wp_store_mid _ _ _ rfl _ _ (longL (t * 2 * c)).toArray rfl rfl HLft.there (long_info _) (all_oneCell_toArray (longL_one _)) ?_
                    refine hK.out _ _ (hHeld.store HLft _) (fun hHeld => ?_)
                    have HLng := HLft.long (t * 2 * c)
                    simp only [List.getElem_toArray, List.getElem_cons_succ, List.getElem_cons_zero, Act.put]
                    clear hK K
                    try simp only [Act.put, List.setIfInBounds_toArray, List.set_cons_zero, List.set_cons_succ]
                    refine wpAnyH_done (by kernel_rfl) ?_ _
                    go_wp2_with fail
                    go_meet
                    case rel => exact ⟨_, rfl, hHeld, HLng, by have := HLft.size; rw [size_setCells]; exact this⟩
                  · exact AllReadyH.nil
                · exact AllReadyH.nil
              · exact AllReadyH.nil
            · exact AllReadyH.nil
          · exact AllReadyH.nil
      case rest =>
        obtain ⟨L, rfl, K2, HL, hLs⟩ := hcut
        clear K
        have P1 := Lib.hid (show m + m < 65536 ^ 10 from by have := HM.out; omega)
        have P2 := Lib.hid (show m + m + c < 65536 ^ 10 from by have := HM.out; omega)
        have P3 := Lib.hid (show t * 2 * c < 65536 ^ 10 from mul_lt_ten HT2.out HCC.out)
        have P4 := Lib.hid (show m < 65536 ^ 10 from by have := HM.out; omega)
        have HU : Hid (decide (m + m + c < t * 2 * c) = !decide (t ≤ r)) := near_test HR.out HC0.out ht
        go_upto_region 8 with (fail)
        refine wp_region_held_drew (S := NearL w T m c L (t * 2 * c)) (by kernel_rfl) (NearL.drew ⟨K2, HL, hLs⟩) (fun hHeld => ?_)
        refine wpAnyH_take (i := 0) (v := .agg (longL m).toArray) rfl (by kernel_rfl) (by kernel_rfl) (by kernel_rfl) (fun _ _ _ h => h) (yieldsIf_load_mid (by rfl) _ _ rfl _ _ rfl (longL m) _ (fun W h => h.near.a.range) u44 rfl (long_info _)) hHeld ?_
        try simp only [Act.put, List.setIfInBounds_toArray, List.set_cons_zero, List.set_cons_succ]
        refine wpAnyH_take (i := 1) (v := .agg (longL m).toArray) rfl (by kernel_rfl) (by kernel_rfl) (by kernel_rfl) (fun _ _ _ h => h) (yieldsIf_load_mid (by rfl) _ _ rfl _ _ rfl (longL m) _ (fun W h => h.near.a.range) u44 rfl (long_info _)) hHeld ?_
        try simp only [Act.put, List.setIfInBounds_toArray, List.set_cons_zero, List.set_cons_succ]
        refine wpAnyH_take (i := 3) (v := .agg (longL c).toArray) rfl (by kernel_rfl) (by kernel_rfl) (by kernel_rfl) (fun _ _ _ h => h) (yieldsIf_load_mid (by rfl) _ _ rfl _ _ rfl (longL c) _ (fun W h => h.near.b.range) u44 rfl (long_info _)) hHeld ?_
        try simp only [Act.put, List.setIfInBounds_toArray, List.set_cons_zero, List.set_cons_succ]
        refine wpAnyH_take (i := 5) (v := .agg (longL (t * 2 * c)).toArray) rfl (by kernel_rfl) (by kernel_rfl) (by kernel_rfl) (fun _ _ _ h => h) (yieldsIf_load_mid (by rfl) _ _ rfl _ _ rfl (longL (t * 2 * c)) _ (fun W h => h.long.range) u44 rfl (long_info _)) hHeld ?_
        try simp only [Act.put, List.setIfInBounds_toArray, List.set_cons_zero, List.set_cons_succ]
        refine wpAnyH_ready (rs := [2]) (by kernel_rfl) (by simp) ?_
        refine AllReadyH.cons rfl (fun K hK => ?_) AllReadyH.nil
        go_simp
        refine (plus_any m m _ P4.out P1.out).mono ?_
        rintro e v2 ⟨rfl, hb2⟩
        refine hK.out _ _ (hHeld.next hb2) (fun hHeld => ?_)
        clear hK K
        try simp only [Act.put, List.setIfInBounds_toArray, List.set_cons_zero, List.set_cons_succ]
        refine wpAnyH_ready (rs := [4]) (by kernel_rfl) (by simp) ?_
        refine AllReadyH.cons rfl (fun K hK => ?_) AllReadyH.nil
        go_simp
        refine (plus_any (m + m) c _ P1.out P2.out).mono ?_
        rintro e v4 ⟨rfl, hb4⟩
        refine hK.out _ _ (hHeld.next hb4) (fun hHeld => ?_)
        clear hK K
        try simp only [Act.put, List.setIfInBounds_toArray, List.set_cons_zero, List.set_cons_succ]
        refine wpAnyH_ready (rs := [6]) (by kernel_rfl) (by simp) ?_
        refine AllReadyH.cons rfl (fun K hK => ?_) AllReadyH.nil
        go_simp
        refine (under_any (m + m + c) (t * 2 * c) _ P2.out P3.out).mono ?_
        rintro e v6 ⟨rfl, hb6⟩
        refine hK.out _ _ (hHeld.next hb6) (fun hHeld => ?_)
        clear hK K
        try simp only [Act.put, List.setIfInBounds_toArray, List.set_cons_zero, List.set_cons_succ]
        rw [HU.out]
        refine wpAnyH_take (i := 7) (v := .bool (!!decide (t ≤ r))) rfl (by kernel_rfl) (by kernel_rfl) (by kernel_rfl) (fun _ _ _ h => h) (Or.inl ⟨by rfl, fun W hW => by go_simp⟩) hHeld ?_
        try simp only [Act.put, List.setIfInBounds_toArray, List.set_cons_zero, List.set_cons_succ]
        refine wpAnyH_done (by kernel_rfl) ?_ _
        have K3 := hHeld.near
        clear hHeld hb2 hb4 hb6 K2 HL hLs
        by_cases hle : t ≤ r
        · rw [decide_eq_true hle]
          go_wp2
          go_roundw
          case rel => exact ⟨t, b / 2, rfl, by go_num, by rw [← HT.out]; exact HREL.out.up hb (by rw [HT.out]; exact hle), K3⟩
          case measure => simp [intOf]; omega
        · rw [decide_eq_false hle]
          go_wp2
          go_roundw
          case rel => exact ⟨s, b / 2, rfl, by go_num, HREL.out.stay hb (by rw [HT.out]; exact hle), K3⟩
          case measure => simp [intOf]; omega
    · obtain rfl : b = 0 := by omega
      have hs := HREL.out.done
      subst hs
      go_wp2
      go_ret
      exact ⟨ret_int rfl, K.below⟩
end Go.Proofs.Ythjhekmlhmljlaa
