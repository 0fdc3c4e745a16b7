import Derived.Test.YtklenppldblbdaaGreatK09
import Derived.Test.YtklenppldblbdaaGreatK03
import Derived.Deep.RegionHeld3
import Derived.Deep.DeepCutAuto
import Derived.Handy
set_option linter.unusedSimpArgs false
set_option linter.unusedVariables false
namespace Go.Proofs.YtklenppldblbdaaGreat
open Go.RowKit
def longL (m : Nat) : List Value := [.int .i64 (dig m 0 : Nat), .int .i64 (dig m 1 : Nat), .int .i64 (dig m 2 : Nat), .int .i64 (dig m 3 : Nat), .int .i64 (dig m 4 : Nat), .int .i64 (dig m 5 : Nat), .int .i64 (dig m 6 : Nat), .int .i64 (dig m 7 : Nat), .int .i64 (dig m 8 : Nat), .int .i64 (dig m 9 : Nat)]
theorem longL_get (M k : Nat) (hk : k < 10) : (longL M)[k]? = some (.int .i64 (dig M k : Nat)) := by
 refine ten (P := fun k => (longL M)[k]? = some (.int .i64 (dig M k : Nat))) rfl rfl rfl rfl rfl rfl rfl rfl rfl rfl k hk
theorem longL_one (M : Nat) : ∀ v ∈ longL M, v.oneCell' = true := by
 intro v hv
 simp only [longL, List.mem_cons, List.not_mem_nil, or_false] at hv
 rcases hv with rfl | rfl | rfl | rfl | rfl | rfl | rfl | rfl | rfl | rfl <;> rfl
theorem LongAt.range {w : World} {b m : Nat} (h : LongAt w b m) : w.rangeAt b 0 (longL m) := by
 intro j v hv
 rw [Nat.zero_add]
 have hj : j < 10 := (List.getElem?_eq_some_iff.1 hv).1
 rw [longL_get m j hj] at hv
 rw [h j hj, hv]
theorem long_info (m : Nat) : (Tryz.prog.info? 133).map (·.size) = some (longL m).length := by
 have h : (Tryz.prog.info? 133).map (·.size) = some 10 := by kernel_rfl
 exact h
structure NearW (w0 : World) (T m c : Nat) (W : World) : Prop where
 a : LongAt W w0.heap.size m
 b : LongAt W (w0.heap.size + 1) c
 two : LongAt W T 2
 sb : w0.heap.size + 1 < W.heap.size
 st : T < W.heap.size
 below : Below w0.heap.size w0 W
theorem NearW.next {w0 : World} {T m c : Nat} {W W' : World} (h : NearW w0 T m c W) (k : Below W.heap.size W W') : NearW w0 T m c W' :=
 ⟨h.a.below k (by have := h.sb; omega), h.b.below k h.sb, h.two.below k h.st, Nat.lt_of_lt_of_le h.sb k.size, Nat.lt_of_lt_of_le h.st k.size, h.below.trans (k.mono h.below.size)⟩
theorem NearW.alloc {w0 : World} {T m c : Nat} {W : World} (h : NearW w0 T m c W) (o : Obj) : NearW w0 T m c (W.alloc o) := h.next ((Below.refl _ _).alloc (Nat.le_refl _) o)
theorem NearW.drew {w0 : World} {T m c : Nat} {W : World} (h : NearW w0 T m c W) : NearW w0 T m c W.drew := h.next (Below.refl _ _).drew
structure LeftAt (w0 : World) (T L : Nat) (W : World) : Prop where
 sb : w0.heap.size + 1 < L
 st : T < L
 size : L < W.heap.size
 there : W.there L 0 10
theorem LeftAt.next {w0 : World} {T L : Nat} {W W' : World} (h : LeftAt w0 T L W) (k : Below W.heap.size W W') : LeftAt w0 T L W' :=
 ⟨h.sb, h.st, Nat.lt_of_lt_of_le h.size k.size, fun j hj => by
  rw [k.cell (p := ⟨L, 0 + j, none⟩) h.size, k.frozen (p := ⟨L, 0 + j, none⟩) h.size]
  exact h.there j hj⟩
theorem NearW.left {w0 : World} {T m c : Nat} {W : World} (h : NearW w0 T m c W) : LeftAt w0 T W.heap.size (W.alloc (.cells #[.int .i64 0, .int .i64 0, .int .i64 0, .int .i64 0, .int .i64 0, .int .i64 0, .int .i64 0, .int .i64 0, .int .i64 0, .int .i64 0] 133)) :=
 ⟨h.sb, h.st, by simp, fun j hj => by
  rw [Nat.zero_add, World.cell?_alloc_at _ _ _ _ rfl, World.frozen?_alloc_at _ _ _ _ rfl]
  exact ⟨by simp [hj], rfl⟩⟩
theorem NearW.left_drew {w0 : World} {T m c : Nat} {W : World} (h : NearW w0 T m c W.drew) : LeftAt w0 T W.heap.size (W.alloc (.cells #[.int .i64 0, .int .i64 0, .int .i64 0, .int .i64 0, .int .i64 0, .int .i64 0, .int .i64 0, .int .i64 0, .int .i64 0, .int .i64 0] 133)).drew := NearW.left h
theorem NearW.alloc_drew {w0 : World} {T m c : Nat} {W : World} (h : NearW w0 T m c W.drew) (o : Obj) : NearW w0 T m c (W.alloc o).drew := h.alloc o
theorem below_setCells {B L : Nat} {a : World} (hL : B ≤ L) : ∀ (vs : List Value) (o : Nat) (W : World), Below B a W → Below B a (W.setCells L o vs)
 | [], _, _, h => h
 | v :: r, o, W, h => below_setCells hL r (o + 1) _ (h.setCell hL v)
theorem size_setCells (L : Nat) : ∀ (vs : List Value) (o : Nat) (W : World), (W.setCells L o vs).heap.size = W.heap.size
 | [], _, _ => rfl
 | v :: r, o, W => by rw [World.setCells, size_setCells L r]; simp [World.setCell]
theorem LongAt.setCells {W : World} {b m L : Nat} (h : LongAt W b m) (hb : b ≠ L) (vs : List Value) : LongAt (W.setCells L 0 vs) b m := by
 intro k hk
 rw [World.cell?_setCells_out L vs 0 W ⟨b, k, none⟩ (fun e _ => absurd e hb)]
 exact h k hk
theorem NearW.store {w0 : World} {T m c L : Nat} {W : World} (h : NearW w0 T m c W) (l : LeftAt w0 T L W) (vs : List Value) : NearW w0 T m c (W.setCells L 0 vs) := by
 have h1 := l.sb
 have h2 := l.st
 exact ⟨h.a.setCells (by omega) _, h.b.setCells (by omega) _, h.two.setCells (by omega) _, by rw [size_setCells]; exact h.sb, by rw [size_setCells]; exact h.st, below_setCells (by omega) _ _ _ h.below⟩
theorem LeftAt.long {w0 : World} {T L : Nat} {W : World} (l : LeftAt w0 T L W) (M : Nat) : LongAt (W.setCells L 0 (longL M)) L M := by
 intro k hk
 have h := World.rangeAt_setCells_same W L 0 (longL M) l.there k _ (longL_get M k hk)
 rw [Nat.zero_add] at h
 exact h
structure NearL (w0 : World) (T m c L M : Nat) (W : World) : Prop where
 near : NearW w0 T m c W
 long : LongAt W L M
 size : L < W.heap.size
theorem NearL.next {w0 : World} {T m c L M : Nat} {W W' : World} (h : NearL w0 T m c L M W) (k : Below W.heap.size W W') : NearL w0 T m c L M W' :=
 ⟨h.near.next k, h.long.below k h.size, Nat.lt_of_lt_of_le h.size k.size⟩
theorem NearL.drew {w0 : World} {T m c L M : Nat} {W : World} (h : NearL w0 T m c L M W) : NearL w0 T m c L M W.drew := h.next (Below.refl _ _).drew
theorem mul_lt_ten {x y : Nat} (hx : x < 65536 ^ 5) (hy : y < 65536 ^ 5) : x * y < 65536 ^ 10 := by
 have := Nat.mul_lt_mul'' hx hy
 rw [← Nat.pow_add] at this
 exact this
theorem near_test {m c r t : Nat} (hr : r = Nat.min (near m c) 4294967295) (hc : 0 < c) (ht : t ≤ 4294967295) : decide (m + m + c < t * 2 * c) = !decide (t ≤ r) := by
 have h1 : t ≤ near m c ↔ t * 2 * c ≤ m + m + c := by
  unfold near
  rw [Nat.le_div_iff_mul_le (by omega), Nat.mul_assoc, Nat.two_mul m]
 have h2 : t ≤ r ↔ t ≤ near m c := by
  have e : Nat.min (near m c) 4294967295 = min (near m c) 4294967295 := rfl
  rw [hr, e]; omega
 by_cases h : t ≤ r
 ·have := h1.1 (h2.1 h)
  simp [h]; omega
 ·have : ¬ t * 2 * c ≤ m + m + c := fun x => h (h2.2 (h1.2 x))
  simp [h]; omega
set_option maxRecDepth 100000 in
set_option maxHeartbeats 4000000 in
theorem nearest_any (m c r : Nat) (w : World) (hm : 2 * m + c < 65536 ^ 10) (hc : c < 65536 ^ 4) (hc0 : 0 < c) (HR : Hid (r = Nat.min (near m c) 4294967295)) :
 Calls Tryz.prog 80 #[longV m, longV c] w fun e w' => e = .returned (.int .i64 (r : Int)) ∧ Below w.heap.size w w' := by
 have HM := Lib.hid hm
 have HC := Lib.hid hc
 have HC0 := Lib.hid hc0
 have hr : r ≤ 4294967295 := by rw [HR.out]; exact Nat.min_le_right _ _
 clear hm hc hc0
 unfold longV
 go_enter Tryz.func80, Tryz.ntmps80
 go_wp2_with fail
 refine (size_any 2 2 _ (by show -9223372036854775808 ≤ (2 : Int); decide) (by show (2 : Int) ≤ 9223372036854775807; decide) rfl).mono ?_
 rintro e w1 ⟨rfl, hb⟩
 have LA := Lib.hid (((longAt_new w m 133).alloc (by simp) (.cells #[.int .i64 (dig c 0 : Nat), .int .i64 (dig c 1 : Nat), .int .i64 (dig c 2 : Nat), .int .i64 (dig c 3 : Nat), .int .i64 (dig c 4 : Nat), .int .i64 (dig c 5 : Nat), .int .i64 (dig c 6 : Nat), .int .i64 (dig c 7 : Nat), .int .i64 (dig c 8 : Nat), .int .i64 (dig c 9 : Nat)] 133)).below hb (by simp; omega))
 have LB := Lib.hid ((longAt_new (w.alloc (.cells #[.int .i64 (dig m 0 : Nat), .int .i64 (dig m 1 : Nat), .int .i64 (dig m 2 : Nat), .int .i64 (dig m 3 : Nat), .int .i64 (dig m 4 : Nat), .int .i64 (dig m 5 : Nat), .int .i64 (dig m 6 : Nat), .int .i64 (dig m 7 : Nat), .int .i64 (dig m 8 : Nat), .int .i64 (dig m 9 : Nat)] 133)) c 133).below hb (by simp))
 rw [show (w.alloc (.cells #[.int .i64 (dig m 0 : Nat), .int .i64 (dig m 1 : Nat), .int .i64 (dig m 2 : Nat), .int .i64 (dig m 3 : Nat), .int .i64 (dig m 4 : Nat), .int .i64 (dig m 5 : Nat), .int .i64 (dig m 6 : Nat), .int .i64 (dig m 7 : Nat), .int .i64 (dig m 8 : Nat), .int .i64 (dig m 9 : Nat)] 133)).heap.size = w.heap.size + 1 by simp] at LB
 have HB : Hid (Below w.heap.size w w1) := (((Below.refl _ _).alloc (Nat.le_refl _) _).alloc (by simp) _).trans (hb.mono (by simp; omega))
 have HSZ : Hid (w.heap.size + 1 < w1.heap.size) := by have := hb.size; simp at this; unfold Hid; omega
 clear hb
 simp only [longV]
 go_wp2_with fail
 have K0 : NearW w w1.heap.size m c (w1.alloc (.cells #[.int .i64 (dig 2 0 : Nat), .int .i64 (dig 2 1 : Nat), .int .i64 (dig 2 2 : Nat), .int .i64 (dig 2 3 : Nat), .int .i64 (dig 2 4 : Nat), .int .i64 (dig 2 5 : Nat), .int .i64 (dig 2 6 : Nat), .int .i64 (dig 2 7 : Nat), .int .i64 (dig 2 8 : Nat), .int .i64 (dig 2 9 : Nat)] 133)) :=
  ⟨LA.out.alloc (by have := HSZ.out; omega) _, LB.out.alloc HSZ.out _, longAt_new w1 2 133, by have := HSZ.out; simp; omega, by simp, HB.out.alloc HB.out.size _⟩
 generalize w1.alloc _ = W0 at *
 generalize w1.heap.size = T at *
 clear LA LB HB HSZ
 go_loopw [6, 7] (fun x y wr => ∃ s b : Nat, x = .int .i64 s ∧ y = .int .i64 b ∧ RootRel r s b ∧ NearW w T m c wr) (fun _ y _ => (intOf y).toNat)
 case atStart => exact ⟨0, 2147483648, rfl, rfl, .inr ⟨31, by decide, by omega, by omega, by decide⟩, K0⟩
 case round =>
  obtain ⟨s, b, rfl, rfl, h, K⟩ := hrel
  have HREL := Lib.hid h
  clear h K0
  by_cases hb : 0 < b
  ·have hbd := HREL.out.bound hb
   obtain ⟨t, HT⟩ : ∃ t, Hid (s + b = t) := ⟨_, rfl⟩
   have ht : t ≤ 4294967295 := by have := HT.out; omega
   have HTT : Hid (t < 65536 ^ 5) := by unfold Hid; omega
   have HCC : Hid (c < 65536 ^ 5) := Nat.lt_of_lt_of_le HC.out (by decide)
   have HT2 : Hid (t * 2 < 65536 ^ 5) := by unfold Hid; omega
   have SA : Hid (-9223372036854775808 ≤ (t : Int)) := by unfold Hid; omega
   have SB : Hid ((t : Int) ≤ 9223372036854775807) := by unfold Hid; omega
   have SC : Hid ((t : Int).natAbs = t) := by unfold Hid; omega
   go_upto_region 7 with (fail)
   rw [show (s : Int) + (b : Int) = (t : Int) from by have := HT.out; omega]
   have u44 := Tryz.underlying133
   go_cut [9] (fun l wr => ∃ L, l = .pointer (some ⟨L, 0, none⟩) ∧ NearW w T m c wr ∧ LongAt wr L (t * 2 * c) ∧ L < wr.heap.size)
   case first =>
    refine wp_region_held_drew (S := NearW w T m c) (by kernel_rfl) K.drew (fun hHeld => ?_)
    refine wpAnyH_take (i := 0) (v := .int .i64 (t : Int)) rfl (by kernel_rfl) (by kernel_rfl) (by kernel_rfl) (fun _ _ _ h => h) (Or.inl ⟨by rfl, fun W hW => by go_simp⟩) hHeld ?_
    try simp only [Act.put, sA, sB, sC]
    refine wpAnyH_take (i := 2) (v := .agg (longL 2).toArray) rfl (by kernel_rfl) (by kernel_rfl) (by kernel_rfl) (fun _ _ _ h => h) (yieldsIf_load_mid (by rfl) _ _ rfl _ _ rfl (longL 2) _ (fun W h => h.two.range) u44 rfl (long_info _)) hHeld ?_
    try simp only [Act.put, sA, sB, sC]
    refine wpAnyH_take (i := 4) (v := .agg (longL c).toArray) rfl (by kernel_rfl) (by kernel_rfl) (by kernel_rfl) (fun _ _ _ h => h) (yieldsIf_load_mid (by rfl) _ _ rfl _ _ rfl (longL c) _ (fun W h => h.b.range) u44 rfl (long_info _)) hHeld ?_
    try simp only [Act.put, sA, sB, sC]
    refine wpAnyH_ready (rs := [1, 6]) (by kernel_rfl) (by simp) ?_
    refine AllReadyH.cons rfl (fun K hK => ?_) ?_
    ·go_simp
     refine (size_any (t : Int) t _ SA SB SC).mono ?_
     rintro e w1 ⟨rfl, hb1⟩
     refine hK.out _ _ (hHeld.next hb1) (fun hHeld => ?_)
     clear hK K
     try simp only [Act.put, sA, sB, sC]
     refine wpAnyH_ready (rs := [3, 6]) (by kernel_rfl) (by simp) ?_
     refine AllReadyH.cons rfl (fun K hK => ?_) ?_
     ·go_simp
      refine (times_any t 2 _ HTT.out (by decide)).mono ?_
      rintro e w2 ⟨rfl, hb2⟩
      refine hK.out _ _ (hHeld.next hb2) (fun hHeld => ?_)
      clear hK K
      try simp only [Act.put, sA, sB, sC]
      refine wpAnyH_ready (rs := [5, 6]) (by kernel_rfl) (by simp) ?_
      refine AllReadyH.cons rfl (fun K hK => ?_) ?_
      ·go_simp
       refine (times_any (t * 2) c _ HT2.out HCC.out).mono ?_
       rintro e w3 ⟨rfl, hb3⟩
       refine hK.out _ _ (hHeld.next hb3) (fun hHeld => ?_)
       clear hK K
       try simp only [Act.put, sA, sB, sC]
       refine wpAnyH_ready (rs := [6]) (by kernel_rfl) (by simp) ?_
       refine AllReadyH.cons rfl (fun K hK => ?_) ?_
       ·have HLft := hHeld.left
        go_simp
        refine hK.out _ _ (hHeld.alloc _) (fun hHeld => ?_)
        clear hK K
        try simp only [Act.put, sA, sB, sC]
        refine wpAnyH_ready (rs := [7]) (by kernel_rfl) (by simp) ?_
        refine AllReadyH.cons rfl (fun K hK => ?_) ?_
        ·rw [if_pos (by rfl)]
         refine wp_store_mid _ _ _ rfl _ _ (longL (t * 2 * c)).toArray rfl rfl HLft.there (long_info _) (all_oneCell_toArray (longL_one _)) ?_
         refine hK.out _ _ (hHeld.store HLft _) (fun hHeld => ?_)
         have HLng := HLft.long (t * 2 * c)
         simp only [List.getElem_toArray, List.getElem_cons_succ, List.getElem_cons_zero, Act.put]
         clear hK K
         try simp only [Act.put, sA, sB, sC]
         refine wpAnyH_done (by kernel_rfl) ?_ _
         go_wp2_with fail
         go_meet
         case rel => exact ⟨_, rfl, hHeld, HLng, by have := HLft.size; rw [size_setCells]; exact this⟩
        ·exact AllReadyH.nil
       ·exact AllReadyH.nil
      ·refine AllReadyH.cons rfl (fun K hK => ?_) ?_
       ·have HLft := hHeld.left
        go_simp
        refine hK.out _ _ (hHeld.alloc _) (fun hHeld => ?_)
        clear hK K
        try simp only [Act.put, sA, sB, sC]
        refine wpAnyH_ready (rs := [5]) (by kernel_rfl) (by simp) ?_
        refine AllReadyH.cons rfl (fun K hK => ?_) ?_
        ·go_simp
         refine (times_any (t * 2) c _ HT2.out HCC.out).mono ?_
         rintro e w7 ⟨rfl, hb7⟩
         refine hK.out _ _ (hHeld.next hb7) (fun hHeld => ?_)
         replace HLft := HLft.next hb7
         clear hK K
         try simp only [Act.put, sA, sB, sC]
         refine wpAnyH_ready (rs := [7]) (by kernel_rfl) (by simp) ?_
         refine AllReadyH.cons rfl (fun K hK => ?_) ?_
         ·rw [if_pos (by rfl)]
          refine wp_store_mid _ _ _ rfl _ _ (longL (t * 2 * c)).toArray rfl rfl HLft.there (long_info _) (all_oneCell_toArray (longL_one _)) ?_
          refine hK.out _ _ (hHeld.store HLft _) (fun hHeld => ?_)
          have HLng := HLft.long (t * 2 * c)
          simp only [List.getElem_toArray, List.getElem_cons_succ, List.getElem_cons_zero, Act.put]
          clear hK K
          try simp only [Act.put, sA, sB, sC]
          refine wpAnyH_done (by kernel_rfl) ?_ _
          go_wp2_with fail
          go_meet
          case rel => exact ⟨_, rfl, hHeld, HLng, by have := HLft.size; rw [size_setCells]; exact this⟩
         ·exact AllReadyH.nil
        ·exact AllReadyH.nil
       ·exact AllReadyH.nil
     ·refine AllReadyH.cons rfl (fun K hK => ?_) ?_
      ·have HLft := hHeld.left
       go_simp
       refine hK.out _ _ (hHeld.alloc _) (fun hHeld => ?_)
       clear hK K
       try simp only [Act.put, sA, sB, sC]
       refine wpAnyH_ready (rs := [3]) (by kernel_rfl) (by simp) ?_
       refine AllReadyH.cons rfl (fun K hK => ?_) ?_
       ·go_simp
        refine (times_any t 2 _ HTT.out (by decide)).mono ?_
        rintro e w10 ⟨rfl, hb10⟩
        refine hK.out _ _ (hHeld.next hb10) (fun hHeld => ?_)
        replace HLft := HLft.next hb10
        clear hK K
        try simp only [Act.put, sA, sB, sC]
        refine wpAnyH_ready (rs := [5]) (by kernel_rfl) (by simp) ?_
        refine AllReadyH.cons rfl (fun K hK => ?_) ?_
        ·go_simp
         refine (times_any (t * 2) c _ HT2.out HCC.out).mono ?_
         rintro e w11 ⟨rfl, hb11⟩
         refine hK.out _ _ (hHeld.next hb11) (fun hHeld => ?_)
         replace HLft := HLft.next hb11
         clear hK K
         try simp only [Act.put, sA, sB, sC]
         refine wpAnyH_ready (rs := [7]) (by kernel_rfl) (by simp) ?_
         refine AllReadyH.cons rfl (fun K hK => ?_) ?_
         ·rw [if_pos (by rfl)]
          refine wp_store_mid _ _ _ rfl _ _ (longL (t * 2 * c)).toArray rfl rfl HLft.there (long_info _) (all_oneCell_toArray (longL_one _)) ?_
          refine hK.out _ _ (hHeld.store HLft _) (fun hHeld => ?_)
          have HLng := HLft.long (t * 2 * c)
          simp only [List.getElem_toArray, List.getElem_cons_succ, List.getElem_cons_zero, Act.put]
          clear hK K
          try simp only [Act.put, sA, sB, sC]
          refine wpAnyH_done (by kernel_rfl) ?_ _
          go_wp2_with fail
          go_meet
          case rel => exact ⟨_, rfl, hHeld, HLng, by have := HLft.size; rw [size_setCells]; exact this⟩
         ·exact AllReadyH.nil
        ·exact AllReadyH.nil
       ·exact AllReadyH.nil
      ·exact AllReadyH.nil
    ·refine AllReadyH.cons rfl (fun K hK => ?_) ?_
     ·have HLft := hHeld.left_drew
      go_simp
      refine hK.out _ _ (hHeld.alloc_drew _) (fun hHeld => ?_)
      clear hK K
      try simp only [Act.put, sA, sB, sC]
      refine wpAnyH_ready (rs := [1]) (by kernel_rfl) (by simp) ?_
      refine AllReadyH.cons rfl (fun K hK => ?_) ?_
      ·go_simp
       refine (size_any (t : Int) t _ SA SB SC).mono ?_
       rintro e w14 ⟨rfl, hb14⟩
       refine hK.out _ _ (hHeld.next hb14) (fun hHeld => ?_)
       replace HLft := HLft.next hb14
       clear hK K
       try simp only [Act.put, sA, sB, sC]
       refine wpAnyH_ready (rs := [3]) (by kernel_rfl) (by simp) ?_
       refine AllReadyH.cons rfl (fun K hK => ?_) ?_
       ·go_simp
        refine (times_any t 2 _ HTT.out (by decide)).mono ?_
        rintro e w15 ⟨rfl, hb15⟩
        refine hK.out _ _ (hHeld.next hb15) (fun hHeld => ?_)
        replace HLft := HLft.next hb15
        clear hK K
        try simp only [Act.put, sA, sB, sC]
        refine wpAnyH_ready (rs := [5]) (by kernel_rfl) (by simp) ?_
        refine AllReadyH.cons rfl (fun K hK => ?_) ?_
        ·go_simp
         refine (times_any (t * 2) c _ HT2.out HCC.out).mono ?_
         rintro e w16 ⟨rfl, hb16⟩
         refine hK.out _ _ (hHeld.next hb16) (fun hHeld => ?_)
         replace HLft := HLft.next hb16
         clear hK K
         try simp only [Act.put, sA, sB, sC]
         refine wpAnyH_ready (rs := [7]) (by kernel_rfl) (by simp) ?_
         refine AllReadyH.cons rfl (fun K hK => ?_) ?_
         ·rw [if_pos (by rfl)]
          refine wp_store_mid _ _ _ rfl _ _ (longL (t * 2 * c)).toArray rfl rfl HLft.there (long_info _) (all_oneCell_toArray (longL_one _)) ?_
          refine hK.out _ _ (hHeld.store HLft _) (fun hHeld => ?_)
          have HLng := HLft.long (t * 2 * c)
          simp only [List.getElem_toArray, List.getElem_cons_succ, List.getElem_cons_zero, Act.put]
          clear hK K
          try simp only [Act.put, sA, sB, sC]
          refine wpAnyH_done (by kernel_rfl) ?_ _
          go_wp2_with fail
          go_meet
          case rel => exact ⟨_, rfl, hHeld, HLng, by have := HLft.size; rw [size_setCells]; exact this⟩
         ·exact AllReadyH.nil
        ·exact AllReadyH.nil
       ·exact AllReadyH.nil
      ·exact AllReadyH.nil
     ·exact AllReadyH.nil
   case rest =>
    obtain ⟨L, rfl, K2, HL, hLs⟩ := hcut
    clear K
    have P1 := Lib.hid (show m + m < 65536 ^ 10 from by have := HM.out; omega)
    have P2 := Lib.hid (show m + m + c < 65536 ^ 10 from by have := HM.out; omega)
    have P3 := Lib.hid (show t * 2 * c < 65536 ^ 10 from mul_lt_ten HT2.out HCC.out)
    have P4 := Lib.hid (show m < 65536 ^ 10 from by have := HM.out; omega)
    have HU : Hid (decide (m + m + c < t * 2 * c) = !decide (t ≤ r)) := near_test HR.out HC0.out ht
    go_upto_region 8 with (fail)
    refine wp_region_held_drew (S := NearL w T m c L (t * 2 * c)) (by kernel_rfl) (NearL.drew ⟨K2, HL, hLs⟩) (fun hHeld => ?_)
    refine wpAnyH_take (i := 0) (v := .agg (longL m).toArray) rfl (by kernel_rfl) (by kernel_rfl) (by kernel_rfl) (fun _ _ _ h => h) (yieldsIf_load_mid (by rfl) _ _ rfl _ _ rfl (longL m) _ (fun W h => h.near.a.range) u44 rfl (long_info _)) hHeld ?_
    try simp only [Act.put, sA, sB, sC]
    refine wpAnyH_take (i := 1) (v := .agg (longL m).toArray) rfl (by kernel_rfl) (by kernel_rfl) (by kernel_rfl) (fun _ _ _ h => h) (yieldsIf_load_mid (by rfl) _ _ rfl _ _ rfl (longL m) _ (fun W h => h.near.a.range) u44 rfl (long_info _)) hHeld ?_
    try simp only [Act.put, sA, sB, sC]
    refine wpAnyH_take (i := 3) (v := .agg (longL c).toArray) rfl (by kernel_rfl) (by kernel_rfl) (by kernel_rfl) (fun _ _ _ h => h) (yieldsIf_load_mid (by rfl) _ _ rfl _ _ rfl (longL c) _ (fun W h => h.near.b.range) u44 rfl (long_info _)) hHeld ?_
    try simp only [Act.put, sA, sB, sC]
    refine wpAnyH_take (i := 5) (v := .agg (longL (t * 2 * c)).toArray) rfl (by kernel_rfl) (by kernel_rfl) (by kernel_rfl) (fun _ _ _ h => h) (yieldsIf_load_mid (by rfl) _ _ rfl _ _ rfl (longL (t * 2 * c)) _ (fun W h => h.long.range) u44 rfl (long_info _)) hHeld ?_
    try simp only [Act.put, sA, sB, sC]
    refine wpAnyH_ready (rs := [2]) (by kernel_rfl) (by simp) ?_
    refine AllReadyH.cons rfl (fun K hK => ?_) AllReadyH.nil
    go_simp
    refine (plus_any m m _ P4.out P1.out).mono ?_
    rintro e v2 ⟨rfl, hb2⟩
    refine hK.out _ _ (hHeld.next hb2) (fun hHeld => ?_)
    clear hK K
    try simp only [Act.put, sA, sB, sC]
    refine wpAnyH_ready (rs := [4]) (by kernel_rfl) (by simp) ?_
    refine AllReadyH.cons rfl (fun K hK => ?_) AllReadyH.nil
    go_simp
    refine (plus_any (m + m) c _ P1.out P2.out).mono ?_
    rintro e v4 ⟨rfl, hb4⟩
    refine hK.out _ _ (hHeld.next hb4) (fun hHeld => ?_)
    clear hK K
    try simp only [Act.put, sA, sB, sC]
    refine wpAnyH_ready (rs := [6]) (by kernel_rfl) (by simp) ?_
    refine AllReadyH.cons rfl (fun K hK => ?_) AllReadyH.nil
    go_simp
    refine (under_any (m + m + c) (t * 2 * c) _ P2.out P3.out).mono ?_
    rintro e v6 ⟨rfl, hb6⟩
    refine hK.out _ _ (hHeld.next hb6) (fun hHeld => ?_)
    clear hK K
    try simp only [Act.put, sA, sB, sC]
    rw [HU.out]
    refine wpAnyH_take (i := 7) (v := .bool (!!decide (t ≤ r))) rfl (by kernel_rfl) (by kernel_rfl) (by kernel_rfl) (fun _ _ _ h => h) (Or.inl ⟨by rfl, fun W hW => by go_simp⟩) hHeld ?_
    try simp only [Act.put, sA, sB, sC]
    refine wpAnyH_done (by kernel_rfl) ?_ _
    have K3 := hHeld.near
    clear hHeld hb2 hb4 hb6 K2 HL hLs
    by_cases hle : t ≤ r
    ·rw [decide_eq_true hle]
     go_wp2
     go_roundw
     case rel => exact ⟨t, b / 2, rfl, by go_num, by rw [← HT.out]; exact HREL.out.up hb (by rw [HT.out]; exact hle), K3⟩
     case measure => simp [intOf]; omega
    ·rw [decide_eq_false hle]
     go_wp2
     go_roundw
     case rel => exact ⟨s, b / 2, rfl, by go_num, HREL.out.stay hb (by rw [HT.out]; exact hle), K3⟩
     case measure => simp [intOf]; omega
  ·obtain rfl : b = 0 := by omega
   have hs := HREL.out.done
   subst hs
   go_wp2
   go_ret
   exact ⟨ret_int rfl, K.below⟩
end Go.Proofs.YtklenppldblbdaaGreat
namespace Go.Proofs.YtklenppldblbdaaGreat
open Go.RowKit
structure ProdW (w0 : World) (P m : Nat) (W : World) : Prop where
 long : LongAt W P m
 size : P < W.heap.size
 below : Below w0.heap.size w0 W
theorem ProdW.next {w0 : World} {P m : Nat} {W W' : World} (h : ProdW w0 P m W) (k : Below W.heap.size W W') : ProdW w0 P m W' :=
 ⟨h.long.below k h.size, Nat.lt_of_lt_of_le h.size k.size, h.below.trans (k.mono h.below.size)⟩
theorem ProdW.drew {w0 : World} {P m : Nat} {W : World} (h : ProdW w0 P m W) : ProdW w0 P m W.drew := h.next (Below.refl _ _).drew
theorem sign_of (a b c : Int) (h : a.natAbs * b.natAbs ≠ 0) : (prodNeg a b != decide (c < 0)) = ((decide (a < 0) != decide (b < 0)) != decide (c < 0)) := by
 have ha : a ≠ 0 := fun e => h (by simp [e])
 have hb : b ≠ 0 := fun e => h (by simp [e])
 have h1 : a * b ≠ 0 := Int.mul_ne_zero ha hb
 unfold prodNeg
 simp [h1]
theorem near_0 (c : Nat) : near 0 c = 0 := by
 unfold near
 rcases Nat.eq_zero_or_pos c with h | h
 ·rw [h]
 ·exact Nat.div_eq_of_lt (by omega)
theorem mulDiv_signs (a b c : Int) (hc : c ≠ 0) (hq : near (a.natAbs * b.natAbs) c.natAbs ≤ 2147483647) :
 mulDiv a b c = (if ((decide (a < 0) != decide (b < 0)) != decide (c < 0)) = true then -(near (a.natAbs * b.natAbs) c.natAbs : Int) else (near (a.natAbs * b.natAbs) c.natAbs : Int), 0) := by
 unfold mulDiv
 rw [if_neg (by omega)]
 by_cases h : a.natAbs * b.natAbs = 0
 ·rw [h, near_0]; simp
 ·rw [sign_of a b c h]
theorem mulDiv_great (a b c : Int) (hc : c ≠ 0) (hm : ¬ a.natAbs * b.natAbs < c.natAbs * 8589934592) : mulDiv a b c = (0, 14) := by
 unfold mulDiv
 rw [if_pos]
 right
 rw [near_eq _ _ (by omega)]
 have : 8589934592 ≤ a.natAbs * b.natAbs / c.natAbs := (Nat.le_div_iff_mul_le (by omega)).2 (by rw [Nat.mul_comm]; omega)
 omega
theorem mulDiv_over (a b c : Int) (hq : 2147483647 < near (a.natAbs * b.natAbs) c.natAbs) : mulDiv a b c = (0, 14) := by
 unfold mulDiv
 rw [if_pos (.inr hq)]
theorem room {x y c : Nat} (hx : x ≤ 9223372036854775808) (hy : y ≤ 9223372036854775808) (hc : c ≤ 9223372036854775808) : 2 * (x * y) + c < 65536 ^ 10 := by
 have : x * y ≤ 9223372036854775808 * 9223372036854775808 := Nat.mul_le_mul hx hy
 omega
set_option maxHeartbeats 400000 in
theorem refmd_zero (a b : Int) (w : World) :
 Calls Tryz.prog 59 #[.int .i64 a, .int .i64 b, .int .i64 0] w fun e w' => e = .returned (.tuple #[.int .i64 0, .int .i64 14]) ∧ Below w.heap.size w w' := by
 go_enter Tryz.func59, Tryz.ntmps59
 go_wp2
 go_ret2
 exact ⟨rfl, Below.refl _ _⟩
set_option maxRecDepth 100000 in
set_option maxHeartbeats 4000000 in
theorem refmd_main (a b c s f : Int) (m k r : Nat) (w : World) (A : I64 a) (B : I64 b) (C : I64 c) (hc : c ≠ 0) (HM : Hid (a.natAbs * b.natAbs = m)) (HK : Hid (c.natAbs = k)) (HR : Hid (r = Nat.min (near m k) 4294967295)) (HS : Hid (mulDiv a b c = (s, f))) :
 Calls Tryz.prog 59 #[.int .i64 a, .int .i64 b, .int .i64 c] w fun e w' => e = .returned (.tuple #[.int .i64 s, .int .i64 f]) ∧ Below w.heap.size w w' := by
 have tc : (c == 0) = false := by simp [hc]
 have HCN := Lib.hid hc
 have HA := Lib.hid A
 have HB := Lib.hid B
 have HC := Lib.hid C
 have hr : r ≤ 4294967295 := by rw [HR.out]; exact Nat.min_le_right _ _
 have hm10 : Hid (2 * m + k < 65536 ^ 10) := by
  rw [← HM.out, ← HK.out]
  exact room (by have := A.1; have := A.2; omega) (by have := B.1; have := B.2; omega) (by have := C.1; have := C.2; omega)
 have hk4 : Hid (k < 65536 ^ 4) := by have := HK.out; have := C.1; have := C.2; unfold Hid; omega
 have hk0 : Hid (0 < k) := by have := HK.out; unfold Hid; omega
 have hk5 : Hid (k < 65536 ^ 5) := Nat.lt_of_lt_of_le hk4.out (by decide)
 have P1 : Hid (m < 65536 ^ 10) := by have := hm10.out; unfold Hid; omega
 have P2 : Hid (k * 8589934592 < 65536 ^ 10) := mul_lt_ten hk5.out (by decide)
 clear hc A B C
 go_enter Tryz.func59, Tryz.ntmps59
 go_wp2_with fail
 refine (size_any a _ _ HA.out.1 HA.out.2 rfl).mono ?_
 rintro e w1 ⟨rfl, hb1⟩
 go_wp2_with fail
 refine (size_any b _ _ HB.out.1 HB.out.2 rfl).mono ?_
 rintro e w2 ⟨rfl, hb2⟩
 go_wp2_with fail
 refine (times_any a.natAbs b.natAbs _ (natAbs_small HA.out) (natAbs_small HB.out)).mono ?_
 rintro e w3 ⟨rfl, hb3⟩
 rw [HM.out]
 have BEL : Hid (Below w.heap.size w w3) := (hb1.trans (hb2.mono hb1.size)).trans (hb3.mono (Nat.le_trans hb1.size hb2.size))
 clear hb1 hb2 hb3
 simp only [longV]
 go_upto_region 4 with (fail)
 have K0 : ProdW w w3.heap.size m (w3.alloc (.cells #[.int .i64 (dig m 0 : Nat), .int .i64 (dig m 1 : Nat), .int .i64 (dig m 2 : Nat), .int .i64 (dig m 3 : Nat), .int .i64 (dig m 4 : Nat), .int .i64 (dig m 5 : Nat), .int .i64 (dig m 6 : Nat), .int .i64 (dig m 7 : Nat), .int .i64 (dig m 8 : Nat), .int .i64 (dig m 9 : Nat)] 133)) := ⟨longAt_new w3 m 133, by simp, BEL.out.alloc BEL.out.size _⟩
 generalize w3.alloc _ = W0 at *
 generalize w3.heap.size = P at *
 clear BEL
 have u44 := Tryz.underlying133
 refine wp_region_held_drew (S := ProdW w P m) (by kernel_rfl) K0.drew (fun hHeld => ?_)
 clear K0
 refine wpAnyH_take (i := 0) (v := .agg (longL m).toArray) rfl (by kernel_rfl) (by kernel_rfl) (by kernel_rfl) (fun _ _ _ h => h) (yieldsIf_load_mid (by rfl) _ _ rfl _ _ rfl (longL m) _ (fun W h => h.long.range) u44 rfl (long_info _)) hHeld ?_
 try simp only [Act.put, sA, sB, sC]
 refine wpAnyH_take (i := 1) (v := .int .i64 c) rfl (by kernel_rfl) (by kernel_rfl) (by kernel_rfl) (fun _ _ _ h => h) (Or.inl ⟨by rfl, fun W hW => by go_simp⟩) hHeld ?_
 try simp only [Act.put, sA, sB, sC]
 refine wpAnyH_ready (rs := [2]) (by kernel_rfl) (by simp) ?_
 refine AllReadyH.cons rfl (fun K hK => ?_) AllReadyH.nil
 go_simp
 refine (size_any c k _ HC.out.1 HC.out.2 HK).mono ?_
 rintro e v2 ⟨rfl, hb2⟩
 refine hK.out _ _ (hHeld.next hb2) (fun hHeld => ?_)
 clear hK K
 try simp only [Act.put, sA, sB, sC]
 refine wpAnyH_ready (rs := [3]) (by kernel_rfl) (by simp) ?_
 refine AllReadyH.cons rfl (fun K hK => ?_) AllReadyH.nil
 go_simp
 refine (size_any 8589934592 8589934592 _ (by show -9223372036854775808 ≤ (8589934592 : Int); decide) (by show (8589934592 : Int) ≤ 9223372036854775807; decide) rfl).mono ?_
 rintro e v3 ⟨rfl, hb3⟩
 refine hK.out _ _ (hHeld.next hb3) (fun hHeld => ?_)
 clear hK K
 try simp only [Act.put, sA, sB, sC]
 refine wpAnyH_ready (rs := [4]) (by kernel_rfl) (by simp) ?_
 refine AllReadyH.cons rfl (fun K hK => ?_) AllReadyH.nil
 go_simp
 refine (times_any k 8589934592 _ hk5.out (by decide)).mono ?_
 rintro e v4 ⟨rfl, hb4⟩
 refine hK.out _ _ (hHeld.next hb4) (fun hHeld => ?_)
 clear hK K
 try simp only [Act.put, sA, sB, sC]
 refine wpAnyH_ready (rs := [5]) (by kernel_rfl) (by simp) ?_
 refine AllReadyH.cons rfl (fun K hK => ?_) AllReadyH.nil
 go_simp
 refine (under_any m (k * 8589934592) _ P1.out P2.out).mono ?_
 rintro e v5 ⟨rfl, hb5⟩
 refine hK.out _ _ (hHeld.next hb5) (fun hHeld => ?_)
 clear hK K
 try simp only [Act.put, sA, sB, sC]
 refine wpAnyH_take (i := 6) (v := .bool (!decide (m < k * 8589934592))) rfl (by kernel_rfl) (by kernel_rfl) (by kernel_rfl) (fun _ _ _ h => h) (Or.inl ⟨by rfl, fun W hW => by go_simp⟩) hHeld ?_
 try simp only [Act.put, sA, sB, sC]
 refine wpAnyH_done (by kernel_rfl) ?_ _
 by_cases hlt : m < k * 8589934592
 ·rw [decide_eq_true hlt]
  have HLT := Lib.hid hlt
  clear hlt hb2 hb3 hb4 hb5
  go_upto_region 6 with (fail)
  refine wp_region_held_drew (S := ProdW w P m) (by kernel_rfl) hHeld.drew (fun hHeld => ?_)
  refine wpAnyH_take (i := 0) (v := .agg (longL m).toArray) rfl (by kernel_rfl) (by kernel_rfl) (by kernel_rfl) (fun _ _ _ h => h) (yieldsIf_load_mid (by rfl) _ _ rfl _ _ rfl (longL m) _ (fun W h => h.long.range) u44 rfl (long_info _)) hHeld ?_
  try simp only [Act.put, sA, sB, sC]
  refine wpAnyH_take (i := 1) (v := .int .i64 c) rfl (by kernel_rfl) (by kernel_rfl) (by kernel_rfl) (fun _ _ _ h => h) (Or.inl ⟨by rfl, fun W hW => by go_simp⟩) hHeld ?_
  try simp only [Act.put, sA, sB, sC]
  refine wpAnyH_ready (rs := [2]) (by kernel_rfl) (by simp) ?_
  refine AllReadyH.cons rfl (fun K hK => ?_) AllReadyH.nil
  go_simp
  refine (size_any c k _ HC.out.1 HC.out.2 HK).mono ?_
  rintro e v6 ⟨rfl, hb6⟩
  refine hK.out _ _ (hHeld.next hb6) (fun hHeld => ?_)
  clear hK K
  try simp only [Act.put, sA, sB, sC]
  refine wpAnyH_ready (rs := [3]) (by kernel_rfl) (by simp) ?_
  refine AllReadyH.cons rfl (fun K hK => ?_) AllReadyH.nil
  go_simp
  refine (nearest_any m k r _ hm10.out hk4.out hk0.out HR).mono ?_
  rintro e v7 ⟨rfl, hb7⟩
  refine hK.out _ _ (hHeld.next hb7) (fun hHeld => ?_)
  clear hK K
  try simp only [Act.put, sA, sB, sC]
  refine wpAnyH_take (i := 4) (v := .int .i64 (r : Int)) rfl (by kernel_rfl) (by kernel_rfl) (by kernel_rfl) (fun _ _ _ h => h) (Or.inl ⟨by rfl, fun W hW => by go_simp⟩) hHeld ?_
  try simp only [Act.put, sA, sB, sC]
  refine wpAnyH_done (by kernel_rfl) ?_ _
  have BEL := Lib.hid hHeld.below
  clear hHeld hb6 hb7
  by_cases hq : (2147483647 : Int) < (r : Int)
  ·have HF : Hid (s = 0 ∧ f = 14) := by
    have h1 : 2147483647 < near m k := by
     have e : Nat.min (near m k) 4294967295 = min (near m k) 4294967295 := rfl
     have := HR.out
     rw [e] at this
     omega
    have h2 := HS.out
    rw [mulDiv_over a b c (by rw [HM.out, HK.out]; exact h1)] at h2
    simp at h2
    exact ⟨h2.1.symm, h2.2.symm⟩
   go_wp2
   go_ret2
   rw [HF.out.1, HF.out.2]
   exact ⟨rfl, BEL.out⟩
  ·have HF : Hid (s = (if ((decide (a < 0) != decide (b < 0)) != decide (c < 0)) = true then -(r : Int) else (r : Int)) ∧ f = 0) := by
    have h1 : near m k = r := by
     have e : Nat.min (near m k) 4294967295 = min (near m k) 4294967295 := rfl
     have := HR.out
     rw [e] at this
     omega
    have h2 := HS.out
    rw [mulDiv_signs a b c HCN.out (by rw [HM.out, HK.out]; omega), HM.out, HK.out, h1] at h2
    simp only [Prod.mk.injEq] at h2
    exact ⟨h2.1.symm, h2.2.symm⟩
   go_upto_region 9 with (fail)
   by_cases ha : a < 0
   all_goals
    by_cases hb : b < 0
    all_goals
     by_cases hcc : c < 0
     all_goals
      have e := HF.out.1
      simp [ha, hb, hcc] at e
      have HF2 := Lib.hid e
      clear e
      go_wp2
      go_rounds 4
      go_ret2
      rw [HF2.out, HF.out.2]
      exact ⟨rfl, BEL.out.alloc BEL.out.size _⟩
 ·rw [decide_eq_false hlt]
  have BEL := Lib.hid hHeld.below
  have HF : Hid (s = 0 ∧ f = 14) := by
   have h2 := HS.out
   rw [mulDiv_great a b c HCN.out (by rw [HM.out, HK.out]; exact hlt)] at h2
   simp at h2
   exact ⟨h2.1.symm, h2.2.symm⟩
  clear hlt hHeld hb2 hb3 hb4 hb5
  go_wp2
  go_ret2
  rw [HF.out.1, HF.out.2]
  exact ⟨rfl, BEL.out⟩
theorem refmd_any (a b c s f : Int) (w : World) (A : I64 a) (B : I64 b) (C : I64 c) (HS : Hid (mulDiv a b c = (s, f))) :
 Calls Tryz.prog 59 #[.int .i64 a, .int .i64 b, .int .i64 c] w fun e w' => e = .returned (.tuple #[.int .i64 s, .int .i64 f]) ∧ Below w.heap.size w w' := by
 by_cases hc : c = 0
 ·subst hc
  have h2 := HS.out
  unfold mulDiv at h2
  rw [if_pos (.inl rfl)] at h2
  simp only [Prod.mk.injEq] at h2
  rw [← h2.1, ← h2.2]
  exact refmd_zero a b w
 ·exact refmd_main a b c s f _ _ _ w A B C hc rfl rfl rfl HS
end Go.Proofs.YtklenppldblbdaaGreat
