/-
  What step of package path gives: one arc more, or refused. For knots of the three kinds whose coordinates are FIX.
-/
import Derived.Test.YthjhekmlhmljlaaPtU
namespace Go.Proofs.Ythjhekmlhmljlaa
open Go.RowKit Go.PlainAid
set_option linter.unusedSimpArgs false
set_option linter.unusedVariables false

set_option maxRecDepth 20000 in
set_option maxHeartbeats 8000000 in
theorem cubic_bad (w0 : World) (W : Nat) (st : Sp) (ca : Option Addr) (cc : Nat) (k d : Kn) (r : List Kn) (g pc : Nat) (P : List Sp) (p : Sp) (c : Bool) (w : World) (h : Wk w0 W st ca cc (k :: d :: r) g pc P c w) (hp : P.length ≤ 1000000) (hl : P[P.length - 1]? = some p) (hpos : 0 < P.length) (hk3 : k.k = 3) (hd3 : d.k = 3) (hce : ∀ V, Wk w0 W st ca cc (k :: d :: r) g pc P c V → Calls Try.prog 82 #[.pointer (some ⟨W, 0, none⟩), .int .i64 2] V fun e w' => e = .returned (.tuple #[.agg #[.int .i64 0, .int .i64 0], .int .i64 61]) ∧ Below w0.heap.size w0 w') :
    Calls Try.prog 76 #[.pointer (some ⟨W, 0, none⟩)] w fun e w' => e = .returned (.int .i64 61) ∧ Below w0.heap.size w0 w' := by
  obtain ⟨b, off, rfl, k0, k1, k2⟩ := h.read.knot (i := 0) (k := k) rfl
  simp only [Nat.zero_mul, Nat.add_zero] at k0 k1 k2
  obtain ⟨b', off', hbe, d0, d1, d2⟩ := h.read.knot (i := 1) (k := d) rfl
  simp only [Option.some.injEq, Addr.mk.injEq] at hbe
  obtain ⟨rfl, rfl, _⟩ := hbe
  simp only [Nat.one_mul] at d0 d1 d2
  have hlc := h.lc
  have hlt := h.lt
  have hbW : b < w0.heap.size := World.block_lt_of_cell? w0 _ (by have := h.com.knot (i := 0) (k := k) rfl; obtain ⟨b', o', e, q0, _⟩ := this; cases e; exact q0)
  have hWW := h.hW
  have HW := Lib.hid h
  have c2 := h.cs.c2
  obtain ⟨n, HN⟩ : ∃ n, Hid (r.length = n) := ⟨_, rfl⟩
  obtain ⟨m, HM⟩ : ∃ m, Hid (P.length = m) := ⟨_, rfl⟩
  obtain ⟨nn, HNN⟩ : ∃ nn, Hid ((k :: d :: r).length = nn) := ⟨_, rfl⟩
  rw [HNN.out] at c2 hlc
  have HN2 : Hid (nn = n + 2) := by unfold Hid; rw [← HNN.out, ← HN.out]; rfl
  have hnn : 2 ≤ nn := by have := HN2.out; omega
  have HP := Lib.hid hp
  have HL := Lib.hid hl
  have HPO := Lib.hid hpos
  have HLC := Lib.hid hlc
  have q1 : (0 : Int) < (nn : Int) := by omega
  have q2 : (1 : Int) < (nn : Int) := by omega
  have q3 : ¬ (nn : Int) < 2 := by omega
  have HBW := Lib.hid (And.intro hbW hWW)
  have HS0 : Hid (CubS W b off nn cc k d w) := ⟨c2, k0, k1, k2, d0, d1, d2⟩
  have HCE := Lib.hid hce
  have e1 : (d.k == 3) = true := by simpa using hd3
  have hbl : b < w.heap.size := by have := h.bel.size; omega
  clear h hp hl hpos hlc hbW hWW hnn hce hk3 hd3 d0 d1 k0 k1 k2
  go_enter Try.func76, Try.ntmps76
  go_wp2_with fail
  clear c2 d2
  go_cut [3, 4] (fun x y wx => ∃ g1 g2, x = .pointer (some ⟨g1, 0, none⟩) ∧ y = .pointer (some ⟨g2, 0, none⟩) ∧ CubB w g1 g2 k d wx)
  case first =>
    refine wp_region_held_drew (S := CubS W b off nn cc k d) (by kernel_rfl) HS0.out.drew (fun hH => ?_)
    have hHs := HS0.out
    have hB : Below w.heap.size w w.drew := (Below.refl _ _).drew
    clear e1
    refine wpAnyH_take (i := 0) (v := (.pointer (some ⟨W, 0, none⟩))) rfl (by kernel_rfl) (by kernel_rfl) (by kernel_rfl) (fun _ _ _ h => h) (Or.inl ⟨by rfl, fun V hV => by go_simp⟩) hH ?_
    try simp only [Act.put, List.setIfInBounds_toArray, List.set_cons_zero, List.set_cons_succ]
    refine wpAnyH_take (i := 1) (v := (.pointer (some ⟨W, 0, none⟩))) rfl (by kernel_rfl) (by kernel_rfl) (by kernel_rfl) (fun _ _ _ h => h) (Or.inl ⟨by rfl, fun V hV => by go_simp⟩) hH ?_
    try simp only [Act.put, List.setIfInBounds_toArray, List.set_cons_zero, List.set_cons_succ]
    refine wpAnyH_take (i := 2) (v := (.pointer (some ⟨W, 2, none⟩))) rfl (by kernel_rfl) (by kernel_rfl) (by kernel_rfl) (fun _ _ _ h => h) (Or.inl ⟨by rfl, fun V hV => by go_simp⟩) hH ?_
    try simp only [Act.put, List.setIfInBounds_toArray, List.set_cons_zero, List.set_cons_succ]
    refine wpAnyH_take (i := 3) (v := (.slice (some ⟨b, off, none⟩) nn cc)) rfl (by kernel_rfl) (by kernel_rfl) (by kernel_rfl) (fun _ _ _ h => h) (Or.inl ⟨by rfl, fun V hV => by obtain ⟨h0, h1, h2, h3, h4, h5, h6⟩ := hV; go_simp⟩) hH ?_
    try simp only [Act.put, List.setIfInBounds_toArray, List.set_cons_zero, List.set_cons_succ]
    refine wpAnyH_take (i := 4) (v := (.pointer (some ⟨b, off, none⟩))) rfl (by kernel_rfl) (by kernel_rfl) (by kernel_rfl) (fun _ _ _ h => h) (Or.inl ⟨by rfl, fun V hV => by (go_simp; try (intro h0; have := HN2.out; omega))⟩) hH ?_
    try simp only [Act.put, List.setIfInBounds_toArray, List.set_cons_zero, List.set_cons_succ]
    refine wpAnyH_take (i := 5) (v := (.agg #[.int .i64 k.x, .int .i64 k.y, .int .i64 k.k])) rfl (by kernel_rfl) (by kernel_rfl) (by kernel_rfl) (fun _ _ _ h => h) (Or.inl ⟨by rfl, fun V hV => by obtain ⟨h0, h1, h2, h3, h4, h5, h6⟩ := hV; go_simp⟩) hH ?_
    try simp only [Act.put, List.setIfInBounds_toArray, List.set_cons_zero, List.set_cons_succ]
    refine wpAnyH_take (i := 7) (v := (.pointer (some ⟨W, 0, none⟩))) rfl (by kernel_rfl) (by kernel_rfl) (by kernel_rfl) (fun _ _ _ h => h) (Or.inl ⟨by rfl, fun V hV => by go_simp⟩) hH ?_
    try simp only [Act.put, List.setIfInBounds_toArray, List.set_cons_zero, List.set_cons_succ]
    refine wpAnyH_take (i := 8) (v := (.pointer (some ⟨W, 0, none⟩))) rfl (by kernel_rfl) (by kernel_rfl) (by kernel_rfl) (fun _ _ _ h => h) (Or.inl ⟨by rfl, fun V hV => by go_simp⟩) hH ?_
    try simp only [Act.put, List.setIfInBounds_toArray, List.set_cons_zero, List.set_cons_succ]
    refine wpAnyH_take (i := 9) (v := (.pointer (some ⟨W, 2, none⟩))) rfl (by kernel_rfl) (by kernel_rfl) (by kernel_rfl) (fun _ _ _ h => h) (Or.inl ⟨by rfl, fun V hV => by go_simp⟩) hH ?_
    try simp only [Act.put, List.setIfInBounds_toArray, List.set_cons_zero, List.set_cons_succ]
    refine wpAnyH_take (i := 10) (v := (.slice (some ⟨b, off, none⟩) nn cc)) rfl (by kernel_rfl) (by kernel_rfl) (by kernel_rfl) (fun _ _ _ h => h) (Or.inl ⟨by rfl, fun V hV => by obtain ⟨h0, h1, h2, h3, h4, h5, h6⟩ := hV; go_simp⟩) hH ?_
    try simp only [Act.put, List.setIfInBounds_toArray, List.set_cons_zero, List.set_cons_succ]
    refine wpAnyH_take (i := 11) (v := (.pointer (some ⟨b, off + 3, none⟩))) rfl (by kernel_rfl) (by kernel_rfl) (by kernel_rfl) (fun _ _ _ h => h) (Or.inl ⟨by rfl, fun V hV => by (go_simp; try (intro h0; have := HN2.out; omega))⟩) hH ?_
    try simp only [Act.put, List.setIfInBounds_toArray, List.set_cons_zero, List.set_cons_succ]
    refine wpAnyH_take (i := 12) (v := (.agg #[.int .i64 d.x, .int .i64 d.y, .int .i64 d.k])) rfl (by kernel_rfl) (by kernel_rfl) (by kernel_rfl) (fun _ _ _ h => h) (Or.inl ⟨by rfl, fun V hV => by obtain ⟨h0, h1, h2, h3, h4, h5, h6⟩ := hV; go_simp⟩) hH ?_
    try simp only [Act.put, List.setIfInBounds_toArray, List.set_cons_zero, List.set_cons_succ]
    refine wpAnyH_ready (rs := [6, 14, 15]) (by kernel_rfl) (by simp) ?_
    refine AllReadyH.cons rfl (fun K hK => ?_) ?_
    · go_simp
      refine (placeOf_xyz k.x k.y _ _).mono ?_
      rintro e v1 ⟨rfl, hb1⟩
      refine hK.out _ _ (hH.next hb1) (fun hH => ?_)
      clear hK K
      replace hB := bel_next hB hb1
      clear hb1
      try simp only [Act.put, List.setIfInBounds_toArray, List.set_cons_zero, List.set_cons_succ]
      refine wpAnyH_ready (rs := [13, 14, 15]) (by kernel_rfl) (by simp) ?_
      refine AllReadyH.cons rfl (fun K hK => ?_) ?_
      · go_simp
        refine (placeOf_xyz d.x d.y _ _).mono ?_
        rintro e v2 ⟨rfl, hb2⟩
        refine hK.out _ _ (hH.next hb2) (fun hH => ?_)
        clear hK K
        replace hB := bel_next hB hb2
        clear hb2
        try simp only [Act.put, List.setIfInBounds_toArray, List.set_cons_zero, List.set_cons_succ]
        refine wpAnyH_ready (rs := [14, 15]) (by kernel_rfl) (by simp) ?_
        refine AllReadyH.cons rfl (fun K hK => ?_) ?_
        · go_simp
          have hz14_3 := (show Box0 w v2.heap.size (v2.alloc (.cells #[.int .i64 0, .int .i64 0] 47)) from box0_new hB.size)
          refine hK.out _ _ (hH.next ((Below.refl _ _).alloc (Nat.le_refl _) _)) (fun hH => ?_)
          clear hK K
          replace hB := (show Below w.heap.size w (v2.alloc (.cells #[.int .i64 0, .int .i64 0] 47)) from bel_alloc hB _)
          try simp only [Act.put, List.setIfInBounds_toArray, List.set_cons_zero, List.set_cons_succ]
          generalize (v2.alloc (.cells #[.int .i64 0, .int .i64 0] 47)) = v3 at *
          generalize v2.heap.size = g14_3 at *
          refine wpAnyH_ready (rs := [15]) (by kernel_rfl) (by simp) ?_
          refine AllReadyH.cons rfl (fun K hK => ?_) ?_
          · go_simp
            have hz15_4 := (show Box0 w v3.heap.size (v3.alloc (.cells #[.int .i64 0, .int .i64 0] 47)) from box0_new hB.size)
            refine hK.out _ _ (hH.next ((Below.refl _ _).alloc (Nat.le_refl _) _)) (fun hH => ?_)
            clear hK K
            replace hB := (show Below w.heap.size w (v3.alloc (.cells #[.int .i64 0, .int .i64 0] 47)) from bel_alloc hB _)
            have hlt4_14 : g14_3 < v3.heap.size := hz14_3.lt
            replace hz14_3 := hz14_3.next ((Below.refl _ _).alloc (Nat.le_refl _) (.cells #[.int .i64 0, .int .i64 0] 47))
            try simp only [Act.put, List.setIfInBounds_toArray, List.set_cons_zero, List.set_cons_succ]
            generalize (v3.alloc (.cells #[.int .i64 0, .int .i64 0] 47)) = v4 at *
            generalize v3.heap.size = g15_4 at *
            have hne : g14_3 ≠ g15_4 := by omega
            have y0 := hz14_3.z0
            have y1 := hz14_3.z1
            have y2 := hz14_3.f0
            have y3 := hz14_3.f1
            have hg1 : g14_3 ≠ W := by have := hz14_3.ge; omega
            have hg2 : g14_3 ≠ b := by have := hz14_3.ge; omega
            have hg3 : g15_4 ≠ W := by have := hz15_4.ge; omega
            have hg4 : g15_4 ≠ b := by have := hz15_4.ge; omega
            refine wpAnyH_ready (rs := [16]) (by kernel_rfl) (by simp) ?_
            refine AllReadyH.cons rfl (fun K hK => ?_) AllReadyH.nil
            go_simp
            refine hK.out _ _ ((hH.set hg1 hg2).set hg1 hg2) (fun hH => ?_)
            clear hK K y0 y1 y2 y3
            try simp only [Act.put, List.setIfInBounds_toArray, List.set_cons_zero, List.set_cons_succ]
            have y0 : ((v4.setCell ⟨g14_3, 0, none⟩ (.int .i64 k.x)).setCell ⟨g14_3, 1, none⟩ (.int .i64 k.y)).cell? ⟨g15_4, 0, none⟩ = some (.int .i64 0) := ((keepS hne).trans (keepS hne)).trans hz15_4.z0
            have y1 : ((v4.setCell ⟨g14_3, 0, none⟩ (.int .i64 k.x)).setCell ⟨g14_3, 1, none⟩ (.int .i64 k.y)).cell? ⟨g15_4, 1, none⟩ = some (.int .i64 0) := ((keepS hne).trans (keepS hne)).trans hz15_4.z1
            have y2 : ((v4.setCell ⟨g14_3, 0, none⟩ (.int .i64 k.x)).setCell ⟨g14_3, 1, none⟩ (.int .i64 k.y)).frozen? ⟨g15_4, 0, none⟩ = false := by simpa using hz15_4.f0
            have y3 : ((v4.setCell ⟨g14_3, 0, none⟩ (.int .i64 k.x)).setCell ⟨g14_3, 1, none⟩ (.int .i64 k.y)).frozen? ⟨g15_4, 1, none⟩ = false := by simpa using hz15_4.f1
            refine wpAnyH_ready (rs := [17]) (by kernel_rfl) (by simp) ?_
            refine AllReadyH.cons rfl (fun K hK => ?_) AllReadyH.nil
            go_simp
            refine hK.out _ _ ((hH.set hg3 hg4).set hg3 hg4) (fun hH => ?_)
            clear hK K y0 y1 y2 y3
            try simp only [Act.put, List.setIfInBounds_toArray, List.set_cons_zero, List.set_cons_succ]
            refine wpAnyH_done (by kernel_rfl) ?_ _
            go_wp2_with fail
            go_meet
            case rel => exact ⟨g14_3, g15_4, rfl, rfl, cub_leaf hB hz14_3 hz15_4 hne⟩
          · exact AllReadyH.nil
        · refine AllReadyH.cons rfl (fun K hK => ?_) ?_
          · go_simp
            have hz15_5 := (show Box0 w v2.heap.size (v2.alloc (.cells #[.int .i64 0, .int .i64 0] 47)) from box0_new hB.size)
            refine hK.out _ _ (hH.next ((Below.refl _ _).alloc (Nat.le_refl _) _)) (fun hH => ?_)
            clear hK K
            replace hB := (show Below w.heap.size w (v2.alloc (.cells #[.int .i64 0, .int .i64 0] 47)) from bel_alloc hB _)
            try simp only [Act.put, List.setIfInBounds_toArray, List.set_cons_zero, List.set_cons_succ]
            generalize (v2.alloc (.cells #[.int .i64 0, .int .i64 0] 47)) = v5 at *
            generalize v2.heap.size = g15_5 at *
            refine wpAnyH_ready (rs := [14]) (by kernel_rfl) (by simp) ?_
            refine AllReadyH.cons rfl (fun K hK => ?_) ?_
            · go_simp
              have hz14_6 := (show Box0 w v5.heap.size (v5.alloc (.cells #[.int .i64 0, .int .i64 0] 47)) from box0_new hB.size)
              refine hK.out _ _ (hH.next ((Below.refl _ _).alloc (Nat.le_refl _) _)) (fun hH => ?_)
              clear hK K
              replace hB := (show Below w.heap.size w (v5.alloc (.cells #[.int .i64 0, .int .i64 0] 47)) from bel_alloc hB _)
              have hlt6_15 : g15_5 < v5.heap.size := hz15_5.lt
              replace hz15_5 := hz15_5.next ((Below.refl _ _).alloc (Nat.le_refl _) (.cells #[.int .i64 0, .int .i64 0] 47))
              try simp only [Act.put, List.setIfInBounds_toArray, List.set_cons_zero, List.set_cons_succ]
              generalize (v5.alloc (.cells #[.int .i64 0, .int .i64 0] 47)) = v6 at *
              generalize v5.heap.size = g14_6 at *
              have hne : g14_6 ≠ g15_5 := by omega
              have y0 := hz14_6.z0
              have y1 := hz14_6.z1
              have y2 := hz14_6.f0
              have y3 := hz14_6.f1
              have hg1 : g14_6 ≠ W := by have := hz14_6.ge; omega
              have hg2 : g14_6 ≠ b := by have := hz14_6.ge; omega
              have hg3 : g15_5 ≠ W := by have := hz15_5.ge; omega
              have hg4 : g15_5 ≠ b := by have := hz15_5.ge; omega
              refine wpAnyH_ready (rs := [16]) (by kernel_rfl) (by simp) ?_
              refine AllReadyH.cons rfl (fun K hK => ?_) AllReadyH.nil
              go_simp
              refine hK.out _ _ ((hH.set hg1 hg2).set hg1 hg2) (fun hH => ?_)
              clear hK K y0 y1 y2 y3
              try simp only [Act.put, List.setIfInBounds_toArray, List.set_cons_zero, List.set_cons_succ]
              have y0 : ((v6.setCell ⟨g14_6, 0, none⟩ (.int .i64 k.x)).setCell ⟨g14_6, 1, none⟩ (.int .i64 k.y)).cell? ⟨g15_5, 0, none⟩ = some (.int .i64 0) := ((keepS hne).trans (keepS hne)).trans hz15_5.z0
              have y1 : ((v6.setCell ⟨g14_6, 0, none⟩ (.int .i64 k.x)).setCell ⟨g14_6, 1, none⟩ (.int .i64 k.y)).cell? ⟨g15_5, 1, none⟩ = some (.int .i64 0) := ((keepS hne).trans (keepS hne)).trans hz15_5.z1
              have y2 : ((v6.setCell ⟨g14_6, 0, none⟩ (.int .i64 k.x)).setCell ⟨g14_6, 1, none⟩ (.int .i64 k.y)).frozen? ⟨g15_5, 0, none⟩ = false := by simpa using hz15_5.f0
              have y3 : ((v6.setCell ⟨g14_6, 0, none⟩ (.int .i64 k.x)).setCell ⟨g14_6, 1, none⟩ (.int .i64 k.y)).frozen? ⟨g15_5, 1, none⟩ = false := by simpa using hz15_5.f1
              refine wpAnyH_ready (rs := [17]) (by kernel_rfl) (by simp) ?_
              refine AllReadyH.cons rfl (fun K hK => ?_) AllReadyH.nil
              go_simp
              refine hK.out _ _ ((hH.set hg3 hg4).set hg3 hg4) (fun hH => ?_)
              clear hK K y0 y1 y2 y3
              try simp only [Act.put, List.setIfInBounds_toArray, List.set_cons_zero, List.set_cons_succ]
              refine wpAnyH_done (by kernel_rfl) ?_ _
              go_wp2_with fail
              go_meet
              case rel => exact ⟨g14_6, g15_5, rfl, rfl, cub_leaf hB hz14_6 hz15_5 hne⟩
            · exact AllReadyH.nil
          · exact AllReadyH.nil
      · refine AllReadyH.cons rfl (fun K hK => ?_) ?_
        · go_simp
          have hz14_7 := (show Box0 w v1.heap.size (v1.alloc (.cells #[.int .i64 0, .int .i64 0] 47)) from box0_new hB.size)
          refine hK.out _ _ (hH.next ((Below.refl _ _).alloc (Nat.le_refl _) _)) (fun hH => ?_)
          clear hK K
          replace hB := (show Below w.heap.size w (v1.alloc (.cells #[.int .i64 0, .int .i64 0] 47)) from bel_alloc hB _)
          try simp only [Act.put, List.setIfInBounds_toArray, List.set_cons_zero, List.set_cons_succ]
          generalize (v1.alloc (.cells #[.int .i64 0, .int .i64 0] 47)) = v7 at *
          generalize v1.heap.size = g14_7 at *
          refine wpAnyH_ready (rs := [13, 15]) (by kernel_rfl) (by simp) ?_
          refine AllReadyH.cons rfl (fun K hK => ?_) ?_
          · go_simp
            refine (placeOf_xyz d.x d.y _ _).mono ?_
            rintro e v8 ⟨rfl, hb8⟩
            refine hK.out _ _ (hH.next hb8) (fun hH => ?_)
            clear hK K
            replace hB := bel_next hB hb8
            replace hz14_7 := hz14_7.next hb8
            clear hb8
            try simp only [Act.put, List.setIfInBounds_toArray, List.set_cons_zero, List.set_cons_succ]
            refine wpAnyH_ready (rs := [15]) (by kernel_rfl) (by simp) ?_
            refine AllReadyH.cons rfl (fun K hK => ?_) ?_
            · go_simp
              have hz15_9 := (show Box0 w v8.heap.size (v8.alloc (.cells #[.int .i64 0, .int .i64 0] 47)) from box0_new hB.size)
              refine hK.out _ _ (hH.next ((Below.refl _ _).alloc (Nat.le_refl _) _)) (fun hH => ?_)
              clear hK K
              replace hB := (show Below w.heap.size w (v8.alloc (.cells #[.int .i64 0, .int .i64 0] 47)) from bel_alloc hB _)
              have hlt9_14 : g14_7 < v8.heap.size := hz14_7.lt
              replace hz14_7 := hz14_7.next ((Below.refl _ _).alloc (Nat.le_refl _) (.cells #[.int .i64 0, .int .i64 0] 47))
              try simp only [Act.put, List.setIfInBounds_toArray, List.set_cons_zero, List.set_cons_succ]
              generalize (v8.alloc (.cells #[.int .i64 0, .int .i64 0] 47)) = v9 at *
              generalize v8.heap.size = g15_9 at *
              have hne : g14_7 ≠ g15_9 := by omega
              have y0 := hz14_7.z0
              have y1 := hz14_7.z1
              have y2 := hz14_7.f0
              have y3 := hz14_7.f1
              have hg1 : g14_7 ≠ W := by have := hz14_7.ge; omega
              have hg2 : g14_7 ≠ b := by have := hz14_7.ge; omega
              have hg3 : g15_9 ≠ W := by have := hz15_9.ge; omega
              have hg4 : g15_9 ≠ b := by have := hz15_9.ge; omega
              refine wpAnyH_ready (rs := [16]) (by kernel_rfl) (by simp) ?_
              refine AllReadyH.cons rfl (fun K hK => ?_) AllReadyH.nil
              go_simp
              refine hK.out _ _ ((hH.set hg1 hg2).set hg1 hg2) (fun hH => ?_)
              clear hK K y0 y1 y2 y3
              try simp only [Act.put, List.setIfInBounds_toArray, List.set_cons_zero, List.set_cons_succ]
              have y0 : ((v9.setCell ⟨g14_7, 0, none⟩ (.int .i64 k.x)).setCell ⟨g14_7, 1, none⟩ (.int .i64 k.y)).cell? ⟨g15_9, 0, none⟩ = some (.int .i64 0) := ((keepS hne).trans (keepS hne)).trans hz15_9.z0
              have y1 : ((v9.setCell ⟨g14_7, 0, none⟩ (.int .i64 k.x)).setCell ⟨g14_7, 1, none⟩ (.int .i64 k.y)).cell? ⟨g15_9, 1, none⟩ = some (.int .i64 0) := ((keepS hne).trans (keepS hne)).trans hz15_9.z1
              have y2 : ((v9.setCell ⟨g14_7, 0, none⟩ (.int .i64 k.x)).setCell ⟨g14_7, 1, none⟩ (.int .i64 k.y)).frozen? ⟨g15_9, 0, none⟩ = false := by simpa using hz15_9.f0
              have y3 : ((v9.setCell ⟨g14_7, 0, none⟩ (.int .i64 k.x)).setCell ⟨g14_7, 1, none⟩ (.int .i64 k.y)).frozen? ⟨g15_9, 1, none⟩ = false := by simpa using hz15_9.f1
              refine wpAnyH_ready (rs := [17]) (by kernel_rfl) (by simp) ?_
              refine AllReadyH.cons rfl (fun K hK => ?_) AllReadyH.nil
              go_simp
              refine hK.out _ _ ((hH.set hg3 hg4).set hg3 hg4) (fun hH => ?_)
              clear hK K y0 y1 y2 y3
              try simp only [Act.put, List.setIfInBounds_toArray, List.set_cons_zero, List.set_cons_succ]
              refine wpAnyH_done (by kernel_rfl) ?_ _
              go_wp2_with fail
              go_meet
              case rel => exact ⟨g14_7, g15_9, rfl, rfl, cub_leaf hB hz14_7 hz15_9 hne⟩
            · exact AllReadyH.nil
          · refine AllReadyH.cons rfl (fun K hK => ?_) ?_
            · go_simp
              have hz15_10 := (show Box0 w v7.heap.size (v7.alloc (.cells #[.int .i64 0, .int .i64 0] 47)) from box0_new hB.size)
              refine hK.out _ _ (hH.next ((Below.refl _ _).alloc (Nat.le_refl _) _)) (fun hH => ?_)
              clear hK K
              replace hB := (show Below w.heap.size w (v7.alloc (.cells #[.int .i64 0, .int .i64 0] 47)) from bel_alloc hB _)
              have hlt10_14 : g14_7 < v7.heap.size := hz14_7.lt
              replace hz14_7 := hz14_7.next ((Below.refl _ _).alloc (Nat.le_refl _) (.cells #[.int .i64 0, .int .i64 0] 47))
              try simp only [Act.put, List.setIfInBounds_toArray, List.set_cons_zero, List.set_cons_succ]
              generalize (v7.alloc (.cells #[.int .i64 0, .int .i64 0] 47)) = v10 at *
              generalize v7.heap.size = g15_10 at *
              refine wpAnyH_ready (rs := [13]) (by kernel_rfl) (by simp) ?_
              refine AllReadyH.cons rfl (fun K hK => ?_) ?_
              · go_simp
                refine (placeOf_xyz d.x d.y _ _).mono ?_
                rintro e v11 ⟨rfl, hb11⟩
                refine hK.out _ _ (hH.next hb11) (fun hH => ?_)
                clear hK K
                replace hB := bel_next hB hb11
                replace hz14_7 := hz14_7.next hb11
                replace hz15_10 := hz15_10.next hb11
                clear hb11
                try simp only [Act.put, List.setIfInBounds_toArray, List.set_cons_zero, List.set_cons_succ]
                have hne : g14_7 ≠ g15_10 := by omega
                have y0 := hz14_7.z0
                have y1 := hz14_7.z1
                have y2 := hz14_7.f0
                have y3 := hz14_7.f1
                have hg1 : g14_7 ≠ W := by have := hz14_7.ge; omega
                have hg2 : g14_7 ≠ b := by have := hz14_7.ge; omega
                have hg3 : g15_10 ≠ W := by have := hz15_10.ge; omega
                have hg4 : g15_10 ≠ b := by have := hz15_10.ge; omega
                refine wpAnyH_ready (rs := [16]) (by kernel_rfl) (by simp) ?_
                refine AllReadyH.cons rfl (fun K hK => ?_) AllReadyH.nil
                go_simp
                refine hK.out _ _ ((hH.set hg1 hg2).set hg1 hg2) (fun hH => ?_)
                clear hK K y0 y1 y2 y3
                try simp only [Act.put, List.setIfInBounds_toArray, List.set_cons_zero, List.set_cons_succ]
                have y0 : ((v11.setCell ⟨g14_7, 0, none⟩ (.int .i64 k.x)).setCell ⟨g14_7, 1, none⟩ (.int .i64 k.y)).cell? ⟨g15_10, 0, none⟩ = some (.int .i64 0) := ((keepS hne).trans (keepS hne)).trans hz15_10.z0
                have y1 : ((v11.setCell ⟨g14_7, 0, none⟩ (.int .i64 k.x)).setCell ⟨g14_7, 1, none⟩ (.int .i64 k.y)).cell? ⟨g15_10, 1, none⟩ = some (.int .i64 0) := ((keepS hne).trans (keepS hne)).trans hz15_10.z1
                have y2 : ((v11.setCell ⟨g14_7, 0, none⟩ (.int .i64 k.x)).setCell ⟨g14_7, 1, none⟩ (.int .i64 k.y)).frozen? ⟨g15_10, 0, none⟩ = false := by simpa using hz15_10.f0
                have y3 : ((v11.setCell ⟨g14_7, 0, none⟩ (.int .i64 k.x)).setCell ⟨g14_7, 1, none⟩ (.int .i64 k.y)).frozen? ⟨g15_10, 1, none⟩ = false := by simpa using hz15_10.f1
                refine wpAnyH_ready (rs := [17]) (by kernel_rfl) (by simp) ?_
                refine AllReadyH.cons rfl (fun K hK => ?_) AllReadyH.nil
                go_simp
                refine hK.out _ _ ((hH.set hg3 hg4).set hg3 hg4) (fun hH => ?_)
                clear hK K y0 y1 y2 y3
                try simp only [Act.put, List.setIfInBounds_toArray, List.set_cons_zero, List.set_cons_succ]
                refine wpAnyH_done (by kernel_rfl) ?_ _
                go_wp2_with fail
                go_meet
                case rel => exact ⟨g14_7, g15_10, rfl, rfl, cub_leaf hB hz14_7 hz15_10 hne⟩
              · exact AllReadyH.nil
            · exact AllReadyH.nil
        · refine AllReadyH.cons rfl (fun K hK => ?_) ?_
          · go_simp
            have hz15_12 := (show Box0 w v1.heap.size (v1.alloc (.cells #[.int .i64 0, .int .i64 0] 47)) from box0_new hB.size)
            refine hK.out _ _ (hH.next ((Below.refl _ _).alloc (Nat.le_refl _) _)) (fun hH => ?_)
            clear hK K
            replace hB := (show Below w.heap.size w (v1.alloc (.cells #[.int .i64 0, .int .i64 0] 47)) from bel_alloc hB _)
            try simp only [Act.put, List.setIfInBounds_toArray, List.set_cons_zero, List.set_cons_succ]
            generalize (v1.alloc (.cells #[.int .i64 0, .int .i64 0] 47)) = v12 at *
            generalize v1.heap.size = g15_12 at *
            refine wpAnyH_ready (rs := [13, 14]) (by kernel_rfl) (by simp) ?_
            refine AllReadyH.cons rfl (fun K hK => ?_) ?_
            · go_simp
              refine (placeOf_xyz d.x d.y _ _).mono ?_
              rintro e v13 ⟨rfl, hb13⟩
              refine hK.out _ _ (hH.next hb13) (fun hH => ?_)
              clear hK K
              replace hB := bel_next hB hb13
              replace hz15_12 := hz15_12.next hb13
              clear hb13
              try simp only [Act.put, List.setIfInBounds_toArray, List.set_cons_zero, List.set_cons_succ]
              refine wpAnyH_ready (rs := [14]) (by kernel_rfl) (by simp) ?_
              refine AllReadyH.cons rfl (fun K hK => ?_) ?_
              · go_simp
                have hz14_14 := (show Box0 w v13.heap.size (v13.alloc (.cells #[.int .i64 0, .int .i64 0] 47)) from box0_new hB.size)
                refine hK.out _ _ (hH.next ((Below.refl _ _).alloc (Nat.le_refl _) _)) (fun hH => ?_)
                clear hK K
                replace hB := (show Below w.heap.size w (v13.alloc (.cells #[.int .i64 0, .int .i64 0] 47)) from bel_alloc hB _)
                have hlt14_15 : g15_12 < v13.heap.size := hz15_12.lt
                replace hz15_12 := hz15_12.next ((Below.refl _ _).alloc (Nat.le_refl _) (.cells #[.int .i64 0, .int .i64 0] 47))
                try simp only [Act.put, List.setIfInBounds_toArray, List.set_cons_zero, List.set_cons_succ]
                generalize (v13.alloc (.cells #[.int .i64 0, .int .i64 0] 47)) = v14 at *
                generalize v13.heap.size = g14_14 at *
                have hne : g14_14 ≠ g15_12 := by omega
                have y0 := hz14_14.z0
                have y1 := hz14_14.z1
                have y2 := hz14_14.f0
                have y3 := hz14_14.f1
                have hg1 : g14_14 ≠ W := by have := hz14_14.ge; omega
                have hg2 : g14_14 ≠ b := by have := hz14_14.ge; omega
                have hg3 : g15_12 ≠ W := by have := hz15_12.ge; omega
                have hg4 : g15_12 ≠ b := by have := hz15_12.ge; omega
                refine wpAnyH_ready (rs := [16]) (by kernel_rfl) (by simp) ?_
                refine AllReadyH.cons rfl (fun K hK => ?_) AllReadyH.nil
                go_simp
                refine hK.out _ _ ((hH.set hg1 hg2).set hg1 hg2) (fun hH => ?_)
                clear hK K y0 y1 y2 y3
                try simp only [Act.put, List.setIfInBounds_toArray, List.set_cons_zero, List.set_cons_succ]
                have y0 : ((v14.setCell ⟨g14_14, 0, none⟩ (.int .i64 k.x)).setCell ⟨g14_14, 1, none⟩ (.int .i64 k.y)).cell? ⟨g15_12, 0, none⟩ = some (.int .i64 0) := ((keepS hne).trans (keepS hne)).trans hz15_12.z0
                have y1 : ((v14.setCell ⟨g14_14, 0, none⟩ (.int .i64 k.x)).setCell ⟨g14_14, 1, none⟩ (.int .i64 k.y)).cell? ⟨g15_12, 1, none⟩ = some (.int .i64 0) := ((keepS hne).trans (keepS hne)).trans hz15_12.z1
                have y2 : ((v14.setCell ⟨g14_14, 0, none⟩ (.int .i64 k.x)).setCell ⟨g14_14, 1, none⟩ (.int .i64 k.y)).frozen? ⟨g15_12, 0, none⟩ = false := by simpa using hz15_12.f0
                have y3 : ((v14.setCell ⟨g14_14, 0, none⟩ (.int .i64 k.x)).setCell ⟨g14_14, 1, none⟩ (.int .i64 k.y)).frozen? ⟨g15_12, 1, none⟩ = false := by simpa using hz15_12.f1
                refine wpAnyH_ready (rs := [17]) (by kernel_rfl) (by simp) ?_
                refine AllReadyH.cons rfl (fun K hK => ?_) AllReadyH.nil
                go_simp
                refine hK.out _ _ ((hH.set hg3 hg4).set hg3 hg4) (fun hH => ?_)
                clear hK K y0 y1 y2 y3
                try simp only [Act.put, List.setIfInBounds_toArray, List.set_cons_zero, List.set_cons_succ]
                refine wpAnyH_done (by kernel_rfl) ?_ _
                go_wp2_with fail
                go_meet
                case rel => exact ⟨g14_14, g15_12, rfl, rfl, cub_leaf hB hz14_14 hz15_12 hne⟩
              · exact AllReadyH.nil
            · refine AllReadyH.cons rfl (fun K hK => ?_) ?_
              · go_simp
                have hz14_15 := (show Box0 w v12.heap.size (v12.alloc (.cells #[.int .i64 0, .int .i64 0] 47)) from box0_new hB.size)
                refine hK.out _ _ (hH.next ((Below.refl _ _).alloc (Nat.le_refl _) _)) (fun hH => ?_)
                clear hK K
                replace hB := (show Below w.heap.size w (v12.alloc (.cells #[.int .i64 0, .int .i64 0] 47)) from bel_alloc hB _)
                have hlt15_15 : g15_12 < v12.heap.size := hz15_12.lt
                replace hz15_12 := hz15_12.next ((Below.refl _ _).alloc (Nat.le_refl _) (.cells #[.int .i64 0, .int .i64 0] 47))
                try simp only [Act.put, List.setIfInBounds_toArray, List.set_cons_zero, List.set_cons_succ]
                generalize (v12.alloc (.cells #[.int .i64 0, .int .i64 0] 47)) = v15 at *
                generalize v12.heap.size = g14_15 at *
                refine wpAnyH_ready (rs := [13]) (by kernel_rfl) (by simp) ?_
                refine AllReadyH.cons rfl (fun K hK => ?_) ?_
                · go_simp
                  refine (placeOf_xyz d.x d.y _ _).mono ?_
                  rintro e v16 ⟨rfl, hb16⟩
                  refine hK.out _ _ (hH.next hb16) (fun hH => ?_)
                  clear hK K
                  replace hB := bel_next hB hb16
                  replace hz15_12 := hz15_12.next hb16
                  replace hz14_15 := hz14_15.next hb16
                  clear hb16
                  try simp only [Act.put, List.setIfInBounds_toArray, List.set_cons_zero, List.set_cons_succ]
                  have hne : g14_15 ≠ g15_12 := by omega
                  have y0 := hz14_15.z0
                  have y1 := hz14_15.z1
                  have y2 := hz14_15.f0
                  have y3 := hz14_15.f1
                  have hg1 : g14_15 ≠ W := by have := hz14_15.ge; omega
                  have hg2 : g14_15 ≠ b := by have := hz14_15.ge; omega
                  have hg3 : g15_12 ≠ W := by have := hz15_12.ge; omega
                  have hg4 : g15_12 ≠ b := by have := hz15_12.ge; omega
                  refine wpAnyH_ready (rs := [16]) (by kernel_rfl) (by simp) ?_
                  refine AllReadyH.cons rfl (fun K hK => ?_) AllReadyH.nil
                  go_simp
                  refine hK.out _ _ ((hH.set hg1 hg2).set hg1 hg2) (fun hH => ?_)
                  clear hK K y0 y1 y2 y3
                  try simp only [Act.put, List.setIfInBounds_toArray, List.set_cons_zero, List.set_cons_succ]
                  have y0 : ((v16.setCell ⟨g14_15, 0, none⟩ (.int .i64 k.x)).setCell ⟨g14_15, 1, none⟩ (.int .i64 k.y)).cell? ⟨g15_12, 0, none⟩ = some (.int .i64 0) := ((keepS hne).trans (keepS hne)).trans hz15_12.z0
                  have y1 : ((v16.setCell ⟨g14_15, 0, none⟩ (.int .i64 k.x)).setCell ⟨g14_15, 1, none⟩ (.int .i64 k.y)).cell? ⟨g15_12, 1, none⟩ = some (.int .i64 0) := ((keepS hne).trans (keepS hne)).trans hz15_12.z1
                  have y2 : ((v16.setCell ⟨g14_15, 0, none⟩ (.int .i64 k.x)).setCell ⟨g14_15, 1, none⟩ (.int .i64 k.y)).frozen? ⟨g15_12, 0, none⟩ = false := by simpa using hz15_12.f0
                  have y3 : ((v16.setCell ⟨g14_15, 0, none⟩ (.int .i64 k.x)).setCell ⟨g14_15, 1, none⟩ (.int .i64 k.y)).frozen? ⟨g15_12, 1, none⟩ = false := by simpa using hz15_12.f1
                  refine wpAnyH_ready (rs := [17]) (by kernel_rfl) (by simp) ?_
                  refine AllReadyH.cons rfl (fun K hK => ?_) AllReadyH.nil
                  go_simp
                  refine hK.out _ _ ((hH.set hg3 hg4).set hg3 hg4) (fun hH => ?_)
                  clear hK K y0 y1 y2 y3
                  try simp only [Act.put, List.setIfInBounds_toArray, List.set_cons_zero, List.set_cons_succ]
                  refine wpAnyH_done (by kernel_rfl) ?_ _
                  go_wp2_with fail
                  go_meet
                  case rel => exact ⟨g14_15, g15_12, rfl, rfl, cub_leaf hB hz14_15 hz15_12 hne⟩
                · exact AllReadyH.nil
              · exact AllReadyH.nil
          · exact AllReadyH.nil
    · refine AllReadyH.cons rfl (fun K hK => ?_) ?_
      · go_simp
        have hz14_17 := (show Box0 w w.heap.size (w.alloc (.cells #[.int .i64 0, .int .i64 0] 47)).drew from box0_drew (Nat.le_refl _))
        refine hK.out _ _ (hHs.next ((Below.refl _ _).alloc (Nat.le_refl _) _)).drew (fun hH => ?_)
        clear hK K
        replace hB := (show Below w.heap.size w (w.alloc (.cells #[.int .i64 0, .int .i64 0] 47)).drew from ((Below.refl _ _).alloc (Nat.le_refl _) _).drew)
        try simp only [Act.put, List.setIfInBounds_toArray, List.set_cons_zero, List.set_cons_succ]
        generalize (w.alloc (.cells #[.int .i64 0, .int .i64 0] 47)).drew = v17 at *
        refine wpAnyH_ready (rs := [6, 15]) (by kernel_rfl) (by simp) ?_
        refine AllReadyH.cons rfl (fun K hK => ?_) ?_
        · go_simp
          refine (placeOf_xyz k.x k.y _ _).mono ?_
          rintro e v18 ⟨rfl, hb18⟩
          refine hK.out _ _ (hH.next hb18) (fun hH => ?_)
          clear hK K
          replace hB := bel_next hB hb18
          replace hz14_17 := hz14_17.next hb18
          clear hb18
          try simp only [Act.put, List.setIfInBounds_toArray, List.set_cons_zero, List.set_cons_succ]
          refine wpAnyH_ready (rs := [13, 15]) (by kernel_rfl) (by simp) ?_
          refine AllReadyH.cons rfl (fun K hK => ?_) ?_
          · go_simp
            refine (placeOf_xyz d.x d.y _ _).mono ?_
            rintro e v19 ⟨rfl, hb19⟩
            refine hK.out _ _ (hH.next hb19) (fun hH => ?_)
            clear hK K
            replace hB := bel_next hB hb19
            replace hz14_17 := hz14_17.next hb19
            clear hb19
            try simp only [Act.put, List.setIfInBounds_toArray, List.set_cons_zero, List.set_cons_succ]
            refine wpAnyH_ready (rs := [15]) (by kernel_rfl) (by simp) ?_
            refine AllReadyH.cons rfl (fun K hK => ?_) ?_
            · go_simp
              have hz15_20 := (show Box0 w v19.heap.size (v19.alloc (.cells #[.int .i64 0, .int .i64 0] 47)) from box0_new hB.size)
              refine hK.out _ _ (hH.next ((Below.refl _ _).alloc (Nat.le_refl _) _)) (fun hH => ?_)
              clear hK K
              replace hB := (show Below w.heap.size w (v19.alloc (.cells #[.int .i64 0, .int .i64 0] 47)) from bel_alloc hB _)
              have hlt20_14 : w.heap.size < v19.heap.size := hz14_17.lt
              replace hz14_17 := hz14_17.next ((Below.refl _ _).alloc (Nat.le_refl _) (.cells #[.int .i64 0, .int .i64 0] 47))
              try simp only [Act.put, List.setIfInBounds_toArray, List.set_cons_zero, List.set_cons_succ]
              generalize (v19.alloc (.cells #[.int .i64 0, .int .i64 0] 47)) = v20 at *
              generalize v19.heap.size = g15_20 at *
              have hne : w.heap.size ≠ g15_20 := by omega
              have y0 := hz14_17.z0
              have y1 := hz14_17.z1
              have y2 := hz14_17.f0
              have y3 := hz14_17.f1
              have hg1 : w.heap.size ≠ W := by have := hz14_17.ge; omega
              have hg2 : w.heap.size ≠ b := by have := hz14_17.ge; omega
              have hg3 : g15_20 ≠ W := by have := hz15_20.ge; omega
              have hg4 : g15_20 ≠ b := by have := hz15_20.ge; omega
              refine wpAnyH_ready (rs := [16]) (by kernel_rfl) (by simp) ?_
              refine AllReadyH.cons rfl (fun K hK => ?_) AllReadyH.nil
              go_simp
              refine hK.out _ _ ((hH.set hg1 hg2).set hg1 hg2) (fun hH => ?_)
              clear hK K y0 y1 y2 y3
              try simp only [Act.put, List.setIfInBounds_toArray, List.set_cons_zero, List.set_cons_succ]
              have y0 : ((v20.setCell ⟨w.heap.size, 0, none⟩ (.int .i64 k.x)).setCell ⟨w.heap.size, 1, none⟩ (.int .i64 k.y)).cell? ⟨g15_20, 0, none⟩ = some (.int .i64 0) := ((keepS hne).trans (keepS hne)).trans hz15_20.z0
              have y1 : ((v20.setCell ⟨w.heap.size, 0, none⟩ (.int .i64 k.x)).setCell ⟨w.heap.size, 1, none⟩ (.int .i64 k.y)).cell? ⟨g15_20, 1, none⟩ = some (.int .i64 0) := ((keepS hne).trans (keepS hne)).trans hz15_20.z1
              have y2 : ((v20.setCell ⟨w.heap.size, 0, none⟩ (.int .i64 k.x)).setCell ⟨w.heap.size, 1, none⟩ (.int .i64 k.y)).frozen? ⟨g15_20, 0, none⟩ = false := by simpa using hz15_20.f0
              have y3 : ((v20.setCell ⟨w.heap.size, 0, none⟩ (.int .i64 k.x)).setCell ⟨w.heap.size, 1, none⟩ (.int .i64 k.y)).frozen? ⟨g15_20, 1, none⟩ = false := by simpa using hz15_20.f1
              refine wpAnyH_ready (rs := [17]) (by kernel_rfl) (by simp) ?_
              refine AllReadyH.cons rfl (fun K hK => ?_) AllReadyH.nil
              go_simp
              refine hK.out _ _ ((hH.set hg3 hg4).set hg3 hg4) (fun hH => ?_)
              clear hK K y0 y1 y2 y3
              try simp only [Act.put, List.setIfInBounds_toArray, List.set_cons_zero, List.set_cons_succ]
              refine wpAnyH_done (by kernel_rfl) ?_ _
              go_wp2_with fail
              go_meet
              case rel => exact ⟨w.heap.size, g15_20, rfl, rfl, cub_leaf hB hz14_17 hz15_20 hne⟩
            · exact AllReadyH.nil
          · refine AllReadyH.cons rfl (fun K hK => ?_) ?_
            · go_simp
              have hz15_21 := (show Box0 w v18.heap.size (v18.alloc (.cells #[.int .i64 0, .int .i64 0] 47)) from box0_new hB.size)
              refine hK.out _ _ (hH.next ((Below.refl _ _).alloc (Nat.le_refl _) _)) (fun hH => ?_)
              clear hK K
              replace hB := (show Below w.heap.size w (v18.alloc (.cells #[.int .i64 0, .int .i64 0] 47)) from bel_alloc hB _)
              have hlt21_14 : w.heap.size < v18.heap.size := hz14_17.lt
              replace hz14_17 := hz14_17.next ((Below.refl _ _).alloc (Nat.le_refl _) (.cells #[.int .i64 0, .int .i64 0] 47))
              try simp only [Act.put, List.setIfInBounds_toArray, List.set_cons_zero, List.set_cons_succ]
              generalize (v18.alloc (.cells #[.int .i64 0, .int .i64 0] 47)) = v21 at *
              generalize v18.heap.size = g15_21 at *
              refine wpAnyH_ready (rs := [13]) (by kernel_rfl) (by simp) ?_
              refine AllReadyH.cons rfl (fun K hK => ?_) ?_
              · go_simp
                refine (placeOf_xyz d.x d.y _ _).mono ?_
                rintro e v22 ⟨rfl, hb22⟩
                refine hK.out _ _ (hH.next hb22) (fun hH => ?_)
                clear hK K
                replace hB := bel_next hB hb22
                replace hz14_17 := hz14_17.next hb22
                replace hz15_21 := hz15_21.next hb22
                clear hb22
                try simp only [Act.put, List.setIfInBounds_toArray, List.set_cons_zero, List.set_cons_succ]
                have hne : w.heap.size ≠ g15_21 := by omega
                have y0 := hz14_17.z0
                have y1 := hz14_17.z1
                have y2 := hz14_17.f0
                have y3 := hz14_17.f1
                have hg1 : w.heap.size ≠ W := by have := hz14_17.ge; omega
                have hg2 : w.heap.size ≠ b := by have := hz14_17.ge; omega
                have hg3 : g15_21 ≠ W := by have := hz15_21.ge; omega
                have hg4 : g15_21 ≠ b := by have := hz15_21.ge; omega
                refine wpAnyH_ready (rs := [16]) (by kernel_rfl) (by simp) ?_
                refine AllReadyH.cons rfl (fun K hK => ?_) AllReadyH.nil
                go_simp
                refine hK.out _ _ ((hH.set hg1 hg2).set hg1 hg2) (fun hH => ?_)
                clear hK K y0 y1 y2 y3
                try simp only [Act.put, List.setIfInBounds_toArray, List.set_cons_zero, List.set_cons_succ]
                have y0 : ((v22.setCell ⟨w.heap.size, 0, none⟩ (.int .i64 k.x)).setCell ⟨w.heap.size, 1, none⟩ (.int .i64 k.y)).cell? ⟨g15_21, 0, none⟩ = some (.int .i64 0) := ((keepS hne).trans (keepS hne)).trans hz15_21.z0
                have y1 : ((v22.setCell ⟨w.heap.size, 0, none⟩ (.int .i64 k.x)).setCell ⟨w.heap.size, 1, none⟩ (.int .i64 k.y)).cell? ⟨g15_21, 1, none⟩ = some (.int .i64 0) := ((keepS hne).trans (keepS hne)).trans hz15_21.z1
                have y2 : ((v22.setCell ⟨w.heap.size, 0, none⟩ (.int .i64 k.x)).setCell ⟨w.heap.size, 1, none⟩ (.int .i64 k.y)).frozen? ⟨g15_21, 0, none⟩ = false := by simpa using hz15_21.f0
                have y3 : ((v22.setCell ⟨w.heap.size, 0, none⟩ (.int .i64 k.x)).setCell ⟨w.heap.size, 1, none⟩ (.int .i64 k.y)).frozen? ⟨g15_21, 1, none⟩ = false := by simpa using hz15_21.f1
                refine wpAnyH_ready (rs := [17]) (by kernel_rfl) (by simp) ?_
                refine AllReadyH.cons rfl (fun K hK => ?_) AllReadyH.nil
                go_simp
                refine hK.out _ _ ((hH.set hg3 hg4).set hg3 hg4) (fun hH => ?_)
                clear hK K y0 y1 y2 y3
                try simp only [Act.put, List.setIfInBounds_toArray, List.set_cons_zero, List.set_cons_succ]
                refine wpAnyH_done (by kernel_rfl) ?_ _
                go_wp2_with fail
                go_meet
                case rel => exact ⟨w.heap.size, g15_21, rfl, rfl, cub_leaf hB hz14_17 hz15_21 hne⟩
              · exact AllReadyH.nil
            · exact AllReadyH.nil
        · refine AllReadyH.cons rfl (fun K hK => ?_) ?_
          · go_simp
            have hz15_23 := (show Box0 w v17.heap.size (v17.alloc (.cells #[.int .i64 0, .int .i64 0] 47)) from box0_new hB.size)
            refine hK.out _ _ (hH.next ((Below.refl _ _).alloc (Nat.le_refl _) _)) (fun hH => ?_)
            clear hK K
            replace hB := (show Below w.heap.size w (v17.alloc (.cells #[.int .i64 0, .int .i64 0] 47)) from bel_alloc hB _)
            have hlt23_14 : w.heap.size < v17.heap.size := hz14_17.lt
            replace hz14_17 := hz14_17.next ((Below.refl _ _).alloc (Nat.le_refl _) (.cells #[.int .i64 0, .int .i64 0] 47))
            try simp only [Act.put, List.setIfInBounds_toArray, List.set_cons_zero, List.set_cons_succ]
            generalize (v17.alloc (.cells #[.int .i64 0, .int .i64 0] 47)) = v23 at *
            generalize v17.heap.size = g15_23 at *
            refine wpAnyH_ready (rs := [6]) (by kernel_rfl) (by simp) ?_
            refine AllReadyH.cons rfl (fun K hK => ?_) ?_
            · go_simp
              refine (placeOf_xyz k.x k.y _ _).mono ?_
              rintro e v24 ⟨rfl, hb24⟩
              refine hK.out _ _ (hH.next hb24) (fun hH => ?_)
              clear hK K
              replace hB := bel_next hB hb24
              replace hz14_17 := hz14_17.next hb24
              replace hz15_23 := hz15_23.next hb24
              clear hb24
              try simp only [Act.put, List.setIfInBounds_toArray, List.set_cons_zero, List.set_cons_succ]
              refine wpAnyH_ready (rs := [13]) (by kernel_rfl) (by simp) ?_
              refine AllReadyH.cons rfl (fun K hK => ?_) ?_
              · go_simp
                refine (placeOf_xyz d.x d.y _ _).mono ?_
                rintro e v25 ⟨rfl, hb25⟩
                refine hK.out _ _ (hH.next hb25) (fun hH => ?_)
                clear hK K
                replace hB := bel_next hB hb25
                replace hz14_17 := hz14_17.next hb25
                replace hz15_23 := hz15_23.next hb25
                clear hb25
                try simp only [Act.put, List.setIfInBounds_toArray, List.set_cons_zero, List.set_cons_succ]
                have hne : w.heap.size ≠ g15_23 := by omega
                have y0 := hz14_17.z0
                have y1 := hz14_17.z1
                have y2 := hz14_17.f0
                have y3 := hz14_17.f1
                have hg1 : w.heap.size ≠ W := by have := hz14_17.ge; omega
                have hg2 : w.heap.size ≠ b := by have := hz14_17.ge; omega
                have hg3 : g15_23 ≠ W := by have := hz15_23.ge; omega
                have hg4 : g15_23 ≠ b := by have := hz15_23.ge; omega
                refine wpAnyH_ready (rs := [16]) (by kernel_rfl) (by simp) ?_
                refine AllReadyH.cons rfl (fun K hK => ?_) AllReadyH.nil
                go_simp
                refine hK.out _ _ ((hH.set hg1 hg2).set hg1 hg2) (fun hH => ?_)
                clear hK K y0 y1 y2 y3
                try simp only [Act.put, List.setIfInBounds_toArray, List.set_cons_zero, List.set_cons_succ]
                have y0 : ((v25.setCell ⟨w.heap.size, 0, none⟩ (.int .i64 k.x)).setCell ⟨w.heap.size, 1, none⟩ (.int .i64 k.y)).cell? ⟨g15_23, 0, none⟩ = some (.int .i64 0) := ((keepS hne).trans (keepS hne)).trans hz15_23.z0
                have y1 : ((v25.setCell ⟨w.heap.size, 0, none⟩ (.int .i64 k.x)).setCell ⟨w.heap.size, 1, none⟩ (.int .i64 k.y)).cell? ⟨g15_23, 1, none⟩ = some (.int .i64 0) := ((keepS hne).trans (keepS hne)).trans hz15_23.z1
                have y2 : ((v25.setCell ⟨w.heap.size, 0, none⟩ (.int .i64 k.x)).setCell ⟨w.heap.size, 1, none⟩ (.int .i64 k.y)).frozen? ⟨g15_23, 0, none⟩ = false := by simpa using hz15_23.f0
                have y3 : ((v25.setCell ⟨w.heap.size, 0, none⟩ (.int .i64 k.x)).setCell ⟨w.heap.size, 1, none⟩ (.int .i64 k.y)).frozen? ⟨g15_23, 1, none⟩ = false := by simpa using hz15_23.f1
                refine wpAnyH_ready (rs := [17]) (by kernel_rfl) (by simp) ?_
                refine AllReadyH.cons rfl (fun K hK => ?_) AllReadyH.nil
                go_simp
                refine hK.out _ _ ((hH.set hg3 hg4).set hg3 hg4) (fun hH => ?_)
                clear hK K y0 y1 y2 y3
                try simp only [Act.put, List.setIfInBounds_toArray, List.set_cons_zero, List.set_cons_succ]
                refine wpAnyH_done (by kernel_rfl) ?_ _
                go_wp2_with fail
                go_meet
                case rel => exact ⟨w.heap.size, g15_23, rfl, rfl, cub_leaf hB hz14_17 hz15_23 hne⟩
              · exact AllReadyH.nil
            · exact AllReadyH.nil
          · exact AllReadyH.nil
      · refine AllReadyH.cons rfl (fun K hK => ?_) ?_
        · go_simp
          have hz15_26 := (show Box0 w w.heap.size (w.alloc (.cells #[.int .i64 0, .int .i64 0] 47)).drew from box0_drew (Nat.le_refl _))
          refine hK.out _ _ (hHs.next ((Below.refl _ _).alloc (Nat.le_refl _) _)).drew (fun hH => ?_)
          clear hK K
          replace hB := (show Below w.heap.size w (w.alloc (.cells #[.int .i64 0, .int .i64 0] 47)).drew from ((Below.refl _ _).alloc (Nat.le_refl _) _).drew)
          try simp only [Act.put, List.setIfInBounds_toArray, List.set_cons_zero, List.set_cons_succ]
          generalize (w.alloc (.cells #[.int .i64 0, .int .i64 0] 47)).drew = v26 at *
          refine wpAnyH_ready (rs := [6, 14]) (by kernel_rfl) (by simp) ?_
          refine AllReadyH.cons rfl (fun K hK => ?_) ?_
          · go_simp
            refine (placeOf_xyz k.x k.y _ _).mono ?_
            rintro e v27 ⟨rfl, hb27⟩
            refine hK.out _ _ (hH.next hb27) (fun hH => ?_)
            clear hK K
            replace hB := bel_next hB hb27
            replace hz15_26 := hz15_26.next hb27
            clear hb27
            try simp only [Act.put, List.setIfInBounds_toArray, List.set_cons_zero, List.set_cons_succ]
            refine wpAnyH_ready (rs := [13, 14]) (by kernel_rfl) (by simp) ?_
            refine AllReadyH.cons rfl (fun K hK => ?_) ?_
            · go_simp
              refine (placeOf_xyz d.x d.y _ _).mono ?_
              rintro e v28 ⟨rfl, hb28⟩
              refine hK.out _ _ (hH.next hb28) (fun hH => ?_)
              clear hK K
              replace hB := bel_next hB hb28
              replace hz15_26 := hz15_26.next hb28
              clear hb28
              try simp only [Act.put, List.setIfInBounds_toArray, List.set_cons_zero, List.set_cons_succ]
              refine wpAnyH_ready (rs := [14]) (by kernel_rfl) (by simp) ?_
              refine AllReadyH.cons rfl (fun K hK => ?_) ?_
              · go_simp
                have hz14_29 := (show Box0 w v28.heap.size (v28.alloc (.cells #[.int .i64 0, .int .i64 0] 47)) from box0_new hB.size)
                refine hK.out _ _ (hH.next ((Below.refl _ _).alloc (Nat.le_refl _) _)) (fun hH => ?_)
                clear hK K
                replace hB := (show Below w.heap.size w (v28.alloc (.cells #[.int .i64 0, .int .i64 0] 47)) from bel_alloc hB _)
                have hlt29_15 : w.heap.size < v28.heap.size := hz15_26.lt
                replace hz15_26 := hz15_26.next ((Below.refl _ _).alloc (Nat.le_refl _) (.cells #[.int .i64 0, .int .i64 0] 47))
                try simp only [Act.put, List.setIfInBounds_toArray, List.set_cons_zero, List.set_cons_succ]
                generalize (v28.alloc (.cells #[.int .i64 0, .int .i64 0] 47)) = v29 at *
                generalize v28.heap.size = g14_29 at *
                have hne : g14_29 ≠ w.heap.size := by omega
                have y0 := hz14_29.z0
                have y1 := hz14_29.z1
                have y2 := hz14_29.f0
                have y3 := hz14_29.f1
                have hg1 : g14_29 ≠ W := by have := hz14_29.ge; omega
                have hg2 : g14_29 ≠ b := by have := hz14_29.ge; omega
                have hg3 : w.heap.size ≠ W := by have := hz15_26.ge; omega
                have hg4 : w.heap.size ≠ b := by have := hz15_26.ge; omega
                refine wpAnyH_ready (rs := [16]) (by kernel_rfl) (by simp) ?_
                refine AllReadyH.cons rfl (fun K hK => ?_) AllReadyH.nil
                go_simp
                refine hK.out _ _ ((hH.set hg1 hg2).set hg1 hg2) (fun hH => ?_)
                clear hK K y0 y1 y2 y3
                try simp only [Act.put, List.setIfInBounds_toArray, List.set_cons_zero, List.set_cons_succ]
                have y0 : ((v29.setCell ⟨g14_29, 0, none⟩ (.int .i64 k.x)).setCell ⟨g14_29, 1, none⟩ (.int .i64 k.y)).cell? ⟨w.heap.size, 0, none⟩ = some (.int .i64 0) := ((keepS hne).trans (keepS hne)).trans hz15_26.z0
                have y1 : ((v29.setCell ⟨g14_29, 0, none⟩ (.int .i64 k.x)).setCell ⟨g14_29, 1, none⟩ (.int .i64 k.y)).cell? ⟨w.heap.size, 1, none⟩ = some (.int .i64 0) := ((keepS hne).trans (keepS hne)).trans hz15_26.z1
                have y2 : ((v29.setCell ⟨g14_29, 0, none⟩ (.int .i64 k.x)).setCell ⟨g14_29, 1, none⟩ (.int .i64 k.y)).frozen? ⟨w.heap.size, 0, none⟩ = false := by simpa using hz15_26.f0
                have y3 : ((v29.setCell ⟨g14_29, 0, none⟩ (.int .i64 k.x)).setCell ⟨g14_29, 1, none⟩ (.int .i64 k.y)).frozen? ⟨w.heap.size, 1, none⟩ = false := by simpa using hz15_26.f1
                refine wpAnyH_ready (rs := [17]) (by kernel_rfl) (by simp) ?_
                refine AllReadyH.cons rfl (fun K hK => ?_) AllReadyH.nil
                go_simp
                refine hK.out _ _ ((hH.set hg3 hg4).set hg3 hg4) (fun hH => ?_)
                clear hK K y0 y1 y2 y3
                try simp only [Act.put, List.setIfInBounds_toArray, List.set_cons_zero, List.set_cons_succ]
                refine wpAnyH_done (by kernel_rfl) ?_ _
                go_wp2_with fail
                go_meet
                case rel => exact ⟨g14_29, w.heap.size, rfl, rfl, cub_leaf hB hz14_29 hz15_26 hne⟩
              · exact AllReadyH.nil
            · refine AllReadyH.cons rfl (fun K hK => ?_) ?_
              · go_simp
                have hz14_30 := (show Box0 w v27.heap.size (v27.alloc (.cells #[.int .i64 0, .int .i64 0] 47)) from box0_new hB.size)
                refine hK.out _ _ (hH.next ((Below.refl _ _).alloc (Nat.le_refl _) _)) (fun hH => ?_)
                clear hK K
                replace hB := (show Below w.heap.size w (v27.alloc (.cells #[.int .i64 0, .int .i64 0] 47)) from bel_alloc hB _)
                have hlt30_15 : w.heap.size < v27.heap.size := hz15_26.lt
                replace hz15_26 := hz15_26.next ((Below.refl _ _).alloc (Nat.le_refl _) (.cells #[.int .i64 0, .int .i64 0] 47))
                try simp only [Act.put, List.setIfInBounds_toArray, List.set_cons_zero, List.set_cons_succ]
                generalize (v27.alloc (.cells #[.int .i64 0, .int .i64 0] 47)) = v30 at *
                generalize v27.heap.size = g14_30 at *
                refine wpAnyH_ready (rs := [13]) (by kernel_rfl) (by simp) ?_
                refine AllReadyH.cons rfl (fun K hK => ?_) ?_
                · go_simp
                  refine (placeOf_xyz d.x d.y _ _).mono ?_
                  rintro e v31 ⟨rfl, hb31⟩
                  refine hK.out _ _ (hH.next hb31) (fun hH => ?_)
                  clear hK K
                  replace hB := bel_next hB hb31
                  replace hz15_26 := hz15_26.next hb31
                  replace hz14_30 := hz14_30.next hb31
                  clear hb31
                  try simp only [Act.put, List.setIfInBounds_toArray, List.set_cons_zero, List.set_cons_succ]
                  have hne : g14_30 ≠ w.heap.size := by omega
                  have y0 := hz14_30.z0
                  have y1 := hz14_30.z1
                  have y2 := hz14_30.f0
                  have y3 := hz14_30.f1
                  have hg1 : g14_30 ≠ W := by have := hz14_30.ge; omega
                  have hg2 : g14_30 ≠ b := by have := hz14_30.ge; omega
                  have hg3 : w.heap.size ≠ W := by have := hz15_26.ge; omega
                  have hg4 : w.heap.size ≠ b := by have := hz15_26.ge; omega
                  refine wpAnyH_ready (rs := [16]) (by kernel_rfl) (by simp) ?_
                  refine AllReadyH.cons rfl (fun K hK => ?_) AllReadyH.nil
                  go_simp
                  refine hK.out _ _ ((hH.set hg1 hg2).set hg1 hg2) (fun hH => ?_)
                  clear hK K y0 y1 y2 y3
                  try simp only [Act.put, List.setIfInBounds_toArray, List.set_cons_zero, List.set_cons_succ]
                  have y0 : ((v31.setCell ⟨g14_30, 0, none⟩ (.int .i64 k.x)).setCell ⟨g14_30, 1, none⟩ (.int .i64 k.y)).cell? ⟨w.heap.size, 0, none⟩ = some (.int .i64 0) := ((keepS hne).trans (keepS hne)).trans hz15_26.z0
                  have y1 : ((v31.setCell ⟨g14_30, 0, none⟩ (.int .i64 k.x)).setCell ⟨g14_30, 1, none⟩ (.int .i64 k.y)).cell? ⟨w.heap.size, 1, none⟩ = some (.int .i64 0) := ((keepS hne).trans (keepS hne)).trans hz15_26.z1
                  have y2 : ((v31.setCell ⟨g14_30, 0, none⟩ (.int .i64 k.x)).setCell ⟨g14_30, 1, none⟩ (.int .i64 k.y)).frozen? ⟨w.heap.size, 0, none⟩ = false := by simpa using hz15_26.f0
                  have y3 : ((v31.setCell ⟨g14_30, 0, none⟩ (.int .i64 k.x)).setCell ⟨g14_30, 1, none⟩ (.int .i64 k.y)).frozen? ⟨w.heap.size, 1, none⟩ = false := by simpa using hz15_26.f1
                  refine wpAnyH_ready (rs := [17]) (by kernel_rfl) (by simp) ?_
                  refine AllReadyH.cons rfl (fun K hK => ?_) AllReadyH.nil
                  go_simp
                  refine hK.out _ _ ((hH.set hg3 hg4).set hg3 hg4) (fun hH => ?_)
                  clear hK K y0 y1 y2 y3
                  try simp only [Act.put, List.setIfInBounds_toArray, List.set_cons_zero, List.set_cons_succ]
                  refine wpAnyH_done (by kernel_rfl) ?_ _
                  go_wp2_with fail
                  go_meet
                  case rel => exact ⟨g14_30, w.heap.size, rfl, rfl, cub_leaf hB hz14_30 hz15_26 hne⟩
                · exact AllReadyH.nil
              · exact AllReadyH.nil
          · refine AllReadyH.cons rfl (fun K hK => ?_) ?_
            · go_simp
              have hz14_32 := (show Box0 w v26.heap.size (v26.alloc (.cells #[.int .i64 0, .int .i64 0] 47)) from box0_new hB.size)
              refine hK.out _ _ (hH.next ((Below.refl _ _).alloc (Nat.le_refl _) _)) (fun hH => ?_)
              clear hK K
              replace hB := (show Below w.heap.size w (v26.alloc (.cells #[.int .i64 0, .int .i64 0] 47)) from bel_alloc hB _)
              have hlt32_15 : w.heap.size < v26.heap.size := hz15_26.lt
              replace hz15_26 := hz15_26.next ((Below.refl _ _).alloc (Nat.le_refl _) (.cells #[.int .i64 0, .int .i64 0] 47))
              try simp only [Act.put, List.setIfInBounds_toArray, List.set_cons_zero, List.set_cons_succ]
              generalize (v26.alloc (.cells #[.int .i64 0, .int .i64 0] 47)) = v32 at *
              generalize v26.heap.size = g14_32 at *
              refine wpAnyH_ready (rs := [6]) (by kernel_rfl) (by simp) ?_
              refine AllReadyH.cons rfl (fun K hK => ?_) ?_
              · go_simp
                refine (placeOf_xyz k.x k.y _ _).mono ?_
                rintro e v33 ⟨rfl, hb33⟩
                refine hK.out _ _ (hH.next hb33) (fun hH => ?_)
                clear hK K
                replace hB := bel_next hB hb33
                replace hz15_26 := hz15_26.next hb33
                replace hz14_32 := hz14_32.next hb33
                clear hb33
                try simp only [Act.put, List.setIfInBounds_toArray, List.set_cons_zero, List.set_cons_succ]
                refine wpAnyH_ready (rs := [13]) (by kernel_rfl) (by simp) ?_
                refine AllReadyH.cons rfl (fun K hK => ?_) ?_
                · go_simp
                  refine (placeOf_xyz d.x d.y _ _).mono ?_
                  rintro e v34 ⟨rfl, hb34⟩
                  refine hK.out _ _ (hH.next hb34) (fun hH => ?_)
                  clear hK K
                  replace hB := bel_next hB hb34
                  replace hz15_26 := hz15_26.next hb34
                  replace hz14_32 := hz14_32.next hb34
                  clear hb34
                  try simp only [Act.put, List.setIfInBounds_toArray, List.set_cons_zero, List.set_cons_succ]
                  have hne : g14_32 ≠ w.heap.size := by omega
                  have y0 := hz14_32.z0
                  have y1 := hz14_32.z1
                  have y2 := hz14_32.f0
                  have y3 := hz14_32.f1
                  have hg1 : g14_32 ≠ W := by have := hz14_32.ge; omega
                  have hg2 : g14_32 ≠ b := by have := hz14_32.ge; omega
                  have hg3 : w.heap.size ≠ W := by have := hz15_26.ge; omega
                  have hg4 : w.heap.size ≠ b := by have := hz15_26.ge; omega
                  refine wpAnyH_ready (rs := [16]) (by kernel_rfl) (by simp) ?_
                  refine AllReadyH.cons rfl (fun K hK => ?_) AllReadyH.nil
                  go_simp
                  refine hK.out _ _ ((hH.set hg1 hg2).set hg1 hg2) (fun hH => ?_)
                  clear hK K y0 y1 y2 y3
                  try simp only [Act.put, List.setIfInBounds_toArray, List.set_cons_zero, List.set_cons_succ]
                  have y0 : ((v34.setCell ⟨g14_32, 0, none⟩ (.int .i64 k.x)).setCell ⟨g14_32, 1, none⟩ (.int .i64 k.y)).cell? ⟨w.heap.size, 0, none⟩ = some (.int .i64 0) := ((keepS hne).trans (keepS hne)).trans hz15_26.z0
                  have y1 : ((v34.setCell ⟨g14_32, 0, none⟩ (.int .i64 k.x)).setCell ⟨g14_32, 1, none⟩ (.int .i64 k.y)).cell? ⟨w.heap.size, 1, none⟩ = some (.int .i64 0) := ((keepS hne).trans (keepS hne)).trans hz15_26.z1
                  have y2 : ((v34.setCell ⟨g14_32, 0, none⟩ (.int .i64 k.x)).setCell ⟨g14_32, 1, none⟩ (.int .i64 k.y)).frozen? ⟨w.heap.size, 0, none⟩ = false := by simpa using hz15_26.f0
                  have y3 : ((v34.setCell ⟨g14_32, 0, none⟩ (.int .i64 k.x)).setCell ⟨g14_32, 1, none⟩ (.int .i64 k.y)).frozen? ⟨w.heap.size, 1, none⟩ = false := by simpa using hz15_26.f1
                  refine wpAnyH_ready (rs := [17]) (by kernel_rfl) (by simp) ?_
                  refine AllReadyH.cons rfl (fun K hK => ?_) AllReadyH.nil
                  go_simp
                  refine hK.out _ _ ((hH.set hg3 hg4).set hg3 hg4) (fun hH => ?_)
                  clear hK K y0 y1 y2 y3
                  try simp only [Act.put, List.setIfInBounds_toArray, List.set_cons_zero, List.set_cons_succ]
                  refine wpAnyH_done (by kernel_rfl) ?_ _
                  go_wp2_with fail
                  go_meet
                  case rel => exact ⟨g14_32, w.heap.size, rfl, rfl, cub_leaf hB hz14_32 hz15_26 hne⟩
                · exact AllReadyH.nil
              · exact AllReadyH.nil
            · exact AllReadyH.nil
        · exact AllReadyH.nil
  case rest =>
    obtain ⟨g1, g2, rfl, rfl, hcb⟩ := hcut
    generalize hwc : wc = V0 at *
    clear hwc
    have HWa := Lib.hid (HW.out.below hcb.bel)
    have HQ1 := Lib.hid hcb.bx
    have HGG : Hid (g1 ≠ W ∧ g1 ≠ g ∧ g2 ≠ W ∧ g2 ≠ g) := by have h1 := hcb.ge1; have h2 := hcb.ge2; have h3 := (ownsRow_cap HW.out.own).2.2; exact ⟨by omega, by omega, by omega, by omega⟩
    clear hcb
    obtain ⟨pb, po, hpe, p0, p1⟩ := (own_isR rfl HWa.out.own).spot HL.out
    simp only [Option.some.injEq, Addr.mk.injEq] at hpe
    obtain ⟨rfl, rfl, _⟩ := hpe
    simp only [Nat.zero_add] at p0 p1
    rw [HM.out] at p0 p1
    have hpos := HPO.out
    rw [HM.out] at hpos
    have q4 : (0 : Int) ≤ (m : Int) - 1 := by omega
    have q5 : (m : Int) - 1 < (m : Int) := by omega
    have q6 : (1 : Int) ≤ (m : Int) := by omega
    have t1 : ((m : Int) - 1).toNat = m - 1 := by omega
    have t2 : IntKind.i64.wrap ((m : Int) - 1) = (m : Int) - 1 := IntWalk.i64_in _ (by have := HP.out; have := HM.out; omega)
    have q7 : (m : Int) ≤ 1000000 := by have := HP.out; have := HM.out; omega
    have a3 : V0.cell? ⟨W, 3, none⟩ = some (.slice (some ⟨g, 0, none⟩) m pc) := by have := HWa.out.cs.c3; rw [HM.out] at this; exact this
    clear hlt hbl
    have hl1 : W < V0.heap.size := HWa.out.lt
    have hl2 : g < V0.heap.size := (ownsRow_cap HWa.out.own).2.2
    go_wp2_with fail
    go_region
    have HWb : Hid (Wk w0 W st (some ⟨b, off, none⟩) cc (k :: d :: r) g pc P c (V0.alloc (.cells #[.int .i64 p.x, .int .i64 p.y] 47)).drew) := HWa.out.below ((Below.refl _ _).alloc (Nat.le_refl _) _).drew
    have HQb : Hid (QBx (V0.alloc (.cells #[.int .i64 p.x, .int .i64 p.y] 47)).drew g1 g2 k.sp d.sp) := (HQ1.out.below ((Below.refl _ _).alloc (Nat.le_refl _) _)).drew
    have HFb : Hid (QBx (V0.alloc (.cells #[.int .i64 p.x, .int .i64 p.y] 47)).drew V0.heap.size V0.heap.size p p) := ⟨by simp [go_sem], by simp [go_sem], by simp [go_sem], by simp [go_sem]⟩
    have HNF : Hid (V0.heap.size ≠ W ∧ V0.heap.size ≠ g) := ⟨by omega, by omega⟩
    clear a3 p0 p1 HQ1 HWa
    generalize (V0.alloc (.cells #[.int .i64 p.x, .int .i64 p.y] 47)).drew = V at *
    generalize V0.heap.size = gf at *
    have HSV : Hid (g1 < V.heap.size ∧ g2 < V.heap.size ∧ gf < V.heap.size) := ⟨World.block_lt_of_cell? V _ HQb.out.c0, World.block_lt_of_cell? V _ HQb.out.f0, World.block_lt_of_cell? V _ HFb.out.c0⟩
    go_wp2_with fail
    refine (HCE.out V HWb.out).mono ?_
    rintro e w3 ⟨rfl, hb3⟩
    have HB3 := Lib.hid hb3
    clear hb3
    go_wp2_with fail
    go_ret
    exact ⟨rfl, HB3.out.alloc HB3.out.size _⟩

set_option maxRecDepth 20000 in
set_option maxHeartbeats 2000000 in
theorem cubic_short (w0 : World) (W : Nat) (st : Sp) (ca : Option Addr) (cc : Nat) (k : Kn) (g pc : Nat) (P : List Sp) (c : Bool) (w : World) (h : Wk w0 W st ca cc [k] g pc P c w) :
    Calls Try.prog 76 #[.pointer (some ⟨W, 0, none⟩)] w fun e w' => e = .returned (.int .i64 61) ∧ Below w0.heap.size w0 w' := by
  have c2 := h.cs.c2
  have HB := Lib.hid h.bel
  simp only [List.length_cons, List.length_nil] at c2
  clear h
  go_enter Try.func76, Try.ntmps76
  go_wp2_with fail
  go_ret
  exact ⟨rfl, HB.out⟩

set_option maxRecDepth 20000 in
set_option maxHeartbeats 2000000 in
theorem cubic_other (w0 : World) (W : Nat) (st : Sp) (ca : Option Addr) (cc : Nat) (k d : Kn) (r : List Kn) (g pc : Nat) (P : List Sp) (c : Bool) (w : World) (h : Wk w0 W st ca cc (k :: d :: r) g pc P c w) (hd : ¬ d.k = 3) :
    Calls Try.prog 76 #[.pointer (some ⟨W, 0, none⟩)] w fun e w' => e = .returned (.int .i64 61) ∧ Below w0.heap.size w0 w' := by
  obtain ⟨b, off, rfl, d0, d1, d2⟩ := h.read.knot (i := 1) (k := d) rfl
  simp only [Nat.one_mul] at d0 d1 d2
  have c2 := h.cs.c2
  obtain ⟨nn, HNN⟩ : ∃ nn, Hid ((k :: d :: r).length = nn) := ⟨_, rfl⟩
  rw [HNN.out] at c2
  have hnn : 2 ≤ nn := by have := HNN.out; simp only [List.length_cons] at this; omega
  have q2 : (1 : Int) < (nn : Int) := by omega
  have q3 : ¬ (nn : Int) < 2 := by omega
  have e1 : (d.k == 3) = false := by simpa using hd
  have HB := Lib.hid h.bel
  clear h hnn hd
  go_enter Try.func76, Try.ntmps76
  go_wp2_with fail
  go_ret
  exact ⟨rfl, HB.out⟩

end Go.Proofs.Ythjhekmlhmljlaa
