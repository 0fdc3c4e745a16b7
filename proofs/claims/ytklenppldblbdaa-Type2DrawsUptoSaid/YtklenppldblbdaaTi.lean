/-
  Rows of operands, and what lines, curves and steps of the pen answer.
-/
import Derived.Test.YtklenppldblbdaaTh
import Derived.StillTailTactics
import Derived.BigQuiet
import Derived.Deep.QuietTactic
namespace Go.Proofs.Ytklenppldblbdaa
open Go.RowKit Go.PlainAid
set_option linter.unusedSimpArgs false
set_option linter.unusedVariables false

/-- The row at this address is read as these numbers. -/
def Opds (w : World) (l : List Int) (a : Option Addr) : Prop := l = [] ∨ ∃ g off cs fr, a = some ⟨g, off, none⟩ ∧ w.heap[g]? = some (.cells cs 3 fr) ∧ ∀ (i : Nat) (v : Int), l[i]? = some v → cs[off + i]? = some (.int .i64 v)

theorem Opds.keep {w w' : World} {l : List Int} {a : Option Addr} (h : Opds w l a) (k : IntKeep w w') : Opds w' l a := by
  rcases h with h | ⟨g, off, cs, fr, h1, h2, h3⟩
  · exact .inl h
  · exact .inr ⟨g, off, cs, fr, h1, k g cs fr h2, h3⟩

theorem Opds.at {w : World} {l : List Int} {a : Option Addr} (h : Opds w l a) (hl : 0 < l.length) : ∃ g off, a = some ⟨g, off, none⟩ ∧ ∀ (i : Nat) (v : Int), l[i]? = some v → w.cell? ⟨g, off + i, none⟩ = some (.int .i64 v) := by
  rcases h with h | ⟨g, off, cs, fr, h1, h2, h3⟩
  · subst h; simp at hl
  · exact ⟨g, off, h1, fun i v hv => by simp only [World.cell?, h2]; exact h3 i v hv⟩

theorem Opds.drop {w : World} {l : List Int} {g off : Nat} (h : Opds w l (some ⟨g, off, none⟩)) (k : Nat) : Opds w (l.drop k) (some ⟨g, off + k, none⟩) := by
  rcases h with h | ⟨g', off', cs, fr, h1, h2, h3⟩
  · exact .inl (by rw [h]; simp)
  · cases h1
    exact .inr ⟨g, off + k, cs, fr, rfl, h2, fun i v hv => by rw [Nat.add_assoc]; exact h3 (k + i) v (by rw [List.getElem?_drop] at hv; exact hv)⟩

theorem Opds.take {w : World} {l : List Int} {a : Option Addr} (h : Opds w l a) (k : Nat) : Opds w (l.take k) a := by
  rcases h with h | ⟨g, off, cs, fr, h1, h2, h3⟩
  · exact .inl (by rw [h]; simp)
  · exact .inr ⟨g, off, cs, fr, h1, h2, fun i v hv => by
      have hlt : i < (l.take k).length := (List.getElem?_eq_some_iff.1 hv).1
      rw [List.getElem?_take_of_lt (by simp at hlt; omega)] at hv
      exact h3 i v hv⟩

theorem Opds.nil (w : World) (a : Option Addr) : Opds w [] a := .inl rfl

/-- What stands behind the k-th number, at the address that a slice expression gives. -/
theorem Opds.rest {w : World} {l r : List Int} {g off c : Nat} (h : Opds w l (some ⟨g, off, none⟩)) (k : Nat) (hr : l.drop k = r) (hc : l.length ≤ c) : Opds w r (if c = k then some ⟨g, off, none⟩ else some ⟨g, off + k, none⟩) := by
  subst hr
  by_cases e : c = k
  · rw [if_pos e]
    exact .inl (List.drop_eq_nil_of_le (by omega))
  · rw [if_neg e]
    exact h.drop k

def lenOf : Value → Nat
  | .slice _ n _ => n
  | _ => 0

set_option maxRecDepth 20000 in
set_option maxHeartbeats 2000000 in
theorem lines_c (B M F : Nat) (L : Lay) (s : MS) (l : List Int) (a : Option Addr) (c : Nat) (w : World) (h : Mach w B M F L s) (hp : PenFit s) (ho : Opds w l a) (hc : l.length ≤ c) (he : l.length % 2 = 0) (hl : l.length ≤ 1000) :
    Calls Try.prog 80 #[.pointer (some ⟨M, 0, none⟩), .slice a l.length c] w (PenPost B M F L (MS.lines l s) (.tuple #[]) w) := by
  have H := Lib.hid h
  have HP := Lib.hid hp
  have HO := Lib.hid ho
  have HC := Lib.hid (And.intro hc (And.intro he hl))
  obtain ⟨n, HN⟩ : ∃ n, Hid (l.length = n) := ⟨_, rfl⟩
  rw [HN.out]
  clear h hp ho hc he hl
  go_enter Try.func80, Try.ntmps80
  go_wp2_with fail
  go_loopw [1] (fun v wr => ∃ (n : Nat) (a : Option Addr) (c : Nat) (l1 : List Int) (oa : Option Addr) (oc : Nat) (vs : List Value) (s1 : MS), v = .slice a n c ∧ Hid (l1.length = n) ∧ Hid (Opds wr l1 a) ∧ Hid (l1.length ≤ c ∧ l1.length % 2 = 0 ∧ l1.length ≤ 1000) ∧ Hid (Mach wr B M F { L with oa := oa, oc := oc, vs := vs } s1) ∧ Hid (PenFit s1) ∧ Hid (Below B w wr) ∧ Hid (IntKeep w wr) ∧ Hid (MS.lines l1 s1 = MS.lines l s)) (fun v _ => lenOf v)
  case atStart => exact ⟨n, a, c, l, L.oa, L.oc, L.vs, s, rfl, HN, HO, HC, H, HP, Below.refl _ _, IntKeep.refl _, rfl⟩
  case round =>
    obtain ⟨n1, a1, c1, l1, oa1, oc1, vs1, s1, rfl, HN1, HO1, HC1, H1, HP1, HB1, HK1, HE1⟩ := hrel
    clear H HP HO HC HN
    match l1, HN1, HO1, HC1, HE1 with
    | [], HN1, HO1, HC1, HE1 =>
      have h0 : n1 = 0 := HN1.out.symm
      subst h0
      go_wp2_with fail
      go_end0
      have := HE1.out
      simp only [MS.lines] at this
      rw [← this]
      exact ⟨rfl, ⟨_, _, _, H1.out⟩, HB1.out, HK1.out⟩
    | [x0], HN1, HO1, HC1, HE1 => exact absurd HC1.out.2.1 (by simp)
    | x0 :: x1 :: r, HN1, HO1, HC1, HE1 =>
      obtain ⟨m, HM⟩ : ∃ m, Hid (r.length = m) := ⟨_, rfl⟩
      obtain rfl : n1 = m + 2 := by have := HN1.out; have := HM.out; simp at *; omega
      obtain ⟨g, off, rfl, hcell⟩ := HO1.out.at (by simp)
      have k0 := hcell 0 x0 rfl
      have k1 := hcell 1 x1 rfl
      rw [Nat.add_zero] at k0
      have hm : m ≤ 1000 := by have := HC1.out.2.2; have := HM.out; simp at *; omega
      have hmc : m + 2 ≤ c1 := by have := HC1.out.1; have := HM.out; simp at *; omega
      have h0 : (0 : Int) < (m : Int) + 2 := by omega
      have h1 : (1 : Int) < (m : Int) + 2 := by omega
      have hk : (2 : Int) ≤ (m : Int) + 2 := by omega
      have HC2 : Hid (r.length ≤ c1 - 2 ∧ r.length % 2 = 0 ∧ r.length ≤ 1000) := by have := HC1.out; have := HM.out; simp at *; unfold Hid; omega
      clear hcell HN1
      go_wp2_with fail
      refine wp_region_still_tail 7 (by kernel_rfl) (by kernel_rfl) ?_
      simp only [List.take_succ_cons, List.take_zero, List.drop_succ_cons, List.drop_zero]
      repeat still_step
      refine wpStill_nil ?_
      change wpList _ _ _ _ _ wr.drew
      have HD := Lib.hid (H1.out.below (Below.refl _ _).drew)
      have HKD := Lib.hid (keep_bel (Below.refl wr.heap.size wr).drew)
      go_wp2_with fail
      refine (line_c B M F _ s1 x0 x1 wr.drew HD.out HP1.out).mono ?_
      rintro e w2 ⟨rfl, ⟨oa2, oc2, vs2, hh2⟩, hb2, hk2⟩
      have H2 := Lib.hid hh2
      have HB2 := Lib.hid (HB1.out.drew.trans hb2)
      have HK0 := Lib.hid (HKD.out.trans hk2)
      have HK2 := Lib.hid (HK1.out.trans HK0.out)
      have HO2 := Lib.hid ((HO1.out.keep HK0.out).rest (c := c1) 2 (r := r) rfl HC1.out.1)
      have HP2 : Hid (PenFit (s1.line x0 x1)) := HP1.out.knot _ _ _
      have HE2 : Hid (MS.lines r (s1.line x0 x1) = MS.lines l s) := HE1.out
      clear hh2 hb2 hk2 HD HKD HK0 k0 k1
      go_wp2_with fail
      exact ⟨⟨m, _, _, r, oa2, oc2, vs2, _, rfl, HM, HO2, HC2, H2, HP2, HB2, HK2, HE2⟩, by simp [lenOf]⟩

set_option maxRecDepth 20000 in
set_option maxHeartbeats 2000000 in
theorem curves_c (B M F : Nat) (L : Lay) (s : MS) (l : List Int) (a : Option Addr) (c : Nat) (w : World) (h : Mach w B M F L s) (hp : PenFit s) (ho : Opds w l a) (hc : l.length ≤ c) (he : l.length % 6 = 0) (hl : l.length ≤ 1000) :
    Calls Try.prog 78 #[.pointer (some ⟨M, 0, none⟩), .slice a l.length c] w (PenPost B M F L (MS.curves l s) (.tuple #[]) w) := by
  have H := Lib.hid h
  have HP := Lib.hid hp
  have HO := Lib.hid ho
  have HC := Lib.hid (And.intro hc (And.intro he hl))
  obtain ⟨n, HN⟩ : ∃ n, Hid (l.length = n) := ⟨_, rfl⟩
  rw [HN.out]
  clear h hp ho hc he hl
  go_enter Try.func78, Try.ntmps78
  go_wp2_with fail
  go_loopw [1] (fun v wr => ∃ (n : Nat) (a : Option Addr) (c : Nat) (l1 : List Int) (oa : Option Addr) (oc : Nat) (vs : List Value) (s1 : MS), v = .slice a n c ∧ Hid (l1.length = n) ∧ Hid (Opds wr l1 a) ∧ Hid (l1.length ≤ c ∧ l1.length % 6 = 0 ∧ l1.length ≤ 1000) ∧ Hid (Mach wr B M F { L with oa := oa, oc := oc, vs := vs } s1) ∧ Hid (PenFit s1) ∧ Hid (Below B w wr) ∧ Hid (IntKeep w wr) ∧ Hid (MS.curves l1 s1 = MS.curves l s)) (fun v _ => lenOf v)
  case atStart => exact ⟨n, a, c, l, L.oa, L.oc, L.vs, s, rfl, HN, HO, HC, H, HP, Below.refl _ _, IntKeep.refl _, rfl⟩
  case round =>
    obtain ⟨n1, a1, c1, l1, oa1, oc1, vs1, s1, rfl, HN1, HO1, HC1, H1, HP1, HB1, HK1, HE1⟩ := hrel
    clear H HP HO HC HN
    match l1, HN1, HO1, HC1, HE1 with
    | [], HN1, HO1, HC1, HE1 =>
      have h0 : n1 = 0 := HN1.out.symm
      subst h0
      go_wp2_with fail
      go_end0
      have := HE1.out
      simp only [MS.curves] at this
      rw [← this]
      exact ⟨rfl, ⟨_, _, _, H1.out⟩, HB1.out, HK1.out⟩
    | [x0], HN1, HO1, HC1, HE1 => exact absurd HC1.out.2.1 (by simp)
    | [x0, x1], HN1, HO1, HC1, HE1 => exact absurd HC1.out.2.1 (by simp)
    | [x0, x1, x2], HN1, HO1, HC1, HE1 => exact absurd HC1.out.2.1 (by simp)
    | [x0, x1, x2, x3], HN1, HO1, HC1, HE1 => exact absurd HC1.out.2.1 (by simp)
    | [x0, x1, x2, x3, x4], HN1, HO1, HC1, HE1 => exact absurd HC1.out.2.1 (by simp)
    | x0 :: x1 :: x2 :: x3 :: x4 :: x5 :: r, HN1, HO1, HC1, HE1 =>
      obtain ⟨m, HM⟩ : ∃ m, Hid (r.length = m) := ⟨_, rfl⟩
      obtain rfl : n1 = m + 6 := by have := HN1.out; have := HM.out; simp at *; omega
      obtain ⟨g, off, rfl, hcell⟩ := HO1.out.at (by simp)
      have k0 := hcell 0 x0 rfl
      have k1 := hcell 1 x1 rfl
      have k2 := hcell 2 x2 rfl
      have k3 := hcell 3 x3 rfl
      have k4 := hcell 4 x4 rfl
      have k5 := hcell 5 x5 rfl
      rw [Nat.add_zero] at k0
      have hm : m ≤ 1000 := by have := HC1.out.2.2; have := HM.out; simp at *; omega
      have hmc : m + 6 ≤ c1 := by have := HC1.out.1; have := HM.out; simp at *; omega
      have h0 : (0 : Int) < (m : Int) + 6 := by omega
      have h1 : (1 : Int) < (m : Int) + 6 := by omega
      have h2 : (2 : Int) < (m : Int) + 6 := by omega
      have h3 : (3 : Int) < (m : Int) + 6 := by omega
      have h4 : (4 : Int) < (m : Int) + 6 := by omega
      have h5 : (5 : Int) < (m : Int) + 6 := by omega
      have hk : (6 : Int) ≤ (m : Int) + 6 := by omega
      have HC2 : Hid (r.length ≤ c1 - 6 ∧ r.length % 6 = 0 ∧ r.length ≤ 1000) := by have := HC1.out; have := HM.out; simp at *; unfold Hid; omega
      clear hcell HN1
      go_wp2_with fail
      refine wp_region_still_tail 19 (by kernel_rfl) (by kernel_rfl) ?_
      simp only [List.take_succ_cons, List.take_zero, List.drop_succ_cons, List.drop_zero]
      repeat still_step
      refine wpStill_nil ?_
      change wpList _ _ _ _ _ wr.drew
      have HD := Lib.hid (H1.out.below (Below.refl _ _).drew)
      have HKD := Lib.hid (keep_bel (Below.refl wr.heap.size wr).drew)
      go_wp2_with fail
      refine (curve_c B M F _ s1 x0 x1 x2 x3 x4 x5 wr.drew HD.out HP1.out).mono ?_
      rintro e w2 ⟨rfl, ⟨oa2, oc2, vs2, hh2⟩, hb2, hk2⟩
      have H2 := Lib.hid hh2
      have HB2 := Lib.hid (HB1.out.drew.trans hb2)
      have HK0 := Lib.hid (HKD.out.trans hk2)
      have HK2 := Lib.hid (HK1.out.trans HK0.out)
      have HO2 := Lib.hid ((HO1.out.keep HK0.out).rest (c := c1) 6 (r := r) rfl HC1.out.1)
      have HP2 : Hid (PenFit (s1.curve x0 x1 x2 x3 x4 x5)) := HP1.out.curve _ _ _ _ _ _
      have HE2 : Hid (MS.curves r (s1.curve x0 x1 x2 x3 x4 x5) = MS.curves l s) := HE1.out
      clear hh2 hb2 hk2 HD HKD HK0 k0 k1 k2 k3 k4 k5
      go_wp2_with fail
      exact ⟨⟨m, _, _, r, oa2, oc2, vs2, _, rfl, HM, HO2, HC2, H2, HP2, HB2, HK2, HE2⟩, by simp [lenOf]⟩

set_option maxRecDepth 20000 in
set_option maxHeartbeats 2000000 in
theorem steps_c (B M F : Nat) (L : Lay) (s : MS) (l : List Int) (a : Option Addr) (c : Nat) (ax : Bool) (w : World) (h : Mach w B M F L s) (hp : PenFit s) (ho : Opds w l a) (hl : l.length ≤ 1000) :
    Calls Try.prog 81 #[.pointer (some ⟨M, 0, none⟩), .slice a l.length c, .bool ax] w (PenPost B M F L (MS.steps l ax s) (.tuple #[]) w) := by
  have H := Lib.hid h
  have HP := Lib.hid hp
  have HO := Lib.hid ho
  have HL := Lib.hid hl
  obtain ⟨n, HN⟩ : ∃ n, Hid (l.length = n) := ⟨_, rfl⟩
  rw [HN.out]
  clear h hp ho hl
  go_enter Try.func81, Try.ntmps81
  go_wp2_with fail
  go_loopw [2, 10] (fun b v wr => ∃ (i : Nat) (ax1 : Bool) (oa : Option Addr) (oc : Nat) (vs : List Value) (s1 : MS), i ≤ n ∧ b = .bool ax1 ∧ v = .int .i64 (i : Int) ∧ Hid (Mach wr B M F { L with oa := oa, oc := oc, vs := vs } s1) ∧ Hid (PenFit s1) ∧ Hid (Below B w wr) ∧ Hid (IntKeep w wr) ∧ Hid (MS.steps (l.drop i) ax1 s1 = MS.steps l ax s)) (fun _ v _ => n - (intOf v).toNat)
  case atStart => exact ⟨0, ax, L.oa, L.oc, L.vs, s, Nat.zero_le _, rfl, rfl, H, HP, Below.refl _ _, IntKeep.refl _, rfl⟩
  case round =>
    obtain ⟨i, ax1, oa1, oc1, vs1, s1, hi, rfl, rfl, H1, HP1, HB1, HK1, HE1⟩ := hrel
    clear H HP
    by_cases hlt : i < n
    · obtain ⟨d, hd⟩ := get_of (show i < l.length by have := HN.out; omega)
      obtain ⟨g, off, rfl, hcell⟩ := HO.out.at (show 0 < l.length by have := HN.out; omega)
      have k0 := (Opds.at (HO.out.keep HK1.out) (show 0 < l.length by have := HN.out; omega))
      obtain ⟨g', off', hgo, hc2⟩ := k0
      cases hgo
      have k0 := hc2 i d hd
      have h1 : (i : Int) < (n : Int) := by omega
      have h2 : (0 : Int) ≤ (i : Int) := by omega
      have hn : n ≤ 1000 := by have := HL.out; have := HN.out; omega
      have HS : Hid (l.drop i = d :: l.drop (i + 1)) := by
        unfold Hid
        rw [List.drop_eq_getElem_cons (show i < l.length by have := HN.out; omega)]
        have := (List.getElem?_eq_some_iff.1 hd).2
        rw [this]
      have HX := Lib.hid (next64 (j := i) (by omega))
      have HLT := Lib.hid hlt
      clear hcell hc2 hd hlt
      have HE2 : Hid (MS.steps (l.drop (i + 1)) (!ax1) (if ax1 then s1.line d 0 else s1.line 0 d) = MS.steps l ax s) := by
        have := HE1.out
        rw [HS.out] at this
        exact this
      cases ax1
      · go_wp2_with fail
        refine (line_c B M F _ s1 0 d wr H1.out HP1.out).mono ?_
        rintro e w2 ⟨rfl, ⟨oa2, oc2, vs2, hh2⟩, hb2, hk2⟩
        have H2 := Lib.hid hh2
        have HB2 := Lib.hid (HB1.out.trans hb2)
        have HK2 := Lib.hid (HK1.out.trans hk2)
        have HP2 : Hid (PenFit (s1.line 0 d)) := HP1.out.knot _ _ _
        clear hh2 hb2 hk2 k0
        go_wp2_with fail
        exact ⟨⟨i + 1, true, oa2, oc2, vs2, _, HLT.out, rfl, by first | rw [HX.out] | go_num, H2, HP2, HB2, HK2, HE2⟩, by (try rw [HX.out]); have := HLT.out; simp only [intOf]; omega⟩
      · go_wp2_with fail
        refine (line_c B M F _ s1 d 0 wr H1.out HP1.out).mono ?_
        rintro e w2 ⟨rfl, ⟨oa2, oc2, vs2, hh2⟩, hb2, hk2⟩
        have H2 := Lib.hid hh2
        have HB2 := Lib.hid (HB1.out.trans hb2)
        have HK2 := Lib.hid (HK1.out.trans hk2)
        have HP2 : Hid (PenFit (s1.line d 0)) := HP1.out.knot _ _ _
        clear hh2 hb2 hk2 k0
        go_wp2_with fail
        exact ⟨⟨i + 1, false, oa2, oc2, vs2, _, HLT.out, rfl, by first | rw [HX.out] | go_num, H2, HP2, HB2, HK2, HE2⟩, by (try rw [HX.out]); have := HLT.out; simp only [intOf]; omega⟩
    · obtain rfl : i = n := by omega
      have h1 : ¬ (i : Int) < (i : Int) := by omega
      have HEF : Hid (s1 = MS.steps l ax s) := by
        have := HE1.out
        rw [List.drop_eq_nil_of_le (by have := HN.out; omega)] at this
        exact this
      go_wp2_with fail
      go_end0
      rw [← HEF.out]
      exact ⟨rfl, ⟨_, _, _, H1.out⟩, HB1.out, HK1.out⟩

end Go.Proofs.Ytklenppldblbdaa
