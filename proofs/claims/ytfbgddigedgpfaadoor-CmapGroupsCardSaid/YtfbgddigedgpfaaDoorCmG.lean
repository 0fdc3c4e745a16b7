/-
  What readBytes and readRun of package cmap answer, and the closures that they make.
-/
import Derived.Test.YtfbgddigedgpfaaDoorCmF
namespace Go.Proofs.YtfbgddigedgpfaaDoor
open Go.RowKit Go.PlainAid
set_option linter.unusedSimpArgs false
set_option linter.unusedVariables false

/-- A reader of a subtable answers a function that finds glyphs, or an error. -/
def ReadPost (N : Nat) (w : World) (e : Ending) (w' : World) : Prop :=
  Below w.heap.size w w' ∧ ((∃ x, x ≠ 0 ∧ e = .returned (.tuple #[.nilFunc, .int .i64 x])) ∨ ∃ v ans, e = .returned (.tuple #[v, .int .i64 0]) ∧ FindIs N w' v ans)
theorem GroupsPost.read {N : Nat} {s : ByteArray} {rise : Bool} {w w' : World} {e : Ending} (h : GroupsPost N s rise w e w') : ReadPost N w e w' := by
  obtain ⟨hb, ⟨_, x, hx, he⟩ | ⟨_, v, he, hf⟩⟩ := h
  · exact ⟨hb, .inl ⟨x, hx, he⟩⟩
  · exact ⟨hb, .inr ⟨v, _, he, hf⟩⟩

set_option maxHeartbeats 1000000 in
theorem bytes1_c (gl gv : Nat) (r : ByteArray) (code x ex : Int) (w : World) (hc : w.cell? ⟨gl, 0, none⟩ = some (.pointer (some ⟨gv, 0, none⟩))) (hv : w.cell? ⟨gv, 0, none⟩ = some (.string r)) (hs : (r.size : Int) ≤ 140737488355328) (h1 : code ≤ 1114111) (HX : Hid (numOr r code 1 = (x, ex))) :
    Calls Tryd.prog 41 #[.int .i64 code, .pointer (some ⟨gl, 0, none⟩)] w fun e w' => e = .returned (.int .i64 x) ∧ Below w.heap.size w w' := by
  have HC := Lib.hid (u8_c gv code x ex r w hv hs (by omega) HX)
  clear hv hs h1
  go_enter Tryd.func41, Tryd.ntmps41
  go_wp2_with fail
  refine HC.out.mono ?_
  rintro e w1 ⟨rfl, rfl⟩
  go_wp2_with fail
  go_ret
  exact ⟨rfl, Below.refl _ _⟩

set_option maxHeartbeats 1000000 in
theorem readBytes_c (N : Nat) (g : Nat) (s : ByteArray) (w : World) (hN : N ≤ w.heap.size) (hc : w.cell? ⟨g, 0, none⟩ = some (.string s)) (hs : (s.size : Int) ≤ 140737488355328) :
    Calls Tryd.prog 31 #[.pointer (some ⟨g, 0, none⟩)] w (ReadPost N w) := by
  have HNN0 := Lib.hid hN
  clear hN
  have hmf : ∀ (fn : Fn) (first cap : Array Value) (w : World), (Instr.makeFunc fn first cap).run Tryd.prog w = .ok (.func fn first cap) w := fun _ _ _ _ => rfl
  by_cases h : 6 + 256 ≤ s.size
  · obtain ⟨r, HRR⟩ : ∃ r, Hid (s.extract 6 (6 + 256) = r) := ⟨_, rfl⟩
    have hcut := cut_at g 6 256 256 rfl s w hc hs h
    rw [HRR.out] at hcut
    have HCUT := Lib.hid hcut
    have HRS : Hid ((r.size : Int) ≤ 140737488355328) := by unfold Hid; rw [← HRR.out, ByteArray.size_extract]; omega
    clear hc hs hcut h
    go_enter Tryd.func31, Tryd.ntmps31
    go_wp2_with fail
    refine HCUT.out.mono ?_
    rintro e w1 ⟨rfl, hw⟩
    have HB : Hid (Below w.heap.size w w1) := by unfold Hid; rw [hw]; exact (Below.refl _ _).alloc (Nat.le_refl _) _
    have HV : Hid (w1.cell? ⟨w.heap.size, 0, none⟩ = some (.string r)) := by unfold Hid; rw [hw]; simp [go_sem]
    clear hw HCUT
    go_wp2_with fail
    go_ret2
    refine ⟨HB.out.alloc HB.out.size _, .inr ⟨_, fun code => (numOr r code 1).1, rfl, _, _, rfl, fun args w => by kernel_rfl, ?_⟩⟩
    intro w' hb' code h0 h1
    have hba := (Below.refl w1.heap.size w1).alloc (Nat.le_refl _) (.cells #[.pointer (some ⟨w.heap.size, 0, none⟩)] 39)
    exact ⟨(num8_fst r code).1, bytes1_c w1.heap.size w.heap.size r code _ (numOr r code 1).2 w' (hb'.cell (Nat.le_trans HNN0.out HB.out.size) (by simp [go_sem])) (hb'.cell HNN0.out (keepC hba HV.out)) HRS.out h1 rfl⟩
  · have hno : hasB s 6 256 = false := by simp [hasB]; omega
    have HCUT := Lib.hid (cut_no g 6 256 s w hc hs (by decide) hno)
    clear hc hs hno h
    go_enter Tryd.func31, Tryd.ntmps31
    go_wp2_with fail
    refine HCUT.out.mono ?_
    rintro e w1 ⟨rfl, rfl⟩
    go_wp2_with fail
    go_ret2
    exact ⟨(Below.refl _ _).alloc (Nat.le_refl _) _, .inl ⟨51, by decide, rfl⟩⟩

/-- The glyph that a run gives a code. -/
def runAns (x : Int) (n : Nat) (L : List Int) (code : Int) : Int := if code < x ∨ x + n ≤ code then 0 else L.getD (code - x).toNat 0

set_option maxHeartbeats 1000000 in
theorem run1_c (g1 g2 g3 gl n : Nat) (x code : Int) (L : List Int) (w : World) (c1 : w.cell? ⟨g1, 0, none⟩ = some (.int .i64 x)) (c2 : w.cell? ⟨g2, 0, none⟩ = some (.int .i64 (n : Int))) (c3 : w.cell? ⟨g3, 0, none⟩ = some (.slice (some ⟨gl, 0, none⟩) n n))
    (hl : IntsAt w gl L) (hL : L.length = n) (hx0 : 0 ≤ x) (hx1 : x ≤ 65535) (hn : n ≤ 65535) (h0 : 0 ≤ code) (h1 : code ≤ 1114111) :
    Calls Tryd.prog 46 #[.int .i64 code, .pointer (some ⟨g1, 0, none⟩), .pointer (some ⟨g2, 0, none⟩), .pointer (some ⟨g3, 0, none⟩)] w fun e w' => e = .returned (.int .i64 (runAns x n L code)) ∧ Below w.heap.size w w' := by
  have hw1 : wrap64 (x + (n : Int)) = x + (n : Int) := by unfold wrap64; omega
  have hw2 : wrap64 (code - x) = code - x := by unfold wrap64; omega
  by_cases ha : code < x
  · have HE : Hid (runAns x n L code = 0) := by unfold Hid runAns; rw [if_pos (.inl ha)]
    clear hl hL hx0 hx1 hn h0 h1
    go_enter Tryd.func46, Tryd.ntmps46
    go_wp2_with fail
    go_ret
    rw [HE.out]
    exact ⟨rfl, Below.refl _ _⟩
  · by_cases hb : x + (n : Int) ≤ code
    · have HE : Hid (runAns x n L code = 0) := by unfold Hid runAns; rw [if_pos (.inr hb)]
      clear hl hL hx0 hx1 hn h0 h1
      go_enter Tryd.func46, Tryd.ntmps46
      go_wp2_with fail
      go_ret
      rw [HE.out]
      exact ⟨rfl, Below.refl _ _⟩
    · obtain ⟨i, hi⟩ : ∃ i : Nat, code - x = (i : Int) := ⟨(code - x).toNat, by omega⟩
      have HE : Hid (runAns x n L code = L.getD i 0) := by unfold Hid runAns; rw [if_neg (by omega), hi, Int.toNat_natCast]
      have hcell := hl.cell (i := i) (by omega)
      have hin : (i : Int) < (n : Int) := by omega
      have hi0 : (0 : Int) ≤ (i : Int) := by omega
      have hw3 : wrap64 (code - x) = (i : Int) := by rw [hw2, hi]
      clear hw2
      generalize L.getD i 0 = y at *
      clear hl hL hx0 hx1 hn h0 h1 hi
      go_enter Tryd.func46, Tryd.ntmps46
      go_wp2_with fail
      go_ret
      rw [HE.out]
      exact ⟨rfl, Below.refl _ _⟩

theorem numsL_nonneg (s : ByteArray) (p k i : Nat) : 0 ≤ (numsL s p k).getD i 0 := by
  unfold numsL
  simp only [List.getD, List.getElem?_map]
  cases h : (List.range k)[i]? with
  | none => simp
  | some j => simpa using (numN_bound s (p + 2 * j) 2).1

set_option maxHeartbeats 1000000 in
theorem readRun_c (N : Nat) (g : Nat) (s : ByteArray) (w : World) (hN : N ≤ w.heap.size) (hc : w.cell? ⟨g, 0, none⟩ = some (.string s)) (hs : (s.size : Int) ≤ 140737488355328) :
    Calls Tryd.prog 33 #[.pointer (some ⟨g, 0, none⟩)] w (ReadPost N w) := by
  have HNN0 := Lib.hid hN
  clear hN
  have hmf : ∀ (fn : Fn) (first cap : Array Value) (w : World), (Instr.makeFunc fn first cap).run Tryd.prog w = .ok (.func fn first cap) w := fun _ _ _ _ => rfl
  obtain ⟨x, ex, HX⟩ := numOr_ex s 6 2
  obtain ⟨n, en, HN⟩ := numOr_ex s 8 2
  have HXB := Lib.hid (num16_bound HX.out)
  obtain ⟨k, rfl⟩ := Int.eq_ofNat_of_zero_le (num16_bound HN.out).1
  have HKB : Hid (k ≤ 65535) := by have := num16_bound HN.out; unfold Hid; omega
  have HC := Lib.hid hc
  have HS := Lib.hid hs
  have HBA : Hid (Below w.heap.size w (w.alloc (.cells #[.int .i64 x] 3))) := (Below.refl _ _).alloc (Nat.le_refl _) _
  have HBB : Hid (Below w.heap.size w ((w.alloc (.cells #[.int .i64 x] 3)).alloc (.cells #[.int .i64 (k : Int)] 3))) := HBA.out.alloc (by simp [go_sem]) _
  clear hc hs
  by_cases h1 : ex = 0
  · subst h1
    by_cases h2 : en = 0
    · subst h2
      by_cases h3 : 10 + 2 * k ≤ s.size
      · have HU := Lib.hid (u16s_yes g 10 k s _ (keepC HBB.out HC.out) HS.out (by have := HKB.out; omega) h3)
        have HM1 : Hid (((w.alloc (.cells #[.int .i64 x] 3)).alloc (.cells #[.int .i64 (k : Int)] 3)).cell? ⟨w.heap.size, 0, none⟩ = some (.int .i64 x)) := by unfold Hid; simp [go_sem]
        have HM2 : Hid (((w.alloc (.cells #[.int .i64 x] 3)).alloc (.cells #[.int .i64 (k : Int)] 3)).cell? ⟨w.heap.size + 1, 0, none⟩ = some (.int .i64 (k : Int))) := by unfold Hid; simp [go_sem]
        clear h3
        go_enter Tryd.func33, Tryd.ntmps33
        go_wp2_with fail
        refine (u16_c g 6 x 0 s w HC.out HS.out (by decide) HX).mono ?_
        rintro e w1 ⟨rfl, rfl⟩
        go_wp2_with fail
        refine (u16_c g 8 k 0 s _ (keepC HBA.out HC.out) HS.out (by decide) HN).mono ?_
        rintro e w1 ⟨rfl, rfl⟩
        go_wp2_with fail
        refine HU.out.mono ?_
        rintro e w2 ⟨rfl, hi, hb2⟩
        have HB2 := Lib.hid (HBB.out.trans (hb2.mono HBB.out.size))
        have HC1 := Lib.hid (keepC hb2 HM1.out)
        have HC2 := Lib.hid (keepC hb2 HM2.out)
        have HI := Lib.hid hi
        clear hi hb2 HU
        go_wp2_with fail
        go_ret2
        refine ⟨HB2.out.alloc HB2.out.size _, .inr ⟨_, fun code => runAns x k (numsL s 10 k) code, rfl, _, _, rfl, fun args w => by kernel_rfl, ?_⟩⟩
        intro w' hb' code h0 h1
        have hba := (Below.refl w2.heap.size w2).alloc (Nat.le_refl _) (.cells #[.slice (some ⟨w.heap.size + 1 + 1, 0, none⟩) k k] 43)
        have hi := HI.out
        rw [show ((w.alloc (.cells #[.int .i64 x] 3)).alloc (.cells #[.int .i64 (k : Int)] 3)).heap.size = w.heap.size + 1 + 1 by simp [go_sem]] at hi
        refine ⟨?_, run1_c w.heap.size (w.heap.size + 1) w2.heap.size (w.heap.size + 1 + 1) k x code (numsL s 10 k) w' (hb'.cell HNN0.out (keepC hba HC1.out)) (hb'.cell (Nat.le_trans HNN0.out (Nat.le_succ _)) (keepC hba HC2.out)) (hb'.cell (Nat.le_trans HNN0.out HB2.out.size) (by simp [go_sem])) (hb'.ints (by have := HNN0.out; omega) (hi.below hba)) (numsL_length _ _ _) HXB.out.1 HXB.out.2 HKB.out h0 h1⟩
        show 0 ≤ runAns x k (numsL s 10 k) code
        unfold runAns
        split
        · omega
        · exact numsL_nonneg _ _ _ _
      · have HU : Hid (Calls Tryd.prog 43 #[.pointer (some ⟨g, 0, none⟩), .int .i64 10, .int .i64 (k : Int)] ((w.alloc (.cells #[.int .i64 x] 3)).alloc (.cells #[.int .i64 (k : Int)] 3)) fun e w' => e = .returned (.tuple #[.slice none 0 0, .int .i64 21]) ∧ ((w.alloc (.cells #[.int .i64 x] 3)).alloc (.cells #[.int .i64 (k : Int)] 3)) = w') := by
          have hh : hasB s 10 (2 * (k : Int)) = false := by simp [hasB]; omega
          cases hq : hasB s 10 (k : Int)
          · exact u16s_no1 g 10 k s _ (keepC HBB.out HC.out) HS.out (by decide) hq
          · exact u16s_no2 g 10 k s _ (keepC HBB.out HC.out) HS.out (by decide) hq hh
        clear h3
        go_enter Tryd.func33, Tryd.ntmps33
        go_wp2_with fail
        refine (u16_c g 6 x 0 s w HC.out HS.out (by decide) HX).mono ?_
        rintro e w1 ⟨rfl, rfl⟩
        go_wp2_with fail
        refine (u16_c g 8 k 0 s _ (keepC HBA.out HC.out) HS.out (by decide) HN).mono ?_
        rintro e w1 ⟨rfl, rfl⟩
        go_wp2_with fail
        refine HU.out.mono ?_
        rintro e w2 ⟨rfl, rfl⟩
        go_wp2_with fail
        go_ret2
        exact ⟨HBB.out.alloc (by simp [go_sem]; omega) _, .inl ⟨51, by decide, rfl⟩⟩
    · go_enter Tryd.func33, Tryd.ntmps33
      go_wp2_with fail
      refine (u16_c g 6 x 0 s w HC.out HS.out (by decide) HX).mono ?_
      rintro e w1 ⟨rfl, rfl⟩
      go_wp2_with fail
      refine (u16_c g 8 k en s _ (keepC HBA.out HC.out) HS.out (by decide) HN).mono ?_
      rintro e w1 ⟨rfl, rfl⟩
      go_wp2_with fail
      go_ret2
      exact ⟨HBB.out, .inl ⟨51, by decide, rfl⟩⟩
  · go_enter Tryd.func33, Tryd.ntmps33
    go_wp2_with fail
    refine (u16_c g 6 x ex s w HC.out HS.out (by decide) HX).mono ?_
    rintro e w1 ⟨rfl, rfl⟩
    go_wp2_with fail
    go_ret2
    exact ⟨HBA.out, .inl ⟨51, by decide, rfl⟩⟩

end Go.Proofs.YtfbgddigedgpfaaDoor
