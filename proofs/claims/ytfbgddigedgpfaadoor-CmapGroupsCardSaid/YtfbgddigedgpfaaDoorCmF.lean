/-
  What the closure answers that finds a glyph in forms 12 and 13, and what readGroups answers.
-/
import Derived.Test.YtfbgddigedgpfaaDoorCmE
namespace Go.Proofs.YtfbgddigedgpfaaDoor
open Go.RowKit Go.PlainAid
set_option linter.unusedSimpArgs false
set_option linter.unusedVariables false

/-- What lies in the blocks from N on is kept. -/
def Keeps (N : Nat) (w w' : World) : Prop := w.heap.size ≤ w'.heap.size ∧ ∀ b, N ≤ b → b < w.heap.size → w'.heap[b]? = w.heap[b]?
theorem keeps_below {w w' : World} (N : Nat) (h : Below w.heap.size w w') : Keeps N w w' := ⟨h.size, fun b _ hb => h.block b hb⟩
theorem Keeps.trans {N : Nat} {w w' w'' : World} (h : Keeps N w w') (k : Keeps N w' w'') : Keeps N w w'' :=
  ⟨Nat.le_trans h.1 k.1, fun b hN hb => by rw [k.2 b hN (Nat.lt_of_lt_of_le hb h.1), h.2 b hN hb]⟩
theorem Keeps.cell {N : Nat} {w w' : World} (h : Keeps N w w') {b o : Nat} {v : Value} (hN : N ≤ b) (hc : w.cell? ⟨b, o, none⟩ = some v) : w'.cell? ⟨b, o, none⟩ = some v := by
  have hlt := World.block_lt_of_cell? w _ hc
  have := h.2 b hN hlt
  simp only [World.cell?, World.cells?, this] at hc ⊢
  exact hc
theorem Keeps.flat {N : Nat} {w w' : World} (h : Keeps N w w') {g : Nat} {T : TypeId} {L : List Int} (hN : N ≤ g) (hf : FlatAt w g T L) : FlatAt w' g T L := by
  unfold FlatAt; rw [h.2 g hN hf.lt]; exact hf
theorem Keeps.ints {N : Nat} {w w' : World} (h : Keeps N w w') {g : Nat} {L : List Int} (hN : N ≤ g) (hf : IntsAt w g L) : IntsAt w' g L := by
  unfold IntsAt; rw [h.2 g hN hf.lt]; exact hf
/-- The value is a function that finds glyphs, as long as what lies in the blocks from N on is kept: of each code the answer, which isn't below 0. -/
def FindIs (N : Nat) (w : World) (v : Value) (ans : Int → Int) : Prop := ∃ F caps, v = .func (.func F) #[] caps ∧ Enters F ∧ ∀ w', Keeps N w w' → ∀ code, 0 ≤ code → code ≤ 1114111 →
  0 ≤ ans code ∧ Calls Tryd.prog F (#[.int .i64 code] ++ caps) w' fun e w'' => e = .returned (.int .i64 (ans code)) ∧ Below w'.heap.size w' w''
theorem FindIs.kept {N : Nat} {w w' : World} {v : Value} {ans : Int → Int} (h : FindIs N w v ans) (hb : Keeps N w w') : FindIs N w' v ans := by
  obtain ⟨F, caps, h1, h2, h3⟩ := h
  exact ⟨F, caps, h1, h2, fun w'' hb' code h0 hc => h3 w'' (hb.trans hb') code h0 hc⟩

/-- Which span is the first that doesn't end below the code: n spans from the j-th on. -/
def endIx (f : Nat → Int) (code : Int) : Nat → Nat → Nat
  | 0, j => j
  | n + 1, j => if code ≤ f (3 * j + 1) then j else endIx f code n (j + 1)
theorem endIx_of (f : Nat → Int) (code : Int) : ∀ n j i, j ≤ i → i ≤ j + n → (∀ m, j ≤ m → m < i → f (3 * m + 1) < code) → (i < j + n → code ≤ f (3 * i + 1)) → endIx f code n j = i
  | 0, j, i, h1, h2, _, _ => by rw [endIx]; omega
  | n + 1, j, i, h1, h2, h3, h4 => by
    rw [endIx]
    by_cases e : i = j
    · subst e; rw [if_pos (h4 (by omega))]
    · rw [if_neg (by have := h3 j (Nat.le_refl _) (by omega); omega)]
      exact endIx_of f code n (j + 1) i (by omega) (by omega) (fun m hm => h3 m (by omega)) (fun h => h4 (by omega))
theorem AtEnd.ix {k : Nat} {f : Nat → Int} {code : Int} {i : Nat} (h : AtEnd k f code i) : endIx f code k 0 = i :=
  endIx_of f code k 0 i (Nat.zero_le _) (by have := h.1; omega) (fun m _ hm => h.2.1 m hm) (fun hi => h.2.2 i (Nat.le_refl _) (by omega))

/-- The glyph that groups give a code. -/
def grpAns (rise : Bool) (k : Nat) (f : Nat → Int) (code : Int) : Int :=
  if inSp k f code (endIx f code k 0) = true then (if rise = true then f (3 * endIx f code k 0 + 2) + code - f (3 * endIx f code k 0) else f (3 * endIx f code k 0 + 2)) else 0

set_option maxHeartbeats 1000000 in
theorem group1_c (gs gr : Nat) (a : Option Addr) (k : Nat) (f : Nat → Int) (rise : Bool) (code : Int) (w : World) (hcs : w.cell? ⟨gs, 0, none⟩ = some (.slice a k k)) (hcr : w.cell? ⟨gr, 0, none⟩ = some (.bool rise))
    (hs : IsSp w a k f) (hk : k ≤ 1048577) (hr : Rising k f) (hf : ∀ m, 0 ≤ f m ∧ f m ≤ 4294967296) (h0 : 0 ≤ code) (h1 : code ≤ 1114111) :
    Calls Tryd.prog 49 #[.int .i64 code, .pointer (some ⟨gs, 0, none⟩), .pointer (some ⟨gr, 0, none⟩)] w fun e w' => e = .returned (.int .i64 (grpAns rise k f code)) ∧ Below w.heap.size w w' := by
  have HCS := Lib.hid hcs
  have HCR := Lib.hid hcr
  have HS := Lib.hid hs
  have HF := Lib.hid hf
  have H01 := Lib.hid (And.intro h0 h1)
  have HC := Lib.hid (spanOf_c a k f code w hs hk hr)
  clear hcr hs hk hr hf h0 h1
  go_enter Tryd.func49, Tryd.ntmps49
  go_wp2_with fail
  refine HC.out.mono ?_
  rintro e w1 ⟨i, rfl, hi, hb⟩
  have hcs1 := keepC hb HCS.out
  have hcr1 := keepC hb HCR.out
  have HB := Lib.hid hb
  have HIX := Lib.hid hi.ix
  clear hcs HC hi
  cases hin : inSp k f code i
  · have HE : Hid (grpAns rise k f code = 0) := by unfold Hid grpAns; rw [HIX.out, hin]; rfl
    clear hb
    go_wp2_with fail
    go_ret
    rw [HE.out]
    exact ⟨rfl, HB.out⟩
  · have hik : i < k ∧ f (3 * i) ≤ code := by simpa [inSp] using hin
    obtain ⟨g, rfl, c0, c1, c2⟩ := (HS.out.below hb).cells hik.1
    have hik' : (i : Int) < (k : Int) := by omega
    have hi0 : (0 : Int) ≤ (i : Int) := by omega
    obtain ⟨x0, HX0⟩ : ∃ x0, Hid (f (3 * i) = x0) := ⟨_, rfl⟩
    obtain ⟨x2, HX2⟩ : ∃ x2, Hid (f (3 * i + 2) = x2) := ⟨_, rfl⟩
    rw [HX0.out] at c0
    rw [HX2.out] at c2
    have hx0 := HF.out (3 * i)
    have hx2 := HF.out (3 * i + 2)
    rw [HX0.out] at hx0
    rw [HX2.out] at hx2
    have h01 := H01.out
    clear hb c1 hik
    cases rise
    · have HE : Hid (grpAns false k f code = x2) := by unfold Hid grpAns; rw [HIX.out, hin, ← HX2.out]; rfl
      clear hx0 hx2 h01
      go_wp2_with fail
      go_ret
      rw [HE.out]
      exact ⟨rfl, HB.out⟩
    · have HE : Hid (grpAns true k f code = x2 + code - x0) := by unfold Hid grpAns; rw [HIX.out, hin, ← HX2.out, ← HX0.out]; rfl
      have hw1 : IntKind.i64.wrap (x2 + code) = x2 + code := IntWalk.i64_in _ (by omega)
      have hw2 : IntKind.i64.wrap (x2 + code - x0) = x2 + code - x0 := IntWalk.i64_in _ (by omega)
      clear hx0 hx2 h01
      go_wp2_with fail
      go_quiet (fail)
      go_wp2_with fail
      go_ret
      rw [HE.out]
      exact ⟨rfl, bel_drewN HB.out _⟩

theorem rising_of {s : ByteArray} {p z k : Nat} {tell : ByteArray → Told} (h : ∀ j, j < k → spOk s p z tell j) (ht : ∀ r, (tell r).ok = true → (tell r).a ≤ (tell r).b) : Rising k (spF s p z tell) := by
  intro i j hij hjk
  induction j with
  | zero => omega
  | succ n ih =>
    have h1 := h (n + 1) hjk
    have h2 := h1.2.2
    have h3 := ht _ h1.2.1
    have h4 : ahead (spF s p z tell) (n + 1) = spF s p z tell (3 * n + 1) := rfl
    have h5 := spF1 s p z tell (n + 1)
    rw [h5]
    by_cases e : i = n
    · subst e; omega
    · have := ih (by omega) (by omega); omega
theorem tellG_le (r : ByteArray) (h : (tellG r).ok = true) : (tellG r).a ≤ (tellG r).b := by
  simp [tellG] at h ⊢; exact h.1
theorem num_fst {s : ByteArray} {p n : Int} : ∃ x f, numOr s p n = (x, f) ∧ (numOr s p n).1 = x := ⟨_, _, rfl, rfl⟩
theorem num32_fst (s : ByteArray) (p : Int) : 0 ≤ (numOr s p 4).1 ∧ (numOr s p 4).1 ≤ 4294967295 := num32_bound (f := (numOr s p 4).2) rfl
theorem num24_fst (s : ByteArray) (p : Int) : 0 ≤ (numOr s p 3).1 ∧ (numOr s p 3).1 ≤ 16777215 := num24_bound (f := (numOr s p 3).2) rfl
theorem num16_fst (s : ByteArray) (p : Int) : 0 ≤ (numOr s p 2).1 ∧ (numOr s p 2).1 ≤ 65535 := num16_bound (f := (numOr s p 2).2) rfl
theorem num8_fst (s : ByteArray) (p : Int) : 0 ≤ (numOr s p 1).1 ∧ (numOr s p 1).1 ≤ 255 := num8_bound (f := (numOr s p 1).2) rfl
theorem spF_bound {s : ByteArray} {p z : Nat} {tell : ByteArray → Told} (ht : ∀ r, (0 ≤ (tell r).a ∧ (tell r).a ≤ 4294967296) ∧ (0 ≤ (tell r).b ∧ (tell r).b ≤ 4294967296) ∧ (0 ≤ (tell r).c ∧ (tell r).c ≤ 4294967296)) (m : Nat) : 0 ≤ spF s p z tell m ∧ spF s p z tell m ≤ 4294967296 := by
  unfold spF
  split
  · exact (ht _).1
  · split
    · exact (ht _).2.1
    · exact (ht _).2.2
theorem tellG_bound (r : ByteArray) : (0 ≤ (tellG r).a ∧ (tellG r).a ≤ 4294967296) ∧ (0 ≤ (tellG r).b ∧ (tellG r).b ≤ 4294967296) ∧ (0 ≤ (tellG r).c ∧ (tellG r).c ≤ 4294967296) := by
  have h1 := num32_fst r 0
  have h2 := num32_fst r 4
  have h3 := num32_fst r 8
  simp only [tellG]
  omega
theorem grp_nonneg {rise : Bool} {k : Nat} {f : Nat → Int} {code : Int} (hf : ∀ m, 0 ≤ f m ∧ f m ≤ 4294967296) : 0 ≤ grpAns rise k f code := by
  unfold grpAns
  split
  · rename_i h
    simp [inSp] at h
    have h1 := hf (3 * endIx f code k 0 + 2)
    split <;> omega
  · omega

/-- Are the groups right? -/
def grpGood (s : ByteArray) : Prop := (numOr s 12 4).2 = 0 ∧ (numOr s 12 4).1 ≤ 4096 ∧ ∀ j, j < (numOr s 12 4).1.toNat → spOk s 16 12 tellG j
/-- What readGroups answers. -/
def GroupsPost (N : Nat) (s : ByteArray) (rise : Bool) (w : World) (e : Ending) (w' : World) : Prop :=
  Below w.heap.size w w' ∧ ((¬ grpGood s ∧ ∃ x, x ≠ 0 ∧ e = .returned (.tuple #[.nilFunc, .int .i64 x])) ∨
    (grpGood s ∧ ∃ v, e = .returned (.tuple #[v, .int .i64 0]) ∧ FindIs N w' v (grpAns rise (numOr s 12 4).1.toNat (spF s 16 12 tellG))))

set_option maxHeartbeats 1000000 in
theorem readGroups_c (N : Nat) (g : Nat) (s : ByteArray) (rise : Bool) (w : World) (hN : N ≤ w.heap.size) (hc : w.cell? ⟨g, 0, none⟩ = some (.string s)) (hs : (s.size : Int) ≤ 140737488355328) :
    Calls Tryd.prog 34 #[.pointer (some ⟨g, 0, none⟩), .bool rise] w (GroupsPost N s rise w) := by
  have HNN0 := Lib.hid hN
  clear hN
  have hb0 := (Below.refl w.heap.size w).alloc (Nat.le_refl _) (.cells #[.bool rise] 4)
  have HC := Lib.hid (keepC hb0 hc)
  have HS := Lib.hid hs
  have HB0 := Lib.hid hb0
  have HR0 : Hid ((w.alloc (.cells #[.bool rise] 4)).cell? ⟨w.heap.size, 0, none⟩ = some (.bool rise)) := by unfold Hid; simp [go_sem]
  obtain ⟨n, en, HN⟩ := numOr_ex s 12 4
  have HG : Hid (grpGood s ↔ (en = 0 ∧ n ≤ 4096 ∧ ∀ j, j < n.toNat → spOk s 16 12 tellG j)) := by unfold Hid grpGood; rw [HN.out]
  have HNN : Hid ((numOr s 12 4).1.toNat = n.toNat) := by unfold Hid; rw [HN.out]
  have HNB := Lib.hid (num32_bound HN.out)
  clear hc hs hb0
  by_cases h1 : en = 0
  · subst h1
    by_cases h2 : 4096 < n
    · have HX : Hid (¬ grpGood s) := fun h => by have := (HG.out.1 h).2.1; omega
      go_enter Tryd.func34, Tryd.ntmps34
      go_wp2_with fail
      refine (u32_c g 12 n 0 s _ HC.out HS.out (by decide) HN).mono ?_
      rintro e w1 ⟨rfl, rfl⟩
      go_wp2_with fail
      go_ret2
      exact ⟨HB0.out, .inl ⟨HX.out, 53, by decide, rfl⟩⟩
    · obtain ⟨k, rfl⟩ := Int.eq_ofNat_of_zero_le HNB.out.1
      rw [Int.toNat_natCast] at HG HNN
      have HK : Hid (k ≤ 4096) := by unfold Hid; omega
      have HSP := Lib.hid (readSpans_c 48 12 tellG tellGroup_c g 16 k s (w.alloc (.cells #[.bool rise] 4)) HC.out HS.out (by decide) HK.out (by decide))
      have hmf : ∀ (fn : Fn) (first cap : Array Value) (w : World), (Instr.makeFunc fn first cap).run Tryd.prog w = .ok (.func fn first cap) w := fun _ _ _ _ => rfl
      go_enter Tryd.func34, Tryd.ntmps34
      go_wp2_with fail
      refine (u32_c g 12 k 0 s _ HC.out HS.out (by decide) HN).mono ?_
      rintro e w1 ⟨rfl, rfl⟩
      go_wp2_with fail
      refine HSP.out.mono ?_
      rintro e w2 ⟨hb2, ⟨hno, rfl⟩ | ⟨hok, gg, hgg, rfl, hfl⟩⟩
      · have HX : Hid (¬ grpGood s) := fun h => hno (HG.out.1 h).2.2
        have HB2 := Lib.hid (HB0.out.trans (hb2.mono HB0.out.size))
        have hz2 : w.heap.size < w2.heap.size := by have := hb2.size; simp [go_sem] at this; omega
        clear hb2 hno
        go_wp2_with fail
        go_ret2
        refine ⟨HB2.out.alloc HB2.out.size _, .inl ⟨HX.out, 51, by decide, rfl⟩⟩
      · have HX : Hid (grpGood s) := HG.out.2 ⟨by first | rfl | trivial, by have := HK.out; omega, hok⟩
        have HB2 := Lib.hid (HB0.out.trans (hb2.mono HB0.out.size))
        have HR2 := Lib.hid (keepC hb2 HR0.out)
        have HFL := Lib.hid hfl
        have HOK := Lib.hid hok
        have HGG : Hid (N ≤ gg) := by have h2 : w.heap.size + 1 ≤ gg := by simpa [go_sem] using hgg
                                      have := HNN0.out; unfold Hid; omega
        have HW2 : Hid (N ≤ w2.heap.size) := by have := HNN0.out; have := HB2.out.size; unfold Hid; omega
        clear hb2 hok hfl hgg
        go_wp2_with fail
        go_ret2
        refine ⟨HB2.out.alloc HB2.out.size _, .inr ⟨HX.out, _, rfl, ?_⟩⟩
        rw [HNN.out]
        refine ⟨_, _, rfl, fun args w => by kernel_rfl, ?_⟩
        intro w' hb' code h0 h1
        have hba := (Below.refl w2.heap.size w2).alloc (Nat.le_refl _) (.cells #[.slice (some ⟨gg, 0, none⟩) k k] 48)
        exact ⟨grp_nonneg (spF_bound tellG_bound), group1_c w2.heap.size w.heap.size (some ⟨gg, 0, none⟩) k _ rise code w' (hb'.cell HW2.out (by simp [go_sem])) (hb'.cell HNN0.out (keepC hba HR2.out)) (.inr ⟨gg, rfl, hb'.flat HGG.out (HFL.out.below hba)⟩) (by have := HK.out; omega) (rising_of HOK.out tellG_le) (spF_bound tellG_bound) h0 h1⟩
  · have HX : Hid (¬ grpGood s) := fun h => h1 (HG.out.1 h).1
    go_enter Tryd.func34, Tryd.ntmps34
    go_wp2_with fail
    refine (u32_c g 12 n en s _ HC.out HS.out (by decide) HN).mono ?_
    rintro e w1 ⟨rfl, rfl⟩
    go_wp2_with fail
    go_ret2
    exact ⟨HB0.out, .inl ⟨HX.out, 51, by decide, rfl⟩⟩

end Go.Proofs.YtfbgddigedgpfaaDoor
