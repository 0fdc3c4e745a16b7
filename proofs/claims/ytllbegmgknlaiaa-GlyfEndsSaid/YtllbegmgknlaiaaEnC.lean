/-
  What Encode answers for the chapter's triangle.
-/
import Derived.Test.YtllbegmgknlaiaaEnB
namespace Go.Proofs.Ytllbegmgknlaiaa
open Go.RowKit Go.PlainAid
set_option linter.unusedSimpArgs false
set_option linter.unusedVariables false

/-- The triangle's bytes. -/
def encS : ByteArray := (((((((ByteArray.empty ++ twoB [1]) ++ twoB [0, 0, 0, 0]) ++ twoB [2]) ++ twoB [1]) ++ ⟨#[5]⟩) ++ ⟨#[1, 0, 1]⟩) ++ twoB [1, 8, -9]) ++ twoB [2, -6, 11]
theorem encS_eq : encS = ⟨#[0, 1, 0, 0, 0, 0, 0, 0, 0, 0, 0, 2, 0, 1, 5, 1, 0, 1, 0, 1, 0, 8, 255, 247, 0, 2, 255, 250, 0, 11]⟩ := by kernel_rfl
/-- What Encode answers. -/
def EncPost (w : World) (e : Ending) (w' : World) : Prop := ∃ g c, e = .returned (.tuple #[.slice (some ⟨g, 0, none⟩) 30 c, .int .i64 0]) ∧ OwnB w.heap.size w' g c encS ∧ Below w.heap.size w w'
theorem bytL_str {w : World} {g : Nat} {L : List Int} {s : ByteArray} (h : BytL w g L) (e : bytesL s = L) (hs : s.size ≤ 1000) : IsB w (some ⟨g, 0, none⟩) s.size s.size s := (show BytL w g (bytesL s) by rw [e]; exact h).isB (by omega)

set_option maxRecDepth 20000 in
set_option maxHeartbeats 4000000 in
theorem encode_c (g h c ch b5 : Nat) (w : World) (hc : w.cell? ⟨g, 0, none⟩ = some (.slice (some ⟨h, 0, none⟩) 3 ch)) (hl : Lies w h 0 (triK.flatMap clK)) (h5 : BytL w b5 [5]) :
    Calls Try.prog 9 #[.slice (some ⟨g, 0, none⟩) 1 c, .slice (some ⟨b5, 0, none⟩) 1 1] w (EncPost w) := by
  have HC := Lib.hid hc
  have HL := Lib.hid hl
  have H5 := Lib.hid h5
  clear hc hl h5
  go_enter Try.func9, Try.ntmps9
  go_wp2_with fail
  refine (writable_c g h c ch w HC.out (tri_of HL.out)).mono ?_
  rintro e w1 ⟨rfl, hb⟩
  have HB1 := Lib.hid hb
  clear hb
  go_wp2_with fail
  refine (withKnots_c g h c ch w1 (keepC HB1.out HC.out)).mono ?_
  rintro e w2 ⟨gf, cf, rfl, hcf, hb⟩
  have HB2 := Lib.hid (bel_next HB1.out hb)
  have HCF := Lib.hid hcf
  clear hb hcf
  go_wp2_with fail
  refine (tooMany_c gf cf _ ch w2 HCF.out).mono ?_
  rintro e w2' ⟨rfl, rfl⟩
  go_wp2_with fail
  refine (concat1_c gf h cf ch w2 HCF.out (HL.out.below HB2.out)).mono ?_
  rintro e w3 ⟨gk, ck, rfl, htk, hb⟩
  have HB3 := Lib.hid (bel_next HB2.out hb)
  have HCF3 := Lib.hid (keepC hb HCF.out)
  have HK3 := Lib.hid htk
  clear hb htk
  obtain ⟨N, HN⟩ : ∃ N, Hid (w3.heap.size = N) := ⟨_, rfl⟩
  have HBN : Hid (Below N w3 w3) := Below.refl _ _
  go_wp2_with fail
  have HBA : Hid (Below N w3 (w3.alloc (.cells #[.int .i64 1] 3))) := (Below.refl _ _).alloc (by rw [HN.out]; exact Nat.le_refl _) _
  refine (appNums_c N w3.heap.size none 0 1 1 ByteArray.empty [1] _ rfl (World.ownsRow_nil _ _ _ _) (intsAt_alloc w3 [1]).ins (by simp [Value.ownBlock]) (by decide) (by decide) (by rw [← HN.out]; simp) (by decide)).mono ?_
  rintro e w4 ⟨g4, c4, rfl, ho, hb⟩
  have HW4 := Lib.hid (HBA.out.trans hb)
  obtain ⟨s4, HS4⟩ : ∃ t, Hid (ByteArray.empty ++ twoB [1] = t) := ⟨_, rfl⟩
  rw [HS4.out] at ho ⊢
  have HO4 := Lib.hid ho
  have HZ4 : Hid (s4.size = 2) := by unfold Hid; rw [← HS4.out]; rfl
  have HM4 : Hid (N ≤ w4.heap.size) := by have := HW4.out.size; have := HN.out; unfold Hid; omega
  clear ho hb HBA
  have hmk := mk4 w4
  go_wp2_with fail
  clear hmk
  have HBA : Hid (Below N w3 (w4.alloc (.cells #[.int .i64 0, .int .i64 0, .int .i64 0, .int .i64 0] 3))) := HW4.out.alloc HM4.out _
  refine (appNums_c N w4.heap.size (some ⟨g4, 0, none⟩) c4 4 4 s4 [0, 0, 0, 0] _ rfl (own_below HO4.out ((Below.refl _ _).alloc (Nat.le_refl _) _)) (intsAt_alloc w4 [0, 0, 0, 0]).ins (by have := (owns_lt HO4.out).1; simp [Value.ownBlock]; omega) (by decide) (by have := HZ4.out; simp; omega) (by have := HM4.out; simp; omega) (by decide)).mono ?_
  rintro e w5 ⟨g5, c5, rfl, ho, hb⟩
  have HW5 := Lib.hid (HBA.out.trans hb)
  obtain ⟨s5, HS5⟩ : ∃ t, Hid (s4 ++ twoB [0, 0, 0, 0] = t) := ⟨_, rfl⟩
  have HZ5 : Hid (s5.size = 10) := by unfold Hid; rw [← HS5.out, ByteArray.size_append, HZ4.out]; rfl
  rw [HS5.out] at ho ⊢
  have HO5 := Lib.hid ho
  have HM5 : Hid (N ≤ w5.heap.size) := by have := HW5.out.size; have := HN.out; unfold Hid; omega
  clear ho hb HBA
  go_wp2_with fail
  refine (lastKnots_c gf cf _ ch w5 ((HW5.out.cell (p := ⟨gf, 0, none⟩) (by have := World.block_lt_of_cell? w3 _ HCF3.out; rw [HN.out] at this; exact this)).trans HCF3.out)).mono ?_
  rintro e w5' ⟨rfl, hi, hb⟩
  have HI5 := Lib.hid hi
  have HV5 := Lib.hid (bel_to HW5.out hb HM5.out)
  have HP5 := Lib.hid (own_below HO5.out hb)
  have HQ5 := Lib.hid hb.size
  clear hi hb
  go_wp2_with fail
  refine (appNums_c N w5.heap.size (some ⟨g5, 0, none⟩) c5 1 1 s5 [2] w5' rfl HP5.out HI5.out.ins (by have := (owns_lt HO5.out).1; simp [Value.ownBlock]; omega) (by decide) (by have := HZ5.out; simp; omega) (by have := HM5.out; have := HQ5.out; omega) (by decide)).mono ?_
  rintro e w6 ⟨g6, c6, rfl, ho, hb⟩
  have HW6 := Lib.hid (HV5.out.trans hb)
  obtain ⟨s6, HS6⟩ : ∃ t, Hid (s5 ++ twoB [2] = t) := ⟨_, rfl⟩
  have HZ6 : Hid (s6.size = 12) := by unfold Hid; rw [← HS6.out, ByteArray.size_append, HZ5.out]; rfl
  rw [HS6.out] at ho ⊢
  have HO6 := Lib.hid ho
  have HM6 : Hid (N ≤ w6.heap.size) := by have := HW6.out.size; have := HN.out; unfold Hid; omega
  clear ho hb
  go_wp2_with fail
  have HBA : Hid (Below N w3 (w6.alloc (.cells #[.int .i64 1] 3))) := HW6.out.alloc HM6.out _
  refine (appNums_c N w6.heap.size (some ⟨g6, 0, none⟩) c6 1 1 s6 [1] _ rfl (own_below HO6.out ((Below.refl _ _).alloc (Nat.le_refl _) _)) (intsAt_alloc w6 [1]).ins (by have := (owns_lt HO6.out).1; simp [Value.ownBlock]; omega) (by decide) (by have := HZ6.out; simp; omega) (by have := HM6.out; simp; omega) (by decide)).mono ?_
  rintro e w7 ⟨g7, c7, rfl, ho, hb⟩
  have HW7 := Lib.hid (HBA.out.trans hb)
  obtain ⟨s7, HS7⟩ : ∃ t, Hid (s6 ++ twoB [1] = t) := ⟨_, rfl⟩
  have HZ7 : Hid (s7.size = 14) := by unfold Hid; rw [← HS7.out, ByteArray.size_append, HZ6.out]; rfl
  rw [HS7.out] at ho ⊢
  have HO7 := Lib.hid ho
  have HM7 : Hid (N ≤ w7.heap.size) := by have := HW7.out.size; have := HN.out; unfold Hid; omega
  have H57 : Hid (IsB w7 (some ⟨b5, 0, none⟩) 1 1 ⟨#[5]⟩) := by
    have h3 := H5.out.below HB3.out
    have h7 : BytL w7 b5 [5] := h3.kept HW7.out (by have := h3.lt; rw [HN.out] at this; exact this)
    exact bytL_str (s := ⟨#[5]⟩) h7 (by kernel_rfl) (by decide)
  clear ho hb HBA
  go_wp2_with (at_builtin; refine wpList_add rfl _ _ rfl w7 N g7 c7 s7 ⟨#[5]⟩ (some ⟨b5, 0, none⟩) 1 s7.size 1 rfl rfl rfl rfl HO7.out H57.out (by have := HZ7.out; rw [this]; decide) HM7.out ?_; intro g8 c8 w8 o8 k8 hat8)
  have HW8 := Lib.hid (grown_below HW7.out k8 HM7.out (owns_lt HO7.out).2)
  obtain ⟨s8, HS8⟩ : ∃ t, Hid (s7 ++ ⟨#[5]⟩ = t) := ⟨_, rfl⟩
  have HZ8 : Hid (s8.size = 15) := by unfold Hid; rw [← HS8.out, ByteArray.size_append, HZ7.out]; rfl
  have HE8 : Hid (s7.size + 1 = s8.size) := by unfold Hid; rw [HZ7.out, HZ8.out]
  rw [HS8.out] at o8
  have HO8 := Lib.hid o8
  have HM8 : Hid (N ≤ w8.heap.size) := by have := HW8.out.size; have := HN.out; unfold Hid; omega
  rw [HE8.out]
  clear o8 k8 hat8
  go_wp2_with fail
  have HT8 : Hid (Tri w8 gk) := by
    have hlt := HK3.out.lt
    rw [HN.out] at hlt
    have e (j : Nat) (v : Value) (hv : w3.cell? ⟨gk, j, none⟩ = some v) : w8.cell? ⟨gk, j, none⟩ = some v := (HW8.out.cell (p := ⟨gk, j, none⟩) hlt).trans hv
    have t := HK3.out
    exact ⟨e _ _ t.c0, e _ _ t.c1, e _ _ t.c2, e _ _ t.c3, e _ _ t.c4, e _ _ t.c5, e _ _ t.c6, e _ _ t.c7, e _ _ t.c8⟩
  refine (flagsOf_c gk ck w8 HT8.out).mono ?_
  rintro e w8' ⟨rfl, hi, hb⟩
  have HV8 := Lib.hid (bel_to HW8.out hb HM8.out)
  have HP8 := Lib.hid (own_below HO8.out hb)
  have HT9 := Lib.hid (HT8.out.below hb)
  have HM8' : Hid (N ≤ w8'.heap.size) := by have := hb.size; have := HM8.out; unfold Hid; omega
  have HI8 : Hid (IsB w8' (some ⟨w8.heap.size, 0, none⟩) 3 3 ⟨#[1, 0, 1]⟩) := bytL_str (s := ⟨#[1, 0, 1]⟩) hi (by kernel_rfl) (by decide)
  clear hi hb
  go_wp2_with (at_builtin; refine wpList_add rfl _ _ rfl w8' N g8 c8 s8 ⟨#[1, 0, 1]⟩ (some ⟨w8.heap.size, 0, none⟩) 3 s8.size 3 rfl rfl rfl rfl HP8.out HI8.out (by have := HZ8.out; rw [this]; decide) HM8'.out ?_; intro g9 c9 w9 o9 k9 hat9)
  have HW9 := Lib.hid (grown_below HV8.out k9 HM8'.out (owns_lt HP8.out).2)
  obtain ⟨s9, HS9⟩ : ∃ t, Hid (s8 ++ ⟨#[1, 0, 1]⟩ = t) := ⟨_, rfl⟩
  have HZ9 : Hid (s9.size = 18) := by unfold Hid; rw [← HS9.out, ByteArray.size_append, HZ8.out]; rfl
  have HE9 : Hid (s8.size + 3 = s9.size) := by unfold Hid; rw [HZ8.out, HZ9.out]
  rw [HS9.out] at o9
  have HO9 := Lib.hid o9
  have HM9 : Hid (N ≤ w9.heap.size) := by have := HW9.out.size; have := HN.out; unfold Hid; omega
  have HT9' : Hid (Tri w9 gk) := by
    have hlt := HK3.out.lt
    rw [HN.out] at hlt
    have e (j : Nat) (v : Value) (hv : w3.cell? ⟨gk, j, none⟩ = some v) : w9.cell? ⟨gk, j, none⟩ = some v := (HW9.out.cell (p := ⟨gk, j, none⟩) hlt).trans hv
    have t := HK3.out
    exact ⟨e _ _ t.c0, e _ _ t.c1, e _ _ t.c2, e _ _ t.c3, e _ _ t.c4, e _ _ t.c5, e _ _ t.c6, e _ _ t.c7, e _ _ t.c8⟩
  rw [HE9.out]
  clear o9 k9 hat9 HT9
  go_wp2_with fail
  refine (diff1_c gk ck w9 HT9'.out).mono ?_
  rintro e w9' ⟨rfl, hi, hb⟩
  have HI9 := Lib.hid hi
  have HV9 := Lib.hid (bel_to HW9.out hb HM9.out)
  have HP9 := Lib.hid (own_below HO9.out hb)
  have HQ9 := Lib.hid hb.size
  clear hi hb
  go_wp2_with fail
  refine (appNums_c N w9.heap.size (some ⟨g9, 0, none⟩) c9 3 3 s9 [1, 8, -9] w9' rfl HP9.out HI9.out.ins (by have := (owns_lt HO9.out).1; simp [Value.ownBlock]; omega) (by decide) (by have := HZ9.out; simp; omega) (by have := HM9.out; have := HQ9.out; omega) (by decide)).mono ?_
  rintro e w10 ⟨g10, c10, rfl, ho, hb⟩
  have HW10 := Lib.hid (HV9.out.trans hb)
  obtain ⟨s10, HS10⟩ : ∃ t, Hid (s9 ++ twoB [1, 8, -9] = t) := ⟨_, rfl⟩
  have HZ10 : Hid (s10.size = 24) := by unfold Hid; rw [← HS10.out, ByteArray.size_append, HZ9.out]; rfl
  rw [HS10.out] at ho ⊢
  have HO10 := Lib.hid ho
  have HM10 : Hid (N ≤ w10.heap.size) := by have := HW10.out.size; have := HN.out; unfold Hid; omega
  have HT10' : Hid (Tri w10 gk) := by
    have hlt := HK3.out.lt
    rw [HN.out] at hlt
    have e (j : Nat) (v : Value) (hv : w3.cell? ⟨gk, j, none⟩ = some v) : w10.cell? ⟨gk, j, none⟩ = some v := (HW10.out.cell (p := ⟨gk, j, none⟩) hlt).trans hv
    have t := HK3.out
    exact ⟨e _ _ t.c0, e _ _ t.c1, e _ _ t.c2, e _ _ t.c3, e _ _ t.c4, e _ _ t.c5, e _ _ t.c6, e _ _ t.c7, e _ _ t.c8⟩
  clear ho hb
  go_wp2_with fail
  refine (diff2_c gk ck w10 HT10'.out).mono ?_
  rintro e w10' ⟨rfl, hi, hb⟩
  have HI10 := Lib.hid hi
  have HV10 := Lib.hid (bel_to HW10.out hb HM10.out)
  have HP10 := Lib.hid (own_below HO10.out hb)
  have HQ10 := Lib.hid hb.size
  clear hi hb
  go_wp2_with fail
  refine (appNums_c N w10.heap.size (some ⟨g10, 0, none⟩) c10 3 3 s10 [2, -6, 11] w10' rfl HP10.out HI10.out.ins (by have := (owns_lt HO10.out).1; simp [Value.ownBlock]; omega) (by decide) (by have := HZ10.out; simp; omega) (by have := HM10.out; have := HQ10.out; omega) (by decide)).mono ?_
  rintro e w11 ⟨g11, c11, rfl, ho, hb⟩
  have HW11 := Lib.hid (HV10.out.trans hb)
  obtain ⟨s11, HS11⟩ : ∃ t, Hid (s10 ++ twoB [2, -6, 11] = t) := ⟨_, rfl⟩
  have HZ11 : Hid (s11.size = 30) := by unfold Hid; rw [← HS11.out, ByteArray.size_append, HZ10.out]; rfl
  rw [HS11.out] at ho ⊢
  have HO11 := Lib.hid ho
  have HM11 : Hid (N ≤ w11.heap.size) := by have := HW11.out.size; have := HN.out; unfold Hid; omega
  clear ho hb
  have HFin : Hid (s11 = encS) := by unfold Hid; rw [← HS11.out, ← HS10.out, ← HS9.out, ← HS8.out, ← HS7.out, ← HS6.out, ← HS5.out, ← HS4.out]; rfl
  have HBF : Hid (Below w.heap.size w w11) := HB3.out.trans (HW11.out.mono (by rw [← HN.out]; exact HB3.out.size))
  have HOF : Hid (OwnB w.heap.size w11 g11 c11 encS) := by
    have h1 := own_base HO11.out (B' := w.heap.size) (by rw [← HN.out]; exact HB3.out.size)
    rw [HFin.out] at h1
    exact h1
  rw [HZ11.out]
  go_wp2_with fail
  go_ret2
  exact ⟨g11, c11, rfl, HOF.out, HBF.out⟩

end Go.Proofs.Ytllbegmgknlaiaa
