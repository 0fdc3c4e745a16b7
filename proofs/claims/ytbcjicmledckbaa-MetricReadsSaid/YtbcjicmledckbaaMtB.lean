/-
  What Table of package sfnt and need of package metric answer, of any font in memory.
-/
import Derived.Test.YtbcjicmledckbaaMtA
namespace Go.Proofs.Ytbcjicmledckbaa
open Go.RowKit Go.PlainAid
set_option linter.unusedSimpArgs false
set_option linter.unusedVariables false

/-- A new view of these bytes, or none. -/
def TabPost (B : Nat) (w : World) (v : Option ByteArray) (e : Ending) (w' : World) : Prop :=
  match v with
  | none => e = .returned (.tuple #[.pointer none, .bool false]) ∧ Below B w w'
  | some b => ∃ gv, e = .returned (.tuple #[.pointer (some ⟨gv, 0, none⟩), .bool true]) ∧ w'.cell? ⟨gv, 0, none⟩ = some (.string b) ∧ w.heap.size ≤ gv ∧ Below B w w'

theorem tabOf_skip {l : List Row} {s : ByteArray} {T : List UInt8} {k : Nat} (h : ∀ r ∈ l.take k, (r.tag.toList == T) = false) {r : Row} (hr : l[k]? = some r) (ht : (r.tag.toList == T) = true) : tabOf l s T = some (s.extract r.place.toNat (r.place.toNat + r.len.toNat)) := by
  unfold tabOf
  have hk : k < l.length := (List.getElem?_eq_some_iff.1 hr).1
  have e : l = l.take k ++ r :: l.drop (k + 1) := by
    have := List.getElem?_eq_some_iff.1 hr
    obtain ⟨_, h2⟩ := this
    rw [← h2]; simp
  rw [e, List.find?_append, List.find?_eq_none.2 (by intro x hx; simp [h x hx])]
  simp [List.find?, ht]
theorem tabOf_none {l : List Row} {s : ByteArray} {T : List UInt8} (h : ∀ r ∈ l, (r.tag.toList == T) = false) : tabOf l s T = none := by
  unfold tabOf
  rw [List.find?_eq_none.2 (by intro x hx; simp [h x hx])]

theorem fits_bound {s : ByteArray} {r : Row} (h : hasB s r.place r.len = true) : ∃ p n : Nat, r.place = p ∧ r.len = n ∧ p + n ≤ s.size := by
  simp [hasB] at h
  exact ⟨r.place.toNat, r.len.toNat, by omega, by omega, by omega⟩

theorem bool_toList (a b : ByteArray) (h : (a.toList == b.toList) = true) : a.toList = b.toList := by simpa using h

theorem tabPost_none {B : Nat} {w w' : World} {v : Option ByteArray} (hv : v = none) (hb : Below B w w') : TabPost B w v (.returned (.tuple #[.pointer none, .bool false])) w' := by
  subst hv; exact ⟨rfl, hb⟩
theorem tabPost_some {B : Nat} {w w' : World} {v : Option ByteArray} {b : ByteArray} {gv : Nat} (hv : v = some b) (hc : w'.cell? ⟨gv, 0, none⟩ = some (.string b)) (hs : w.heap.size ≤ gv) (hb : Below B w w') : TabPost B w v (.returned (.tuple #[.pointer (some ⟨gv, 0, none⟩), .bool true])) w' := by
  subst hv; exact ⟨gv, rfl, hc, hs, hb⟩

theorem cut_held {wr w6 : World} {tg t : ByteArray} {p n gf gv : Nat} (h : w6 = (wr.alloc (.cells #[.string tg, .int .i64 p, .int .i64 n] 64)).drew.alloc (.cells #[.string t] 87))
    (g : (wr.alloc (.cells #[.string tg, .int .i64 p, .int .i64 n] 64)).cell? ⟨gf, 2, none⟩ = some (.pointer (some ⟨gv, 0, none⟩))) :
    w6.cell? ⟨gf, 2, none⟩ = some (.pointer (some ⟨gv, 0, none⟩)) ∧ w6.cell? ⟨wr.heap.size, 1, none⟩ = some (.int .i64 p) ∧ w6.cell? ⟨wr.heap.size, 2, none⟩ = some (.int .i64 n) := by
  subst h
  have hb : Below (wr.alloc (.cells #[.string tg, .int .i64 p, .int .i64 n] 64)).heap.size (wr.alloc (.cells #[.string tg, .int .i64 p, .int .i64 n] 64)) ((wr.alloc (.cells #[.string tg, .int .i64 p, .int .i64 n] 64)).drew.alloc (.cells #[.string t] 87)) := by
    generalize (wr.alloc (.cells #[.string tg, .int .i64 p, .int .i64 n] 64)) = v
    have h1 := (Below.refl v.heap.size v).drew
    exact h1.alloc (Nat.le_refl _) _
  exact ⟨keepC hb g, keepC hb (by simp [go_sem]), keepC hb (by simp [go_sem])⟩
theorem cut_new {B : Nat} {w wr w6 : World} {tg t : ByteArray} {p n : Nat} (h : w6 = (wr.alloc (.cells #[.string tg, .int .i64 p, .int .i64 n] 64)).drew.alloc (.cells #[.string t] 87))
    (hW : Below B w (wr.alloc (.cells #[.string tg, .int .i64 p, .int .i64 n] 64))) (hB : B ≤ w.heap.size) :
    Hid (w6.cell? ⟨wr.heap.size + 1, 0, none⟩ = some (.string t) ∧ w.heap.size ≤ wr.heap.size + 1 ∧ Below B w w6) := by
  subst h
  have hz := hW.size
  simp [go_sem] at hz
  exact ⟨by simp [go_sem], hz, hW.drew.alloc (Nat.le_trans hB hW.size) _⟩

set_option maxHeartbeats 1000000 in
theorem ftab_c (B gf : Nat) (kd : Int) (l : List Row) (s T : ByteArray) (w : World) (hf : FontIn B w gf kd l s) (hB : B ≤ w.heap.size) :
    Calls Try.prog 68 #[.pointer (some ⟨gf, 0, none⟩), .string T] w (TabPost B w (tabOf l s T.toList)) := by
  obtain ⟨⟨gl, gv, hgf, hgl, hgv, h0, h1, h2, h3, hrows⟩, hl, hfit, hsz⟩ := hf
  have HL := Lib.hid hl
  have HR := Lib.hid hrows
  have HG := Lib.hid (And.intro hgf (And.intro hgl hgv))
  have HFT := Lib.hid hfit
  have HS := Lib.hid hsz
  have H2 := Lib.hid h2
  have H3 := Lib.hid h3
  have HB := Lib.hid hB
  clear hl h3 h0 h2 hrows hgf hgl hgv hfit hsz hB
  go_enter Try.func68, Try.ntmps68
  go_wp2_with fail
  go_loopw [15] (fun i wr => ∃ k : Nat, k ≤ l.length ∧ i = .int .i64 k ∧ Hid (∀ r ∈ l.take k, (r.tag.toList == T.toList) = false) ∧ Hid (Below B w wr)) (fun i _ => l.length - (intOf i).toNat)
  case atStart => exact ⟨0, Nat.zero_le _, rfl, (by intro r hr; simp at hr), Below.refl _ _⟩
  case round =>
    obtain ⟨k, hk, rfl, HT, HW⟩ := hrel
    clear h1
    by_cases hlt : k < l.length
    · have hlt' : (k : Int) < (l.length : Int) := by omega
      obtain ⟨⟨tg, pl, ln⟩, hr, d0, d1, d2⟩ := HR.out k hlt
      obtain ⟨p, n, hp, hn, hpn⟩ := fits_bound (HFT.out _ (List.mem_of_getElem? hr))
      simp only at hp hn
      subst hp hn
      have HRK := Lib.hid hr
      have e0 := (HW.out.cell (p := ⟨gl, k * 3, none⟩) HG.out.2.1).trans d0
      have e1 := (HW.out.cell (p := ⟨gl, k * 3 + 1, none⟩) HG.out.2.1).trans d1
      have e2 := (HW.out.cell (p := ⟨gl, k * 3 + 2, none⟩) HG.out.2.1).trans d2
      have HW1 := Lib.hid (HW.out.alloc (Nat.le_trans HB.out HW.out.size) (.cells #[.string tg, .int .i64 p, .int .i64 n] 64))
      clear d0 d1 d2 hr
      simp only at e0 e1 e2
      cases ht : (tg.toList == T.toList)
      · go_wp2_with fail
        have HW7 : Hid (wrap64 ((k : Int) + 1) = ((k + 1 : Nat) : Int)) := by have := HL.out; unfold Hid wrap64; omega
        go_roundw
        case rel =>
          refine ⟨k + 1, by omega, by rw [HW7.out], ?_, HW1⟩
          intro q hq
          rw [List.take_add_one, HRK.out] at hq
          rcases List.mem_append.1 hq with hq | hq
          · exact HT.out q hq
          · simp at hq; subst hq; exact ht
        case measure => rw [HW7.out]; simp only [intOf]; omega
      · have HE : Hid (tabOf l s T.toList = some (s.extract p (p + n))) := by
          unfold Hid; rw [tabOf_skip HT.out HRK.out ht]; rfl
        have g2 := (HW1.out.cell (p := ⟨gf, 2, none⟩) HG.out.1).trans H2.out
        have HC := Lib.hid ((HW1.out.cell (p := ⟨gv, 0, none⟩) HG.out.2.2).trans H3.out)
        have HS1 : Hid (wr.heap.size = wr.heap.size) := rfl
        go_wp2_with fail
        have HCD : Hid ((wr.alloc (.cells #[.string tg, .int .i64 p, .int .i64 n] 64)).drew.cell? ⟨gv, 0, none⟩ = some (.string s)) := HC
        go_region_held3 (fun W => W.cell? ⟨gf, 2, none⟩ = some (.pointer (some ⟨gv, 0, none⟩)) ∧ W.cell? ⟨wr.heap.size, 1, none⟩ = some (.int .i64 p) ∧ W.cell? ⟨wr.heap.size, 2, none⟩ = some (.int .i64 n)) (first | exact ⟨g2, by simp [go_sem], by simp [go_sem]⟩ | exact hS6)
          (first | (go_at_call 65; refine (cut_yes gv p n s _ HCD.out (by have := HS.out; omega) hpn).mono ?_; rintro e w6 ⟨rfl, hw6⟩; have hS6 := cut_held hw6 g2; have HN6 := cut_new hw6 HW1.out HB.out; clear hw6))
        go_wp2_with fail
        go_ret2
        exact tabPost_some HE.out HN6.out.1 HN6.out.2.1 HN6.out.2.2
    · have hlt' : ¬ (k : Int) < (l.length : Int) := by omega
      have HE : Hid (tabOf l s T.toList = none) := tabOf_none (by have := HT.out; rwa [List.take_of_length_le (by omega)] at this)
      go_wp2_with fail
      go_ret2
      exact tabPost_none HE.out HW.out

/-- A new view of a table of enough bytes, or given up. -/
def NeedPost (B : Nat) (w : World) (v : Option ByteArray) (e : Ending) (w' : World) : Prop :=
  match v with
  | none => e = gave 41 ∧ Below B w w'
  | some b => ∃ gv, e = .returned (.pointer (some ⟨gv, 0, none⟩)) ∧ w'.cell? ⟨gv, 0, none⟩ = some (.string b) ∧ w.heap.size ≤ gv ∧ Below B w w'
theorem needPost_none {B : Nat} {w w' : World} {v : Option ByteArray} (hv : v = none) (hb : Below B w w') : NeedPost B w v (gave 41) w' := by
  subst hv; exact ⟨rfl, hb⟩
theorem needPost_some {B : Nat} {w w' : World} {v : Option ByteArray} {b : ByteArray} {gv : Nat} (hv : v = some b) (hc : w'.cell? ⟨gv, 0, none⟩ = some (.string b)) (hs : w.heap.size ≤ gv) (hb : Below B w w') : NeedPost B w v (.returned (.pointer (some ⟨gv, 0, none⟩))) w' := by
  subst hv; exact ⟨gv, rfl, hc, hs, hb⟩

set_option maxHeartbeats 1000000 in
theorem need_c (B gr gf : Nat) (kd n : Int) (l : List Row) (s T : ByteArray) (w : World) (hr : w.cell? ⟨gr, 0, none⟩ = some (.pointer (some ⟨gf, 0, none⟩))) (hf : FontIn B w gf kd l s) (hB : B ≤ w.heap.size) :
    Calls Try.prog 52 #[.pointer (some ⟨gr, 0, none⟩), .string T, .int .i64 n] w (NeedPost B w (tabN l s T.toList n)) := by
  have HF := Lib.hid hf
  have HB := Lib.hid hB
  clear hf hB
  obtain ⟨v, HV⟩ : ∃ v, Hid (tabOf l s T.toList = v) := ⟨_, rfl⟩
  go_enter Try.func52, Try.ntmps52
  go_wp2_with fail
  refine (ftab_c B gf kd l s T w HF.out HB.out).mono ?_
  rw [HV.out]
  cases v with
  | none =>
    have HN : Hid (tabN l s T.toList n = none) := by unfold Hid tabN; rw [HV.out]
    rintro e w1 ⟨rfl, hb1⟩
    have HB1 := Lib.hid hb1
    clear hb1
    go_wp2_with fail
    refine (ask_no _ _).mono ?_
    rintro e w2 ⟨rfl, rfl⟩
    unfold gave
    go_wp2_with fail
    exact ⟨rfl, needPost_none HN.out HB1.out⟩
  | some b =>
    rintro e w1 ⟨gv, rfl, hc1, hs1, hb1⟩
    have HB1 := Lib.hid hb1
    have HS1 := Lib.hid hs1
    clear hb1 hs1
    go_wp2_with fail
    refine (len_c gv b w1 hc1).mono ?_
    rintro e w2 ⟨rfl, rfl⟩
    by_cases hn : n ≤ (b.size : Int)
    · have HN : Hid (tabN l s T.toList n = some b) := by unfold Hid tabN; rw [HV.out]; simp; omega
      go_wp2_with fail
      refine (ask_yes _ _).mono ?_
      rintro e w2 ⟨rfl, rfl⟩
      go_wp2_with fail
      go_ret
      exact needPost_some HN.out hc1 HS1.out HB1.out
    · have HN : Hid (tabN l s T.toList n = none) := by unfold Hid tabN; rw [HV.out]; simp; omega
      go_wp2_with fail
      refine (ask_f (by simpa using hn) _ _).mono ?_
      rintro e w2 ⟨rfl, rfl⟩
      unfold gave
      go_wp2_with fail
      exact ⟨rfl, needPost_none HN.out HB1.out⟩

end Go.Proofs.Ytbcjicmledckbaa
