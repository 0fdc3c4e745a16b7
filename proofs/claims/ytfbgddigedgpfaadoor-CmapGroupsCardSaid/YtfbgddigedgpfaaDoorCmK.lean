/-
  What readList and readSelector of package cmap answer.
-/
import Derived.Test.YtfbgddigedgpfaaDoorCmJ
namespace Go.Proofs.YtfbgddigedgpfaaDoor
open Go.RowKit Go.PlainAid
set_option linter.unusedSimpArgs false
set_option linter.unusedVariables false

/-- A slice of spans whose ends rise, of at most n, none of whose numbers is below 0. -/
def GoodS (w : World) (a : Option Addr) (k : Nat) (n : Int) : Prop := (k : Int) ≤ n ∧ ∃ f, IsSp w a k f ∧ Rising k f ∧ ∀ m, 0 ≤ f m ∧ f m ≤ 4294967296
theorem GoodS.below {w w' : World} {a : Option Addr} {k : Nat} {n : Int} (h : GoodS w a k n) (hb : Below w.heap.size w w') : GoodS w' a k n := by
  obtain ⟨h1, f, h2, h3⟩ := h
  exact ⟨h1, f, h2.below hb, h3⟩
theorem goodS_nil (w : World) (a : Option Addr) (n : Int) (hn : 0 ≤ n) : GoodS w a 0 n := ⟨by omega, fun _ => 0, .inl rfl, fun i j _ h => by omega, fun m => ⟨Int.le_refl _, (by decide : (0 : Int) ≤ 4294967296)⟩⟩
theorem GoodS.set {w : World} {a : Option Addr} {k : Nat} {n : Int} (h : GoodS w a k n) {B i : Nat} {x : Option Addr} {y z : Nat} (hB : w.cell? ⟨B, 0, none⟩ = some (.slice x y z)) (v : Value) : GoodS (w.setCell ⟨B, i, none⟩ v) a k n := by
  obtain ⟨h1, f, h2, h3⟩ := h
  refine ⟨h1, f, ?_, h3⟩
  rcases h2 with h2 | ⟨g, rfl, h2⟩
  · exact .inl h2
  · by_cases hk : k = 0
    · exact .inl hk
    · refine .inr ⟨g, rfl, h2.other _ _ ?_⟩
      intro e
      have hc := h2.at (i := 0) (by omega) (Nat.le_refl _)
      simp only at e
      subst e
      rw [hB] at hc
      cases hc
/-- What is asked of a function that tells a row. -/
structure TellOk (N : Nat) (tell : ByteArray → Told) : Prop where
  tells : Tells N tell
  le : ∀ r, (tell r).ok = true → (tell r).a ≤ (tell r).b
  bound : ∀ r, (0 ≤ (tell r).a ∧ (tell r).a ≤ 4294967296) ∧ (0 ≤ (tell r).b ∧ (tell r).b ≤ 4294967296) ∧ (0 ≤ (tell r).c ∧ (tell r).c ≤ 4294967296)
theorem okPlain : TellOk 51 tellP := ⟨tellPlain_c, fun r _ => by have := num8_fst r 3; simp only [tellP]; omega, fun r => by have := num8_fst r 3; have := num24_fst r 0; simp only [tellP]; omega⟩
theorem okOwn : TellOk 52 tellO := ⟨tellOwn_c, fun r _ => by simp [tellO], fun r => by have := num16_fst r 3; have := num24_fst r 0; simp only [tellO]; omega⟩

/-- What readList answers. -/
def ListPost (room : Int) (w : World) (e : Ending) (w' : World) : Prop :=
  Below w.heap.size w w' ∧ ((∃ x, x ≠ 0 ∧ e = .returned (.tuple #[.slice none 0 0, .int .i64 x])) ∨ ∃ a k, e = .returned (.tuple #[.slice a k k, .int .i64 0]) ∧ GoodS w' a k room)

set_option maxHeartbeats 1000000 in
theorem readList_c (N z : Nat) (tell : ByteArray → Told) (hT : TellOk N tell) (g : Nat) (p room : Int) (s : ByteArray) (w : World) (hc : w.cell? ⟨g, 0, none⟩ = some (.string s)) (hs : (s.size : Int) ≤ 140737488355328) (hp0 : 0 ≤ p) (hp1 : p ≤ 4294967295) (hz : z ≤ 16) (hr0 : 0 ≤ room) (hr1 : room ≤ 4096) :
    Calls Tryd.prog 50 #[.pointer (some ⟨g, 0, none⟩), .int .i64 p, .int .i64 room, .agg #[.int .i64 z, .func (.func N) #[] #[]]] w (ListPost room w) := by
  have hb0 := (Below.refl w.heap.size w).alloc (Nat.le_refl _) (.cells #[.int .i64 (z : Int), .func (.func N) #[] #[]] 96)
  have HC := Lib.hid (keepC hb0 hc)
  have HB0 := Lib.hid hb0
  have HS := Lib.hid hs
  have HT := Lib.hid hT
  have HR := Lib.hid (And.intro hr0 (And.intro hr1 hz))
  have m0 : (w.alloc (.cells #[.int .i64 (z : Int), .func (.func N) #[] #[]] 96)).cell? ⟨w.heap.size, 0, none⟩ = some (.int .i64 (z : Int)) := by simp [go_sem]
  have m1 : (w.alloc (.cells #[.int .i64 (z : Int), .func (.func N) #[] #[]] 96)).cell? ⟨w.heap.size, 1, none⟩ = some (.func (.func N) #[] #[]) := by simp [go_sem]
  cases h0 : (p == 0)
  · obtain ⟨n, en, HN⟩ := numOr_ex s p 4
    have HNB := Lib.hid (num32_bound HN.out)
    have HP1 : Hid (p ≤ 9223372036854775807) := by unfold Hid; omega
    have hw : wrap64 (p + 4) = p + 4 := by unfold wrap64; omega
    obtain ⟨q, hq⟩ : ∃ q : Nat, p + 4 = (q : Int) := ⟨(p + 4).toNat, by omega⟩
    have HQ : Hid (q ≤ 4294967300) := by unfold Hid; omega
    rw [hq] at hw
    have hw' : wrap64 (p + 4) = (q : Int) := by rw [hq]; exact hw
    clear hc hs hp0 hp1 hz hr0 hr1 hb0 hT hw hq
    by_cases h1 : en = 0
    · subst h1
      by_cases h2 : room < n
      · go_enter Tryd.func50, Tryd.ntmps50
        go_wp2_with fail
        refine (u32_c g p n 0 s _ HC.out HS.out HP1.out HN).mono ?_
        rintro e w1 ⟨rfl, rfl⟩
        go_wp2_with fail
        go_ret2
        exact ⟨HB0.out, .inl ⟨53, by decide, rfl⟩⟩
      · obtain ⟨k, rfl⟩ := Int.eq_ofNat_of_zero_le HNB.out.1
        have HK : Hid ((k : Int) ≤ room) := by unfold Hid; omega
        have HSP := Lib.hid (readSpans_c N z tell HT.out.tells g q k s (w.alloc (.cells #[.int .i64 (z : Int), .func (.func N) #[] #[]] 96)) HC.out HS.out HQ.out (by have := HK.out; have := HR.out; omega) HR.out.2.2)
        go_enter Tryd.func50, Tryd.ntmps50
        go_wp2_with fail
        refine (u32_c g p k 0 s _ HC.out HS.out HP1.out HN).mono ?_
        rintro e w1 ⟨rfl, rfl⟩
        go_wp2_with fail
        refine HSP.out.mono ?_
        rintro e w2 ⟨hb2, ⟨hno, rfl⟩ | ⟨hok, gg, _, rfl, hfl⟩⟩
        · have HB2 := Lib.hid (HB0.out.trans (hb2.mono HB0.out.size))
          clear hb2 hno
          go_wp2_with fail
          go_ret2
          exact ⟨HB2.out, .inl ⟨51, by decide, rfl⟩⟩
        · have HB2 := Lib.hid (HB0.out.trans (hb2.mono HB0.out.size))
          have HG : Hid (GoodS w2 (some ⟨gg, 0, none⟩) k room) := ⟨HK.out, spF s q z tell, .inr ⟨gg, rfl, hfl⟩, rising_of hok HT.out.le, spF_bound HT.out.bound⟩
          clear hb2 hok hfl
          go_wp2_with fail
          go_ret2
          exact ⟨HB2.out, .inr ⟨_, k, rfl, HG.out⟩⟩
    · go_enter Tryd.func50, Tryd.ntmps50
      go_wp2_with fail
      refine (u32_c g p n en s _ HC.out HS.out HP1.out HN).mono ?_
      rintro e w1 ⟨rfl, rfl⟩
      go_wp2_with fail
      go_ret2
      exact ⟨HB0.out, .inl ⟨51, by decide, rfl⟩⟩
  · clear hc hs hp0 hp1 hz hr0 hr1 hb0 hT
    go_enter Tryd.func50, Tryd.ntmps50
    go_wp2_with fail
    go_ret2
    exact ⟨HB0.out, .inr ⟨none, 0, rfl, goodS_nil _ _ _ HR.out.1⟩⟩

/-- What readSelector answers. -/
def SelPost (room : Int) (w : World) (e : Ending) (w' : World) : Prop :=
  Below w.heap.size w w' ∧ ((∃ x, x ≠ 0 ∧ e = .returned (.tuple #[.agg #[.slice none 0 0, .slice none 0 0], .int .i64 x])) ∨
    ∃ a k b l, e = .returned (.tuple #[.agg #[.slice a k k, .slice b l l], .int .i64 0]) ∧ GoodS w' a k room ∧ GoodS w' b l (room - k))

set_option maxHeartbeats 1000000 in
theorem readSelector_c (g gb : Nat) (room : Int) (s r : ByteArray) (w : World) (hc : w.cell? ⟨g, 0, none⟩ = some (.string s)) (hs : (s.size : Int) ≤ 140737488355328) (hr : w.cell? ⟨gb, 0, none⟩ = some (.string r)) (hrs : (r.size : Int) ≤ 140737488355328) (hr0 : 0 ≤ room) (hr1 : room ≤ 4096) :
    Calls Tryd.prog 36 #[.pointer (some ⟨g, 0, none⟩), .pointer (some ⟨gb, 0, none⟩), .int .i64 room] w (SelPost room w) := by
  have hb0 := (Below.refl w.heap.size w).alloc (Nat.le_refl _) (.cells #[.slice none 0 0, .slice none 0 0] 50)
  have HC := Lib.hid (keepC hb0 hc)
  have HCR := Lib.hid (keepC hb0 hr)
  have HB0 := Lib.hid hb0
  have HS := Lib.hid hs
  have HRS := Lib.hid hrs
  have HR := Lib.hid (And.intro hr0 hr1)
  have hm0 : (w.alloc (.cells #[.slice none 0 0, .slice none 0 0] 50)).cell? ⟨w.heap.size, 0, none⟩ = some (.slice none 0 0) := by simp [go_sem]
  have hm1 : (w.alloc (.cells #[.slice none 0 0, .slice none 0 0] 50)).cell? ⟨w.heap.size, 1, none⟩ = some (.slice none 0 0) := by simp [go_sem]
  have hf0 : (w.alloc (.cells #[.slice none 0 0, .slice none 0 0] 50)).frozen? ⟨w.heap.size, 0, none⟩ = false := by simp [go_sem]
  have hf1 : (w.alloc (.cells #[.slice none 0 0, .slice none 0 0] 50)).frozen? ⟨w.heap.size, 1, none⟩ = false := by simp [go_sem]
  have HM := Lib.hid (And.intro hm0 (And.intro hm1 (And.intro hf0 hf1)))
  have HLT : Hid (w.heap.size < (w.alloc (.cells #[.slice none 0 0, .slice none 0 0] 50)).heap.size) := by unfold Hid; simp [go_sem]
  obtain ⟨p, ep, HP⟩ := numOr_ex r 3 4
  obtain ⟨q, eq, HQ⟩ := numOr_ex r 7 4
  have HPB := Lib.hid (num32_bound HP.out)
  have HQB := Lib.hid (num32_bound HQ.out)
  clear hc hs hr hrs hr0 hr1 hb0 hm0 hm1 hf0 hf1
  go_enter Tryd.func36, Tryd.ntmps36
  go_wp2_with fail
  generalize (w.alloc (.cells #[.slice none 0 0, .slice none 0 0] 50)) = w0 at *
  refine (u32_c gb 3 p ep r _ HCR.out HRS.out (by decide) HP).mono ?_
  rintro e w1 ⟨rfl, rfl⟩
  go_wp2_with fail
  refine (u32_c gb 7 q eq r _ HCR.out HRS.out (by decide) HQ).mono ?_
  rintro e w1 ⟨rfl, rfl⟩
  go_wp2_with fail
  refine (readList_c 51 4 tellP okPlain g p room s w0 HC.out HS.out HPB.out.1 HPB.out.2 (by decide) HR.out.1 HR.out.2).mono ?_
  rintro e w1 ⟨hb1, ⟨x, hx, rfl⟩ | ⟨a, k, rfl, hg⟩⟩
  · have HB1 := Lib.hid (HB0.out.trans (hb1.mono HB0.out.size))
    have n0 := keepC hb1 HM.out.1
    have n1 := keepC hb1 HM.out.2.1
    have f0 : w1.frozen? ⟨w.heap.size, 0, none⟩ = false := by rw [hb1.frozen (p := ⟨w.heap.size, 0, none⟩) HLT.out]; exact HM.out.2.2.1
    have f1 : w1.frozen? ⟨w.heap.size, 1, none⟩ = false := by rw [hb1.frozen (p := ⟨w.heap.size, 1, none⟩) HLT.out]; exact HM.out.2.2.2
    have HX := Lib.hid hx
    have hxb : (x != 0) = true := by simpa using hx
    clear hb1 hx
    go_wp2_with fail
    refine bodyPost_ret (v := .tuple #[.agg #[.slice none 0 0, .slice none 0 0], .int .i64 x]) (by simp [results, Tryd.results36, go_sem, n0, n1]) rfl ⟨?_, .inl ⟨x, HX.out, rfl⟩⟩
    exact (HB1.out.setCell (p := ⟨w.heap.size, 0, none⟩) (Nat.le_refl _) _).setCell (p := ⟨w.heap.size, 1, none⟩) (Nat.le_refl _) _
  · have HB1 := Lib.hid (HB0.out.trans (hb1.mono HB0.out.size))
    have n0 := keepC hb1 HM.out.1
    have n1 := keepC hb1 HM.out.2.1
    have f0 : w1.frozen? ⟨w.heap.size, 0, none⟩ = false := by rw [hb1.frozen (p := ⟨w.heap.size, 0, none⟩) HLT.out]; exact HM.out.2.2.1
    have f1 : w1.frozen? ⟨w.heap.size, 1, none⟩ = false := by rw [hb1.frozen (p := ⟨w.heap.size, 1, none⟩) HLT.out]; exact HM.out.2.2.2
    have HLT1 : Hid (w.heap.size < w1.heap.size) := Nat.lt_of_lt_of_le HLT.out hb1.size
    have HC1 := Lib.hid (keepC hb1 HC.out)
    have HG := Lib.hid hg
    have hw : wrap64 (room - (k : Int)) = room - (k : Int) := by have := HR.out; have := hg.1; unfold wrap64; omega
    have HRK : Hid (0 ≤ room - (k : Int) ∧ room - (k : Int) ≤ 4096) := by have := HR.out; have := hg.1; unfold Hid; omega
    have HN := Lib.hid (And.intro n0 (And.intro n1 (And.intro f0 f1)))
    clear hb1 hg n0 n1 f0 f1
    obtain ⟨rk, hrk⟩ : ∃ rk, room - (k : Int) = rk := ⟨_, rfl⟩
    rw [hrk] at HRK
    have hw2 : wrap64 (room - (k : Int)) = rk := by rw [hw, hrk]
    have HRR := Lib.hid hrk
    clear hw hrk
    go_wp2_with fail
    refine (readList_c 52 5 tellO okOwn g q rk s w1 HC1.out HS.out HQB.out.1 HQB.out.2 (by decide) HRK.out.1 HRK.out.2).mono ?_
    rintro e w2 ⟨hb2, ⟨x, hx, rfl⟩ | ⟨b, l, rfl, hg2⟩⟩
    · have HB2 := Lib.hid (HB1.out.trans (hb2.mono HB1.out.size))
      have n0 := keepC hb2 HN.out.1
      have n1 := keepC hb2 HN.out.2.1
      have f0 : w2.frozen? ⟨w.heap.size, 0, none⟩ = false := by rw [hb2.frozen (p := ⟨w.heap.size, 0, none⟩) HLT1.out]; exact HN.out.2.2.1
      have f1 : w2.frozen? ⟨w.heap.size, 1, none⟩ = false := by rw [hb2.frozen (p := ⟨w.heap.size, 1, none⟩) HLT1.out]; exact HN.out.2.2.2
      have HX := Lib.hid hx
      have hxb : (x != 0) = true := by simpa using hx
      clear hb2 hx
      go_wp2_with fail
      refine bodyPost_ret (v := .tuple #[.agg #[.slice none 0 0, .slice none 0 0], .int .i64 x]) (by simp [results, Tryd.results36, go_sem, n0, n1]) rfl ⟨?_, .inl ⟨x, HX.out, rfl⟩⟩
      exact (HB2.out.setCell (p := ⟨w.heap.size, 0, none⟩) (Nat.le_refl _) _).setCell (p := ⟨w.heap.size, 1, none⟩) (Nat.le_refl _) _
    · have HB2 := Lib.hid (HB1.out.trans (hb2.mono HB1.out.size))
      have n0 := keepC hb2 HN.out.1
      have n1 := keepC hb2 HN.out.2.1
      have f0 : w2.frozen? ⟨w.heap.size, 0, none⟩ = false := by rw [hb2.frozen (p := ⟨w.heap.size, 0, none⟩) HLT1.out]; exact HN.out.2.2.1
      have f1 : w2.frozen? ⟨w.heap.size, 1, none⟩ = false := by rw [hb2.frozen (p := ⟨w.heap.size, 1, none⟩) HLT1.out]; exact HN.out.2.2.2
      have HG1 := Lib.hid (HG.out.below hb2)
      have HG2 := Lib.hid hg2
      clear hb2 hg2
      go_wp2_with fail
      refine bodyPost_ret (v := .tuple #[.agg #[.slice a k k, .slice b l l], .int .i64 0]) (by simp [results, Tryd.results36, go_sem, n0, n1]) rfl ⟨?_, .inr ⟨a, k, b, l, rfl, ?_, ?_⟩⟩
      · exact (HB2.out.setCell (p := ⟨w.heap.size, 0, none⟩) (Nat.le_refl _) _).setCell (p := ⟨w.heap.size, 1, none⟩) (Nat.le_refl _) _
      · exact (HG1.out.set n0 _).set (World.cell?_setCell_same w2 _ _ n0) _
      · rw [HRR.out]; exact (HG2.out.set n0 _).set (World.cell?_setCell_same w2 _ _ n0) _

end Go.Proofs.YtfbgddigedgpfaaDoor
