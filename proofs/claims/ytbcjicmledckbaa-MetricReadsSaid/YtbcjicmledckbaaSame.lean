/-
  What the document's SameInts and Same answer of equal rows and metrics.
-/
import Derived.Test.YtbcjicmledckbaaMtH
import Derived.Deep.QuietTactic
namespace Go.Proofs.Ytbcjicmledckbaa
open Go.RowKit Go.PlainAid
set_option linter.unusedSimpArgs false
set_option linter.unusedVariables false

theorem bel_drewN {B : Nat} {a w : World} (h : Below B a w) (n : Nat) : Below B a (w.drewN n) := ⟨h.os, h.tape, h.output, h.size, h.block⟩
/-- A row of numbers that can be read. -/
def IsI (w : World) (a : Option Addr) (len cap : Nat) (L : List Int) : Prop :=
  L.length = len ∧ (len = 0 ∨ ∃ b off, a = some ⟨b, off, none⟩ ∧ ∀ i, i < len → w.cell? ⟨b, off + i, none⟩ = some (.int .i64 (L.getD i 0)))
theorem IsI.below {w w' : World} {a : Option Addr} {len cap : Nat} {L : List Int} (h : IsI w a len cap L) (hb : Below w.heap.size w w') : IsI w' a len cap L := by
  obtain ⟨h1, h2 | ⟨b, off, h3, h4⟩⟩ := h
  · exact ⟨h1, .inl h2⟩
  · exact ⟨h1, .inr ⟨b, off, h3, fun i hi => keepC hb (h4 i hi)⟩⟩
theorem IntsAt.isI {w : World} {g n : Nat} {L : List Int} (h : IntsAt w g L) (hn : L.length = n) (c : Nat) : IsI w (some ⟨g, 0, none⟩) n c L :=
  ⟨hn, .inr ⟨g, 0, rfl, fun i hi => by rw [Nat.zero_add]; exact h.cell (by omega)⟩⟩

set_option maxHeartbeats 1000000 in
theorem sameInts_yes (a a' : Option Addr) (n c c' : Nat) (L : List Int) (w : World) (h1 : IsI w a n c L) (h2 : IsI w a' n c' L) (hn : n ≤ 140737488355328) :
    Calls Try.prog 19 #[.slice a n c, .slice a' n c'] w fun e w' => e = .returned (.bool true) ∧ Below w.heap.size w w' := by
  have H1 := Lib.hid h1
  have H2 := Lib.hid h2
  have HN := Lib.hid hn
  clear h1 h2 hn
  go_enter Try.func19, Try.ntmps19
  go_wp2_with fail
  go_loopw [13] (fun i wr => ∃ k : Nat, k ≤ n ∧ i = .int .i64 k ∧ Hid (Below w.heap.size w wr)) (fun i _ => n - (intOf i).toNat)
  case atStart => exact ⟨0, Nat.zero_le _, rfl, Below.refl _ _⟩
  case round =>
    obtain ⟨k, hk, rfl, HW⟩ := hrel
    by_cases hlt : k < n
    · have hlt' : (k : Int) < (n : Int) := by omega
      obtain ⟨h11, h12 | ⟨b, off, rfl, h13⟩⟩ := H1.out.below HW.out
      · omega
      obtain ⟨h21, h22 | ⟨b', off', rfl, h23⟩⟩ := H2.out.below HW.out
      · omega
      have hc1 := h13 k hlt
      have hc2 := h23 k hlt
      generalize L.getD k 0 = x at *
      clear h11 h13 h21 h23
      go_wp2_with fail
      go_quiet (fail)
      go_wp2_with fail
      have HW7 : Hid (wrap64 ((k : Int) + 1) = ((k + 1 : Nat) : Int)) := by have := HN.out; unfold Hid wrap64; omega
      go_roundw
      case rel => exact ⟨k + 1, by omega, by rw [HW7.out], bel_drewN HW.out _⟩
      case measure => rw [HW7.out]; simp only [intOf]; omega
    · have hlt' : ¬ (k : Int) < (n : Int) := by omega
      go_wp2_with fail
      go_ret
      exact ⟨rfl, HW.out⟩

theorem sameInts_len (a a' : Option Addr) (n n' c c' : Nat) (w : World) (hn : n ≠ n') :
    Calls Try.prog 19 #[.slice a n c, .slice a' n' c'] w fun e w' => e = .returned (.bool false) ∧ Below w.heap.size w w' := by
  have hn' : ¬ (n : Int) = (n' : Int) := by omega
  go_enter Try.func19, Try.ntmps19
  go_wp2
  go_ret
  exact ⟨rfl, Below.refl _ _⟩

/-- Metrics as a value that can be read. -/
def IsMet (w : World) (m : Met) (v : Value) : Prop := ∃ a b p ca cb cp, v = .agg #[.int .i64 m.kind, .int .i64 m.units, .int .i64 m.glyphs, .int .i64 m.ascent, .int .i64 m.descent, .int .i64 m.gap, .slice a m.adv.length ca, .slice b m.bear.length cb, .slice p m.places.length cp] ∧
  IsI w a m.adv.length ca m.adv ∧ IsI w b m.bear.length cb m.bear ∧ IsI w p m.places.length cp m.places ∧ m.adv.length ≤ 140737488355328 ∧ m.bear.length ≤ 140737488355328 ∧ m.places.length ≤ 140737488355328
theorem IsMet.below {w w' : World} {m : Met} {v : Value} (h : IsMet w m v) (hb : Below w.heap.size w w') : IsMet w' m v := by
  obtain ⟨a, b, p, ca, cb, cp, h1, h2, h3, h4, h5⟩ := h
  exact ⟨a, b, p, ca, cb, cp, h1, h2.below hb, h3.below hb, h4.below hb, h5⟩
theorem MetAt.isMet {B : Nat} {w : World} {m : Met} {v : Value} (h : MetAt B w m v) : IsMet w m v := by
  obtain ⟨ga, gb, pv, h1, h2, h3, h4, h5, h6, h7, h8, h9⟩ := h
  rcases h6 with ⟨rfl, hp⟩ | ⟨gp, rfl, hp, _⟩
  · exact ⟨_, _, none, _, _, 0, by rw [h1, hp]; rfl, h4.isI rfl _, h5.isI rfl _, ⟨rfl, .inl (by rw [hp]; rfl)⟩, by omega, by omega, by omega⟩
  · exact ⟨_, _, _, _, _, _, h1, h4.isI rfl _, h5.isI rfl _, hp.isI rfl _, by omega, by omega, by omega⟩
/-- Metrics that are none. -/
def met0 : Met := ⟨0, 0, 0, 0, 0, 0, [], [], []⟩
theorem noneMet_is (w : World) : IsMet w met0 noneMet := ⟨none, none, none, 0, 0, 0, rfl, ⟨rfl, .inl rfl⟩, ⟨rfl, .inl rfl⟩, ⟨rfl, .inl rfl⟩, by simp [met0], by simp [met0], by simp [met0]⟩

set_option maxHeartbeats 2000000 in
theorem same_c (m : Met) (v v' : Value) (w : World) (h1 : IsMet w m v) (h2 : IsMet w m v') :
    Calls Try.prog 13 #[v, v'] w fun e w' => e = .returned (.bool true) ∧ Below w.heap.size w w' := by
  obtain ⟨a, b, p, ca, cb, cp, rfl, ha, hb, hp, hla, hlb, hlp⟩ := h1
  obtain ⟨a', b', p', ca', cb', cp', rfl, ha', hb', hp', _, _, _⟩ := h2
  obtain ⟨mk, mu, mg, ma, md, mgp, adv, bear, places⟩ := m
  simp only at *
  have HA := Lib.hid (And.intro ha (And.intro ha' hla))
  have HB := Lib.hid (And.intro hb (And.intro hb' hlb))
  have HP := Lib.hid (And.intro hp (And.intro hp' hlp))
  clear ha hb hp hla hlb hlp ha' hb' hp'
  generalize adv.length = na at *
  generalize bear.length = nb at *
  generalize places.length = np at *
  have HBX := Lib.hid (((Below.refl w.heap.size w).alloc (Nat.le_refl _) (.cells #[.int .i64 mk, .int .i64 mu, .int .i64 mg, .int .i64 ma, .int .i64 md, .int .i64 mgp, .slice a na ca, .slice b nb cb, .slice p np cp] 35)).alloc (by simp [go_sem]) (.cells #[.int .i64 mk, .int .i64 mu, .int .i64 mg, .int .i64 ma, .int .i64 md, .int .i64 mgp, .slice a' na ca', .slice b' nb cb', .slice p' np cp'] 35))
  go_enter Try.func13, Try.ntmps13
  go_wp2_with fail
  have k7 : ((w.alloc (.cells #[.int .i64 mk, .int .i64 mu, .int .i64 mg, .int .i64 ma, .int .i64 md, .int .i64 mgp, .slice a na ca, .slice b nb cb, .slice p np cp] 35)).alloc (.cells #[.int .i64 mk, .int .i64 mu, .int .i64 mg, .int .i64 ma, .int .i64 md, .int .i64 mgp, .slice a' na ca', .slice b' nb cb', .slice p' np cp'] 35)).cell? ⟨w.heap.size, 7, none⟩ = some (.slice b nb cb) := by simp [go_sem]
  have k8 : ((w.alloc (.cells #[.int .i64 mk, .int .i64 mu, .int .i64 mg, .int .i64 ma, .int .i64 md, .int .i64 mgp, .slice a na ca, .slice b nb cb, .slice p np cp] 35)).alloc (.cells #[.int .i64 mk, .int .i64 mu, .int .i64 mg, .int .i64 ma, .int .i64 md, .int .i64 mgp, .slice a' na ca', .slice b' nb cb', .slice p' np cp'] 35)).cell? ⟨w.heap.size, 8, none⟩ = some (.slice p np cp) := by simp [go_sem]
  have q7 : ((w.alloc (.cells #[.int .i64 mk, .int .i64 mu, .int .i64 mg, .int .i64 ma, .int .i64 md, .int .i64 mgp, .slice a na ca, .slice b nb cb, .slice p np cp] 35)).alloc (.cells #[.int .i64 mk, .int .i64 mu, .int .i64 mg, .int .i64 ma, .int .i64 md, .int .i64 mgp, .slice a' na ca', .slice b' nb cb', .slice p' np cp'] 35)).cell? ⟨w.heap.size + 1, 7, none⟩ = some (.slice b' nb cb') := by simp [go_sem]
  have q8 : ((w.alloc (.cells #[.int .i64 mk, .int .i64 mu, .int .i64 mg, .int .i64 ma, .int .i64 md, .int .i64 mgp, .slice a na ca, .slice b nb cb, .slice p np cp] 35)).alloc (.cells #[.int .i64 mk, .int .i64 mu, .int .i64 mg, .int .i64 ma, .int .i64 md, .int .i64 mgp, .slice a' na ca', .slice b' nb cb', .slice p' np cp'] 35)).cell? ⟨w.heap.size + 1, 8, none⟩ = some (.slice p' np cp') := by simp [go_sem]
  generalize ((w.alloc (.cells #[.int .i64 mk, .int .i64 mu, .int .i64 mg, .int .i64 ma, .int .i64 md, .int .i64 mgp, .slice a na ca, .slice b nb cb, .slice p np cp] 35)).alloc (.cells #[.int .i64 mk, .int .i64 mu, .int .i64 mg, .int .i64 ma, .int .i64 md, .int .i64 mgp, .slice a' na ca', .slice b' nb cb', .slice p' np cp'] 35)) = w1 at *
  refine (sameInts_yes a a' na ca ca' adv w1 (HA.out.1.below HBX.out) (HA.out.2.1.below HBX.out) HA.out.2.2).mono ?_
  rintro e w2 ⟨rfl, hb2⟩
  have k7 := keepC hb2 k7
  have k8 := keepC hb2 k8
  have q7 := keepC hb2 q7
  have q8 := keepC hb2 q8
  have HB2 := Lib.hid (HBX.out.trans (hb2.mono HBX.out.size))
  clear hb2 HBX
  go_wp2_with fail
  refine (sameInts_yes b b' nb cb cb' bear w2 (HB.out.1.below HB2.out) (HB.out.2.1.below HB2.out) HB.out.2.2).mono ?_
  rintro e w3 ⟨rfl, hb3⟩
  have k8 := keepC hb3 k8
  have q8 := keepC hb3 q8
  have HB3 := Lib.hid (HB2.out.trans (hb3.mono HB2.out.size))
  clear hb3 HB2
  go_wp2_with fail
  refine (sameInts_yes p p' np cp cp' places w3 (HP.out.1.below HB3.out) (HP.out.2.1.below HB3.out) HP.out.2.2).mono ?_
  rintro e w4 ⟨rfl, hb4⟩
  have HB4 := Lib.hid (HB3.out.trans (hb4.mono HB3.out.size))
  clear hb4 HB3
  go_wp2_with fail
  go_ret
  exact ⟨rfl, HB4.out⟩

end Go.Proofs.Ytbcjicmledckbaa
