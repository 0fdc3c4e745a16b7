/-
  What the document's Table and table answer of a font as the document holds it: its rows and its file in memory.
-/
import Derived.Test.YtbcjicmledckbaaRefB
import Derived.Test.YtbcjicmledckbaaMtB
namespace Go.Proofs.Ytbcjicmledckbaa
open Go.RowKit Go.PlainAid
set_option linter.unusedSimpArgs false
set_option linter.unusedVariables false

/-- The document's font in memory: rows and file. -/
structure RFont (w : World) (g c bf of cap : Nat) (l : List Row) (s : ByteArray) : Prop where
  row : ∀ i r, l[i]? = some r → w.cell? ⟨g, i * 3, none⟩ = some (.string r.tag) ∧ w.cell? ⟨g, i * 3 + 1, none⟩ = some (.int .i64 r.place) ∧ w.cell? ⟨g, i * 3 + 2, none⟩ = some (.int .i64 r.len)
  file : IsB w (some ⟨bf, of, none⟩) s.size cap s
  fit : Fits s l
  len : l.length ≤ 64
  size : (s.size : Int) ≤ 1048576
theorem RFont.below {w w' : World} {g c bf of cap : Nat} {l : List Row} {s : ByteArray} (h : RFont w g c bf of cap l s) (hb : Below w.heap.size w w') : RFont w' g c bf of cap l s :=
  ⟨fun i r hr => ⟨keepC hb (h.row i r hr).1, keepC hb (h.row i r hr).2.1, keepC hb (h.row i r hr).2.2⟩, h.file.below hb, h.fit, h.len, h.size⟩
/-- The document's font as a value. -/
def rfVal (kd : Int) (g c bf of cap n k : Nat) : Value := .agg #[.int .i64 kd, .slice (some ⟨g, 0, none⟩) n c, .slice (some ⟨bf, of, none⟩) k cap]

/-- A table's bytes, or none. -/
def RTabPost (wB w : World) (v : Option ByteArray) (e : Ending) (w' : World) : Prop :=
  match v with
  | none => e = .returned (.tuple #[.slice none 0 0, .bool false]) ∧ Below w.heap.size w w'
  | some b => ∃ a c, e = .returned (.tuple #[.slice a b.size c, .bool true]) ∧ IsB wB a b.size c b ∧ Below w.heap.size w w'
theorem rtab_none {wB w w' : World} {v : Option ByteArray} (hv : v = none) (hb : Below w.heap.size w w') : RTabPost wB w v (.returned (.tuple #[.slice none 0 0, .bool false])) w' := by subst hv; exact ⟨rfl, hb⟩
theorem rtab_some {wB w w' : World} {v : Option ByteArray} {b : ByteArray} {a : Option Addr} {n c : Nat} (hv : v = some b) (hn : n = b.size) (hi : IsB wB a b.size c b) (hb : Below w.heap.size w w') : RTabPost wB w v (.returned (.tuple #[.slice a n c, .bool true])) w' := by subst hv hn; exact ⟨a, c, rfl, hi, hb⟩
theorem cut_if {w : World} {bf of cap p n : Nat} {s : ByteArray} (h : IsB w (some ⟨bf, of, none⟩) s.size cap s) (hp : p + n ≤ s.size) : IsB w (if cap = p then some ⟨bf, of, none⟩ else some ⟨bf, of + p, none⟩) (s.extract p (p + n)).size (cap - p) (s.extract p (p + n)) := by
  have hz : (s.extract p (p + n)).size = n := by rw [ByteArray.size_extract]; omega
  have hc := h.2.1
  rw [hz]
  split
  · refine ⟨hz, by omega, .inl (by omega)⟩
  · have := h.cut (p := p) (q := p + n) (c := cap - p) (by omega) hp (by omega)
    rwa [show p + n - p = n by omega] at this

set_option maxHeartbeats 1000000 in
theorem rtable_c (kd : Int) (g c bf of cap : Nat) (l : List Row) (s T : ByteArray) (wB w : World) (hf : RFont wB g c bf of cap l s) (hbb : Below wB.heap.size wB w) :
    Calls Try.prog 51 #[rfVal kd g c bf of cap l.length s.size, .string T] w (RTabPost wB w (tabOf l s T.toList)) := by
  have HF := Lib.hid hf
  have HBB := Lib.hid hbb
  have HL := Lib.hid hf.len
  clear hf hbb
  unfold rfVal
  have HB0 : Hid (Below w.heap.size w (w.alloc (.cells #[.int .i64 kd, .slice (some ⟨g, 0, none⟩) l.length c, .slice (some ⟨bf, of, none⟩) s.size cap] 26))) := (Below.refl _ _).alloc (Nat.le_refl _) _
  have HC2 : Hid ((w.alloc (.cells #[.int .i64 kd, .slice (some ⟨g, 0, none⟩) l.length c, .slice (some ⟨bf, of, none⟩) s.size cap] 26)).cell? ⟨w.heap.size, 2, none⟩ = some (.slice (some ⟨bf, of, none⟩) s.size cap)) := by unfold Hid; simp [go_sem]
  go_enter Try.func51, Try.ntmps51
  go_wp2_with fail
  generalize (w.alloc (.cells #[.int .i64 kd, .slice (some ⟨g, 0, none⟩) l.length c, .slice (some ⟨bf, of, none⟩) s.size cap] 26)) = w0 at *
  have HGW : Hid (w.heap.size < w0.heap.size) := World.block_lt_of_cell? w0 _ HC2.out
  go_loopw [11] (fun i wr => ∃ k : Nat, k ≤ l.length ∧ i = .int .i64 k ∧ Hid (∀ r ∈ l.take k, (r.tag.toList == T.toList) = false) ∧ Hid (Below w0.heap.size w0 wr)) (fun i _ => l.length - (intOf i).toNat)
  case atStart => exact ⟨0, Nat.zero_le _, rfl, (by intro r hr; simp at hr), Below.refl _ _⟩
  case round =>
    obtain ⟨k, hk, rfl, HT, HW⟩ := hrel
    have HBW := Lib.hid (HB0.out.trans (HW.out.mono HB0.out.size))
    by_cases hlt : k < l.length
    · have hlt' : (k : Int) < (l.length : Int) := by omega
      obtain ⟨⟨tg, pl, ln⟩, hr⟩ : ∃ r, l[k]? = some r := ⟨l[k], by simp [hlt]⟩
      obtain ⟨p, n, hp, hn, hpn⟩ := fits_bound (HF.out.fit _ (List.mem_of_getElem? hr))
      simp only at hp hn
      subst hp hn
      obtain ⟨d0, d1, d2⟩ := (HF.out.below (HBB.out.trans (HBW.out.mono HBB.out.size))).row k _ hr
      simp only at d0 d1 d2
      have HRK := Lib.hid hr
      have hba : Below wr.heap.size wr (wr.alloc (.cells #[.string tg, .int .i64 p, .int .i64 n] 64)) := (Below.refl _ _).alloc (Nat.le_refl _) _
      have HW1 := Lib.hid (HW.out.trans (hba.mono HW.out.size))
      have hc2 := keepC HW1.out HC2.out
      clear hr hba
      cases ht : (tg.toList == T.toList)
      · go_wp2_with fail
        have HW7 : Hid (wrap64 ((k : Int) + 1) = ((k + 1 : Nat) : Int)) := by have := HL.out; unfold Hid wrap64; omega
        go_roundw
        case rel =>
          refine ⟨k + 1, by omega, by rw [HW7.out], ?_, HW1⟩
          intro q hq
          rw [List.take_add_one, HRK.out] at hq
          rcases List.mem_append.1 hq with hq | hq
          · exact HT.out q hq
          · simp at hq; subst hq; exact ht
        case measure => rw [HW7.out]; simp only [intOf]; omega
      · have HE : Hid (tabOf l s T.toList = some (s.extract p (p + n))) := by
          unfold Hid; rw [tabOf_skip HT.out HRK.out ht]; rfl
        have HBX := Lib.hid (HB0.out.trans (HW1.out.mono HB0.out.size))
        have HSZ := Lib.hid HF.out.size
        have HCP := Lib.hid HF.out.file.2.1
        have hw : wrap64 ((p : Int) + (n : Int)) = (p : Int) + (n : Int) := by have := HSZ.out; unfold wrap64; omega
        have i1 : (0 : Int) ≤ (p : Int) := by omega
        have i2 : (p : Int) ≤ (p : Int) + (n : Int) := by omega
        have i3 : (p : Int) + (n : Int) ≤ (cap : Int) := by have := HCP.out; omega
        go_wp2_with fail
        · go_ret2
          refine rtab_some (n := n) HE.out (by rw [ByteArray.size_extract]; omega) ?_ HBX.out
          have h9 := cut_if HF.out.file hpn
          have hz : (s.extract p (p + n)).size = n := by rw [ByteArray.size_extract]; omega
          rw [hz]
          exact ⟨hz, by have := HCP.out; omega, .inl (by have := HCP.out; omega)⟩
        · go_ret2
          rename_i hcap
          refine rtab_some (n := n) HE.out (by rw [ByteArray.size_extract]; omega) ?_ HBX.out
          have h9 := cut_if HF.out.file hpn
          rw [if_neg (by omega)] at h9
          exact h9
    · have hlt' : ¬ (k : Int) < (l.length : Int) := by omega
      have HE : Hid (tabOf l s T.toList = none) := tabOf_none (by have := HT.out; rwa [List.take_of_length_le (by omega)] at this)
      go_wp2_with fail
      go_ret2
      exact rtab_none HE.out HBW.out

/-- How table ends: its bytes, or not enough. -/
def RNeedPost (wB w : World) (v : Option ByteArray) (e : Ending) (w' : World) : Prop :=
  match v with
  | none => (∃ a n c, e = .returned (.tuple #[.slice a n c, .bool false])) ∧ Below w.heap.size w w'
  | some b => ∃ a c, e = .returned (.tuple #[.slice a b.size c, .bool true]) ∧ IsB wB a b.size c b ∧ Below w.heap.size w w'
theorem rneed_none {wB w w' : World} {v : Option ByteArray} {a : Option Addr} {n c : Nat} (hv : v = none) (hb : Below w.heap.size w w') : RNeedPost wB w v (.returned (.tuple #[.slice a n c, .bool false])) w' := by subst hv; exact ⟨⟨a, n, c, rfl⟩, hb⟩
theorem rneed_some {wB w w' : World} {v : Option ByteArray} {b : ByteArray} {a : Option Addr} {c : Nat} (hv : v = some b) (hi : IsB wB a b.size c b) (hb : Below w.heap.size w w') : RNeedPost wB w v (.returned (.tuple #[.slice a b.size c, .bool true])) w' := by subst hv; exact ⟨a, c, rfl, hi, hb⟩

set_option maxHeartbeats 1000000 in
theorem rneed_c (kd n : Int) (g c bf of cap : Nat) (l : List Row) (s T : ByteArray) (wB w : World) (hf : RFont wB g c bf of cap l s) (hbb : Below wB.heap.size wB w) :
    Calls Try.prog 32 #[rfVal kd g c bf of cap l.length s.size, .string T, .int .i64 n] w (RNeedPost wB w (tabN l s T.toList n)) := by
  have HF := Lib.hid hf
  have HBB := Lib.hid hbb
  clear hf hbb
  unfold rfVal
  obtain ⟨v, HV⟩ : ∃ v, Hid (tabOf l s T.toList = v) := ⟨_, rfl⟩
  have HB0 : Hid (Below w.heap.size w (w.alloc (.cells #[.int .i64 kd, .slice (some ⟨g, 0, none⟩) l.length c, .slice (some ⟨bf, of, none⟩) s.size cap] 26))) := (Below.refl _ _).alloc (Nat.le_refl _) _
  go_enter Try.func32, Try.ntmps32
  go_wp2_with fail
  refine (rtable_c kd g c bf of cap l s T wB _ HF.out (HBB.out.trans (HB0.out.mono HBB.out.size))).mono ?_
  rw [HV.out]
  cases v with
  | none =>
    have HN : Hid (tabN l s T.toList n = none) := by unfold Hid tabN; rw [HV.out]
    rintro e w1 ⟨rfl, hb1⟩
    have HB1 := Lib.hid (HB0.out.trans (hb1.mono HB0.out.size))
    clear hb1
    go_wp2_with fail
    go_ret2
    exact rneed_none HN.out HB1.out
  | some b =>
    rintro e w1 ⟨a, c1, rfl, hi1, hb1⟩
    have HB1 := Lib.hid (HB0.out.trans (hb1.mono HB0.out.size))
    have HI1 := Lib.hid hi1
    clear hb1 hi1
    by_cases hn : n ≤ (b.size : Int)
    · have HN : Hid (tabN l s T.toList n = some b) := by unfold Hid tabN; rw [HV.out]; simp; omega
      have hd : decide (n ≤ (b.size : Int)) = true := by simpa using hn
      go_wp2_with fail
      go_ret2
      exact rneed_some HN.out HI1.out HB1.out
    · have HN : Hid (tabN l s T.toList n = none) := by unfold Hid tabN; rw [HV.out]; simp; omega
      have hd : decide (n ≤ (b.size : Int)) = false := by simpa using hn
      go_wp2_with fail
      go_ret2
      exact rneed_none HN.out HB1.out

end Go.Proofs.Ytbcjicmledckbaa
