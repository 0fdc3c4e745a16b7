/-
  What begun of package path gives: a contour's start, and the knots behind it, in their order round to it.
-/
import Derived.Test.YthjhekmlhmljlaaPtM
namespace Go.Proofs.Ythjhekmlhmljlaa
open Go.RowKit Go.PlainAid
set_option linter.unusedSimpArgs false
set_option linter.unusedVariables false

theorem IsR.set {α : Type} {cl : α → List Value} {w : World} {a : Option Addr} {L : List α} (h : IsR cl w a L) (g o : Nat) (u : Value) (hne : ∀ b off s, a = some ⟨b, off, s⟩ → g ≠ b) : IsR cl (w.setCell ⟨g, o, none⟩ u) a L := by
  rcases h with h | ⟨b, off, h1, h2⟩
  · exact .inl h
  · exact .inr ⟨b, off, h1, fun j x hj => (keepS (hne b off none h1)).trans (h2 j x hj)⟩
/-- What begun answers. -/
def BegunPost (w : World) (s : Sp) (l : List Kn) (e : Ending) (w' : World) : Prop := ∃ a cp, e = .returned (.tuple #[spV s, .slice a l.length cp, .int .i64 0]) ∧ l.length ≤ cp ∧ IsR clK w' a l ∧ Below w.heap.size w w'

theorem size_d {w w' : World} (h : Below w.drew.heap.size w.drew w') : w.heap.size ≤ w'.heap.size := h.size
theorem size_ad {w w' : World} {o : Obj} (h : Below (w.alloc o).drew.heap.size (w.alloc o).drew w') : w.heap.size ≤ w'.heap.size := by
  have h1 := h.size
  have h2 : (w.alloc o).drew.heap.size = w.heap.size + 1 := by simp
  omega
theorem placeOf_h (k : Kn) (w : World) : Calls Try.prog 42 #[.agg #[.int .i64 k.x, .int .i64 k.y, .int .i64 k.k]] w fun e w' => e = .returned (.agg #[.int .i64 k.x, .int .i64 k.y]) ∧ Below w.heap.size w w' := placeOf_c k w

theorem keepA {w : World} {p : Addr} {v : Value} (h : w.cell? p = some v) (o : Obj) : (w.alloc o).cell? p = some v := keepC ((Below.refl _ _).alloc (Nat.le_refl _) o) h
theorem keepAF {w : World} {p : Addr} {v : Value} {f : Bool} (h : w.cell? p = some v) (hf : w.frozen? p = f) (o : Obj) : (w.alloc o).frozen? p = f := keepF ((Below.refl _ _).alloc (Nat.le_refl _) o) h hf
theorem concat_h (s : Nat) (a1 a2 : Option Addr) (c1 c2 n1 n2 : Nat) (L1 L2 : List Kn) (w : World) (hn1 : L1.length = n1) (hn2 : L2.length = n2) (hs0 : w.cell? ⟨s, 0, none⟩ = some (.slice a1 n1 c1)) (hs1 : w.cell? ⟨s, 1, none⟩ = some (.slice a2 n2 c2)) (h1 : IsR clK w a1 L1) (h2 : IsR clK w a2 L2) (hn : L1.length + L2.length ≤ 4096) :
    Calls Try.prog 73 #[.slice (some ⟨s, 0, none⟩) 2 2] w (JoinPost w (L1 ++ L2)) := by
  subst hn1 hn2
  exact concat_c s a1 a2 c1 c2 L1 L2 w hs0 hs1 h1 h2 hn
/-- What begun's answer works with: three cells of a knot, two cells for the start. -/
structure BegW (V : World) (b o g : Nat) (k : Kn) : Prop where
  k0 : V.cell? ⟨b, o, none⟩ = some (.int .i64 k.x)
  k1 : V.cell? ⟨b, o + 1, none⟩ = some (.int .i64 k.y)
  k2 : V.cell? ⟨b, o + 2, none⟩ = some (.int .i64 k.k)
  o0 : V.cell? ⟨g, 0, none⟩ = some (.int .i64 0)
  o1 : V.cell? ⟨g, 1, none⟩ = some (.int .i64 0)
  f0 : V.frozen? ⟨g, 0, none⟩ = false
  f1 : V.frozen? ⟨g, 1, none⟩ = false
theorem BegW.below {V V' : World} {b o g : Nat} {k : Kn} (h : BegW V b o g k) (hb : Below V.heap.size V V') : BegW V' b o g k := ⟨keepC hb h.k0, keepC hb h.k1, keepC hb h.k2, keepC hb h.o0, keepC hb h.o1, keepF hb h.o0 h.f0, keepF hb h.o1 h.f1⟩
theorem BegW.alloc {V : World} {b o g : Nat} {k : Kn} (h : BegW V b o g k) (x : Obj) : BegW (V.alloc x) b o g k := h.below ((Below.refl _ _).alloc (Nat.le_refl _) x)
theorem BegW.drew {V : World} {b o g : Nat} {k : Kn} (h : BegW V b o g k) : BegW V.drew b o g k := ⟨h.k0, h.k1, h.k2, h.o0, h.o1, h.f0, h.f1⟩

set_option maxRecDepth 20000 in
set_option maxHeartbeats 2000000 in
theorem begun_on (a : Option Addr) (cap : Nat) (c : List Kn) (i : Nat) (k : Kn) (w : World) (hr : IsR clK w a c) (hn : c.length ≤ 4096) (hcap : c.length ≤ cap) (hi : firstOn c = some i) (hk : c[i]? = some k) :
    Calls Try.prog 60 #[.slice a c.length cap] w (BegunPost w k.sp (c.drop (i + 1) ++ c.take i)) := by
  have hlt : i < c.length := (List.getElem?_eq_some_iff.1 hk).1
  have HR := Lib.hid hr
  have HN := Lib.hid hn
  have HB0 : Hid (Below w.heap.size w (w.alloc (.cells #[.int .i64 0, .int .i64 0] 47))) := (Below.refl _ _).alloc (Nat.le_refl _) _
  have HIC := Lib.hid (indexFunc_c a cap c (w.alloc (.cells #[.int .i64 0, .int .i64 0] 47)) (hr.below HB0.out) hn)
  have HIX : Hid (idxI c = (i : Int)) := by unfold Hid idxI; rw [hi]
  rw [HIX.out] at HIC
  obtain ⟨b, off, rfl, k0, k1, k2⟩ := hr.knot hk
  have HK0 := Lib.hid k0
  have HK1 := Lib.hid k1
  have HK2 := Lib.hid k2
  have o0 : (w.alloc (.cells #[.int .i64 0, .int .i64 0] 47)).cell? ⟨w.heap.size, 0, none⟩ = some (.int .i64 0) := by simp [go_sem]
  have o1 : (w.alloc (.cells #[.int .i64 0, .int .i64 0] 47)).cell? ⟨w.heap.size, 1, none⟩ = some (.int .i64 0) := by simp [go_sem]
  have f0 : (w.alloc (.cells #[.int .i64 0, .int .i64 0] 47)).frozen? ⟨w.heap.size, 0, none⟩ = false := by simp [go_sem]
  have f1 : (w.alloc (.cells #[.int .i64 0, .int .i64 0] 47)).frozen? ⟨w.heap.size, 1, none⟩ = false := by simp [go_sem]
  have HO := Lib.hid (And.intro o0 (And.intro o1 (And.intro f0 f1)))
  obtain ⟨n, HNN⟩ : ∃ n, Hid (c.length = n) := ⟨_, rfl⟩
  rw [HNN.out] at hlt hn hcap HIC
  rw [HNN.out]
  have q1 : (i : Int) < (n : Int) := by omega
  have q2 : (0 : Int) ≤ (i : Int) := by omega
  have q3 : (i : Int) + 1 ≤ (n : Int) := by omega
  have q4 : (n : Int) ≤ (cap : Int) := by omega
  have q5 : (n : Int) ≤ 4096 := by omega
  have HQ := Lib.hid (And.intro hlt (And.intro hn hcap))
  clear hr hk hi k0 k1 k2 o0 o1 f0 f1 hlt hn hcap
  have q6 : (i : Int) ≤ (cap : Int) := by omega
  have q7 : (i : Int) ≤ (n : Int) := by omega
  by_cases hcc : cap = i + 1
  · obtain rfl : n = cap := by omega
    replace hcc : i + 1 = n := hcc.symm
    go_enter Try.func60, Try.ntmps60
    go_wp2_with fail
    refine HIC.out.mono ?_
    rintro e w1 ⟨rfl, hb1⟩
    have HB1 := Lib.hid (bel_next HB0.out hb1)
    have HW : Hid (BegW w1 b (off + i * 3) w.heap.size k) := ⟨keepC HB1.out HK0.out, keepC HB1.out HK1.out, keepC HB1.out HK2.out, keepC hb1 HO.out.1, keepC hb1 HO.out.2.1, keepF hb1 HO.out.1 HO.out.2.2.1, keepF hb1 HO.out.2.1 HO.out.2.2.2⟩
    clear hb1 HIC HO HB0
    have HR1 := Lib.hid (HR.out.below HB1.out)
    have HRA : Hid (IsR clK w1 (some ⟨b, off, none⟩) (c.drop (i + 1))) := .inl (List.drop_eq_nil_of_le (by rw [HNN.out]; omega))
    have HRB := Lib.hid (HR1.out.take i)
    have HL1 : Hid ((c.drop (i + 1)).length = 0) := by unfold Hid; rw [List.length_drop, HNN.out]; omega
    have HL2 : Hid ((c.take i).length = i) := by unfold Hid; rw [List.length_take, HNN.out]; have := HQ.out; omega
    have HSZ : Hid (w.heap.size < w1.heap.size) := World.block_lt_of_cell? w1 _ HW.out.o0
    have HNE : Hid (w.heap.size ≠ b) := by have := World.block_lt_of_cell? w _ HK0.out; unfold Hid; simp at this; omega
    have HL12 : Hid ((c.drop (i + 1)).length + (c.take i).length ≤ 4096) := by unfold Hid; rw [HL1.out, HL2.out]; omega
    go_wp2_with fail
    have HWd := Lib.hid HW.out.drew
    have HBd := Lib.hid HB1.out.drew
    have HRAd : Hid (IsR clK w1.drew (some ⟨b, off, none⟩) (c.drop (i + 1))) := HRA
    have HRBd : Hid (IsR clK w1.drew (some ⟨b, off, none⟩) (c.take i)) := HRB
    have e1 : IntKind.i64.wrap ((i : Int) + 1) = (i : Int) + 1 := IntWalk.i64_in _ (by omega)
    have e2 : (0 : Int) ≤ (i : Int) + 1 := by omega
    have e3 : ((i : Int) + 1).toNat = i + 1 := by omega
    have HWa : Hid (BegW (w1.alloc (.cells #[.slice (some ⟨b, off, none⟩) 0 0, .slice (some ⟨b, off, none⟩) i n] 35)).drew b (off + i * 3) w.heap.size k) := (HW.out.alloc _).drew
    have HBa : Hid (Below w.heap.size w (w1.alloc (.cells #[.slice (some ⟨b, off, none⟩) 0 0, .slice (some ⟨b, off, none⟩) i n] 35)).drew) := (bel_alloc HB1.out _).drew
    have HRAa : Hid (IsR clK (w1.alloc (.cells #[.slice (some ⟨b, off, none⟩) 0 0, .slice (some ⟨b, off, none⟩) i n] 35)).drew (some ⟨b, off, none⟩) (c.drop (i + 1))) := HRA.out.below ((Below.refl _ _).alloc (Nat.le_refl _) _).drew
    have HRBa : Hid (IsR clK (w1.alloc (.cells #[.slice (some ⟨b, off, none⟩) 0 0, .slice (some ⟨b, off, none⟩) i n] 35)).drew (some ⟨b, off, none⟩) (c.take i)) := HRB.out.below ((Below.refl _ _).alloc (Nat.le_refl _) _).drew
    have HCa : Hid ((w1.alloc (.cells #[.slice (some ⟨b, off, none⟩) 0 0, .slice (some ⟨b, off, none⟩) i n] 35)).drew.cell? ⟨w1.heap.size, 0, none⟩ = some (.slice (some ⟨b, off, none⟩) 0 0) ∧ (w1.alloc (.cells #[.slice (some ⟨b, off, none⟩) 0 0, .slice (some ⟨b, off, none⟩) i n] 35)).drew.cell? ⟨w1.heap.size, 1, none⟩ = some (.slice (some ⟨b, off, none⟩) i n)) := ⟨by simp [go_sem], by simp [go_sem]⟩
    have hA6 : ∀ w6 : World, Below w1.drew.heap.size w1.drew w6 → Hid ((w6.alloc (.cells #[.slice (some ⟨b, off, none⟩) 0 0, .slice (some ⟨b, off, none⟩) i n] 35)).cell? ⟨w6.heap.size, 0, none⟩ = some (.slice (some ⟨b, off, none⟩) 0 0) ∧ (w6.alloc (.cells #[.slice (some ⟨b, off, none⟩) 0 0, .slice (some ⟨b, off, none⟩) i n] 35)).cell? ⟨w6.heap.size, 1, none⟩ = some (.slice (some ⟨b, off, none⟩) i n)) := fun w6 _ => ⟨by simp [go_sem], by simp [go_sem]⟩
    have HA6 := Lib.hid hA6
    clear hA6
    go_region_held3 (fun V => V.cell? ⟨b, off + i * 3, none⟩ = some (.int .i64 k.x) ∧ V.cell? ⟨b, off + i * 3 + 1, none⟩ = some (.int .i64 k.y) ∧ V.cell? ⟨b, off + i * 3 + 2, none⟩ = some (.int .i64 k.k)) (first | with_reducible exact ⟨HWd.out.k0, HWd.out.k1, HWd.out.k2⟩ | with_reducible exact ⟨HWa.out.k0, HWa.out.k1, HWa.out.k2⟩ | with_reducible exact ⟨HW6.out.k0, HW6.out.k1, HW6.out.k2⟩ | with_reducible exact ⟨HW6a.out.k0, HW6a.out.k1, HW6a.out.k2⟩ | with_reducible exact ⟨HW7.out.k0, HW7.out.k1, HW7.out.k2⟩ | with_reducible exact ⟨((keepS HNE.out).trans (keepS HNE.out)).trans HW7.out.k0, ((keepS HNE.out).trans (keepS HNE.out)).trans HW7.out.k1, ((keepS HNE.out).trans (keepS HNE.out)).trans HW7.out.k2⟩)
      (first | (go_at_call 42; ((with_reducible refine (placeOf_h k w1.drew).mono ?_); rintro e w6 ⟨rfl, hb6⟩; have HC6 := Lib.hid (HA6.out w6 hb6).out; have HW6 := Lib.hid (HWd.out.below hb6); have HW6a := Lib.hid (HW6.out.alloc (.cells #[.slice (some ⟨b, off, none⟩) 0 0, .slice (some ⟨b, off, none⟩) i n] 35)); have HSG := Lib.hid (size_d hb6); have HB6 := Lib.hid (bel_alloc (bel_next HBd.out hb6) (.cells #[.slice (some ⟨b, off, none⟩) 0 0, .slice (some ⟨b, off, none⟩) i n] 35)); have HRA6 := Lib.hid ((HRAd.out.below hb6).below ((Below.refl _ _).alloc (Nat.le_refl _) (.cells #[.slice (some ⟨b, off, none⟩) 0 0, .slice (some ⟨b, off, none⟩) i n] 35))); have HRB6 := Lib.hid ((HRBd.out.below hb6).below ((Below.refl _ _).alloc (Nat.le_refl _) (.cells #[.slice (some ⟨b, off, none⟩) 0 0, .slice (some ⟨b, off, none⟩) i n] 35))); clear hb6)) | (go_at_call 42; ((with_reducible refine (placeOf_h k (w1.alloc (.cells #[.slice (some ⟨b, off, none⟩) 0 0, .slice (some ⟨b, off, none⟩) i n] 35)).drew).mono ?_); rintro e w6 ⟨rfl, hb6⟩; have HC6 : Hid (w6.cell? ⟨w1.heap.size, 0, none⟩ = some (.slice (some ⟨b, off, none⟩) 0 0) ∧ w6.cell? ⟨w1.heap.size, 1, none⟩ = some (.slice (some ⟨b, off, none⟩) i n)) := ⟨keepC hb6 HCa.out.1, keepC hb6 HCa.out.2⟩; have HW6 := Lib.hid (HWa.out.below hb6); have HW6a := HW6; have HSG := Lib.hid (size_ad hb6); have HB6 := Lib.hid (bel_next HBa.out hb6); have HRA6 := Lib.hid (HRAa.out.below hb6); have HRB6 := Lib.hid (HRBa.out.below hb6); clear hb6)) | (go_at_call 73; ((with_reducible refine (concat_h _ (some ⟨b, off, none⟩) (some ⟨b, off, none⟩) 0 n 0 i (c.drop (i + 1)) (c.take i) _ HL1.out HL2.out HC6.out.1 HC6.out.2 HRA6.out HRB6.out HL12.out).mono ?_); rintro e w7 ⟨aj, cj, rfl, hcj, hrj, hbj, hnj⟩; have HW7 := Lib.hid (HW6a.out.below hbj); have o0 := HW7.out.o0; have o1 := HW7.out.o1; have f0 := HW7.out.f0; have f1 := HW7.out.f1)))
    all_goals
      have HB7 := Lib.hid (bel_next HB6.out hbj)
      have HNJ : Hid (∀ b off s, aj = some ⟨b, off, s⟩ → w.heap.size ≠ b) := fun b off s h => by have h1 := hnj b off s h; have h2 := HSZ.out; have h3 := HB6.out.size; have h4 := HSG.out; (try simp at h1); omega
      have HRJ := Lib.hid ((hrj.set w.heap.size 0 (.int .i64 k.x) HNJ.out).set w.heap.size 1 (.int .i64 k.y) HNJ.out)
      have HCJ := Lib.hid hcj
      clear hbj hrj hcj hnj
      go_wp2_with fail
      refine bodyPost_ret (v := .tuple #[.agg #[.int .i64 k.x, .int .i64 k.y], .slice aj (c.drop (i + 1) ++ c.take i).length cj, .int .i64 0]) (by simp [results, Try.results60, go_sem, o0, o1, hcc]) rfl ⟨aj, cj, rfl, HCJ.out, HRJ.out, ?_⟩
      refine bel_set (bel_set HB7.out ?_ _) ?_ _ <;> omega
  · go_enter Try.func60, Try.ntmps60
    go_wp2_with fail
    refine HIC.out.mono ?_
    rintro e w1 ⟨rfl, hb1⟩
    have HB1 := Lib.hid (bel_next HB0.out hb1)
    have HW : Hid (BegW w1 b (off + i * 3) w.heap.size k) := ⟨keepC HB1.out HK0.out, keepC HB1.out HK1.out, keepC HB1.out HK2.out, keepC hb1 HO.out.1, keepC hb1 HO.out.2.1, keepF hb1 HO.out.1 HO.out.2.2.1, keepF hb1 HO.out.2.1 HO.out.2.2.2⟩
    clear hb1 HIC HO HB0
    have HR1 := Lib.hid (HR.out.below HB1.out)
    have HRA : Hid (IsR clK w1 (some ⟨b, off + (i + 1) * 3, none⟩) (c.drop (i + 1))) := HR1.out.drop clK_length (i + 1)
    have HRB := Lib.hid (HR1.out.take i)
    have HL1 : Hid ((c.drop (i + 1)).length = n - (i + 1)) := by unfold Hid; rw [List.length_drop, HNN.out]
    have HL2 : Hid ((c.take i).length = i) := by unfold Hid; rw [List.length_take, HNN.out]; have := HQ.out; omega
    have HSZ : Hid (w.heap.size < w1.heap.size) := World.block_lt_of_cell? w1 _ HW.out.o0
    have HNE : Hid (w.heap.size ≠ b) := by have := World.block_lt_of_cell? w _ HK0.out; unfold Hid; simp at this; omega
    have HL12 : Hid ((c.drop (i + 1)).length + (c.take i).length ≤ 4096) := by unfold Hid; rw [HL1.out, HL2.out]; omega
    go_wp2_with fail
    have HWd := Lib.hid HW.out.drew
    have HBd := Lib.hid HB1.out.drew
    have HRAd : Hid (IsR clK w1.drew (some ⟨b, off + (i + 1) * 3, none⟩) (c.drop (i + 1))) := HRA
    have HRBd : Hid (IsR clK w1.drew (some ⟨b, off, none⟩) (c.take i)) := HRB
    have e1 : IntKind.i64.wrap ((i : Int) + 1) = (i : Int) + 1 := IntWalk.i64_in _ (by omega)
    have e2 : (0 : Int) ≤ (i : Int) + 1 := by omega
    have e3 : ((i : Int) + 1).toNat = i + 1 := by omega
    have HWa : Hid (BegW (w1.alloc (.cells #[.slice (some ⟨b, off + (i + 1) * 3, none⟩) (n - (i + 1)) (cap - (i + 1)), .slice (some ⟨b, off, none⟩) i cap] 35)).drew b (off + i * 3) w.heap.size k) := (HW.out.alloc _).drew
    have HBa : Hid (Below w.heap.size w (w1.alloc (.cells #[.slice (some ⟨b, off + (i + 1) * 3, none⟩) (n - (i + 1)) (cap - (i + 1)), .slice (some ⟨b, off, none⟩) i cap] 35)).drew) := (bel_alloc HB1.out _).drew
    have HRAa : Hid (IsR clK (w1.alloc (.cells #[.slice (some ⟨b, off + (i + 1) * 3, none⟩) (n - (i + 1)) (cap - (i + 1)), .slice (some ⟨b, off, none⟩) i cap] 35)).drew (some ⟨b, off + (i + 1) * 3, none⟩) (c.drop (i + 1))) := HRA.out.below ((Below.refl _ _).alloc (Nat.le_refl _) _).drew
    have HRBa : Hid (IsR clK (w1.alloc (.cells #[.slice (some ⟨b, off + (i + 1) * 3, none⟩) (n - (i + 1)) (cap - (i + 1)), .slice (some ⟨b, off, none⟩) i cap] 35)).drew (some ⟨b, off, none⟩) (c.take i)) := HRB.out.below ((Below.refl _ _).alloc (Nat.le_refl _) _).drew
    have HCa : Hid ((w1.alloc (.cells #[.slice (some ⟨b, off + (i + 1) * 3, none⟩) (n - (i + 1)) (cap - (i + 1)), .slice (some ⟨b, off, none⟩) i cap] 35)).drew.cell? ⟨w1.heap.size, 0, none⟩ = some (.slice (some ⟨b, off + (i + 1) * 3, none⟩) (n - (i + 1)) (cap - (i + 1))) ∧ (w1.alloc (.cells #[.slice (some ⟨b, off + (i + 1) * 3, none⟩) (n - (i + 1)) (cap - (i + 1)), .slice (some ⟨b, off, none⟩) i cap] 35)).drew.cell? ⟨w1.heap.size, 1, none⟩ = some (.slice (some ⟨b, off, none⟩) i cap)) := ⟨by simp [go_sem], by simp [go_sem]⟩
    have hA6 : ∀ w6 : World, Below w1.drew.heap.size w1.drew w6 → Hid ((w6.alloc (.cells #[.slice (some ⟨b, off + (i + 1) * 3, none⟩) (n - (i + 1)) (cap - (i + 1)), .slice (some ⟨b, off, none⟩) i cap] 35)).cell? ⟨w6.heap.size, 0, none⟩ = some (.slice (some ⟨b, off + (i + 1) * 3, none⟩) (n - (i + 1)) (cap - (i + 1))) ∧ (w6.alloc (.cells #[.slice (some ⟨b, off + (i + 1) * 3, none⟩) (n - (i + 1)) (cap - (i + 1)), .slice (some ⟨b, off, none⟩) i cap] 35)).cell? ⟨w6.heap.size, 1, none⟩ = some (.slice (some ⟨b, off, none⟩) i cap)) := fun w6 _ => ⟨by simp [go_sem], by simp [go_sem]⟩
    have HA6 := Lib.hid hA6
    clear hA6
    go_region_held3 (fun V => V.cell? ⟨b, off + i * 3, none⟩ = some (.int .i64 k.x) ∧ V.cell? ⟨b, off + i * 3 + 1, none⟩ = some (.int .i64 k.y) ∧ V.cell? ⟨b, off + i * 3 + 2, none⟩ = some (.int .i64 k.k)) (first | with_reducible exact ⟨HWd.out.k0, HWd.out.k1, HWd.out.k2⟩ | with_reducible exact ⟨HWa.out.k0, HWa.out.k1, HWa.out.k2⟩ | with_reducible exact ⟨HW6.out.k0, HW6.out.k1, HW6.out.k2⟩ | with_reducible exact ⟨HW6a.out.k0, HW6a.out.k1, HW6a.out.k2⟩ | with_reducible exact ⟨HW7.out.k0, HW7.out.k1, HW7.out.k2⟩ | with_reducible exact ⟨((keepS HNE.out).trans (keepS HNE.out)).trans HW7.out.k0, ((keepS HNE.out).trans (keepS HNE.out)).trans HW7.out.k1, ((keepS HNE.out).trans (keepS HNE.out)).trans HW7.out.k2⟩)
      (first | (go_at_call 42; ((with_reducible refine (placeOf_h k w1.drew).mono ?_); rintro e w6 ⟨rfl, hb6⟩; have HC6 := Lib.hid (HA6.out w6 hb6).out; have HW6 := Lib.hid (HWd.out.below hb6); have HW6a := Lib.hid (HW6.out.alloc (.cells #[.slice (some ⟨b, off + (i + 1) * 3, none⟩) (n - (i + 1)) (cap - (i + 1)), .slice (some ⟨b, off, none⟩) i cap] 35)); have HSG := Lib.hid (size_d hb6); have HB6 := Lib.hid (bel_alloc (bel_next HBd.out hb6) (.cells #[.slice (some ⟨b, off + (i + 1) * 3, none⟩) (n - (i + 1)) (cap - (i + 1)), .slice (some ⟨b, off, none⟩) i cap] 35)); have HRA6 := Lib.hid ((HRAd.out.below hb6).below ((Below.refl _ _).alloc (Nat.le_refl _) (.cells #[.slice (some ⟨b, off + (i + 1) * 3, none⟩) (n - (i + 1)) (cap - (i + 1)), .slice (some ⟨b, off, none⟩) i cap] 35))); have HRB6 := Lib.hid ((HRBd.out.below hb6).below ((Below.refl _ _).alloc (Nat.le_refl _) (.cells #[.slice (some ⟨b, off + (i + 1) * 3, none⟩) (n - (i + 1)) (cap - (i + 1)), .slice (some ⟨b, off, none⟩) i cap] 35))); clear hb6)) | (go_at_call 42; ((with_reducible refine (placeOf_h k (w1.alloc (.cells #[.slice (some ⟨b, off + (i + 1) * 3, none⟩) (n - (i + 1)) (cap - (i + 1)), .slice (some ⟨b, off, none⟩) i cap] 35)).drew).mono ?_); rintro e w6 ⟨rfl, hb6⟩; have HC6 : Hid (w6.cell? ⟨w1.heap.size, 0, none⟩ = some (.slice (some ⟨b, off + (i + 1) * 3, none⟩) (n - (i + 1)) (cap - (i + 1))) ∧ w6.cell? ⟨w1.heap.size, 1, none⟩ = some (.slice (some ⟨b, off, none⟩) i cap)) := ⟨keepC hb6 HCa.out.1, keepC hb6 HCa.out.2⟩; have HW6 := Lib.hid (HWa.out.below hb6); have HW6a := HW6; have HSG := Lib.hid (size_ad hb6); have HB6 := Lib.hid (bel_next HBa.out hb6); have HRA6 := Lib.hid (HRAa.out.below hb6); have HRB6 := Lib.hid (HRBa.out.below hb6); clear hb6)) | (go_at_call 73; ((with_reducible refine (concat_h _ (some ⟨b, off + (i + 1) * 3, none⟩) (some ⟨b, off, none⟩) (cap - (i + 1)) cap (n - (i + 1)) i (c.drop (i + 1)) (c.take i) _ HL1.out HL2.out HC6.out.1 HC6.out.2 HRA6.out HRB6.out HL12.out).mono ?_); rintro e w7 ⟨aj, cj, rfl, hcj, hrj, hbj, hnj⟩; have HW7 := Lib.hid (HW6a.out.below hbj); have o0 := HW7.out.o0; have o1 := HW7.out.o1; have f0 := HW7.out.f0; have f1 := HW7.out.f1)))
    all_goals
      have HB7 := Lib.hid (bel_next HB6.out hbj)
      have HNJ : Hid (∀ b off s, aj = some ⟨b, off, s⟩ → w.heap.size ≠ b) := fun b off s h => by have h1 := hnj b off s h; have h2 := HSZ.out; have h3 := HB6.out.size; have h4 := HSG.out; (try simp at h1); omega
      have HRJ := Lib.hid ((hrj.set w.heap.size 0 (.int .i64 k.x) HNJ.out).set w.heap.size 1 (.int .i64 k.y) HNJ.out)
      have HCJ := Lib.hid hcj
      clear hbj hrj hcj hnj
      go_wp2_with fail
      refine bodyPost_ret (v := .tuple #[.agg #[.int .i64 k.x, .int .i64 k.y], .slice aj (c.drop (i + 1) ++ c.take i).length cj, .int .i64 0]) (by simp [results, Try.results60, go_sem, o0, o1]) rfl ⟨aj, cj, rfl, HCJ.out, HRJ.out, ?_⟩
      refine bel_set (bel_set HB7.out ?_ _) ?_ _ <;> omega

end Go.Proofs.Ythjhekmlhmljlaa
