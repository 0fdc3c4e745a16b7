/-
  Copies of outlines; outlines with other coordinates, of package path and of the document; rows that a law overwrites.
-/
import Derived.Test.YthjhekmlhmljlaaFlC
import Derived.Test.YthjhekmlhmljlaaPtM
import Derived.Test.YthjhekmlhmljlaaPtF
import Derived.Test.YthjhekmlhmljlaaFxSum
import Derived.Test.YthjhekmlhmljlaaDotC
import Derived.Test.YthjhekmlhmljlaaDivAll
import Derived.Test.YthjhekmlhmljlaaOpK
import Derived.Test.YthjhekmlhmljlaaRefMd
import Derived.Test.YthjhekmlhmljlaaPtG
namespace Go.Proofs.Ythjhekmlhmljlaa
open Go.RowKit Go.PlainAid
set_option linter.unusedSimpArgs false
set_option linter.unusedVariables false

theorem belGrown {B : Nat} {w a b : World} {g : Nat} (h : Below B w a) (k : a.grownBy b (some g)) (hg : B ≤ g) (hB : B ≤ a.heap.size) : Below B w b :=
  ⟨k.os.trans h.os, k.tape.trans h.tape, k.output.trans h.output, Nat.le_trans h.size k.size, fun i hi => (k.block i (by omega) (fun e => by cases e; omega)).trans (h.block i hi)⟩

/-- Rows in memory from B on, each of its own, and none of them in the block g. -/
def RowsOwn (w : World) (B g : Nat) (vs : List Value) (O : List (List Kn)) : Prop := vs.length = O.length ∧ ∀ (i : Nat) (c : List Kn), O[i]? = some c → ∃ gi ci, vs[i]? = some (.slice (some ⟨gi, 0, none⟩) c.length ci) ∧ gi ≠ g ∧ w.ownsRow B 37 3 (.slice (some ⟨gi, 0, none⟩) c.length ci) c.length (c.flatMap clK)
theorem RowsOwn.below {w w' : World} {B g : Nat} {vs : List Value} {O : List (List Kn)} (h : RowsOwn w B g vs O) (k : Below w.heap.size w w') : RowsOwn w' B g vs O := by
  refine ⟨h.1, fun i c hc => ?_⟩
  obtain ⟨gi, ci, h1, h2, h3⟩ := h.2 i c hc
  exact ⟨gi, ci, h1, h2, own_below h3 k⟩
theorem RowsOwn.grown {w w' : World} {B g g' : Nat} {vs : List Value} {O : List (List Kn)} (h : RowsOwn w B g vs O) (k : w.grownBy w' (some g)) (hg : g' = g ∨ g' = w.heap.size) : RowsOwn w' B g' vs O := by
  refine ⟨h.1, fun i c hc => ?_⟩
  obtain ⟨gi, ci, h1, h2, h3⟩ := h.2 i c hc
  have hlt := (ownsRow_cap h3).2.2
  refine ⟨gi, ci, h1, by rcases hg with rfl | rfl <;> omega, own_keep h3 fun x hx => ?_⟩
  have : x = gi := by simpa [Value.ownBlock] using hx.symm
  subst this
  exact k.block x hlt (fun e => h2 (by cases e; rfl))
theorem RowsOwn.snoc {w : World} {B g : Nat} {vs : List Value} {O : List (List Kn)} (h : RowsOwn w B g vs O) {gi ci : Nat} {c : List Kn} (hg : gi ≠ g) (ho : w.ownsRow B 37 3 (.slice (some ⟨gi, 0, none⟩) c.length ci) c.length (c.flatMap clK)) :
    RowsOwn w B g (vs ++ [.slice (some ⟨gi, 0, none⟩) c.length ci]) (O ++ [c]) := by
  refine ⟨by simp [h.1], fun i d hd => ?_⟩
  by_cases hi : i < O.length
  · rw [List.getElem?_append_left hi] at hd
    obtain ⟨g2, c2, h1, h2, h3⟩ := h.2 i d hd
    exact ⟨g2, c2, by rw [List.getElem?_append_left (by rw [h.1]; exact hi)]; exact h1, h2, h3⟩
  · rw [List.getElem?_append_right (by omega)] at hd
    have hi2 : i - O.length = 0 := by have := (List.getElem?_eq_some_iff.1 hd).1; simp at this; omega
    rw [hi2] at hd
    have e : c = d := by simpa using hd
    subst e
    exact ⟨gi, ci, by rw [List.getElem?_append_right (by rw [h.1]; omega), h.1, hi2]; rfl, hg, ho⟩

end Go.Proofs.Ythjhekmlhmljlaa

namespace Go.Proofs.Ythjhekmlhmljlaa
open Go.RowKit Go.PlainAid
set_option linter.unusedSimpArgs false
set_option linter.unusedVariables false

/-- What Copy answers. -/
def CopyPost (w : World) (O : List (List Kn)) (e : Ending) (w' : World) : Prop := ∃ g c vs, e = .returned (.slice (some ⟨g, 0, none⟩) O.length c) ∧ w'.ownsRow w.heap.size 35 1 (.slice (some ⟨g, 0, none⟩) O.length c) O.length vs ∧ RowsOwn w' w.heap.size g vs O ∧ Below w.heap.size w w'

set_option maxRecDepth 20000 in
set_option maxHeartbeats 2000000 in
theorem copy_c (a : Option Addr) (cap : Nat) (O : List (List Kn)) (w : World) (ho : IsO clK w a O) (hl : Long O) : Calls Try.prog 11 #[.slice a O.length cap] w (CopyPost w O) := by
  have HO := Lib.hid ho
  have HL := Lib.hid hl
  have HO1 := Lib.hid (World.ownsRow_lit (base := w.heap.size) (e := 35) (size := 1) w #[] 0 (Nat.le_refl _) (by decide) rfl)
  clear ho hl
  go_enter Try.func11, Try.ntmps11
  go_wp2_with fail
  go_loopw [3, 10] (fun v x wr => ∃ i g c : Nat, ∃ vs, i ≤ O.length ∧ v = .slice (some ⟨g, 0, none⟩) i c ∧ x = .int .i64 i ∧ Hid (wr.ownsRow w.heap.size 35 1 (.slice (some ⟨g, 0, none⟩) i c) i vs) ∧
    Hid (RowsOwn wr w.heap.size g vs (O.take i)) ∧ Hid (Below w.heap.size w wr)) (fun _ x _ => O.length - (intOf x).toNat)
  case atStart => exact ⟨0, _, _, [], Nat.zero_le _, rfl, rfl, HO1, ⟨rfl, fun i c h => by simp at h⟩, (Below.refl _ _).alloc (Nat.le_refl _) _⟩
  case round =>
    obtain ⟨i, g, c, vs, hi, rfl, rfl, HW, HV, HB⟩ := hrel
    by_cases hlt : i < O.length
    · have hlt' : (i : Int) < (O.length : Int) := by omega
      obtain ⟨d, hd⟩ := get_of hlt
      obtain ⟨b, off, ai, ci, rfl, c0, hci, hr⟩ := (HO.out.below HB.out).at hd
      have HD := Lib.hid hd
      have HR := Lib.hid hr
      have HLT := Lib.hid hlt
      have HE := Lib.hid (World.ownsRow_lit (base := w.heap.size) (e := 37) (size := 3) wr #[] 0 HB.out.size (by decide) rfl)
      have HB2 := Lib.hid (bel_alloc HB.out (.cells #[] 37))
      have HDL : Hid (d.length ≤ 5864062014805) := HL.out.2 d (List.mem_of_getElem? hd)
      clear hd hr hi hlt hci
      have HI : Hid (i + 1 ≤ 5864062014805) := by have := HL.out.1; have := HLT.out; unfold Hid; omega
      go_wp2_with (at_builtin; first
        | (refine wpList_app elK rfl _ _ rfl (wr.alloc (.cells #[] 37)) w.heap.size wr.heap.size 0 0 [] ai d.length ci (d.flatMap clK) rfl rfl HE.out (flat_length clK_length d) (isR_src (HR.out.below ((Below.refl _ _).alloc (Nat.le_refl _) _))) clK_one (by have := HDL.out; omega) (by have := HDL.out; omega) HB2.out.size ?_; intro g2 c2 w2 ho2 hg2 hat2; rw [Nat.zero_add, List.nil_append] at ho2; rw [Nat.zero_add])
        | (refine wpList_app elKK rfl _ _ rfl (w2.alloc (.cells #[.slice (some ⟨g2, 0, none⟩) d.length c2] 35)) w.heap.size g c i vs (some ⟨w2.heap.size, 0, none⟩) 1 1 [.slice (some ⟨g2, 0, none⟩) d.length c2] rfl rfl ((own_below HW.out (belGrown ((Below.refl wr.heap.size wr).alloc (Nat.le_refl _) (.cells #[] 37)) hg2 (Nat.le_refl _) (by simp))).alloc _) rfl (.inr ⟨_, 0, rfl, lies_new (w := w2) (cs := #[.slice (some ⟨g2, 0, none⟩) d.length c2]) (T := 35)⟩) (by simp [Value.oneCell']) (by have := HI.out; omega) (by have := HI.out; omega) (by have := (bel_to HB.out (belGrown ((Below.refl wr.heap.size wr).alloc (Nat.le_refl _) (.cells #[] 37)) hg2 (Nat.le_refl _) (by simp)) HB.out.size).size; simp; omega) ?_; intro g8 c8 w8 ho8 hg8 hat8))
      have HN2 : Hid (Below wr.heap.size wr w2) := (belGrown ((Below.refl wr.heap.size wr).alloc (Nat.le_refl _) (.cells #[] 37)) hg2 (Nat.le_refl _) (by simp))
      have HB3 := Lib.hid (bel_to HB.out HN2.out HB.out.size)
      have HG2 : Hid (g2 ≠ g ∧ g2 < w2.heap.size) := ⟨by have := (ownsRow_cap HW.out).2.2; rcases hat2 with h | h <;> (try simp at h) <;> omega, (ownsRow_cap ho2).2.2⟩
      have HO2 := Lib.hid ho2
      clear ho2 hg2 hat2 HE HR c0
      have HB8 : Hid (Below w.heap.size w w8) := belGrown (bel_alloc HB3.out _) hg8 (ownsRow_cap HW.out).2.1 (by have := HB3.out.size; simp; omega)
      have HV8 : Hid (RowsOwn w8 w.heap.size g8 (vs ++ [.slice (some ⟨g2, 0, none⟩) d.length c2]) (O.take (i + 1))) := by
        unfold Hid
        rw [List.take_add_one, HD.out, Option.toList_some]
        refine RowsOwn.snoc (((HV.out.below HN2.out).below ((Below.refl _ _).alloc (Nat.le_refl _) _)).grown hg8 hat8) ?_ ?_
        · have h1 := (ownsRow_cap HW.out).2.2
          have h2 := HG2.out
          rcases hat8 with h | h
          · rw [h]; exact h2.1
          · rw [h]; simp; omega
        · refine own_keep (HO2.out.alloc (.cells #[.slice (some ⟨g2, 0, none⟩) d.length c2] 35)) fun x hx => ?_
          have : x = g2 := by simpa [Value.ownBlock] using hx.symm
          subst this
          exact hg8.block x (by have := HG2.out.2; simp; omega) (fun e => HG2.out.1 (by cases e; rfl))
      have HW8 := Lib.hid ho8
      have HX := Lib.hid (next64 (j := i) (by have := HI.out; omega))
      clear ho8 hg8 hat8
      go_wp2_with fail
      go_roundw
      case rel => exact ⟨i + 1, g8, c8, _, HLT.out, rfl, by first | rw [HX.out] | go_num, HW8, HV8, HB8⟩
      case measure => (try rw [HX.out]); have := HLT.out; simp only [intOf]; omega
    · have hlt' : ¬ (i : Int) < (O.length : Int) := by omega
      obtain rfl : i = O.length := by omega
      have HV2 : Hid (RowsOwn wr w.heap.size g vs O) := by have := HV.out; rwa [List.take_length] at this
      go_wp2_with fail
      go_ret
      exact ⟨g, c, vs, rfl, HW.out, HV2.out, HB.out⟩
theorem RowsOwn.isO {w : World} {B g c n : Nat} {vs : List Value} {O : List (List Kn)} (h : RowsOwn w B g vs O) (ho : w.ownsRow B 35 1 (.slice (some ⟨g, 0, none⟩) n c) n vs) : IsO clK w (some ⟨g, 0, none⟩) O := by
  refine .inr ⟨g, 0, rfl, fun i d hd => ?_⟩
  obtain ⟨gi, ci, h1, h2, h3⟩ := h.2 i d hd
  exact ⟨_, ci, own_lies ho i _ h1, (ownsRow_cap h3).1, own_isR rfl h3⟩

end Go.Proofs.Ythjhekmlhmljlaa

namespace Go.Proofs.Ythjhekmlhmljlaa
open Go.RowKit Go.PlainAid
set_option linter.unusedSimpArgs false
set_option linter.unusedVariables false

/-- A function number that is entered as it is. -/
def Enters (N : Nat) : Prop := ∀ (args : Array Value) (w : World), (callFunc N args).run Try.prog w = .ok (.enter N args) w
/-- A function value with what it has caught, in every world that keeps w: it answers r. -/
def Recks (F : Nat) (caps : Array Value) (w : World) (r : Kn → Int × Int) : Prop := Enters F ∧ ∀ w', Below w.heap.size w w' → ∀ k, WfK k →
  Calls Try.prog F (#[knV k] ++ caps) w' fun e w'' => e = .returned (.tuple #[.int .i64 (r k).1, .int .i64 (r k).2]) ∧ Below w'.heap.size w' w''
theorem Recks.below {F : Nat} {caps : Array Value} {w w' : World} {r : Kn → Int × Int} (h : Recks F caps w r) (k : Below w.heap.size w w') : Recks F caps w' r :=
  ⟨h.1, fun w2 hb => h.2 w2 (bel_next k hb)⟩

theorem md_h (a b c s f : Int) (w : World) (A : I64 a) (B : I64 b) (C : I64 c) (HS : Hid (mulDiv a b c = (s, f))) :
    Calls Try.prog 35 #[.int .i64 a, .int .i64 b, .int .i64 c] w fun e w' => e = .returned (.tuple #[.int .i64 s, .int .i64 f]) ∧ Below w.heap.size w w' := by
  have h := muldiv_any a b c w A.1 A.2 B.1 B.2 C.1 C.2
  rw [HS.out] at h
  exact h
theorem wf_64 {n : Int} (h : (Lit.int .i64 n).wf = true) : I64 n := by
  simp only [Lit.wf, Bool.and_eq_true, decide_eq_true_eq] at h
  exact h
theorem wf_x {k : Kn} (h : WfK k) : I64 k.x := wf_64 h.1
theorem wf_y {k : Kn} (h : WfK k) : I64 k.y := wf_64 h.2.1

set_option maxHeartbeats 1000000 in
theorem move1_c (b : Nat) (dx : Int) (w : World) (c0 : w.cell? ⟨b, 0, none⟩ = some (.int .i64 dx)) : Recks 28 #[.pointer (some ⟨b, 0, none⟩)] w (fun k => sumOr k.x dx) := by
  refine ⟨fun args w => by kernel_rfl, fun w' hb k hk => ?_⟩
  have c01 := keepC hb c0
  have c02 := keepC ((Below.refl w'.heap.size w').alloc (Nat.le_refl _) (.cells #[.int .i64 k.x, .int .i64 k.y, .int .i64 k.k] 37)) c01
  have HB : Hid (Below w'.heap.size w' (w'.alloc (.cells #[.int .i64 k.x, .int .i64 k.y, .int .i64 k.k] 37))) := (Below.refl _ _).alloc (Nat.le_refl _) _
  have eA : (#[knV k] ++ #[.pointer (some ⟨b, 0, none⟩)] : Array Value) = #[knV k, .pointer (some ⟨b, 0, none⟩)] := rfl
  rw [eA]
  dsimp only
  obtain ⟨s, f, HS⟩ : ∃ s f, Hid (sumOr k.x dx = (s, f)) := ⟨_, _, rfl⟩
  rw [HS.out]
  have HK := Lib.hid hk
  clear hk hb c0 c01
  unfold knV
  go_enter Try.func28, Try.ntmps28
  go_wp2_with fail
  refine (add_any k.x dx s f _ HS).mono ?_
  rintro e w2 ⟨rfl, hb2⟩
  have HB2 := Lib.hid (bel_next HB.out hb2)
  clear hb2
  go_wp2_with fail
  go_ret2
  exact ⟨rfl, HB2.out⟩
set_option maxHeartbeats 1000000 in
theorem move2_c (b : Nat) (dx : Int) (w : World) (c0 : w.cell? ⟨b, 0, none⟩ = some (.int .i64 dx)) : Recks 30 #[.pointer (some ⟨b, 0, none⟩)] w (fun k => sumOr k.y dx) := by
  refine ⟨fun args w => by kernel_rfl, fun w' hb k hk => ?_⟩
  have c01 := keepC hb c0
  have c02 := keepC ((Below.refl w'.heap.size w').alloc (Nat.le_refl _) (.cells #[.int .i64 k.x, .int .i64 k.y, .int .i64 k.k] 37)) c01
  have HB : Hid (Below w'.heap.size w' (w'.alloc (.cells #[.int .i64 k.x, .int .i64 k.y, .int .i64 k.k] 37))) := (Below.refl _ _).alloc (Nat.le_refl _) _
  have eA : (#[knV k] ++ #[.pointer (some ⟨b, 0, none⟩)] : Array Value) = #[knV k, .pointer (some ⟨b, 0, none⟩)] := rfl
  rw [eA]
  dsimp only
  obtain ⟨s, f, HS⟩ : ∃ s f, Hid (sumOr k.y dx = (s, f)) := ⟨_, _, rfl⟩
  rw [HS.out]
  have HK := Lib.hid hk
  clear hk hb c0 c01
  unfold knV
  go_enter Try.func30, Try.ntmps30
  go_wp2_with fail
  refine (add_any k.y dx s f _ HS).mono ?_
  rintro e w2 ⟨rfl, hb2⟩
  have HB2 := Lib.hid (bel_next HB.out hb2)
  clear hb2
  go_wp2_with fail
  go_ret2
  exact ⟨rfl, HB2.out⟩
set_option maxHeartbeats 1000000 in
theorem turn1_c (b : Nat) (m0 m1 : Int) (w : World) (c0 : w.cell? ⟨b, 0, none⟩ = some (.int .i64 m0)) (c1 : w.cell? ⟨b, 1, none⟩ = some (.int .i64 m1)) : Recks 31 #[.pointer (some ⟨b, 0, none⟩)] w (fun k => dotOr m0 m1 k.x k.y) := by
  refine ⟨fun args w => by kernel_rfl, fun w' hb k hk => ?_⟩
  have c01 := keepC hb c0
  have c02 := keepC ((Below.refl w'.heap.size w').alloc (Nat.le_refl _) (.cells #[.int .i64 k.x, .int .i64 k.y, .int .i64 k.k] 37)) c01
  have c11 := keepC hb c1
  have c12 := keepC ((Below.refl w'.heap.size w').alloc (Nat.le_refl _) (.cells #[.int .i64 k.x, .int .i64 k.y, .int .i64 k.k] 37)) c11
  have HB : Hid (Below w'.heap.size w' (w'.alloc (.cells #[.int .i64 k.x, .int .i64 k.y, .int .i64 k.k] 37))) := (Below.refl _ _).alloc (Nat.le_refl _) _
  have eA : (#[knV k] ++ #[.pointer (some ⟨b, 0, none⟩)] : Array Value) = #[knV k, .pointer (some ⟨b, 0, none⟩)] := rfl
  rw [eA]
  dsimp only
  obtain ⟨s, f, HS⟩ : ∃ s f, Hid (dotOr m0 m1 k.x k.y = (s, f)) := ⟨_, _, rfl⟩
  rw [HS.out]
  have HK := Lib.hid hk
  clear hk hb c0 c01 c1 c11
  unfold knV
  go_enter Try.func31, Try.ntmps31
  go_wp2_with fail
  refine (dot_any m0 m1 k.x k.y s f _ HS).mono ?_
  rintro e w2 ⟨rfl, hb2⟩
  have HB2 := Lib.hid (bel_next HB.out hb2)
  clear hb2
  go_wp2_with fail
  go_ret2
  exact ⟨rfl, HB2.out⟩
set_option maxHeartbeats 1000000 in
theorem turn2_c (b : Nat) (m0 m1 : Int) (w : World) (c0 : w.cell? ⟨b, 2, none⟩ = some (.int .i64 m0)) (c1 : w.cell? ⟨b, 3, none⟩ = some (.int .i64 m1)) : Recks 33 #[.pointer (some ⟨b, 0, none⟩)] w (fun k => dotOr m0 m1 k.x k.y) := by
  refine ⟨fun args w => by kernel_rfl, fun w' hb k hk => ?_⟩
  have c01 := keepC hb c0
  have c02 := keepC ((Below.refl w'.heap.size w').alloc (Nat.le_refl _) (.cells #[.int .i64 k.x, .int .i64 k.y, .int .i64 k.k] 37)) c01
  have c11 := keepC hb c1
  have c12 := keepC ((Below.refl w'.heap.size w').alloc (Nat.le_refl _) (.cells #[.int .i64 k.x, .int .i64 k.y, .int .i64 k.k] 37)) c11
  have HB : Hid (Below w'.heap.size w' (w'.alloc (.cells #[.int .i64 k.x, .int .i64 k.y, .int .i64 k.k] 37))) := (Below.refl _ _).alloc (Nat.le_refl _) _
  have eA : (#[knV k] ++ #[.pointer (some ⟨b, 0, none⟩)] : Array Value) = #[knV k, .pointer (some ⟨b, 0, none⟩)] := rfl
  rw [eA]
  dsimp only
  obtain ⟨s, f, HS⟩ : ∃ s f, Hid (dotOr m0 m1 k.x k.y = (s, f)) := ⟨_, _, rfl⟩
  rw [HS.out]
  have HK := Lib.hid hk
  clear hk hb c0 c01 c1 c11
  unfold knV
  go_enter Try.func33, Try.ntmps33
  go_wp2_with fail
  refine (dot_any m0 m1 k.x k.y s f _ HS).mono ?_
  rintro e w2 ⟨rfl, hb2⟩
  have HB2 := Lib.hid (bel_next HB.out hb2)
  clear hb2
  go_wp2_with fail
  go_ret2
  exact ⟨rfl, HB2.out⟩
set_option maxHeartbeats 1000000 in
theorem resize1_c (b b' : Nat) (p q : Int) (w : World) (hp : I64 p) (hq : I64 q) (c0 : w.cell? ⟨b, 0, none⟩ = some (.int .i64 p)) (c1 : w.cell? ⟨b', 0, none⟩ = some (.int .i64 q)) : Recks 34 #[.pointer (some ⟨b, 0, none⟩), .pointer (some ⟨b', 0, none⟩)] w (fun k => mulDiv k.x p q) := by
  refine ⟨fun args w => by kernel_rfl, fun w' hb k hk => ?_⟩
  have c01 := keepC hb c0
  have c02 := keepC ((Below.refl w'.heap.size w').alloc (Nat.le_refl _) (.cells #[.int .i64 k.x, .int .i64 k.y, .int .i64 k.k] 37)) c01
  have c11 := keepC hb c1
  have c12 := keepC ((Below.refl w'.heap.size w').alloc (Nat.le_refl _) (.cells #[.int .i64 k.x, .int .i64 k.y, .int .i64 k.k] 37)) c11
  have HB : Hid (Below w'.heap.size w' (w'.alloc (.cells #[.int .i64 k.x, .int .i64 k.y, .int .i64 k.k] 37))) := (Below.refl _ _).alloc (Nat.le_refl _) _
  have eA : (#[knV k] ++ #[.pointer (some ⟨b, 0, none⟩), .pointer (some ⟨b', 0, none⟩)] : Array Value) = #[knV k, .pointer (some ⟨b, 0, none⟩), .pointer (some ⟨b', 0, none⟩)] := rfl
  rw [eA]
  dsimp only
  obtain ⟨s, f, HS⟩ : ∃ s f, Hid (mulDiv k.x p q = (s, f)) := ⟨_, _, rfl⟩
  rw [HS.out]
  have HK := Lib.hid hk
  clear hk hb c0 c01 c1 c11
  unfold knV
  go_enter Try.func34, Try.ntmps34
  go_wp2_with fail
  refine (md_h k.x p q s f _ (wf_x HK.out) hp hq HS).mono ?_
  rintro e w2 ⟨rfl, hb2⟩
  have HB2 := Lib.hid (bel_next HB.out hb2)
  clear hb2
  go_wp2_with fail
  go_ret2
  exact ⟨rfl, HB2.out⟩
set_option maxHeartbeats 1000000 in
theorem resize2_c (b b' : Nat) (p q : Int) (w : World) (hp : I64 p) (hq : I64 q) (c0 : w.cell? ⟨b, 0, none⟩ = some (.int .i64 p)) (c1 : w.cell? ⟨b', 0, none⟩ = some (.int .i64 q)) : Recks 36 #[.pointer (some ⟨b, 0, none⟩), .pointer (some ⟨b', 0, none⟩)] w (fun k => mulDiv k.y p q) := by
  refine ⟨fun args w => by kernel_rfl, fun w' hb k hk => ?_⟩
  have c01 := keepC hb c0
  have c02 := keepC ((Below.refl w'.heap.size w').alloc (Nat.le_refl _) (.cells #[.int .i64 k.x, .int .i64 k.y, .int .i64 k.k] 37)) c01
  have c11 := keepC hb c1
  have c12 := keepC ((Below.refl w'.heap.size w').alloc (Nat.le_refl _) (.cells #[.int .i64 k.x, .int .i64 k.y, .int .i64 k.k] 37)) c11
  have HB : Hid (Below w'.heap.size w' (w'.alloc (.cells #[.int .i64 k.x, .int .i64 k.y, .int .i64 k.k] 37))) := (Below.refl _ _).alloc (Nat.le_refl _) _
  have eA : (#[knV k] ++ #[.pointer (some ⟨b, 0, none⟩), .pointer (some ⟨b', 0, none⟩)] : Array Value) = #[knV k, .pointer (some ⟨b, 0, none⟩), .pointer (some ⟨b', 0, none⟩)] := rfl
  rw [eA]
  dsimp only
  obtain ⟨s, f, HS⟩ : ∃ s f, Hid (mulDiv k.y p q = (s, f)) := ⟨_, _, rfl⟩
  rw [HS.out]
  have HK := Lib.hid hk
  clear hk hb c0 c01 c1 c11
  unfold knV
  go_enter Try.func36, Try.ntmps36
  go_wp2_with fail
  refine (md_h k.y p q s f _ (wf_y HK.out) hp hq HS).mono ?_
  rintro e w2 ⟨rfl, hb2⟩
  have HB2 := Lib.hid (bel_next HB.out hb2)
  clear hb2
  go_wp2_with fail
  go_ret2
  exact ⟨rfl, HB2.out⟩

end Go.Proofs.Ythjhekmlhmljlaa

namespace Go.Proofs.Ythjhekmlhmljlaa
open Go.RowKit Go.PlainAid
set_option linter.unusedSimpArgs false
set_option linter.unusedVariables false

/-- A knot, a contour, an outline with other coordinates; none: one of them is refused. -/
def mapK (fx fy : Kn → Int × Int) (k : Kn) : Option Kn := if (fx k).2 = 0 ∧ (fy k).2 = 0 then some ⟨(fx k).1, (fy k).1, k.k⟩ else none
def mapC (fx fy : Kn → Int × Int) : List Kn → Option (List Kn)
  | [] => some []
  | k :: r => match mapK fx fy k with
    | none => none
    | some q => (match mapC fx fy r with
      | none => none
      | some l => some (q :: l))
def mapO (fx fy : Kn → Int × Int) : List (List Kn) → Option (List (List Kn))
  | [] => some []
  | c :: r => match mapC fx fy c with
    | none => none
    | some q => (match mapO fx fy r with
      | none => none
      | some l => some (q :: l))
theorem mapC_none {fx fy : Kn → Int × Int} : ∀ {c : List Kn} {k : Kn}, k ∈ c → mapK fx fy k = none → mapC fx fy c = none
  | [], k, h, _ => by simp at h
  | a :: c, k, h, hp => by
    rw [mapC]
    rcases List.mem_cons.1 h with e | h
    · subst e; rw [hp]
    · rw [mapC_none h hp]
      cases mapK fx fy a <;> rfl
theorem mapC_some {fx fy : Kn → Int × Int} : ∀ {c Q : List Kn}, Q.length = c.length → (∀ (j : Nat) k q, c[j]? = some k → Q[j]? = some q → mapK fx fy k = some q) → mapC fx fy c = some Q
  | [], Q, h, _ => by
    have : Q = [] := List.eq_nil_of_length_eq_zero h
    rw [this]; rfl
  | a :: O, [], h, _ => by simp at h
  | a :: O, q :: Q, h, hall => by
    rw [mapC, hall 0 a q rfl rfl, mapC_some (c := O) (Q := Q) (by simpa using h) (fun j c x hc hx => hall (j + 1) c x (by simpa using hc) (by simpa using hx))]
theorem mapO_none {fx fy : Kn → Int × Int} : ∀ {O : List (List Kn)} {c : List Kn}, c ∈ O → mapC fx fy c = none → mapO fx fy O = none
  | [], c, h, _ => by simp at h
  | a :: O, c, h, hp => by
    rw [mapO]
    rcases List.mem_cons.1 h with e | h
    · subst e; rw [hp]
    · rw [mapO_none h hp]
      cases mapC fx fy a <;> rfl
theorem mapO_some {fx fy : Kn → Int × Int} : ∀ {O Q : List (List Kn)}, Q.length = O.length → (∀ (j : Nat) c q, O[j]? = some c → Q[j]? = some q → mapC fx fy c = some q) → mapO fx fy O = some Q
  | [], Q, h, _ => by
    have : Q = [] := List.eq_nil_of_length_eq_zero h
    rw [this]; rfl
  | a :: O, [], h, _ => by simp at h
  | a :: O, q :: Q, h, hall => by
    rw [mapO, hall 0 a q rfl rfl, mapO_some (O := O) (Q := Q) (by simpa using h) (fun j c x hc hx => hall (j + 1) c x (by simpa using hc) (by simpa using hx))]
theorem mapC_len {fx fy : Kn → Int × Int} : ∀ {c Q : List Kn}, mapC fx fy c = some Q → Q.length = c.length
  | [], Q, h => by cases h; rfl
  | k :: c, Q, h => by
    rw [mapC] at h
    cases e : mapK fx fy k with
    | none => rw [e] at h; cases h
    | some q =>
      rw [e] at h
      dsimp only at h
      cases e2 : mapC fx fy c with
      | none => rw [e2] at h; cases h
      | some l =>
        rw [e2] at h
        cases h
        simp [mapC_len e2]
theorem mapO_len {fx fy : Kn → Int × Int} : ∀ {O Q : List (List Kn)}, mapO fx fy O = some Q → Q.length = O.length ∧ ∀ q ∈ Q, q.length ≤ totalL O
  | [], Q, h => by cases h; simp
  | c :: O, Q, h => by
    rw [mapO] at h
    cases e : mapC fx fy c with
    | none => rw [e] at h; cases h
    | some q =>
      rw [e] at h
      dsimp only at h
      cases e2 : mapO fx fy O with
      | none => rw [e2] at h; cases h
      | some l =>
        rw [e2] at h
        cases h
        obtain ⟨h1, h2⟩ := mapO_len e2
        refine ⟨by simp [h1], fun x hx => ?_⟩
        rw [totalL]
        rcases List.mem_cons.1 hx with e3 | hx
        · subst e3; have := mapC_len e; omega
        · have := h2 x hx; omega

/-- A cell of an owned row is written. -/
theorem own_put {w : World} {B : Nat} {e : TypeId} {s n g c : Nat} {xs : List Value} (h : w.ownsRow B e s (.slice (some ⟨g, 0, none⟩) n c) n xs) (i : Nat) (u : Value) : (w.setCell ⟨g, i, none⟩ u).ownsRow B e s (.slice (some ⟨g, 0, none⟩) n c) n (xs.set i u) := by
  refine ⟨by rw [List.length_set]; exact h.1, ?_⟩
  rcases h.2 with ⟨hv, _⟩ | ⟨g', cap, cur, hv, hb, hg, hnc, hcm, hcs, ht⟩
  · cases hv
  · cases hv
    refine .inr ⟨g, c, cur.setIfInBounds i u, rfl, hb, heap_set hg, hnc, hcm, by rw [Array.size_setIfInBounds]; exact hcs, ?_⟩
    rw [← ht, Array.toList_setIfInBounds, List.take_set]
theorem flat_set (L : List Kn) : ∀ (j : Nat) (k : Kn), (((L.flatMap clK).set (j * 3) (.int .i64 k.x)).set (j * 3 + 1) (.int .i64 k.y)).set (j * 3 + 2) (.int .i64 k.k) = (L.set j k).flatMap clK := by
  induction L with
  | nil => intro j k; simp
  | cons a L ih =>
    intro j k
    cases j with
    | zero => simp [clK]
    | succ j =>
      have h1 : (j + 1) * 3 = j * 3 + 3 := by omega
      rw [List.set_cons_succ, List.flatMap_cons, List.flatMap_cons, ← ih j k, h1]
      simp [clK, List.set_cons_succ]
theorem flat_setS (L : List Sp) : ∀ (j : Nat) (k : Sp), ((L.flatMap clS).set (j * 2) (.int .i64 k.x)).set (j * 2 + 1) (.int .i64 k.y) = (L.set j k).flatMap clS := by
  induction L with
  | nil => intro j k; simp
  | cons a L ih =>
    intro j k
    cases j with
    | zero => simp [clS]
    | succ j =>
      have h1 : (j + 1) * 2 = j * 2 + 2 := by omega
      rw [List.set_cons_succ, List.flatMap_cons, List.flatMap_cons, ← ih j k, h1]
      simp [clS, List.set_cons_succ]
/-- One row is another, in its own block. -/
theorem OutAt.upd {α : Type} {cl : α → List Value} {s : Nat} {T TS : TypeId} {g : Nat} {vs : List Value} {Ls : List (List α)} {k : Nat} {N : Nat → Nat} {V V' : World} (h : OutAt cl s T TS g vs Ls k N V) {i b c : Nat} {L L' : List α}
    (hv : vs[i]? = some (.slice (some ⟨b, 0, none⟩) L.length c)) (hL : Ls[i]? = some L) (hlen : L'.length = L.length) (hkeep : ∀ x, x ≠ b → V'.heap[x]? = V.heap[x]?) (hsz : V'.heap.size = V.heap.size)
    (ho : V'.ownsRow (N i) T s (.slice (some ⟨b, 0, none⟩) L'.length c) L'.length (L'.flatMap cl)) : OutAt cl s T TS g vs (Ls.set i L') k N V' := by
  have hrow : ∀ (j : Nat) (v : Value) (M : List α), vs[j]? = some v → Ls[j]? = some M → ∃ a c, v = .slice a M.length c ∧ V.ownsRow (N j) T s (.slice a M.length c) M.length (M.flatMap cl) ∧ ∀ h, (Value.slice a M.length c).ownBlock = some h → h < N (j + 1) := h.row
  obtain ⟨a0, c0, e0, ho0, hlt0⟩ := hrow i _ L hv hL
  cases e0
  have hb1 : N i ≤ b := (ownsRow_cap ho0).2.1
  have hb2 : b < N (i + 1) := hlt0 b rfl
  have hgb : g ≠ b := by have := up_le h.up i 0 (Nat.zero_le _); have := h.lo; omega
  refine ⟨by rw [hkeep g hgb]; exact h.blk, by rw [List.length_set]; exact h.len, ?_, h.up, h.lo, by rw [List.length_set, hsz]; exact h.hi⟩
  intro j v M hvj hMj
  by_cases hj : j = i
  · subst hj
    have hlt : j < Ls.length := (List.getElem?_eq_some_iff.1 hL).1
    rw [List.getElem?_set_self hlt] at hMj
    cases hMj
    rw [hv] at hvj
    cases hvj
    exact ⟨_, c, by rw [hlen], ho, fun x hx => hlt0 x (by simpa [Value.ownBlock] using hx)⟩
  · rw [List.getElem?_set_ne (Ne.symm hj)] at hMj
    obtain ⟨a, cc, e, hown, hlt⟩ := hrow j v M hvj hMj
    refine ⟨a, cc, e, own_keep hown (fun x hx => hkeep x ?_), hlt⟩
    have h1 := (hown.lt x hx).1
    have h2 := hlt x hx
    rcases Nat.lt_or_gt_of_ne hj with h3 | h3
    · have := up_le h.up i (j + 1) (by omega); omega
    · have := up_le h.up j (i + 1) (by omega); omega

end Go.Proofs.Ythjhekmlhmljlaa

namespace Go.Proofs.Ythjhekmlhmljlaa
open Go.RowKit Go.PlainAid
set_option linter.unusedSimpArgs false
set_option linter.unusedVariables false

/-- Knots not yet written. -/
def zerosK (n : Nat) : List Kn := List.replicate n ⟨0, 0, 0⟩
theorem zerosK_len (n : Nat) : (zerosK n).length = n := by simp [zerosK]
theorem zerosK_set (Q : List Kn) (q : Kn) {m j : Nat} (hq : Q.length = j) (hj : j < m) : (Q ++ zerosK (m - j)).set j q = (Q ++ [q]) ++ zerosK (m - (j + 1)) := by
  subst hq
  rw [List.set_append_right _ _ (Nat.le_refl _), Nat.sub_self]
  obtain ⟨t, ht⟩ : ∃ t, m - Q.length = t + 1 := ⟨m - Q.length - 1, by omega⟩
  have h2 : m - (Q.length + 1) = t := by omega
  rw [ht, h2]
  simp [zerosK, List.replicate_succ]
theorem made_knots (n : Nat) : madeCells #[Value.int .i64 0, .int .i64 0, .int .i64 0] (n * 3) = ((zerosK n).flatMap clK).toArray := by
  apply Array.ext
  · simp [size_madeCells, flat_length clK_length, zerosK_len]
  · intro i h1 h2
    have hlt : i < n * 3 := by simpa [size_madeCells] using h1
    have e : ((zerosK n).flatMap clK)[i]? = some (.int .i64 0) := by
      have h3 : i = i / 3 * 3 + i % 3 := by omega
      have h4 : i / 3 < n := by omega
      have h5 : (zerosK n)[i / 3]? = some ⟨0, 0, 0⟩ := by simp [zerosK, List.getElem?_replicate, h4]
      rw [h3, flat_at clK_length _ _ _ h5 _ (by omega)]
      have h6 : i % 3 < 3 := by omega
      generalize i % 3 = r at h6
      match r, h6 with
      | 0, _ => rfl
      | 1, _ => rfl
      | 2, _ => rfl
    have e2 : (madeCells #[Value.int .i64 0, .int .i64 0, .int .i64 0] (n * 3))[i] = .int .i64 0 := by
      simp only [madeCells, Array.getElem_ofFn]
      have h6 : i % 3 < 3 := by omega
      simp
      generalize i % 3 = r at *
      match r, h6 with
      | 0, _ => rfl
      | 1, _ => rfl
      | 2, _ => rfl
    rw [e2]
    have := (List.getElem?_eq_some_iff.1 e)
    obtain ⟨h7, h8⟩ := this
    simp [h8]
theorem zeroK : (Try.prog.info? 37).map (fun i => (i.zero, i.size, i.bytes)) = some (some (.agg #[.int .i64 0, .int .i64 0, .int .i64 0]), 3, 24) := by kernel_rfl
theorem make_knots (k : Nat) (hk : k ≤ 1000000) (u : World) : ∃ w', (Instr.makeSlice 35 (.int .i64 (k : Int)) (.int .i64 (k : Int))).run Try.prog u = .ok (.slice (some ⟨u.heap.size, 0, none⟩) k k) w' ∧
    w'.ownsRow u.heap.size 37 3 (.slice (some ⟨u.heap.size, 0, none⟩) k k) k ((zerosK k).flatMap clK) ∧ Below u.heap.size u w' ∧ w'.heap.size = u.heap.size + 1 := by
  obtain ⟨i0, hi, hz0, hz1, hz2⟩ := info_parts zeroK
  have h := run_make (P := Try.prog) u 35 37 i0 (.agg #[.int .i64 0, .int .i64 0, .int .i64 0]) elK.1 hi hz0 .i64 .i64 (k : Int) (k : Int) (by omega) (Int.le_refl _) (by rw [hz2]; omega) (by omega)
  rw [Int.toNat_natCast] at h
  refine ⟨u.alloc (.cells ((zerosK k).flatMap clK).toArray 37), ?_, ?_, (Below.refl _ _).alloc (Nat.le_refl _) _, by simp [go_sem]⟩
  · rw [← made_knots]
    simpa [hz1, Value.cells] using h
  · have := World.ownsRow_lit (base := u.heap.size) (e := 37) (size := 3) u ((zerosK k).flatMap clK).toArray k (Nat.le_refl _) (by unfold maxLen; omega) (by simp [flat_length clK_length, zerosK_len])
    simpa using this

/-- What remade answers for an outline that is not refused ahead. -/
def KOutPost (w : World) (P : List (List Kn)) (e : Ending) (w' : World) : Prop := ∃ g vs N, e = .returned (.tuple #[.slice (some ⟨g, 0, none⟩) P.length P.length, .int .i64 0]) ∧ OutAt clK 3 37 35 g vs P 0 N w' ∧ w.heap.size ≤ g ∧ Below w.heap.size w w'
def MapPost (w : World) (r : Option (List (List Kn))) (e : Ending) (w' : World) : Prop := match r with
  | none => ErrPost w 64 e w'
  | some P => KOutPost w P e w'
theorem mapPost_none {w : World} {r : Option (List (List Kn))} {e : Ending} {w' : World} (h : r = none) (hp : ErrPost w 64 e w') : MapPost w r e w' := by rw [h]; exact hp
theorem mapPost_some {w : World} {r : Option (List (List Kn))} {P : List (List Kn)} {e : Ending} {w' : World} (h : r = some P) (hp : KOutPost w P e w') : MapPost w r e w' := by rw [h]; exact hp
theorem remade_refused (a : Option Addr) (cap : Nat) (O : List (List Kn)) (v1 v2 : Value) (w : World) (ho : IsO clK w a O) (hl : Long O) (hc : ¬ checkE O = 0) :
    Calls Try.prog 27 #[.slice a O.length cap, v1, v2] w (ErrPost w (checkE O)) := by
  have HC := Lib.hid (checked_c a cap O w ho hl)
  obtain ⟨E, HE⟩ : ∃ E, Hid (checkE O = E) := ⟨_, rfl⟩
  rw [HE.out] at HC hc
  rw [HE.out]
  have q : (E == 0) = false := by simpa using hc
  clear ho hl hc
  go_enter Try.func27, Try.ntmps27
  go_wp2_with fail
  refine HC.out.mono ?_
  rintro e w1 ⟨rfl, hb⟩
  have HB := Lib.hid hb
  clear hb HC
  go_wp2_with fail
  go_ret2
  exact ⟨rfl, HB.out⟩
/-- What is written so far of a contour. -/
def SoFar (fx fy : Kn → Int × Int) (c Q : List Kn) (j : Nat) : Prop := Q.length = j ∧ ∀ (t : Nat) k q, c[t]? = some k → Q[t]? = some q → mapK fx fy k = some q
theorem SoFar.snoc {fx fy : Kn → Int × Int} {c Q : List Kn} {j : Nat} {k q : Kn} (h : SoFar fx fy c Q j) (hk : c[j]? = some k) (hm : mapK fx fy k = some q) : SoFar fx fy c (Q ++ [q]) (j + 1) := by
  refine ⟨by rw [List.length_append, h.1]; rfl, fun t k' q' h1 h2 => ?_⟩
  by_cases ht : t < Q.length
  · rw [List.getElem?_append_left ht] at h2; exact h.2 t k' q' h1 h2
  · have ht2 : t = Q.length := by have := (List.getElem?_eq_some_iff.1 h2).1; simp at this; omega
    subst ht2
    rw [h.1, hk] at h1
    have h3 : q = q' := by simpa using h2
    cases h1
    rw [← h3]; exact hm
theorem OutAt.rowAt {g : Nat} {vs : List Value} {Qs : List (List Kn)} {R : List Kn} {n : Nat} {N : Nat → Nat} {V : World} {b m i : Nat} (h : OutAt clK 3 37 35 g (vs ++ [.slice (some ⟨b, 0, none⟩) m m]) (Qs ++ [R]) n N V) (hR : R.length = m) (hi : Qs.length = i) :
    V.ownsRow (N i) 37 3 (.slice (some ⟨b, 0, none⟩) m m) m (R.flatMap clK) ∧ V.cell? ⟨g, i, none⟩ = some (.slice (some ⟨b, 0, none⟩) m m) := by
  subst hR
  have hvl : vs.length = i := by have := h.len; simp at this; omega
  have h1 : (vs ++ [Value.slice (some ⟨b, 0, none⟩) R.length R.length])[i]? = some (.slice (some ⟨b, 0, none⟩) R.length R.length) := by rw [← hvl]; simp
  have h2 : (Qs ++ [R])[i]? = some R := by rw [← hi]; simp
  obtain ⟨a, c, e, ho, _⟩ := h.row i _ R h1 h2
  cases e
  refine ⟨ho, ?_⟩
  rw [cell_blk h.blk i]
  have h3 : i < (vs ++ [Value.slice (some ⟨b, 0, none⟩) R.length R.length]).length := by simp; omega
  simp only [List.getElem?_toArray]
  rw [List.getElem?_append_left h3]; exact h1
theorem own_cell {w : World} {B : Nat} {e : TypeId} {s n g c : Nat} {xs : List Value} (h : w.ownsRow B e s (.slice (some ⟨g, 0, none⟩) n c) n xs) (i : Nat) : w.frozen? ⟨g, i, none⟩ = false := by
  rcases h.2 with ⟨hv, _⟩ | ⟨g', cap, cur, hv, hb, hg, _⟩
  · cases hv
  · cases hv; exact frozen_blk hg i

theorem belDr {B : Nat} {a w : World} (h : Below B a w) : Below B a w.drew := ⟨h.os, h.tape, h.output, h.size, h.block⟩
theorem OutAt.gb {g : Nat} {vs : List Value} {Qs : List (List Kn)} {R : List Kn} {n : Nat} {N : Nat → Nat} {V : World} {b m i : Nat} (h : OutAt clK 3 37 35 g (vs ++ [.slice (some ⟨b, 0, none⟩) m m]) (Qs ++ [R]) n N V) (hR : R.length = m) (hi : Qs.length = i) : g < b := by
  have h1 := (ownsRow_cap (h.rowAt hR hi).1).2.1
  have h2 := up_le h.up i 0 (Nat.zero_le _)
  have h3 := h.lo
  omega
theorem OutAt.put3 {g : Nat} {vs : List Value} {Qs : List (List Kn)} {R : List Kn} {n : Nat} {N : Nat → Nat} {V : World} {b m i : Nat} (h : OutAt clK 3 37 35 g (vs ++ [.slice (some ⟨b, 0, none⟩) m m]) (Qs ++ [R]) n N V) (hR : R.length = m) (hi : Qs.length = i) (j : Nat) (q : Kn) :
    OutAt clK 3 37 35 g (vs ++ [.slice (some ⟨b, 0, none⟩) m m]) (Qs ++ [R.set j q]) n N (((V.setCell ⟨b, j * 3, none⟩ (.int .i64 q.x)).setCell ⟨b, j * 3 + 1, none⟩ (.int .i64 q.y)).setCell ⟨b, j * 3 + 2, none⟩ (.int .i64 q.k)).drew := by
  have hvl : vs.length = i := by have := h.len; simp at this; omega
  have hown := (h.rowAt hR hi).1
  have e : (Qs ++ [R]).set i (R.set j q) = Qs ++ [R.set j q] := by rw [← hi, List.set_append_right _ _ (Nat.le_refl _), Nat.sub_self]; rfl
  rw [← e]
  have hp := own_put (own_put (own_put hown (j * 3) (.int .i64 q.x)) (j * 3 + 1) (.int .i64 q.y)) (j * 3 + 2) (.int .i64 q.k)
  rw [flat_set] at hp
  refine h.upd (i := i) (b := b) (c := m) (L := R) (by rw [hR, ← hvl]; simp) (by rw [← hi]; simp) (by simp) (fun x hx => ?_) (by simp) ?_
  · show (((V.setCell ⟨b, j * 3, none⟩ (.int .i64 q.x)).setCell ⟨b, j * 3 + 1, none⟩ (.int .i64 q.y)).setCell ⟨b, j * 3 + 2, none⟩ (.int .i64 q.k)).heap[x]? = V.heap[x]?
    rw [Below.heap_setCell _ _ _ _ hx, Below.heap_setCell _ _ _ _ hx, Below.heap_setCell _ _ _ _ hx]
  · rw [List.length_set, hR]
    exact own_keep hp (fun _ _ => rfl)

set_option maxRecDepth 20000 in
set_option maxHeartbeats 4000000 in
theorem remade_run (a : Option Addr) (cap : Nat) (O : List (List Kn)) (F1 F2 : Nat) (caps1 caps2 : Array Value) (fx fy : Kn → Int × Int) (w : World) (ho : IsO clK w a O) (hwf : ∀ c ∈ O, ∀ k ∈ c, WfK k) (hl : Long O) (hc : checkE O = 0) (h1 : Recks F1 caps1 w fx) (h2 : Recks F2 caps2 w fy) :
    Calls Try.prog 27 #[.slice a O.length cap, .func (.func F1) #[] caps1, .func (.func F2) #[] caps2] w (MapPost w (mapO fx fy O)) := by
  have HC := Lib.hid (checked_c a cap O w ho hl)
  rw [hc] at HC
  obtain ⟨hm, hg⟩ := check_ok hc
  obtain ⟨n1, n2, n3⟩ := many_no hm
  have HN3 := Lib.hid n3
  have HO := Lib.hid ho
  have HWF := Lib.hid hwf
  have H1 := Lib.hid h1
  have H2 := Lib.hid h2
  have he1 : ∀ (args : Array Value) (w : World), (callFunc F1 args).run Try.prog w = .ok (.enter F1 args) w := h1.1
  have he2 : ∀ (args : Array Value) (w : World), (callFunc F2 args).run Try.prog w = .ok (.enter F2 args) w := h2.1
  obtain ⟨n, HN⟩ : ∃ n, Hid (O.length = n) := ⟨_, rfl⟩
  have hn : (n : Int) ≤ 256 := by have := HN.out; omega
  rw [HN.out] at HC
  rw [HN.out]
  clear ho hl hc hm hg n1 n2 n3 hwf h1 h2
  go_enter Try.func27, Try.ntmps27
  go_wp2_with fail
  refine HC.out.mono ?_
  rintro e w1 ⟨rfl, hb1⟩
  have HB1 := Lib.hid hb1
  obtain ⟨w2, hmk, hblk, hb2, hs2⟩ := make_rows elKK zeroKK n (by omega) w1
  have HB2 : Hid (Below w.heap.size w w2) := bel_next hb1 hb2
  have HA0 : Hid (OutAt clK 3 37 35 w1.heap.size [] [] (n - 0) (fun _ => w1.heap.size + 1) w2) := ⟨by simpa using hblk, rfl, fun i v L hv => by simp at hv, fun _ => Nat.le_refl _, Nat.lt_succ_self _, by rw [hs2]; exact Nat.le_refl _⟩
  have HGE : Hid (w.heap.size ≤ w1.heap.size) := hb1.size
  clear hb1 hb2 hblk hs2 HC
  go_wp2_with fail
  clear hmk
  generalize w1.heap.size = g at *
  go_loopw [28] (fun x wr => ∃ i : Nat, ∃ vs Qs N, i ≤ n ∧ x = .int .i64 i ∧ Hid (OutAt clK 3 37 35 g vs Qs (n - i) N wr) ∧ Hid (Qs.length = i ∧ ∀ (j : Nat) c q, O[j]? = some c → Qs[j]? = some q → mapC fx fy c = some q) ∧ Hid (Below w.heap.size w wr)) (fun x _ => n - (intOf x).toNat)
  case atStart => exact ⟨0, [], [], _, Nat.zero_le _, rfl, HA0, ⟨rfl, fun j c q _ h => by simp at h⟩, HB2⟩
  case round =>
    clear HA0 HB2
    obtain ⟨i, vs, Qs, N, hi, rfl, HA, HQ, HB⟩ := hrel
    by_cases hlt : i < n
    · have hlt' : (i : Int) < (n : Int) := by omega
      have hi0 : (0 : Int) ≤ (i : Int) := by omega
      obtain ⟨c, hcc⟩ := get_of (show i < O.length by rw [HN.out]; exact hlt)
      obtain ⟨b0, off, ai, ci, rfl, c0w, hci, hrw⟩ := HO.out.at hcc
      have c0 := keepC HB.out c0w
      have HRW := Lib.hid (show IsR clK w ai c from hrw)
      have HCC := Lib.hid hcc
      have HLT := Lib.hid hlt
      have HX := Lib.hid (next64 (j := i) (by omega))
      obtain ⟨m, HM⟩ : ∃ m, Hid (c.length = m) := ⟨_, rfl⟩
      have HM4 : Hid (m ≤ 4096) := by unfold Hid; rw [← HM.out]; exact HN3.out c (List.mem_of_getElem? hcc)
      rw [HM.out] at c0
      obtain ⟨w5, hmk, how5, hb5, hs5⟩ := make_knots m (by have := HM4.out; omega) wr
      have HA1 : Hid (OutAt clK 3 37 35 g vs Qs (n - (i + 1) + 1) N wr) := by have := HA.out; rwa [show n - i = n - (i + 1) + 1 by omega] at this
      have HA2 := Lib.hid (HA1.out.add (L := zerosK m) (a := some ⟨wr.heap.size, 0, none⟩) (c := m) hb5 (by rw [zerosK_len]; exact how5))
      have hcell : w5.cell? ⟨g, i, none⟩ = some (.slice none 0 0) := by
        have h1 := (HA.out.below hb5).blk
        rw [cell_blk h1 i]
        have h2 := HA.out.len
        have h3 := HQ.out.1
        simp [List.getElem?_append_right (show vs.length ≤ i by omega), List.getElem?_replicate, show i - vs.length < n - i by omega]
      have hfz : w5.frozen? ⟨g, i, none⟩ = false := frozen_blk (HA.out.below hb5).blk i
      have HB5 : Hid (Below w.heap.size w (w5.setCell ⟨g, i, none⟩ (.slice (some ⟨wr.heap.size, 0, none⟩) m m))) := bel_set (bel_next HB.out hb5) HGE.out _
      rw [HQ.out.1, zerosK_len] at HA2
      obtain ⟨N2, HN2⟩ : ∃ N2 : Nat → Nat, Hid ((fun i' => if i' ≤ i then (if i' = i then wr.heap.size else N i') else w5.heap.size) = N2) := ⟨_, rfl⟩
      rw [HN2.out] at HA2
      clear hcc hci hrw c0w hlt hi hb5 hs5 how5 HA HA1
      go_wp2_with fail
      clear c0 hcell hfz hmk
      generalize hbb : wr.heap.size = b at *
      clear hbb
      generalize (w5.setCell ⟨g, i, none⟩ (.slice (some ⟨b, 0, none⟩) m m)) = w6 at *
      go_loopw [41] (fun x wq => ∃ j : Nat, ∃ Q : List Kn, j ≤ m ∧ x = .int .i64 j ∧ Hid (OutAt clK 3 37 35 g (vs ++ [.slice (some ⟨b, 0, none⟩) m m]) (Qs ++ [Q ++ zerosK (m - j)]) (n - (i + 1)) N2 wq) ∧ Hid (SoFar fx fy c Q j) ∧ Hid (Below w.heap.size w wq)) (fun x _ => m - (intOf x).toNat)
      case atStart => exact ⟨0, [], Nat.zero_le _, rfl, HA2, ⟨rfl, fun t k q _ h => by simp at h⟩, HB5⟩
      case round =>
        clear HA2 HB5
        obtain ⟨j, Q, hj, rfl, HA, HS, HBq⟩ := hrel
        by_cases hjm : j < m
        · have hjm' : (j : Int) < (m : Int) := by omega
          have hj0 : (0 : Int) ≤ (j : Int) := by omega
          obtain ⟨k, hk⟩ := get_of (show j < c.length by rw [HM.out]; exact hjm)
          obtain ⟨kb, ko, rfl, k0, k1, k2⟩ := (HRW.out.below HBq.out).knot hk
          have HK := Lib.hid hk
          have HWK := Lib.hid (HWF.out c (List.mem_of_getElem? HCC.out) k (List.mem_of_getElem? hk))
          have HJM := Lib.hid hjm
          have HXJ := Lib.hid (next64 (j := j) (by have := HM4.out; omega))
          obtain ⟨sx, ex, HFX⟩ : ∃ s e, Hid (fx k = (s, e)) := ⟨_, _, rfl⟩
          obtain ⟨sy, ey, HFY⟩ : ∃ s e, Hid (fy k = (s, e)) := ⟨_, _, rfl⟩
          have HBA := Lib.hid (bel_alloc HBq.out (.cells #[.int .i64 k.x, .int .i64 k.y, .int .i64 k.k] 37))
          have HC1 := Lib.hid (H1.out.2 _ HBA.out k HWK.out)
          rw [HFX.out] at HC1
          clear hk hjm hj
          go_wp2_with fail
          refine HC1.out.mono ?_
          rintro e w7 ⟨rfl, hb7⟩
          have HB7 := Lib.hid (bel_next HBA.out hb7)
          have HN7 : Hid (Below wr.heap.size wr w7) := ((Below.refl _ _).alloc (Nat.le_refl _) _).trans (hb7.mono (by simp))
          have t0 : w7.cell? ⟨wr.heap.size, 0, none⟩ = some (.int .i64 k.x) := keepC hb7 (by simp [go_sem])
          have t1 : w7.cell? ⟨wr.heap.size, 1, none⟩ = some (.int .i64 k.y) := keepC hb7 (by simp [go_sem])
          have t2 : w7.cell? ⟨wr.heap.size, 2, none⟩ = some (.int .i64 k.k) := keepC hb7 (by simp [go_sem])
          have HC2 := Lib.hid (H2.out.2 _ HB7.out k HWK.out)
          rw [HFY.out] at HC2
          clear hb7 k0 k1 k2 HC1
          go_wp2_with fail
          refine HC2.out.mono ?_
          rintro e w8 ⟨rfl, hb8⟩
          have HB8 := Lib.hid (bel_next HB7.out hb8)
          have HN8 := Lib.hid (bel_next HN7.out hb8)
          have t2' := keepC hb8 t2
          clear hb8 t0 t1 t2 HC2
          by_cases hex : ex = 0
          · by_cases hey : ey = 0
            · subst hex hey
              have HMK : Hid (mapK fx fy k = some ⟨sx, sy, k.k⟩) := by unfold Hid mapK; rw [HFX.out, HFY.out]; simp
              have HRL : Hid ((Q ++ zerosK (m - j)).length = m) := by have := HS.out.1; have := HJM.out; unfold Hid; rw [List.length_append, zerosK_len]; omega
              have HA8 := Lib.hid (HA.out.below HN8.out)
              obtain ⟨how, hgi⟩ := HA8.out.rowAt HRL.out HQ.out.1
              have hat : (Q ++ zerosK (m - j))[j]? = some ⟨0, 0, 0⟩ := by
                have h1 := HS.out.1
                have h2 := HJM.out
                rw [List.getElem?_append_right (by omega)]
                simp [zerosK, List.getElem?_replicate]
                omega
              have hl := own_lies how
              have r0 := hl _ _ (flat_at clK_length _ j _ hat 0 (by decide))
              have r1 := hl _ _ (flat_at clK_length _ j _ hat 1 (by decide))
              have r2 := hl _ _ (flat_at clK_length _ j _ hat 2 (by decide))
              simp only [Nat.zero_add, Nat.add_zero] at r0 r1 r2
              have z0 := own_cell how (j * 3)
              have z1 := own_cell how (j * 3 + 1)
              have z2 := own_cell how (j * 3 + 2)
              have HREL : Hid (∃ j' : Nat, ∃ Q' : List Kn, j' ≤ m ∧ (.int .i64 (wrap64 ((j : Int) + 1)) : Value) = .int .i64 j' ∧ Hid (OutAt clK 3 37 35 g (vs ++ [.slice (some ⟨b, 0, none⟩) m m]) (Qs ++ [Q' ++ zerosK (m - j')]) (n - (i + 1)) N2 (((w8.setCell ⟨b, j * 3, none⟩ (.int .i64 sx)).setCell ⟨b, j * 3 + 1, none⟩ (.int .i64 sy)).setCell ⟨b, j * 3 + 2, none⟩ (.int .i64 k.k)).drew) ∧ Hid (SoFar fx fy c Q' j') ∧ Hid (Below w.heap.size w (((w8.setCell ⟨b, j * 3, none⟩ (.int .i64 sx)).setCell ⟨b, j * 3 + 1, none⟩ (.int .i64 sy)).setCell ⟨b, j * 3 + 2, none⟩ (.int .i64 k.k)).drew)) := by
                refine ⟨j + 1, Q ++ [⟨sx, sy, k.k⟩], HJM.out, by rw [HXJ.out], ?_, HS.out.snoc HK.out HMK.out, ?_⟩
                · unfold Hid
                  rw [← zerosK_set Q ⟨sx, sy, k.k⟩ HS.out.1 HJM.out]
                  exact HA8.out.put3 HRL.out HQ.out.1 j ⟨sx, sy, k.k⟩
                · have hgb := HA8.out.gb HRL.out HQ.out.1
                  have := HGE.out
                  exact belDr (bel_set (bel_set (bel_set HB8.out (by omega) _) (by omega) _) (by omega) _)
              clear hat hl how HA HS HMK
              go_wp2_with fail
              go_region
              go_wp2_with fail
              go_roundw
              case rel => first | exact HREL.out | (rw [HXJ.out] at HREL; exact HREL.out)
              case measure => (try rw [HXJ.out]); have := HJM.out; simp only [intOf]; omega
            · have hey' : (ey == 0) = false := by simpa using hey
              subst hex
              have HE : Hid (mapO fx fy O = none) := mapO_none (List.mem_of_getElem? HCC.out) (mapC_none (List.mem_of_getElem? HK.out) (by unfold mapK; rw [HFX.out, HFY.out]; simp [hey]))
              clear hey
              go_wp2_with fail
              go_ret2
              exact mapPost_none HE.out ⟨rfl, HB8.out⟩
          · have hex' : (ex == 0) = false := by simpa using hex
            have HE : Hid (mapO fx fy O = none) := mapO_none (List.mem_of_getElem? HCC.out) (mapC_none (List.mem_of_getElem? HK.out) (by unfold mapK; rw [HFX.out, HFY.out]; simp [hex]))
            clear hex
            go_wp2_with fail
            go_ret2
            exact mapPost_none HE.out ⟨rfl, HB8.out⟩
        · have hjm' : ¬ (j : Int) < (m : Int) := by omega
          obtain rfl : j = m := by omega
          have HAE : Hid (OutAt clK 3 37 35 g (vs ++ [.slice (some ⟨b, 0, none⟩) j j]) (Qs ++ [Q]) (n - (i + 1)) N2 wr) := by have := HA.out; rwa [Nat.sub_self, show zerosK 0 = [] from rfl, List.append_nil] at this
          have HMC : Hid (mapC fx fy c = some Q) := mapC_some (by rw [HS.out.1, HM.out]) HS.out.2
          have HQ2 : Hid ((Qs ++ [Q]).length = i + 1 ∧ ∀ (j : Nat) c q, O[j]? = some c → (Qs ++ [Q])[j]? = some q → mapC fx fy c = some q) := by
            refine ⟨by rw [List.length_append, HQ.out.1]; rfl, fun j' c' q' h1 h2 => ?_⟩
            by_cases hj2 : j' < Qs.length
            · rw [List.getElem?_append_left hj2] at h2; exact HQ.out.2 j' c' q' h1 h2
            · have hj3 : j' = Qs.length := by have := (List.getElem?_eq_some_iff.1 h2).1; simp at this; omega
              subst hj3
              rw [HQ.out.1, HCC.out] at h1
              have h3 : Q = q' := by simpa using h2
              cases h1
              rw [← h3]; exact HMC.out
          go_wp2_with fail
          go_roundw
          case rel => exact ⟨i + 1, _, Qs ++ [Q], N2, HLT.out, by first | rw [HX.out] | go_num, HAE, HQ2, HBq⟩
          case measure => (try rw [HX.out]); have := HLT.out; simp only [intOf]; omega
    · have hlt' : ¬ (i : Int) < (n : Int) := by omega
      obtain rfl : i = n := by omega
      have HE := Lib.hid (mapO_some (O := O) (Q := Qs) (by rw [HQ.out.1, HN.out]) HQ.out.2)
      have HAE : Hid (OutAt clK 3 37 35 g vs Qs 0 N wr) := by have := HA.out; rwa [Nat.sub_self] at this
      go_wp2_with fail
      go_ret2
      exact mapPost_some HE.out ⟨g, vs, N, by rw [HQ.out.1]; rfl, HAE.out, HGE.out, HB.out⟩

end Go.Proofs.Ythjhekmlhmljlaa

namespace Go.Proofs.Ythjhekmlhmljlaa
open Go.RowKit Go.PlainAid
set_option linter.unusedSimpArgs false
set_option linter.unusedVariables false

/-- The answer for any outline. -/
def MapsPost (w : World) (O : List (List Kn)) (fx fy : Kn → Int × Int) (e : Ending) (w' : World) : Prop := (¬ checkE O = 0 ∧ ErrPost w (checkE O) e w') ∨ (checkE O = 0 ∧ MapPost w (mapO fx fy O) e w')
theorem remade_any (a : Option Addr) (cap : Nat) (O : List (List Kn)) (F1 F2 : Nat) (caps1 caps2 : Array Value) (fx fy : Kn → Int × Int) (w : World) (ho : IsO clK w a O) (hwf : ∀ c ∈ O, ∀ k ∈ c, WfK k) (hl : Long O) (h1 : Recks F1 caps1 w fx) (h2 : Recks F2 caps2 w fy) :
    Calls Try.prog 27 #[.slice a O.length cap, .func (.func F1) #[] caps1, .func (.func F2) #[] caps2] w (MapsPost w O fx fy) := by
  by_cases hc : checkE O = 0
  · exact (remade_run a cap O F1 F2 caps1 caps2 fx fy w ho hwf hl hc h1 h2).mono fun e w' h => .inr ⟨hc, h⟩
  · exact (remade_refused a cap O _ _ w ho hl hc).mono fun e w' h => .inl ⟨hc, h⟩
theorem MapsPost.tuple {w : World} {O : List (List Kn)} {fx fy : Kn → Int × Int} {e : Ending} {w' : World} (h : MapsPost w O fx fy e w') : ∃ v r, e = .returned (.tuple #[v, .int .i64 r]) := by
  rcases h with ⟨_, h⟩ | ⟨_, h⟩
  · exact ⟨_, _, h.1⟩
  · unfold MapPost at h
    cases hm : mapO fx fy O with
    | none => rw [hm] at h; exact ⟨_, _, h.1⟩
    | some P =>
      rw [hm] at h
      obtain ⟨g, vs, N, e1, _⟩ := h
      exact ⟨_, _, e1⟩
theorem MapsPost.back {w w1 : World} {O : List (List Kn)} {fx fy : Kn → Int × Int} {e : Ending} {w' : World} (hb : Below w.heap.size w w1) (h : MapsPost w1 O fx fy e w') : MapsPost w O fx fy e w' := by
  rcases h with ⟨h0, h1, h2⟩ | ⟨h0, h⟩
  · exact .inl ⟨h0, h1, bel_next hb h2⟩
  · refine .inr ⟨h0, ?_⟩
    unfold MapPost at h ⊢
    cases hm : mapO fx fy O with
    | none => rw [hm] at h; exact ⟨h.1, bel_next hb h.2⟩
    | some P =>
      rw [hm] at h
      obtain ⟨g, vs, N, e1, e2, e3, e4⟩ := h
      exact ⟨g, vs, N, e1, e2, Nat.le_trans hb.size e3, bel_next hb e4⟩

set_option maxHeartbeats 1000000 in
theorem move_c (a : Option Addr) (cap : Nat) (O : List (List Kn)) (dx dy : Int) (w : World) (ho : IsO clK w a O) (hwf : ∀ c ∈ O, ∀ k ∈ c, WfK k) (hl : Long O) : Calls Try.prog 13 #[.slice a O.length cap, .int .i64 dx, .int .i64 dy] w (MapsPost w O (fun k => sumOr k.x dx) (fun k => sumOr k.y dy)) := by
  have HB : Hid (Below w.heap.size w ((w.alloc (.cells #[.int .i64 dx] 3)).alloc (.cells #[.int .i64 dy] 3))) := bel_alloc ((Below.refl w.heap.size w).alloc (Nat.le_refl _) _) _
  have HR := Lib.hid (remade_any a cap O 28 30 #[.pointer (some ⟨w.heap.size, 0, none⟩)] #[.pointer (some ⟨w.heap.size + 1, 0, none⟩)] (fun k => sumOr k.x dx) (fun k => sumOr k.y dy) ((w.alloc (.cells #[.int .i64 dx] 3)).alloc (.cells #[.int .i64 dy] 3)) (ho.below HB.out) hwf hl (move1_c w.heap.size dx _ (by simp [go_sem])) (move2_c (w.heap.size + 1) dy _ (by simp [go_sem])))
  clear ho hwf hl
  go_enter Try.func13, Try.ntmps13
  go_wp2_with fail
  refine HR.out.mono ?_
  intro e w2 hp
  obtain ⟨v, r, rfl⟩ := hp.tuple
  have HP := Lib.hid (hp.back HB.out)
  clear hp HR
  go_wp2_with fail
  go_ret2
  exact HP.out
set_option maxHeartbeats 1000000 in
theorem turn_c (a : Option Addr) (cap : Nat) (O : List (List Kn)) (m0 m1 m2 m3 : Int) (w : World) (ho : IsO clK w a O) (hwf : ∀ c ∈ O, ∀ k ∈ c, WfK k) (hl : Long O) : Calls Try.prog 14 #[.slice a O.length cap, .agg #[.int .i64 m0, .int .i64 m1, .int .i64 m2, .int .i64 m3]] w (MapsPost w O (fun k => dotOr m0 m1 k.x k.y) (fun k => dotOr m2 m3 k.x k.y)) := by
  have HB : Hid (Below w.heap.size w (w.alloc (.cells #[.int .i64 m0, .int .i64 m1, .int .i64 m2, .int .i64 m3] 24))) := (Below.refl w.heap.size w).alloc (Nat.le_refl _) _
  have HR := Lib.hid (remade_any a cap O 31 33 #[.pointer (some ⟨w.heap.size, 0, none⟩)] #[.pointer (some ⟨w.heap.size, 0, none⟩)] (fun k => dotOr m0 m1 k.x k.y) (fun k => dotOr m2 m3 k.x k.y) (w.alloc (.cells #[.int .i64 m0, .int .i64 m1, .int .i64 m2, .int .i64 m3] 24)) (ho.below HB.out) hwf hl (turn1_c w.heap.size m0 m1 _ (by simp [go_sem]) (by simp [go_sem])) (turn2_c w.heap.size m2 m3 _ (by simp [go_sem]) (by simp [go_sem])))
  clear ho hwf hl
  go_enter Try.func14, Try.ntmps14
  go_wp2_with fail
  refine HR.out.mono ?_
  intro e w2 hp
  obtain ⟨v, r, rfl⟩ := hp.tuple
  have HP := Lib.hid (hp.back HB.out)
  clear hp HR
  go_wp2_with fail
  go_ret2
  exact HP.out
set_option maxHeartbeats 1000000 in
theorem resize_c (a : Option Addr) (cap : Nat) (O : List (List Kn)) (p q : Int) (w : World) (ho : IsO clK w a O) (hwf : ∀ c ∈ O, ∀ k ∈ c, WfK k) (hl : Long O) (hp : I64 p) (hq : I64 q) : Calls Try.prog 15 #[.slice a O.length cap, .int .i64 p, .int .i64 q] w (MapsPost w O (fun k => mulDiv k.x p q) (fun k => mulDiv k.y p q)) := by
  have HB : Hid (Below w.heap.size w ((w.alloc (.cells #[.int .i64 p] 3)).alloc (.cells #[.int .i64 q] 3))) := bel_alloc ((Below.refl w.heap.size w).alloc (Nat.le_refl _) _) _
  have HR := Lib.hid (remade_any a cap O 34 36 #[.pointer (some ⟨w.heap.size, 0, none⟩), .pointer (some ⟨w.heap.size + 1, 0, none⟩)] #[.pointer (some ⟨w.heap.size, 0, none⟩), .pointer (some ⟨w.heap.size + 1, 0, none⟩)] (fun k => mulDiv k.x p q) (fun k => mulDiv k.y p q) ((w.alloc (.cells #[.int .i64 p] 3)).alloc (.cells #[.int .i64 q] 3)) (ho.below HB.out) hwf hl (resize1_c w.heap.size (w.heap.size + 1) p q _ hp hq (by simp [go_sem]) (by simp [go_sem])) (resize2_c w.heap.size (w.heap.size + 1) p q _ hp hq (by simp [go_sem]) (by simp [go_sem])))
  clear ho hwf hl
  go_enter Try.func15, Try.ntmps15
  go_wp2_with fail
  refine HR.out.mono ?_
  intro e w2 hp
  obtain ⟨v, r, rfl⟩ := hp.tuple
  have HP := Lib.hid (hp.back HB.out)
  clear hp HR
  go_wp2_with fail
  go_ret2
  exact HP.out

end Go.Proofs.Ythjhekmlhmljlaa

namespace Go.Proofs.Ythjhekmlhmljlaa
open Go.RowKit Go.PlainAid
set_option linter.unusedSimpArgs false
set_option linter.unusedVariables false

def mapV (m n0 n1 n2 n3 : Int) : Value := .agg #[.int .i64 m, .int .i64 n0, .int .i64 n1, .int .i64 n2, .int .i64 n3]
/-- What one works with: the knot, the map, the answer's place. -/
structure OneW (V : World) (b : Nat) (k : Kn) (m n0 n1 n2 n3 : Int) : Prop where
  k0 : V.cell? ⟨b, 0, none⟩ = some (.int .i64 k.x)
  k1 : V.cell? ⟨b, 1, none⟩ = some (.int .i64 k.y)
  k2 : V.cell? ⟨b, 2, none⟩ = some (.int .i64 k.k)
  m0 : V.cell? ⟨b + 1, 0, none⟩ = some (.int .i64 m)
  m1 : V.cell? ⟨b + 1, 1, none⟩ = some (.int .i64 n0)
  m2 : V.cell? ⟨b + 1, 2, none⟩ = some (.int .i64 n1)
  m3 : V.cell? ⟨b + 1, 3, none⟩ = some (.int .i64 n2)
  m4 : V.cell? ⟨b + 1, 4, none⟩ = some (.int .i64 n3)
  r0 : V.cell? ⟨b + 1 + 1, 0, none⟩ = some (.int .i64 0)
  r1 : V.cell? ⟨b + 1 + 1, 1, none⟩ = some (.int .i64 0)
  r2 : V.cell? ⟨b + 1 + 1, 2, none⟩ = some (.int .i64 0)
  f0 : V.frozen? ⟨b + 1 + 1, 0, none⟩ = false
  f1 : V.frozen? ⟨b + 1 + 1, 1, none⟩ = false
  f2 : V.frozen? ⟨b + 1 + 1, 2, none⟩ = false
theorem OneW.below {V V' : World} {b : Nat} {k : Kn} {m n0 n1 n2 n3 : Int} (h : OneW V b k m n0 n1 n2 n3) (q : Below V.heap.size V V') : OneW V' b k m n0 n1 n2 n3 :=
  ⟨keepC q h.k0, keepC q h.k1, keepC q h.k2, keepC q h.m0, keepC q h.m1, keepC q h.m2, keepC q h.m3, keepC q h.m4, keepC q h.r0, keepC q h.r1, keepC q h.r2, keepF q h.r0 h.f0, keepF q h.r1 h.f1, keepF q h.r2 h.f2⟩
theorem sum_b (a b s f : Int) (w : World) (HS : Hid (sumOr a b = (s, f))) :
    Calls Try.prog 45 #[.int .i64 a, .int .i64 b] w fun e w' => e = .returned (.tuple #[.int .i64 s, .int .i64 f]) ∧ Below w.heap.size w w' :=
  (sum_any a b s f w HS).mono fun e w' ⟨h1, h2⟩ => ⟨h1, h2 ▸ Below.refl _ _⟩
theorem refdot_b (ax ay bx by' s f : Int) (w : World) (HS : Hid (dotOr ax ay bx by' = (s, f))) :
    Calls Try.prog 46 #[.int .i64 ax, .int .i64 ay, .int .i64 bx, .int .i64 by'] w fun e w' => e = .returned (.tuple #[.int .i64 s, .int .i64 f]) ∧ Below w.heap.size w w' :=
  (refdot_any ax ay bx by' s f w HS).mono fun e w' ⟨h1, h2⟩ => ⟨h1, h2 ▸ Below.refl _ _⟩
/-- The answer. -/
def OnePost (w : World) (fx fy : Kn → Int × Int) (k : Kn) (e : Ending) (w' : World) : Prop := e = .returned (.tuple #[knV ⟨(fx k).1, (fy k).1, k.k⟩, .bool ((fx k).2 == 0 && (fy k).2 == 0)]) ∧ Below w.heap.size w w'

set_option maxRecDepth 20000 in
set_option maxHeartbeats 1000000 in
theorem one1_c (k : Kn) (n0 n1 n2 n3 : Int) (w : World) : Calls Try.prog 26 #[knV k, mapV 1 n0 n1 n2 n3] w (OnePost w (fun k => sumOr k.x n0) (fun k => sumOr k.y n1) k) := by
  have HB : Hid (Below w.heap.size w (((w.alloc (.cells #[.int .i64 k.x, .int .i64 k.y, .int .i64 k.k] 37)).alloc (.cells #[.int .i64 1, .int .i64 n0, .int .i64 n1, .int .i64 n2, .int .i64 n3] 29)).alloc (.cells #[.int .i64 0, .int .i64 0, .int .i64 0] 37))) := bel_alloc (bel_alloc ((Below.refl _ _).alloc (Nat.le_refl _) _) _) _
  have HW : Hid (OneW (((w.alloc (.cells #[.int .i64 k.x, .int .i64 k.y, .int .i64 k.k] 37)).alloc (.cells #[.int .i64 1, .int .i64 n0, .int .i64 n1, .int .i64 n2, .int .i64 n3] 29)).alloc (.cells #[.int .i64 0, .int .i64 0, .int .i64 0] 37)) w.heap.size k 1 n0 n1 n2 n3) := by constructor <;> simp [go_sem]
  obtain ⟨sx, ex, HFX⟩ : ∃ s e, Hid (sumOr k.x n0 = (s, e)) := ⟨_, _, rfl⟩
  obtain ⟨sy, ey, HFY⟩ : ∃ s e, Hid (sumOr k.y n1 = (s, e)) := ⟨_, _, rfl⟩
  unfold OnePost
  dsimp only
  rw [HFX.out, HFY.out]
  dsimp only
  unfold knV mapV
  go_enter Try.func26, Try.ntmps26
  go_wp2_with fail
  refine (sum_b k.x n0 sx ex _ HFX).mono ?_
  rintro e w1 ⟨rfl, hb1⟩
  have HB1 := Lib.hid (bel_next HB.out hb1)
  have HW1 := Lib.hid (HW.out.below hb1)
  clear hb1 HW HB
  obtain ⟨k0, k1, k2, m0, m1, m2, m3, m4, r0, r1, r2, f0, f1, f2⟩ := HW1.out
  go_wp2_with fail
  refine (sum_b k.y n1 sy ey _ HFY).mono ?_
  rintro e w2 ⟨rfl, hb2⟩
  have HB2 := Lib.hid (bel_next HB1.out hb2)
  have HW2 := Lib.hid (HW1.out.below hb2)
  clear hb2 HW1 HB1 k0 k1 k2 m0 m1 m2 m3 m4 r0 r1 r2 f0 f1 f2
  obtain ⟨k0, k1, k2, m0, m1, m2, m3, m4, r0, r1, r2, f0, f1, f2⟩ := HW2.out
  by_cases hex : ex = 0
  · by_cases hey : ey = 0
    · subst hex hey
      go_wp2_with fail
      refine bodyPost_ret (v := .tuple #[.agg #[.int .i64 sx, .int .i64 sy, .int .i64 k.k], .bool true]) (by simp [results, Try.results26, go_sem, r0, r1, r2]) rfl ⟨by simp, ?_⟩
      exact bel_set (bel_set (bel_set HB2.out (by omega) _) (by omega) _) (by omega) _
    · subst hex
      have hey' : (ey == 0) = false := by simpa using hey
      go_wp2_with fail
      refine bodyPost_ret (v := .tuple #[.agg #[.int .i64 sx, .int .i64 sy, .int .i64 k.k], .bool false]) (by simp [results, Try.results26, go_sem, r0, r1, r2]) rfl ⟨by simp [hey], ?_⟩
      exact bel_set (bel_set (bel_set HB2.out (by omega) _) (by omega) _) (by omega) _
  · have hex' : (ex == 0) = false := by simpa using hex
    go_wp2_with fail
    refine bodyPost_ret (v := .tuple #[.agg #[.int .i64 sx, .int .i64 sy, .int .i64 k.k], .bool false]) (by simp [results, Try.results26, go_sem, r0, r1, r2]) rfl ⟨by simp [hex], ?_⟩
    exact bel_set (bel_set (bel_set HB2.out (by omega) _) (by omega) _) (by omega) _
set_option maxRecDepth 20000 in
set_option maxHeartbeats 1000000 in
theorem one2_c (k : Kn) (n0 n1 n2 n3 : Int) (w : World) : Calls Try.prog 26 #[knV k, mapV 2 n0 n1 n2 n3] w (OnePost w (fun k => dotOr n0 n1 k.x k.y) (fun k => dotOr n2 n3 k.x k.y) k) := by
  have HB : Hid (Below w.heap.size w (((w.alloc (.cells #[.int .i64 k.x, .int .i64 k.y, .int .i64 k.k] 37)).alloc (.cells #[.int .i64 2, .int .i64 n0, .int .i64 n1, .int .i64 n2, .int .i64 n3] 29)).alloc (.cells #[.int .i64 0, .int .i64 0, .int .i64 0] 37))) := bel_alloc (bel_alloc ((Below.refl _ _).alloc (Nat.le_refl _) _) _) _
  have HW : Hid (OneW (((w.alloc (.cells #[.int .i64 k.x, .int .i64 k.y, .int .i64 k.k] 37)).alloc (.cells #[.int .i64 2, .int .i64 n0, .int .i64 n1, .int .i64 n2, .int .i64 n3] 29)).alloc (.cells #[.int .i64 0, .int .i64 0, .int .i64 0] 37)) w.heap.size k 2 n0 n1 n2 n3) := by constructor <;> simp [go_sem]
  obtain ⟨sx, ex, HFX⟩ : ∃ s e, Hid (dotOr n0 n1 k.x k.y = (s, e)) := ⟨_, _, rfl⟩
  obtain ⟨sy, ey, HFY⟩ : ∃ s e, Hid (dotOr n2 n3 k.x k.y = (s, e)) := ⟨_, _, rfl⟩
  unfold OnePost
  dsimp only
  rw [HFX.out, HFY.out]
  dsimp only
  unfold knV mapV
  go_enter Try.func26, Try.ntmps26
  go_wp2_with fail
  refine (refdot_b n0 n1 k.x k.y sx ex _ HFX).mono ?_
  rintro e w1 ⟨rfl, hb1⟩
  have HB1 := Lib.hid (bel_next HB.out hb1)
  have HW1 := Lib.hid (HW.out.below hb1)
  clear hb1 HW HB
  obtain ⟨k0, k1, k2, m0, m1, m2, m3, m4, r0, r1, r2, f0, f1, f2⟩ := HW1.out
  go_wp2_with fail
  refine (refdot_b n2 n3 k.x k.y sy ey _ HFY).mono ?_
  rintro e w2 ⟨rfl, hb2⟩
  have HB2 := Lib.hid (bel_next HB1.out hb2)
  have HW2 := Lib.hid (HW1.out.below hb2)
  clear hb2 HW1 HB1 k0 k1 k2 m0 m1 m2 m3 m4 r0 r1 r2 f0 f1 f2
  obtain ⟨k0, k1, k2, m0, m1, m2, m3, m4, r0, r1, r2, f0, f1, f2⟩ := HW2.out
  by_cases hex : ex = 0
  · by_cases hey : ey = 0
    · subst hex hey
      go_wp2_with fail
      refine bodyPost_ret (v := .tuple #[.agg #[.int .i64 sx, .int .i64 sy, .int .i64 k.k], .bool true]) (by simp [results, Try.results26, go_sem, r0, r1, r2]) rfl ⟨by simp, ?_⟩
      exact bel_set (bel_set (bel_set HB2.out (by omega) _) (by omega) _) (by omega) _
    · subst hex
      have hey' : (ey == 0) = false := by simpa using hey
      go_wp2_with fail
      refine bodyPost_ret (v := .tuple #[.agg #[.int .i64 sx, .int .i64 sy, .int .i64 k.k], .bool false]) (by simp [results, Try.results26, go_sem, r0, r1, r2]) rfl ⟨by simp [hey], ?_⟩
      exact bel_set (bel_set (bel_set HB2.out (by omega) _) (by omega) _) (by omega) _
  · have hex' : (ex == 0) = false := by simpa using hex
    go_wp2_with fail
    refine bodyPost_ret (v := .tuple #[.agg #[.int .i64 sx, .int .i64 sy, .int .i64 k.k], .bool false]) (by simp [results, Try.results26, go_sem, r0, r1, r2]) rfl ⟨by simp [hex], ?_⟩
    exact bel_set (bel_set (bel_set HB2.out (by omega) _) (by omega) _) (by omega) _
set_option maxRecDepth 20000 in
set_option maxHeartbeats 1000000 in
theorem one3_c (k : Kn) (n0 n1 n2 n3 : Int) (w : World) (hx : I64 k.x) (hy : I64 k.y) (hp : I64 n0) (hq : I64 n1) : Calls Try.prog 26 #[knV k, mapV 3 n0 n1 n2 n3] w (OnePost w (fun k => mulDiv k.x n0 n1) (fun k => mulDiv k.y n0 n1) k) := by
  have HB : Hid (Below w.heap.size w (((w.alloc (.cells #[.int .i64 k.x, .int .i64 k.y, .int .i64 k.k] 37)).alloc (.cells #[.int .i64 3, .int .i64 n0, .int .i64 n1, .int .i64 n2, .int .i64 n3] 29)).alloc (.cells #[.int .i64 0, .int .i64 0, .int .i64 0] 37))) := bel_alloc (bel_alloc ((Below.refl _ _).alloc (Nat.le_refl _) _) _) _
  have HW : Hid (OneW (((w.alloc (.cells #[.int .i64 k.x, .int .i64 k.y, .int .i64 k.k] 37)).alloc (.cells #[.int .i64 3, .int .i64 n0, .int .i64 n1, .int .i64 n2, .int .i64 n3] 29)).alloc (.cells #[.int .i64 0, .int .i64 0, .int .i64 0] 37)) w.heap.size k 3 n0 n1 n2 n3) := by constructor <;> simp [go_sem]
  obtain ⟨sx, ex, HFX⟩ : ∃ s e, Hid (mulDiv k.x n0 n1 = (s, e)) := ⟨_, _, rfl⟩
  obtain ⟨sy, ey, HFY⟩ : ∃ s e, Hid (mulDiv k.y n0 n1 = (s, e)) := ⟨_, _, rfl⟩
  unfold OnePost
  dsimp only
  rw [HFX.out, HFY.out]
  dsimp only
  unfold knV mapV
  go_enter Try.func26, Try.ntmps26
  go_wp2_with fail
  refine (refmd_any k.x n0 n1 sx ex _ hx hp hq HFX).mono ?_
  rintro e w1 ⟨rfl, hb1⟩
  have HB1 := Lib.hid (bel_next HB.out hb1)
  have HW1 := Lib.hid (HW.out.below hb1)
  clear hb1 HW HB
  obtain ⟨k0, k1, k2, m0, m1, m2, m3, m4, r0, r1, r2, f0, f1, f2⟩ := HW1.out
  go_wp2_with fail
  refine (refmd_any k.y n0 n1 sy ey _ hy hp hq HFY).mono ?_
  rintro e w2 ⟨rfl, hb2⟩
  have HB2 := Lib.hid (bel_next HB1.out hb2)
  have HW2 := Lib.hid (HW1.out.below hb2)
  clear hb2 HW1 HB1 k0 k1 k2 m0 m1 m2 m3 m4 r0 r1 r2 f0 f1 f2
  obtain ⟨k0, k1, k2, m0, m1, m2, m3, m4, r0, r1, r2, f0, f1, f2⟩ := HW2.out
  by_cases hex : ex = 0
  · by_cases hey : ey = 0
    · subst hex hey
      go_wp2_with fail
      refine bodyPost_ret (v := .tuple #[.agg #[.int .i64 sx, .int .i64 sy, .int .i64 k.k], .bool true]) (by simp [results, Try.results26, go_sem, r0, r1, r2]) rfl ⟨by simp, ?_⟩
      exact bel_set (bel_set (bel_set HB2.out (by omega) _) (by omega) _) (by omega) _
    · subst hex
      have hey' : (ey == 0) = false := by simpa using hey
      go_wp2_with fail
      refine bodyPost_ret (v := .tuple #[.agg #[.int .i64 sx, .int .i64 sy, .int .i64 k.k], .bool false]) (by simp [results, Try.results26, go_sem, r0, r1, r2]) rfl ⟨by simp [hey], ?_⟩
      exact bel_set (bel_set (bel_set HB2.out (by omega) _) (by omega) _) (by omega) _
  · have hex' : (ex == 0) = false := by simpa using hex
    go_wp2_with fail
    refine bodyPost_ret (v := .tuple #[.agg #[.int .i64 sx, .int .i64 sy, .int .i64 k.k], .bool false]) (by simp [results, Try.results26, go_sem, r0, r1, r2]) rfl ⟨by simp [hex], ?_⟩
    exact bel_set (bel_set (bel_set HB2.out (by omega) _) (by omega) _) (by omega) _

end Go.Proofs.Ythjhekmlhmljlaa

namespace Go.Proofs.Ythjhekmlhmljlaa
open Go.RowKit Go.PlainAid
set_option linter.unusedSimpArgs false
set_option linter.unusedVariables false

theorem own_base {w : World} {B B' : Nat} {e : TypeId} {s n : Nat} {v : Value} {xs : List Value} (h : w.ownsRow B e s v n xs) (hB : B' ≤ B) : w.ownsRow B' e s v n xs := by
  refine ⟨h.1, ?_⟩
  rcases h.2 with hn | ⟨g, cap, cur, hv, hb, rest⟩
  · exact .inl hn
  · exact .inr ⟨g, cap, cur, hv, Nat.le_trans hB hb, rest⟩
theorem RowsOwn.base {w : World} {B B' g : Nat} {vs : List Value} {O : List (List Kn)} (h : RowsOwn w B g vs O) (hB : B' ≤ B) : RowsOwn w B' g vs O := by
  refine ⟨h.1, fun i c hc => ?_⟩
  obtain ⟨gi, ci, h1, h2, h3⟩ := h.2 i c hc
  exact ⟨gi, ci, h1, h2, own_base h3 hB⟩
/-- A map in memory. -/
structure MapAt (V : World) (b : Nat) (m n0 n1 n2 n3 : Int) : Prop where
  m0 : V.cell? ⟨b, 0, none⟩ = some (.int .i64 m)
  m1 : V.cell? ⟨b, 1, none⟩ = some (.int .i64 n0)
  m2 : V.cell? ⟨b, 2, none⟩ = some (.int .i64 n1)
  m3 : V.cell? ⟨b, 3, none⟩ = some (.int .i64 n2)
  m4 : V.cell? ⟨b, 4, none⟩ = some (.int .i64 n3)
theorem MapAt.below {V V' : World} {b : Nat} {m n0 n1 n2 n3 : Int} (h : MapAt V b m n0 n1 n2 n3) (q : Below V.heap.size V V') : MapAt V' b m n0 n1 n2 n3 := ⟨keepC q h.m0, keepC q h.m1, keepC q h.m2, keepC q h.m3, keepC q h.m4⟩
/-- What Apply answers for an outline that is not refused ahead. -/
def RMapPost (w : World) (r : Option (List (List Kn))) (e : Ending) (w' : World) : Prop := match r with
  | none => ErrPost w 64 e w'
  | some P => ∃ g c vs, e = .returned (.tuple #[.slice (some ⟨g, 0, none⟩) P.length c, .int .i64 0]) ∧ w'.ownsRow w.heap.size 35 1 (.slice (some ⟨g, 0, none⟩) P.length c) P.length vs ∧ RowsOwn w' w.heap.size g vs P ∧ Below w.heap.size w w'
theorem rmapPost_none {w : World} {r : Option (List (List Kn))} {e : Ending} {w' : World} (h : r = none) (hp : ErrPost w 64 e w') : RMapPost w r e w' := by rw [h]; exact hp
set_option maxHeartbeats 1000000 in
theorem apply_refused (a : Option Addr) (cap : Nat) (O : List (List Kn)) (m n0 n1 n2 n3 : Int) (w : World) (ho : IsO clK w a O) (hl : Long O) (hc : ¬ checkE O = 0) :
    Calls Try.prog 12 #[.slice a O.length cap, mapV m n0 n1 n2 n3] w (ErrPost w (checkE O)) := by
  have HB0 : Hid (Below w.heap.size w (w.alloc (.cells #[.int .i64 m, .int .i64 n0, .int .i64 n1, .int .i64 n2, .int .i64 n3] 29))) := (Below.refl _ _).alloc (Nat.le_refl _) _
  have HC := Lib.hid (refcheck_c a cap O _ (ho.below HB0.out) hl)
  obtain ⟨E, HE⟩ : ∃ E, Hid (checkE O = E) := ⟨_, rfl⟩
  rw [HE.out] at HC hc
  rw [HE.out]
  have q : (E == 0) = false := by simpa using hc
  clear ho hl hc
  unfold mapV
  go_enter Try.func12, Try.ntmps12
  go_wp2_with fail
  refine HC.out.mono ?_
  rintro e w1 ⟨rfl, hb⟩
  have HB := Lib.hid (bel_next HB0.out hb)
  clear hb HC
  go_wp2_with fail
  go_ret2
  exact ⟨rfl, HB.out⟩

set_option maxRecDepth 20000 in
set_option maxHeartbeats 4000000 in
theorem apply_run (a : Option Addr) (cap : Nat) (O : List (List Kn)) (m n0 n1 n2 n3 : Int) (fx fy : Kn → Int × Int) (w : World) (ho : IsO clK w a O) (hwf : ∀ c ∈ O, ∀ k ∈ c, WfK k) (hl : Long O) (hc : checkE O = 0)
    (h1 : ∀ (k : Kn), WfK k → ∀ w, Calls Try.prog 26 #[knV k, mapV m n0 n1 n2 n3] w (OnePost w fx fy k)) :
    Calls Try.prog 12 #[.slice a O.length cap, mapV m n0 n1 n2 n3] w (RMapPost w (mapO fx fy O)) := by
  have HB0 : Hid (Below w.heap.size w (w.alloc (.cells #[.int .i64 m, .int .i64 n0, .int .i64 n1, .int .i64 n2, .int .i64 n3] 29))) := (Below.refl _ _).alloc (Nat.le_refl _) _
  have HM0 : Hid (MapAt (w.alloc (.cells #[.int .i64 m, .int .i64 n0, .int .i64 n1, .int .i64 n2, .int .i64 n3] 29)) w.heap.size m n0 n1 n2 n3) := by constructor <;> simp [go_sem]
  have HC := Lib.hid (refcheck_c a cap O _ (ho.below HB0.out) hl)
  rw [hc] at HC
  obtain ⟨hm, hg⟩ := check_ok hc
  obtain ⟨x1, x2, x3⟩ := many_no hm
  have HN3 := Lib.hid x3
  have HO := Lib.hid ho
  have HWF := Lib.hid hwf
  have H1 := Lib.hid h1
  obtain ⟨n, HN⟩ : ∃ n, Hid (O.length = n) := ⟨_, rfl⟩
  have HN2 : Hid (n ≤ 256) := by have := HN.out; unfold Hid; omega
  rw [HN.out] at HC
  rw [HN.out]
  clear ho hl hc hm hg x1 x2 x3 hwf h1
  unfold mapV
  go_enter Try.func12, Try.ntmps12
  go_wp2_with fail
  refine HC.out.mono ?_
  rintro e u ⟨rfl, hb1⟩
  have HU := Lib.hid (bel_next HB0.out hb1)
  have HMU := Lib.hid (HM0.out.below hb1)
  have HO1 := Lib.hid (World.ownsRow_lit (base := u.heap.size) (e := 35) (size := 1) u #[] 0 (Nat.le_refl _) (by decide) rfl)
  have HBU : Hid (Below u.heap.size u (u.alloc (.cells #[] 35))) := (Below.refl _ _).alloc (Nat.le_refl _) _
  clear hb1 HC HB0 HM0
  go_wp2_with fail
  go_loopw [7, 23] (fun v x wr => ∃ i g c : Nat, ∃ vs Qs, i ≤ n ∧ v = .slice (some ⟨g, 0, none⟩) i c ∧ x = .int .i64 i ∧ Hid (wr.ownsRow u.heap.size 35 1 (.slice (some ⟨g, 0, none⟩) i c) i vs) ∧ Hid (RowsOwn wr u.heap.size g vs Qs) ∧
    Hid (Qs.length = i ∧ ∀ (j : Nat) c q, O[j]? = some c → Qs[j]? = some q → mapC fx fy c = some q) ∧ Hid (Below u.heap.size u wr)) (fun _ x _ => n - (intOf x).toNat)
  case atStart => exact ⟨0, _, _, [], [], Nat.zero_le _, rfl, rfl, HO1, ⟨rfl, fun i c h => by simp at h⟩, ⟨rfl, fun j c q _ h => by simp at h⟩, HBU⟩
  case round =>
    clear HO1 HBU
    obtain ⟨i, g, c, vs, Qs, hi, rfl, rfl, HW, HV, HQ, HB⟩ := hrel
    obtain ⟨wo, rfl⟩ : ∃ x, x = wr := ⟨_, rfl⟩
    by_cases hlt : i < n
    · have hlt' : (i : Int) < (n : Int) := by omega
      obtain ⟨d, hd⟩ := get_of (show i < O.length by rw [HN.out]; exact hlt)
      obtain ⟨b, off, ai, ci, rfl, c0w, hci, hrw⟩ := HO.out.at hd
      have HBW := Lib.hid (bel_next HU.out HB.out)
      have c0 := keepC HBW.out c0w
      have HRW := Lib.hid (show IsR clK w ai d from hrw)
      have HD := Lib.hid hd
      have HLT := Lib.hid hlt
      have HX := Lib.hid (next64 (j := i) (by have := HN2.out; omega))
      have HDL : Hid (d.length ≤ 4096) := HN3.out d (List.mem_of_getElem? hd)
      have HE := Lib.hid (World.ownsRow_lit (base := wo.heap.size) (e := 37) (size := 3) wo #[] 0 (Nat.le_refl _) (by decide) rfl)
      have HE2 : Hid (Below wo.heap.size wo (wo.alloc (.cells #[] 37))) := (Below.refl _ _).alloc (Nat.le_refl _) _
      obtain ⟨s, HS⟩ : ∃ s, Hid (d.length = s) := ⟨_, rfl⟩
      rw [HS.out] at c0 HDL
      clear hd hrw hi hlt hci c0w
      go_wp2_with fail
      clear c0
      go_loopw [10, 30] (fun v x wq => ∃ j gr cr : Nat, ∃ Q : List Kn, j ≤ s ∧ v = .slice (some ⟨gr, 0, none⟩) j cr ∧ x = .int .i64 j ∧ Hid (wq.ownsRow wo.heap.size 37 3 (.slice (some ⟨gr, 0, none⟩) j cr) j (Q.flatMap clK)) ∧ Hid (SoFar fx fy d Q j) ∧ Hid (Below wo.heap.size wo wq)) (fun _ x _ => s - (intOf x).toNat)
      case atStart => exact ⟨0, _, _, [], Nat.zero_le _, rfl, rfl, HE, ⟨rfl, fun t k q _ h => by simp at h⟩, HE2⟩
      case round =>
        clear HE HE2
        obtain ⟨j, gr, cr, Q, hj, rfl, rfl, HR, HSF, HBo⟩ := hrel
        have HBq := Lib.hid (bel_next HBW.out HBo.out)
        have HBu := Lib.hid (bel_next HB.out HBo.out)
        by_cases hjs : j < s
        · have hjs' : (j : Int) < (s : Int) := by omega
          obtain ⟨k, hk⟩ := get_of (show j < d.length by rw [HS.out]; exact hjs)
          obtain ⟨kb, ko, rfl, k0, k1, k2⟩ := (HRW.out.below HBq.out).knot hk
          have HK := Lib.hid hk
          have HWK := Lib.hid (HWF.out d (List.mem_of_getElem? HD.out) k (List.mem_of_getElem? hk))
          have HJS := Lib.hid hjs
          have HXJ := Lib.hid (next64 (j := j) (by have := HDL.out; omega))
          obtain ⟨sx, ex, HFX⟩ : ∃ s e, Hid (fx k = (s, e)) := ⟨_, _, rfl⟩
          obtain ⟨sy, ey, HFY⟩ : ∃ s e, Hid (fy k = (s, e)) := ⟨_, _, rfl⟩
          have HN1 : Hid (Below wr.heap.size wr (wr.alloc (.cells #[.int .i64 k.x, .int .i64 k.y, .int .i64 k.k] 37))) := (Below.refl _ _).alloc (Nat.le_refl _) _
          obtain ⟨m0, m1, m2, m3, m4⟩ := (HMU.out.below HBu.out).below HN1.out
          have HC1 := Lib.hid (H1.out k HWK.out (wr.alloc (.cells #[.int .i64 k.x, .int .i64 k.y, .int .i64 k.k] 37)))
          unfold OnePost at HC1
          rw [HFX.out, HFY.out] at HC1
          dsimp only at HC1
          clear hk hj hjs
          go_wp2_with fail
          refine HC1.out.mono ?_
          rintro e w7 ⟨rfl, hb7⟩
          have HN7 := Lib.hid (bel_next HN1.out hb7)
          have HB7 := Lib.hid (bel_next HBu.out HN7.out)
          clear hb7 k0 k1 k2 m0 m1 m2 m3 m4 HC1
          unfold knV
          dsimp only
          cases hok : (ex == 0 && ey == 0)
          · have HE : Hid (mapO fx fy O = none) := mapO_none (List.mem_of_getElem? HD.out) (mapC_none (List.mem_of_getElem? HK.out) (by
              unfold mapK; rw [HFX.out, HFY.out]
              by_cases he : ex = 0 <;> by_cases hf : ey = 0 <;> simp [he, hf] at hok ⊢))
            have HB8 := Lib.hid (bel_alloc (bel_next HU.out HB7.out) (.cells #[.int .i64 sx, .int .i64 sy, .int .i64 k.k] 37))
            clear hok
            go_wp2_with fail
            go_ret2
            exact rmapPost_none HE.out ⟨rfl, HB8.out⟩
          · have HMK : Hid (mapK fx fy k = some ⟨sx, sy, k.k⟩) := by
              unfold Hid mapK; rw [HFX.out, HFY.out]
              by_cases he : ex = 0 <;> by_cases hf : ey = 0 <;> simp [he, hf] at hok ⊢
            have HN9 : Hid (Below wr.heap.size wr ((w7.alloc (.cells #[.int .i64 sx, .int .i64 sy, .int .i64 k.k] 37)).alloc (.cells #[.int .i64 sx, .int .i64 sy, .int .i64 k.k] 37))) := (HN7.out.alloc HN7.out.size _).alloc (by have := HN7.out.size; simp; omega) _
            have HSL : Hid (Lies ((w7.alloc (.cells #[.int .i64 sx, .int .i64 sy, .int .i64 k.k] 37)).alloc (.cells #[.int .i64 sx, .int .i64 sy, .int .i64 k.k] 37)) (w7.heap.size + 1) 0 [.int .i64 sx, .int .i64 sy, .int .i64 k.k]) := by
              have h := lies_new (w := w7.alloc (.cells #[.int .i64 sx, .int .i64 sy, .int .i64 k.k] 37)) (cs := #[.int .i64 sx, .int .i64 sy, .int .i64 k.k]) (T := 37)
              rwa [show (w7.alloc (.cells #[.int .i64 sx, .int .i64 sy, .int .i64 k.k] 37)).heap.size = w7.heap.size + 1 by simp] at h
            clear hok
            go_wp2_with (at_builtin; refine wpList_app elK rfl _ _ rfl ((w7.alloc (.cells #[.int .i64 sx, .int .i64 sy, .int .i64 k.k] 37)).alloc (.cells #[.int .i64 sx, .int .i64 sy, .int .i64 k.k] 37)) wo.heap.size gr cr j (Q.flatMap clK) (some ⟨w7.heap.size + 1, 0, none⟩) 1 1 [.int .i64 sx, .int .i64 sy, .int .i64 k.k] rfl rfl (own_below HR.out HN9.out) rfl (.inr ⟨_, 0, rfl, HSL.out⟩) (by simp [Value.oneCell']) (by have := HJS.out; have := HDL.out; omega) (by have := HJS.out; have := HDL.out; omega) (by have := HBo.out.size; have := HN9.out.size; omega) ?_; intro g8 c8 w8 ho8 hg8 hat8)
            have HBo8 : Hid (Below wo.heap.size wo w8) := belGrown (bel_next HBo.out HN9.out) hg8 (ownsRow_cap HR.out).2.1 (by have := HBo.out.size; have := HN9.out.size; omega)
            have HR8 : Hid (w8.ownsRow wo.heap.size 37 3 (.slice (some ⟨g8, 0, none⟩) (j + 1) c8) (j + 1) ((Q ++ [(⟨sx, sy, k.k⟩ : Kn)]).flatMap clK)) := by
              unfold Hid
              rw [List.flatMap_append]; exact ho8
            have HS8 := Lib.hid (HSF.out.snoc HK.out HMK.out)
            clear ho8 hg8 hat8
            go_wp2_with fail
            go_roundw
            case rel => exact ⟨j + 1, g8, c8, _, HJS.out, rfl, by first | rw [HXJ.out] | go_num, HR8, HS8, HBo8⟩
            case measure => (try rw [HXJ.out]); have := HJS.out; simp only [intOf]; omega
        · have hjs' : ¬ (j : Int) < (s : Int) := by omega
          obtain rfl : j = s := by omega
          have HQL : Hid (Q.length = j) := HSF.out.1
          have HMC : Hid (mapC fx fy d = some Q) := mapC_some (by rw [HSF.out.1, HS.out]) HSF.out.2
          have HQ2 : Hid ((Qs ++ [Q]).length = i + 1 ∧ ∀ (j : Nat) c q, O[j]? = some c → (Qs ++ [Q])[j]? = some q → mapC fx fy c = some q) := by
            refine ⟨by rw [List.length_append, HQ.out.1]; rfl, fun j' c' q' h1 h2 => ?_⟩
            by_cases hj2 : j' < Qs.length
            · rw [List.getElem?_append_left hj2] at h2; exact HQ.out.2 j' c' q' h1 h2
            · have hj3 : j' = Qs.length := by have := (List.getElem?_eq_some_iff.1 h2).1; simp at this; omega
              subst hj3
              rw [HQ.out.1, HD.out] at h1
              have h3 : Q = q' := by simpa using h2
              cases h1
              rw [← h3]; exact HMC.out
          have HWq := Lib.hid (own_below HW.out HBo.out)
          have HVq := Lib.hid (HV.out.below HBo.out)
          have HGR : Hid (gr ≠ g ∧ gr < wr.heap.size) := ⟨by have h1 := (ownsRow_cap HW.out).2.2; have h2 := (ownsRow_cap HR.out).2.1; omega, (ownsRow_cap HR.out).2.2⟩
          have HSL : Hid (Lies (wr.alloc (.cells #[.slice (some ⟨gr, 0, none⟩) j cr] 35)) wr.heap.size 0 [.slice (some ⟨gr, 0, none⟩) j cr]) := lies_new (w := wr) (cs := #[.slice (some ⟨gr, 0, none⟩) j cr]) (T := 35)
          go_wp2_with (at_builtin; refine wpList_app elKK rfl _ _ rfl (wr.alloc (.cells #[.slice (some ⟨gr, 0, none⟩) j cr] 35)) u.heap.size g c i vs (some ⟨wr.heap.size, 0, none⟩) 1 1 [.slice (some ⟨gr, 0, none⟩) j cr] rfl rfl (HWq.out.alloc _) rfl (.inr ⟨_, 0, rfl, HSL.out⟩) (by simp [Value.oneCell']) (by have := HN2.out; have := HLT.out; omega) (by have := HN2.out; have := HLT.out; omega) (by have := HBu.out.size; simp; omega) ?_; intro g8 c8 w8 ho8 hg8 hat8)
          have HB8 : Hid (Below u.heap.size u w8) := belGrown (HBu.out.alloc HBu.out.size _) hg8 (ownsRow_cap HW.out).2.1 (by have := HBu.out.size; simp; omega)
          have HV8 : Hid (RowsOwn w8 u.heap.size g8 (vs ++ [.slice (some ⟨gr, 0, none⟩) j cr]) (Qs ++ [Q])) := by
            have h := RowsOwn.snoc (gi := gr) (ci := cr) (c := Q) ((HVq.out.below ((Below.refl _ _).alloc (Nat.le_refl _) _)).grown hg8 hat8) ?_ ?_
            · rwa [HQL.out] at h
            · have h1 := (ownsRow_cap HW.out).2.2
              have h2 := HGR.out
              rcases hat8 with h | h
              · rw [h]; exact h2.1
              · rw [h]; simp; omega
            · rw [HQL.out]
              refine own_keep ((own_base HR.out HB.out.size).alloc (.cells #[.slice (some ⟨gr, 0, none⟩) j cr] 35)) fun x hx => ?_
              have : x = gr := by simpa [Value.ownBlock] using hx.symm
              subst this
              exact hg8.block x (by have := HGR.out.2; simp; omega) (fun e => HGR.out.1 (by cases e; rfl))
          have HW8 := Lib.hid ho8
          clear ho8 hg8 hat8
          go_wp2_with fail
          go_roundw
          case rel => exact ⟨i + 1, g8, c8, _, Qs ++ [Q], HLT.out, rfl, by first | rw [HX.out] | go_num, HW8, HV8, HQ2, HB8⟩
          case measure => (try rw [HX.out]); have := HLT.out; simp only [intOf]; omega
    · have hlt' : ¬ (i : Int) < (n : Int) := by omega
      obtain rfl : i = n := by omega
      have HE := Lib.hid (mapO_some (O := O) (Q := Qs) (by rw [HQ.out.1, HN.out]) HQ.out.2)
      go_wp2_with fail
      go_ret2
      unfold RMapPost
      rw [HE.out]
      exact ⟨g, c, vs, by rw [HQ.out.1]; rfl, by rw [HQ.out.1]; exact own_base HW.out HU.out.size, HV.out.base HU.out.size, bel_next HU.out HB.out⟩

end Go.Proofs.Ythjhekmlhmljlaa

namespace Go.Proofs.Ythjhekmlhmljlaa
open Go.RowKit Go.PlainAid
set_option linter.unusedSimpArgs false
set_option linter.unusedVariables false

/-- append of a row that is there to any owned row. -/
theorem app_any {t e : TypeId} {s by' : Nat} (H : ElT t e s by') (w : World) (base : Nat) (ty : TypeId) (a0 : Option Addr) (n c : Nat) (xs : List Value) (b m cap : Nat) (news : List Value)
    (hown : w.ownsRow base e s (.slice a0 n c) n xs) (hl : news.length = m * s) (hsrc : Lies w b 0 news) (h1 : ∀ u ∈ news, u.oneCell' = true) (hm0 : 0 < m)
    (hb : (n + m) * by' ≤ 140737488355328) (hm : n + m ≤ 140737488355328) (hbase : base ≤ w.heap.size) :
    ∃ g' c' w', (Builtin.append_ #[t, t] ty #[.slice a0 n c, .slice (some ⟨b, 0, none⟩) m cap]).run Try.prog w = .ok (.slice (some ⟨g', 0, none⟩) (n + m) c') w' ∧
      w'.ownsRow base e s (.slice (some ⟨g', 0, none⟩) (n + m) c') (n + m) (xs ++ news) ∧ w.grownBy w' (Value.slice a0 n c).ownBlock ∧ ((Value.slice a0 n c).ownBlock = some g' ∨ g' = w.heap.size) := by
  obtain ⟨ht, hs0, z, hz, hzs⟩ := H
  obtain ⟨i0, hi, hz0, hz1, hz2⟩ := info_parts hz
  obtain ⟨g', c', w', hr, ho, hg, hat, hlt⟩ := run_append_lies (P := Try.prog) w t ty base e i0 z s by' ht hi hz0 hz1 hz2 hzs hs0 _ n xs hown ⟨b, 0, none⟩ m cap news hl
    (fun j u hj => by rw [Addr.add_lit]; exact hsrc j u hj) h1 (by omega) (by unfold maxLen; omega) hb hbase w.heap.size rfl
  exact ⟨g', c', w', hr, ho, hg, hat⟩
theorem wpList_appA {t e : TypeId} {s by' : Nat} (H : ElT t e s by') {ops : Array Oper} {rest : List Oper} {o : Oper} {f : Act} {Q : Exit → Act → World → Prop} (hgd : o.guard = none) (sl x : Operand)
    (ho : o.op = .call { callee := .builtin .append, args := #[sl, x], argTypes := #[t, t] })
    (w : World) (base : Nat) (a0 : Option Addr) (n c : Nat) (xs : List Value) (b m cap : Nat) (news : List Value) (hs : f.eval sl = .slice a0 n c) (hx : f.eval x = .slice (some ⟨b, 0, none⟩) m cap)
    (hown : w.ownsRow base e s (.slice a0 n c) n xs) (hl : news.length = m * s) (hsrc : Lies w b 0 news) (h1 : ∀ u ∈ news, u.oneCell' = true) (hm0 : 0 < m)
    (hb : (n + m) * by' ≤ 140737488355328) (hm : n + m ≤ 140737488355328) (hbase : base ≤ w.heap.size)
    (h : ∀ g' c' w', w'.ownsRow base e s (.slice (some ⟨g', 0, none⟩) (n + m) c') (n + m) (xs ++ news) → w.grownBy w' (Value.slice a0 n c).ownBlock → ((Value.slice a0 n c).ownBlock = some g' ∨ g' = w.heap.size) → wpList Try.prog ops Q rest (f.put o.dst (.slice (some ⟨g', 0, none⟩) (n + m) c')) w') :
    wpList Try.prog ops Q (o :: rest) f w :=
  wpList_plain hgd fun _ hK => by
    obtain ⟨g', c', w', hr, h2, h3, h4⟩ := app_any H w base o.type a0 n c xs b m cap news hown hl hsrc h1 hm0 hb hm hbase
    unfold Oper.wp execOp
    simp only [ho, resolve, invoke, builtin, Sem.run_bind, Sem.run_pure, Result.andThen_ok, List.map_toArray, List.map_cons, List.map_nil, hs, hx, hr]
    exact hK _ _ (h g' c' w' h2 h3 h4)

/-- The rows from the i-th on, each in blocks of its own. -/
structure Gots (s : Nat) (T TS : TypeId) (V : World) (G n i M : Nat) (vs : List Value) (N : Nat → Nat) : Prop where
  blk : V.heap[G]? = some (.cells vs.toArray TS (0, 0))
  len : vs.length = n
  rows : ∀ j, i ≤ j → j < n → ∃ a m c xs, vs[j]? = some (.slice a m c) ∧ m ≤ M ∧ V.ownsRow (N j) T s (.slice a m c) m xs ∧ ∀ h, (Value.slice a m c).ownBlock = some h → h < N (j + 1)
  up : ∀ j, N j ≤ N (j + 1)
  lo : G < N 0
  hi : N n ≤ V.heap.size
/-- The i-th row: it lies apart from the later ones. -/
def RowI (s : Nat) (T : TypeId) (V : World) (G n i : Nat) (N : Nat → Nat) (a : Option Addr) (m c : Nat) : Prop := ∃ xs, V.ownsRow (G + 1) T s (.slice a m c) m xs ∧ ∀ h, (Value.slice a m c).ownBlock = some h → h < N (i + 1) ∨ N n ≤ h
theorem gots_of {α : Type} {cl : α → List Value} {s : Nat} {T TS : TypeId} {g : Nat} {vs : List Value} {Ls : List (List α)} {N : Nat → Nat} {V : World} {M : Nat} (h : OutAt cl s T TS g vs Ls 0 N V) (hM : ∀ L ∈ Ls, L.length ≤ M) : Gots s T TS V g Ls.length 0 M vs N := by
  refine ⟨by have := h.blk; simpa using this, h.len, fun j _ hj => ?_, h.up, h.lo, h.hi⟩
  obtain ⟨L, hL⟩ := get_of hj
  obtain ⟨v, hv⟩ := get_of (show j < vs.length by rw [h.len]; exact hj)
  obtain ⟨a, c, rfl, ho, hlt⟩ := h.row j v L hv hL
  exact ⟨a, L.length, c, _, hv, hM L (List.mem_of_getElem? hL), ho, hlt⟩
theorem own_up {w : World} {B B' : Nat} {e : TypeId} {s n : Nat} {v : Value} {xs : List Value} (h : w.ownsRow B e s v n xs) (hB : B' ≤ B) : w.ownsRow B' e s v n xs := by
  refine ⟨h.1, ?_⟩
  rcases h.2 with hn | ⟨g, cap, cur, hv, hb, rest⟩
  · exact .inl hn
  · exact .inr ⟨g, cap, cur, hv, Nat.le_trans hB hb, rest⟩
theorem Gots.take {s : Nat} {T TS : TypeId} {V : World} {G n i M : Nat} {vs : List Value} {N : Nat → Nat} (h : Gots s T TS V G n i M vs N) (hi : i < n) : ∃ a m c, vs[i]? = some (.slice a m c) ∧ m ≤ M ∧ RowI s T V G n i N a m c ∧ Gots s T TS V G n (i + 1) M vs N := by
  obtain ⟨a, m, c, xs, h1, h2, h3, h4⟩ := h.rows i (Nat.le_refl _) hi
  refine ⟨a, m, c, h1, h2, ⟨xs, own_up h3 ?_, fun x hx => .inl (h4 x hx)⟩, h.blk, h.len, fun j hj hjn => h.rows j (by omega) hjn, h.up, h.lo, h.hi⟩
  have h5 := up_le h.up i 0 (Nat.zero_le _)
  have h6 := h.lo
  omega
theorem Gots.cell {s : Nat} {T TS : TypeId} {V : World} {G n i M : Nat} {vs : List Value} {N : Nat → Nat} (h : Gots s T TS V G n i M vs N) {j : Nat} {v : Value} (hv : vs[j]? = some v) : V.cell? ⟨G, j, none⟩ = some v ∧ V.frozen? ⟨G, j, none⟩ = false := by
  refine ⟨?_, frozen_blk h.blk j⟩
  rw [cell_blk h.blk j]; simpa using hv
/-- What the later rows lie in is kept. -/
theorem Gots.keep {s : Nat} {T TS : TypeId} {V V' : World} {G n i M : Nat} {vs : List Value} {N : Nat → Nat} (h : Gots s T TS V G n i M vs N) (hsz : V.heap.size ≤ V'.heap.size) (hk : ∀ x, (x = G ∨ (N i ≤ x ∧ x < N n)) → V'.heap[x]? = V.heap[x]?) : Gots s T TS V' G n i M vs N := by
  refine ⟨by rw [hk G (.inl rfl)]; exact h.blk, h.len, fun j hj hjn => ?_, h.up, h.lo, Nat.le_trans h.hi hsz⟩
  obtain ⟨a, m, c, xs, h1, h2, h3, h4⟩ := h.rows j hj hjn
  refine ⟨a, m, c, xs, h1, h2, own_keep h3 (fun x hx => hk x (.inr ⟨?_, ?_⟩)), h4⟩
  · have h5 := (h3.lt x hx).1
    have h6 := up_le h.up j i hj
    omega
  · have h5 := h4 x hx
    have h6 := up_le h.up n (j + 1) (by omega)
    omega
/-- A cell of the i-th row is written. -/
theorem RowI.isSome {s : Nat} {T : TypeId} {V : World} {G n i : Nat} {N : Nat → Nat} {a : Option Addr} {m c : Nat} (h : RowI s T V G n i N a m c) (hm : 0 < m) : ∃ b, a = some ⟨b, 0, none⟩ ∧ G < b ∧ (b < N (i + 1) ∨ N n ≤ b) := by
  obtain ⟨xs, h1, h2⟩ := h
  rcases h1.2 with ⟨_, h0⟩ | ⟨g, cap, cur, hv, hb, _⟩
  · omega
  · cases hv
    exact ⟨g, rfl, by omega, h2 g rfl⟩
theorem RowI.cell {s : Nat} {T : TypeId} {V : World} {G n i : Nat} {N : Nat → Nat} {b m c : Nat} (h : RowI s T V G n i N (some ⟨b, 0, none⟩) m c) {j : Nat} (hj : j < m * s) : (∃ u, V.cell? ⟨b, j, none⟩ = some u) ∧ V.frozen? ⟨b, j, none⟩ = false := by
  obtain ⟨xs, h1, h2⟩ := h
  obtain ⟨u, hu⟩ := get_of (show j < xs.length by rw [h1.1]; exact hj)
  refine ⟨⟨u, by have := own_lies h1 j u hu; rwa [Nat.zero_add] at this⟩, ?_⟩
  rcases h1.2 with ⟨hv, _⟩ | ⟨g', cap, cur, hv, hb, hg, _⟩
  · cases hv
  · cases hv; exact frozen_blk hg j
theorem RowI.put {s : Nat} {T : TypeId} {V : World} {G n i : Nat} {N : Nat → Nat} {b m c : Nat} (h : RowI s T V G n i N (some ⟨b, 0, none⟩) m c) (j : Nat) (u : Value) : RowI s T (V.setCell ⟨b, j, none⟩ u) G n i N (some ⟨b, 0, none⟩) m c := by
  obtain ⟨xs, h1, h2⟩ := h
  exact ⟨_, own_put h1 j u, h2⟩
theorem Gots.put {s : Nat} {T TS : TypeId} {V : World} {G n i M : Nat} {vs : List Value} {N : Nat → Nat} (h : Gots s T TS V G n (i + 1) M vs N) {b : Nat} (hg : G < b) (hb : b < N (i + 1) ∨ N n ≤ b) (j : Nat) (u : Value) : Gots s T TS (V.setCell ⟨b, j, none⟩ u) G n (i + 1) M vs N :=
  h.keep (by simp) (fun x hx => Below.heap_setCell _ _ _ _ (by show x ≠ b; omega))
/-- The i-th row is appended to. -/
theorem Gots.app {s : Nat} {T TS : TypeId} {V V' : World} {G n i M : Nat} {vs : List Value} {N : Nat → Nat} {a : Option Addr} {m c g' c' m' : Nat} {ys : List Value} (h : Gots s T TS V G n (i + 1) M vs N) (hr : RowI s T V G n i N a m c) (hin : i < n)
    (ho : V'.ownsRow (G + 1) T s (.slice (some ⟨g', 0, none⟩) m' c') m' ys) (hg : V.grownBy V' (Value.slice a m c).ownBlock) (hat : (Value.slice a m c).ownBlock = some g' ∨ g' = V.heap.size) :
    Gots s T TS (V'.setCell ⟨G, i, none⟩ (.slice (some ⟨g', 0, none⟩) m' c')) G n (i + 1) M (vs.set i (.slice (some ⟨g', 0, none⟩) m' c')) N ∧ (vs.set i (.slice (some ⟨g', 0, none⟩) m' c'))[i]? = some (.slice (some ⟨g', 0, none⟩) m' c') ∧
      RowI s T (V'.setCell ⟨G, i, none⟩ (.slice (some ⟨g', 0, none⟩) m' c')) G n i N (some ⟨g', 0, none⟩) m' c' := by
  obtain ⟨xs, h1, h2⟩ := hr
  have hGV : G < V.heap.size := (Array.getElem?_eq_some_iff.1 h.blk).1
  have hgN : g' < N (i + 1) ∨ N n ≤ g' := by
    rcases hat with e | e
    · exact h2 g' e
    · have := h.hi; omega
  have hgG : G + 1 ≤ g' := (ownsRow_cap ho).2.1
  have hk : ∀ x, (x = G ∨ (N (i + 1) ≤ x ∧ x < N n)) → V'.heap[x]? = V.heap[x]? := by
    intro x hx
    have h0 := up_le h.up (i + 1) 0 (Nat.zero_le _)
    have h3 := h.lo
    have h4 := h.hi
    refine hg.block x (by omega) (fun e => ?_)
    have h5 := (h1.lt x e.symm).1
    have h6 := h2 x e.symm
    omega
  have hV := h.keep hg.size hk
  refine ⟨⟨?_, by rw [List.length_set]; exact h.len, fun j hj hjn => ?_, h.up, h.lo, by simpa using hV.hi⟩, ?_, ?_⟩
  · rw [heap_set hV.blk]
    simp
  · obtain ⟨a2, m2, c2, xs2, q1, q2, q3, q4⟩ := hV.rows j hj hjn
    refine ⟨a2, m2, c2, xs2, by rw [List.getElem?_set_ne (by omega)]; exact q1, q2, own_keep q3 (fun x hx => Below.heap_setCell _ _ _ _ ?_), q4⟩
    have h5 := (q3.lt x hx).1
    have h6 := up_le h.up j 0 (Nat.zero_le _)
    have h7 := h.lo
    show x ≠ G
    omega
  · rw [List.getElem?_set_self (by rw [h.len]; exact hin)]
  · refine ⟨ys, own_keep ho (fun x hx => Below.heap_setCell _ _ _ _ ?_), fun x hx => ?_⟩
    · have : x = g' := by simpa [Value.ownBlock] using hx.symm
      show x ≠ G
      omega
    · have : x = g' := by simpa [Value.ownBlock] using hx.symm
      subst this; exact hgN

end Go.Proofs.Ythjhekmlhmljlaa
