/-
  What the library's IndexFunc, Grow and Concat give where package path calls them: the first knot on the curve; two rows of knots joined in new memory.
-/
import Derived.Test.YthjhekmlhmljlaaPtF
import Derived.Test.YthjhekmlhmljlaaPtH
import Derived.Laws.Append
import Derived.Handy
namespace Go.Proofs.Ythjhekmlhmljlaa
open Go.RowKit Go.PlainAid
set_option linter.unusedSimpArgs false
set_option linter.unusedVariables false

set_option maxHeartbeats 400000 in
theorem isOn_c (k : Kn) (w : World) : Calls Try.prog 72 #[knV k] w fun e w' => e = .returned (.bool (k.k == 1)) ∧ Below w.heap.size w w' := by
  unfold knV
  have HB := Lib.hid ((Below.refl w.heap.size w).alloc (Nat.le_refl _) (.cells #[.int .i64 k.x, .int .i64 k.y, .int .i64 k.k] 37))
  go_enter Try.func72, Try.ntmps72
  go_wp2_with fail
  go_ret
  exact ⟨rfl, HB.out⟩

/-- The place of the first knot on the curve, or -1. -/
def idxI (L : List Kn) : Int := match firstOn L with
  | some i => (i : Int)
  | none => -1
theorem firstOn_some {L : List Kn} : ∀ {i : Nat} {k : Kn}, L[i]? = some k → k.k = 1 → (∀ d ∈ L.take i, ¬ d.k = 1) → firstOn L = some i := by
  induction L with
  | nil => intro i k h; simp at h
  | cons a L ih =>
    intro i k h hk hall
    cases i with
    | zero => simp at h; subst h; simp [firstOn, hk]
    | succ i =>
      have h1 : ¬ a.k = 1 := hall a (by simp)
      have := ih (i := i) (k := k) (by simpa using h) hk (fun d hd => hall d (by simp [hd]))
      rw [firstOn, if_neg h1, this]; rfl
theorem firstOn_none {L : List Kn} (hall : ∀ d ∈ L, ¬ d.k = 1) : firstOn L = none := by
  induction L with
  | nil => rfl
  | cons a L ih => rw [firstOn, if_neg (hall a (by simp)), ih (fun d hd => hall d (by simp [hd]))]; rfl
theorem firstOn_lt {L : List Kn} : ∀ {i : Nat}, firstOn L = some i → ∃ k, L[i]? = some k ∧ k.k = 1 := by
  induction L with
  | nil => intro i h; simp [firstOn] at h
  | cons a L ih =>
    intro i h
    rw [firstOn] at h
    by_cases h1 : a.k = 1
    · rw [if_pos h1] at h; cases h; exact ⟨a, by simp, h1⟩
    · rw [if_neg h1] at h
      cases e : firstOn L with
      | none => rw [e] at h; simp at h
      | some j =>
        rw [e] at h; simp at h; subst h
        obtain ⟨k, h2, h3⟩ := ih e
        exact ⟨k, by simpa using h2, h3⟩

set_option maxHeartbeats 1000000 in
theorem indexFunc_c (a : Option Addr) (cap : Nat) (L : List Kn) (w : World) (hr : IsR clK w a L) (hn : L.length ≤ 4096) :
    Calls Try.prog 71 #[.slice a L.length cap, .func (.func 72) #[] #[]] w fun e w' => e = .returned (.int .i64 (idxI L)) ∧ Below w.heap.size w w' := by
  have HR := Lib.hid hr
  have HN := Lib.hid hn
  clear hr hn
  go_enter Try.func71, Try.ntmps71
  go_wp2_with fail
  go_loopw [8] (fun x wr => ∃ j : Nat, j ≤ L.length ∧ x = .int .i64 j ∧ Hid (∀ k ∈ L.take j, ¬ k.k = 1) ∧ Hid (Below w.heap.size w wr)) (fun x _ => L.length - (intOf x).toNat)
  case atStart => exact ⟨0, Nat.zero_le _, rfl, by simp [Hid], Below.refl _ _⟩
  case round =>
    obtain ⟨j, hj, rfl, HK, HB⟩ := hrel
    by_cases hl2 : j < L.length
    · have hl2' : (j : Int) < (L.length : Int) := by omega
      obtain ⟨k, hk⟩ := get_of hl2
      obtain ⟨b2, off2, rfl, k0, k1, k2⟩ := (HR.out.below HB.out).knot hk
      have HKK := Lib.hid hk
      have HL2 := Lib.hid hl2
      clear hk hj hl2
      go_wp2_with fail
      refine (isOn_c k _).mono ?_
      rintro e w1 ⟨rfl, hb1⟩
      have HB3 := Lib.hid (bel_next HB.out hb1)
      clear hb1 k0 k1 k2
      cases hkb : (k.k == 1)
      · have HK2 : Hid (∀ d ∈ L.take (j + 1), ¬ d.k = 1) := take_all HK.out HKK.out (by simpa using hkb)
        have HX := Lib.hid (next64 (j := j) (by have := HL2.out; have := HN.out; omega))
        clear hkb
        go_wp2_with fail
        go_roundw
        case rel => exact ⟨j + 1, HL2.out, by rw [HX.out], HK2, HB3⟩
        case measure => rw [HX.out]; have := HL2.out; simp only [intOf]; omega
      · have HE : Hid (idxI L = (j : Int)) := by
          unfold Hid idxI; rw [firstOn_some HKK.out (by simpa using hkb) HK.out]
        clear hkb
        go_wp2_with fail
        go_ret
        exact ⟨by rw [HE.out]; rfl, HB3.out⟩
    · have hl2' : ¬ (j : Int) < (L.length : Int) := by omega
      have HE : Hid (idxI L = -1) := by
        unfold Hid idxI; rw [firstOn_none (by have := HK.out; rwa [List.take_of_length_le (by omega)] at this)]
      clear hl2 hj
      go_wp2_with fail
      go_ret
      exact ⟨by rw [HE.out]; rfl, HB.out⟩

/-- append of k zero knots to the row that is none. -/
theorem append_zeros (w : World) (ty : TypeId) (k : Nat) (hk : 0 < k) (hk2 : k ≤ 10000) : ∃ c w', (Builtin.append_ #[35, 3] ty #[.slice none 0 0, .int .i64 (k : Int)]).run Try.prog w = .ok (.slice (some ⟨w.heap.size, 0, none⟩) k c) w' ∧ k ≤ c ∧
    w'.ownsRow w.heap.size 37 3 (.slice (some ⟨w.heap.size, 0, none⟩) 0 c) 0 [] ∧ Below w.heap.size w w' := by
  obtain ⟨ht, hs0, z, hz, hzs⟩ := elK
  obtain ⟨i0, hi, hz0, hz1, hz2⟩ := info_parts hz
  have hw : IntKind.i64.wrap (k : Int) = (k : Int) := IntWalk.i64_in _ (by omega)
  have h48 : ¬ (281474976710656 < (k : Int) * 24) := by omega
  have h48' : ¬ (281474976710656 < Builtin.nextslicecap k 0 * 24) := by rw [nextslicecap_zero hk]; omega
  have h63 : ¬ (9223372036854775807 < (k : Int)) := by omega
  have hneg : ¬ ((k : Int) < 0) := by omega
  have hk0 : ¬ k = 0 := by omega
  have hpos : ¬ ((k : Int) ≤ 0) := by omega
  have hmax : max (k : Int) 0 = (k : Int) := by omega
  have hge := grownCap_ge w k 0 37
  refine ⟨grownCap w k 0 37, w.drew.alloc (.cells (Builtin.zeroCells z.cells k ++ Builtin.zeroCells z.cells (grownCap w k 0 37 - k)) 37), ?_, hge, ?_, ?_⟩
  · simp [Builtin.append_, run_underlying ht, run_underlying Try.underlying3, sizeOf, typeInfo, zeroValue, hi, hz0, hz1, hz2, Builtin.lenOf, Builtin.firstCells, hk0, h48, h48', h63, hneg, hw, Question.forced, newRow, grownCap, asInt, asIntOf, hpos, hmax]
    intro h; omega
  · exact World.ownsRow_made w.drew _ _ (Nat.le_refl _) (grownCap_le_maxLen w k 0 37 (by unfold maxLen; omega)) (by simp only [Array.size_append, size_zeroCells, hzs]; generalize grownCap w k 0 37 = gc at *; omega)
  · exact (Below.refl _ _).drew.alloc (Nat.le_refl _) _

theorem wpList_zeros {ops : Array Oper} {rest : List Oper} {o : Oper} {f : Act} {Q : Exit → Act → World → Prop} (hgd : o.guard = none) (sl x : Operand)
    (ho : o.op = .call { callee := .builtin .append, args := #[sl, x], argTypes := #[35, 3] })
    (w : World) (k : Nat) (hs : f.eval sl = .slice none 0 0) (hx : f.eval x = .int .i64 (k : Int)) (hk : 0 < k) (hk2 : k ≤ 10000)
    (h : ∀ c w', k ≤ c → w'.ownsRow w.heap.size 37 3 (.slice (some ⟨w.heap.size, 0, none⟩) 0 c) 0 [] → Below w.heap.size w w' → wpList Try.prog ops Q rest (f.put o.dst (.slice (some ⟨w.heap.size, 0, none⟩) k c)) w') :
    wpList Try.prog ops Q (o :: rest) f w :=
  wpList_plain hgd fun _ hK => by
    obtain ⟨c, w', hr, h2, h3, h4⟩ := append_zeros w o.type k hk hk2
    unfold Oper.wp execOp
    simp only [ho, resolve, invoke, builtin, Sem.run_bind, Sem.run_pure, Result.andThen_ok, List.map_toArray, List.map_cons, List.map_nil, hs, hx, hr]
    exact hK _ _ (h c w' h2 h3 h4)
theorem wpList_nil0 {ops : Array Oper} {rest : List Oper} {o : Oper} {f : Act} {Q : Exit → Act → World → Prop} (hgd : o.guard = none) (sl x : Operand)
    (ho : o.op = .call { callee := .builtin .append, args := #[sl, x], argTypes := #[35, 35] })
    (w : World) (a : Option Addr) (c : Nat) (hs : f.eval sl = .slice none 0 0) (hx : f.eval x = .slice a 0 c)
    (h : wpList Try.prog ops Q rest (f.put o.dst (.slice none 0 0)) w) :
    wpList Try.prog ops Q (o :: rest) f w :=
  wpList_plain hgd fun _ hK => by
    obtain ⟨ht, hs0, z, hz, hzs⟩ := elK
    obtain ⟨i0, hi, hz0, hz1, hz2⟩ := info_parts hz
    have hr : (Builtin.append_ #[35, 35] o.type #[.slice none 0 0, .slice a 0 c]).run Try.prog w = .ok (.slice none 0 0) w := by
      cases a <;> simp [Builtin.append_, run_underlying ht, sizeOf, typeInfo, hi, Builtin.lenOf, Builtin.firstCells, loadCells, loadCellsFrom, storeCells]
    unfold Oper.wp execOp
    simp only [ho, resolve, invoke, builtin, Sem.run_bind, Sem.run_pure, Result.andThen_ok, List.map_toArray, List.map_cons, List.map_nil, hs, hx, hr]
    exact hK _ _ h

set_option maxHeartbeats 1000000 in
theorem grow_none (w : World) : Calls Try.prog 79 #[.slice none 0 0, .int .i64 0] w fun e w' => e = .returned (.slice none 0 0) ∧ w = w' := by
  go_enter Try.func79, Try.ntmps79
  go_wp2_with fail
  go_ret
  exact ⟨rfl, rfl⟩

/-- Room for knots in a new row. -/
def GrowPost (w : World) (k : Nat) (e : Ending) (w' : World) : Prop := ∃ c, e = .returned (.slice (some ⟨w.heap.size, 0, none⟩) 0 c) ∧ k ≤ c ∧ w'.ownsRow w.heap.size 37 3 (.slice (some ⟨w.heap.size, 0, none⟩) 0 c) 0 [] ∧ Below w.heap.size w w'

set_option maxHeartbeats 1000000 in
theorem grow_some (k : Nat) (K : Int) (hK : K = (k : Int)) (w : World) (hk : 0 < k) (hk2 : k ≤ 10000) : Calls Try.prog 79 #[.slice none 0 0, .int .i64 K] w (GrowPost w k) := by
  subst hK
  have h1 : (0 : Int) < (k : Int) := by omega
  have h2 : ¬ ((k : Int) < 0) := by omega
  have h3 : (k : Int) ≤ 10000 := by omega
  have HK := Lib.hid (And.intro hk hk2)
  clear hk hk2
  go_enter Try.func79, Try.ntmps79
  go_wp2_with (at_builtin; refine wpList_zeros rfl _ _ rfl w k rfl rfl HK.out.1 HK.out.2 ?_; intro c w1 hc ho hb; have HC := Lib.hid hc; have HO := Lib.hid ho; have HB := Lib.hid hb; clear hc ho hb)
  go_ret
  exact ⟨c, rfl, HC.out, HO.out, HB.out⟩

/-- Two rows joined. -/
def JoinPost (w : World) (L : List Kn) (e : Ending) (w' : World) : Prop := ∃ a c, e = .returned (.slice a L.length c) ∧ L.length ≤ c ∧ IsR clK w' a L ∧ Below w.heap.size w w' ∧ ∀ b off s, a = some ⟨b, off, s⟩ → w.heap.size ≤ b

theorem clK_one {L : List Kn} : ∀ u ∈ L.flatMap clK, u.oneCell' = true := by
  intro u hu
  obtain ⟨k, _, hk⟩ := List.mem_flatMap.1 hu
  simp [clK] at hk
  rcases hk with rfl | rfl | rfl <;> rfl
theorem clS_one {L : List Sp} : ∀ u ∈ L.flatMap clS, u.oneCell' = true := by
  intro u hu
  obtain ⟨k, _, hk⟩ := List.mem_flatMap.1 hu
  simp [clS] at hk
  rcases hk with rfl | rfl <;> rfl
theorem isR_src {α : Type} {cl : α → List Value} {w : World} {a : Option Addr} {L : List α} (h : IsR cl w a L) : L.length = 0 ∨ ∃ b off, a = some ⟨b, off, none⟩ ∧ Lies w b off (L.flatMap cl) := by
  rcases h with h | h
  · exact .inl (by rw [h]; rfl)
  · exact .inr h

set_option maxRecDepth 20000 in
set_option maxHeartbeats 2000000 in
theorem concat_c (s : Nat) (a1 a2 : Option Addr) (c1 c2 : Nat) (L1 L2 : List Kn) (w : World) (hs0 : w.cell? ⟨s, 0, none⟩ = some (.slice a1 L1.length c1)) (hs1 : w.cell? ⟨s, 1, none⟩ = some (.slice a2 L2.length c2)) (h1 : IsR clK w a1 L1) (h2 : IsR clK w a2 L2) (hn : L1.length + L2.length ≤ 4096) :
    Calls Try.prog 73 #[.slice (some ⟨s, 0, none⟩) 2 2] w (JoinPost w (L1 ++ L2)) := by
  have HS0 := Lib.hid hs0
  have HS1 := Lib.hid hs1
  have H1 := Lib.hid h1
  have H2 := Lib.hid h2
  have HN := Lib.hid hn
  obtain ⟨n1, HN1⟩ : ∃ n1, Hid (L1.length = n1) := ⟨_, rfl⟩
  obtain ⟨n2, HN2⟩ : ∃ n2, Hid (L2.length = n2) := ⟨_, rfl⟩
  have b1 : (n1 : Int) ≤ 4096 := by have := HN1.out; have := HN2.out; omega
  have b2 : (n2 : Int) ≤ 4096 := by have := HN1.out; have := HN2.out; omega
  rw [HN1.out] at HS0 hs0
  rw [HN2.out] at HS1 hs1
  clear h1 h2 hn
  go_enter Try.func73, Try.ntmps73
  go_wp2_with fail
  refine wp_loop_rounds 3 ?_
  rw [rounds_succ]
  go_wp2_with fail
  rw [rounds_succ]
  go_wp2_with fail
  rw [rounds_succ]
  go_wp2_with fail
  by_cases h0 : n1 + n2 = 0
  · obtain rfl : n1 = 0 := by omega
    obtain rfl : n2 = 0 := by omega
    have HE : Hid (L1 ++ L2 = []) := by
      unfold Hid; rw [List.eq_nil_of_length_eq_zero HN1.out, List.eq_nil_of_length_eq_zero HN2.out]; rfl
    clear h0
    refine (grow_none w).mono ?_
    rintro e w1 ⟨rfl, rfl⟩
    go_wp2_with fail
    refine wp_loop_rounds 3 ?_
    rw [rounds_succ]
    go_wp2_with (at_builtin; refine wpList_nil0 rfl _ _ rfl w _ _ rfl rfl ?_)
    rw [rounds_succ]
    go_wp2_with (at_builtin; refine wpList_nil0 rfl _ _ rfl w _ _ rfl rfl ?_)
    rw [rounds_succ]
    go_wp2_with fail
    go_ret
    exact ⟨none, 0, by rw [HE.out]; rfl, by rw [HE.out]; exact Nat.zero_le _, .inl HE.out, Below.refl _ _, fun b off s h => by cases h⟩
  · refine (grow_some (n1 + n2) _ (by simp) w (by omega) (by omega)).mono ?_
    rintro e w1 ⟨c, rfl, hc, ho, hb⟩
    have HO := Lib.hid ho
    have HB := Lib.hid hb
    have s0 := keepC hb hs0
    have s1 := keepC hb hs1
    clear h0 ho hb hc hs0 hs1
    have HS1' := Lib.hid s1
    clear s1
    go_wp2_with fail
    refine wp_loop_rounds 3 ?_
    rw [rounds_succ]
    go_wp2_with (at_builtin; refine wpList_app elK rfl _ _ rfl w1 w.heap.size w.heap.size c 0 [] a1 n1 c1 (L1.flatMap clK) rfl rfl HO.out (by rw [flat_length clK_length, HN1.out]) (by have := isR_src (H1.out.below HB.out); rwa [HN1.out] at this) clK_one (by omega) (by omega) HB.out.size ?_; intro g2 c2' w2 ho2 hg2 hat2)
    have HB2 : Hid (Below w.heap.size w w2) := HB.out.grown hg2 HB.out.size (fun k hk => by cases hk; exact Nat.le_refl _)
    have HO2 : Hid (w2.ownsRow w.heap.size 37 3 (.slice (some ⟨g2, 0, none⟩) n1 c2') n1 (L1.flatMap clK)) := by simpa [Hid] using ho2
    have s1 : w2.cell? ⟨s, 1, none⟩ = some (.slice a2 n2 c2) := keepC HB2.out HS1.out
    clear ho2 hg2 hat2 s0 HS1'
    rw [rounds_succ]
    go_wp2_with (at_builtin; refine wpList_app elK rfl _ _ rfl w2 w.heap.size g2 c2' n1 (L1.flatMap clK) a2 n2 c2 (L2.flatMap clK) rfl rfl HO2.out (by rw [flat_length clK_length, HN2.out]) (by have := isR_src (H2.out.below HB2.out); rwa [HN2.out] at this) clK_one (by omega) (by omega) HB2.out.size ?_; intro g3 c3 w3 ho3 hg3 hat3)
    have HB3 : Hid (Below w.heap.size w w3) := HB2.out.grown hg3 HB2.out.size (fun k hk => by cases hk; exact (ownsRow_cap HO2.out).2.1)
    have HO3 := Lib.hid ho3
    have HE : Hid ((L1 ++ L2).length = n1 + n2) := by unfold Hid; rw [List.length_append, HN1.out, HN2.out]
    clear ho3 hg3 hat3 s1
    rw [rounds_succ]
    go_wp2_with fail
    go_ret
    refine ⟨some ⟨g3, 0, none⟩, c3, by rw [HE.out]; rfl, by rw [HE.out]; exact (ownsRow_cap HO3.out).1, ?_, HB3.out, fun b off s h => by cases h; exact (ownsRow_cap HO3.out).2.1⟩
    have h := HO3.out
    rw [← List.flatMap_append] at h
    exact own_isR HE.out.symm h

end Go.Proofs.Ythjhekmlhmljlaa
