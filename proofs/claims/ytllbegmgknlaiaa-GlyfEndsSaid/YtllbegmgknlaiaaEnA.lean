/-
  What the small functions of Encode answer for the chapter's triangle: isNear, writable, withKnots, knotsOf, tooMany, slices.Concat, lastKnots, flagsOf, differences.
-/
import Derived.Test.YtllbegmgknlaiaaGlB
import Derived.Test.YtllbegmgknlaiaaGc
namespace Go.Proofs.Ytllbegmgknlaiaa
open Go.RowKit Go.PlainAid
set_option linter.unusedSimpArgs false
set_option linter.unusedVariables false

theorem app_any {t e : TypeId} {s by' : Nat} (H : ElT t e s by') (w : World) (base : Nat) (ty : TypeId) (a0 : Option Addr) (n c : Nat) (xs : List Value) (b m cap : Nat) (news : List Value)
    (hown : w.ownsRow base e s (.slice a0 n c) n xs) (hl : news.length = m * s) (hsrc : Lies w b 0 news) (h1 : ∀ u ∈ news, u.oneCell' = true) (hm0 : 0 < m)
    (hb : (n + m) * by' ≤ 140737488355328) (hm : n + m ≤ 140737488355328) (hbase : base ≤ w.heap.size) :
    ∃ g' c' w', (Builtin.append_ #[t, t] ty #[.slice a0 n c, .slice (some ⟨b, 0, none⟩) m cap]).run Try.prog w = .ok (.slice (some ⟨g', 0, none⟩) (n + m) c') w' ∧
      w'.ownsRow base e s (.slice (some ⟨g', 0, none⟩) (n + m) c') (n + m) (xs ++ news) ∧ w.grownBy w' (Value.slice a0 n c).ownBlock ∧ ((Value.slice a0 n c).ownBlock = some g' ∨ g' = w.heap.size) := by
  obtain ⟨ht, hs0, z, hz, hzs⟩ := H
  obtain ⟨i0, hi, hz0, hz1, hz2⟩ := info_parts hz
  obtain ⟨g', c', w', hr, ho, hg, hat, hlt⟩ := run_append_lies (P := Try.prog) w t ty base e i0 z s by' ht hi hz0 hz1 hz2 hzs hs0 _ n xs hown ⟨b, 0, none⟩ m cap news hl
    (fun j u hj => by rw [Addr.add_lit]; exact hsrc j u hj) h1 (by omega) (by unfold maxLen; omega) hb hbase w.heap.size rfl
  exact ⟨g', c', w', hr, ho, hg, hat⟩
theorem wpList_appA {t e : TypeId} {s by' : Nat} (H : ElT t e s by') {ops : Array Oper} {rest : List Oper} {o : Oper} {f : Act} {Q : Exit → Act → World → Prop} (hgd : o.guard = none) (sl x : Operand)
    (ho : o.op = .call { callee := .builtin .append, args := #[sl, x], argTypes := #[t, t] })
    (w : World) (base : Nat) (a0 : Option Addr) (n c : Nat) (xs : List Value) (b m cap : Nat) (news : List Value) (hs : f.eval sl = .slice a0 n c) (hx : f.eval x = .slice (some ⟨b, 0, none⟩) m cap)
    (hown : w.ownsRow base e s (.slice a0 n c) n xs) (hl : news.length = m * s) (hsrc : Lies w b 0 news) (h1 : ∀ u ∈ news, u.oneCell' = true) (hm0 : 0 < m)
    (hb : (n + m) * by' ≤ 140737488355328) (hm : n + m ≤ 140737488355328) (hbase : base ≤ w.heap.size)
    (h : ∀ g' c' w', w'.ownsRow base e s (.slice (some ⟨g', 0, none⟩) (n + m) c') (n + m) (xs ++ news) → w.grownBy w' (Value.slice a0 n c).ownBlock → ((Value.slice a0 n c).ownBlock = some g' ∨ g' = w.heap.size) → wpList Try.prog ops Q rest (f.put o.dst (.slice (some ⟨g', 0, none⟩) (n + m) c')) w') :
    wpList Try.prog ops Q (o :: rest) f w :=
  wpList_plain hgd fun _ hK => by
    obtain ⟨g', c', w', hr, h2, h3, h4⟩ := app_any H w base o.type a0 n c xs b m cap news hown hl hsrc h1 hm0 hb hm hbase
    unfold Oper.wp execOp
    simp only [ho, resolve, invoke, builtin, Sem.run_bind, Sem.run_pure, Result.andThen_ok, List.map_toArray, List.map_cons, List.map_nil, hs, hx, hr]
    exact hK _ _ (h g' c' w' h2 h3 h4)

/-- The triangle's knots lie there. -/
structure Tri (w : World) (h : Nat) : Prop where
  c0 : w.cell? ⟨h, 0, none⟩ = some (.int .i64 1)
  c1 : w.cell? ⟨h, 1, none⟩ = some (.int .i64 2)
  c2 : w.cell? ⟨h, 2, none⟩ = some (.int .i64 1)
  c3 : w.cell? ⟨h, 3, none⟩ = some (.int .i64 9)
  c4 : w.cell? ⟨h, 4, none⟩ = some (.int .i64 (-4))
  c5 : w.cell? ⟨h, 5, none⟩ = some (.int .i64 2)
  c6 : w.cell? ⟨h, 6, none⟩ = some (.int .i64 0)
  c7 : w.cell? ⟨h, 7, none⟩ = some (.int .i64 7)
  c8 : w.cell? ⟨h, 8, none⟩ = some (.int .i64 1)
def triK : List Kn := [⟨1, 2, 1⟩, ⟨9, -4, 2⟩, ⟨0, 7, 1⟩]
theorem tri_of {w : World} {h : Nat} (l : Lies w h 0 (triK.flatMap clK)) : Tri w h := by
  have e (j : Nat) (u : Value) (hu : (triK.flatMap clK)[j]? = some u) : w.cell? ⟨h, j, none⟩ = some u := by have := l j u hu; rwa [Nat.zero_add] at this
  exact ⟨e 0 _ rfl, e 1 _ rfl, e 2 _ rfl, e 3 _ rfl, e 4 _ rfl, e 5 _ rfl, e 6 _ rfl, e 7 _ rfl, e 8 _ rfl⟩
theorem Tri.below {w w' : World} {h : Nat} (t : Tri w h) (hb : Below w.heap.size w w') : Tri w' h := ⟨keepC hb t.c0, keepC hb t.c1, keepC hb t.c2, keepC hb t.c3, keepC hb t.c4, keepC hb t.c5, keepC hb t.c6, keepC hb t.c7, keepC hb t.c8⟩
theorem Tri.lt {w : World} {h : Nat} (t : Tri w h) : h < w.heap.size := World.block_lt_of_cell? w _ t.c0

set_option maxHeartbeats 400000 in
theorem near_c (a n : Int) (w : World) (h1 : a - 32768 ≤ n) (h2 : n ≤ a + 32767) (h3 : -1000 ≤ a) (h4 : a ≤ 1000) : Calls Try.prog 26 #[.int .i64 a, .int .i64 n] w fun e w' => e = .returned (.bool true) ∧ w = w' := by
  have w1 : wrap64 (a - 32768) = a - 32768 := by unfold wrap64; omega
  have w2 : wrap64 (a + 32767) = a + 32767 := by unfold wrap64; omega
  have w3 : wrap64 (a + -32768) = a - 32768 := by unfold wrap64; omega
  clear h3 h4
  go_enter Try.func26, Try.ntmps26
  go_wp2
  go_ret
  exact ⟨rfl, rfl⟩

set_option maxRecDepth 20000 in
set_option maxHeartbeats 1000000 in
theorem writable_c (g h c ch : Nat) (w : World) (hc : w.cell? ⟨g, 0, none⟩ = some (.slice (some ⟨h, 0, none⟩) 3 ch)) (ht : Tri w h) :
    Calls Try.prog 15 #[.slice (some ⟨g, 0, none⟩) 1 c] w fun e w' => e = .returned (.bool true) ∧ Below w.heap.size w w' := by
  obtain ⟨c0, c1, c2, c3, c4, c5, c6, c7, c8⟩ := ht
  have hh : h < w.heap.size := World.block_lt_of_cell? w _ c0
  have hg : g < w.heap.size := World.block_lt_of_cell? w _ hc
  have hh1 : h < w.heap.size + 1 := by omega
  have hh2 : h < w.heap.size + 1 + 1 := by omega
  have hh3 : h < w.heap.size + 1 + 1 + 1 := by omega
  go_enter Try.func15, Try.ntmps15
  go_wp2_with fail
  refine wp_loop_rounds 2 ?_
  rw [rounds_succ]
  go_wp2_with fail
  refine wp_loop_rounds 4 ?_
  rw [rounds_succ]
  go_wp2_with (go_at_call 26; refine (near_c _ _ _ (by decide) (by decide) (by decide) (by decide)).mono ?_; rintro e w1 ⟨rfl, rfl⟩)
  rw [rounds_succ]
  go_wp2_with (go_at_call 26; refine (near_c _ _ _ (by decide) (by decide) (by decide) (by decide)).mono ?_; rintro e w1 ⟨rfl, rfl⟩)
  rw [rounds_succ]
  go_wp2_with (go_at_call 26; refine (near_c _ _ _ (by decide) (by decide) (by decide) (by decide)).mono ?_; rintro e w1 ⟨rfl, rfl⟩)
  rw [rounds_succ]
  go_wp2_with fail
  rw [rounds_succ]
  go_wp2_with fail
  go_ret
  refine ⟨rfl, ?_⟩
  exact bel_alloc (bel_alloc (bel_alloc ((Below.refl _ _).alloc (Nat.le_refl _) _) _) _) _

set_option maxRecDepth 20000 in
set_option maxHeartbeats 1000000 in
theorem withKnots_c (g h c ch : Nat) (w : World) (hc : w.cell? ⟨g, 0, none⟩ = some (.slice (some ⟨h, 0, none⟩) 3 ch)) :
    Calls Try.prog 16 #[.slice (some ⟨g, 0, none⟩) 1 c] w fun e w' => ∃ g' c', e = .returned (.slice (some ⟨g', 0, none⟩) 1 c') ∧ w'.cell? ⟨g', 0, none⟩ = some (.slice (some ⟨h, 0, none⟩) 3 ch) ∧ Below w.heap.size w w' := by
  have hg : g < w.heap.size := World.block_lt_of_cell? w _ hc
  have HL := Lib.hid (lies_new (w := w) (cs := #[.slice (some ⟨h, 0, none⟩) 3 ch]) (T := 36))
  have HN := Lib.hid (World.ownsRow_nil (w.alloc (.cells #[.slice (some ⟨h, 0, none⟩) 3 ch] 36)) w.heap.size 36 1)
  have HB0 : Hid (Below w.heap.size w (w.alloc (.cells #[.slice (some ⟨h, 0, none⟩) 3 ch] 36))) := (Below.refl _ _).alloc (Nat.le_refl _) _
  go_enter Try.func16, Try.ntmps16
  go_wp2_with fail
  refine wp_loop_rounds 2 ?_
  rw [rounds_succ]
  go_wp2_with (at_builtin; refine wpList_appA elKK rfl _ _ rfl (w.alloc (.cells #[.slice (some ⟨h, 0, none⟩) 3 ch] 36)) w.heap.size none 0 0 [] w.heap.size 1 1 [.slice (some ⟨h, 0, none⟩) 3 ch] rfl rfl HN.out rfl HL.out (by simp [Value.oneCell']) (by decide) (by decide) (by decide) HB0.out.size ?_; intro g1 c1 w1 o1 k1 hat1)
  have HC1 : Hid (w1.cell? ⟨g1, 0, none⟩ = some (.slice (some ⟨h, 0, none⟩) 3 ch)) := own_lies o1 0 _ rfl
  have HB1 : Hid (Below w.heap.size w w1) := HB0.out.grown k1 HB0.out.size (fun k hk => by cases hk)
  clear o1 k1 hat1
  rw [rounds_succ]
  go_wp2_with fail
  go_ret
  exact ⟨g1, c1, rfl, HC1.out, HB1.out⟩

set_option maxHeartbeats 1000000 in
theorem knotsOf_c (g c : Nat) (a : Option Addr) (ch : Nat) (w : World) (hc : w.cell? ⟨g, 0, none⟩ = some (.slice a 3 ch)) :
    Calls Try.prog 27 #[.slice (some ⟨g, 0, none⟩) 1 c] w fun e w' => e = .returned (.int .i64 3) ∧ w = w' := by
  go_enter Try.func27, Try.ntmps27
  go_wp2_with fail
  refine wp_loop_rounds 2 ?_
  rw [rounds_succ]
  go_wp2_with fail
  rw [rounds_succ]
  go_wp2_with fail
  go_ret
  exact ⟨rfl, rfl⟩

set_option maxHeartbeats 1000000 in
theorem tooMany_c (g c : Nat) (a : Option Addr) (ch : Nat) (w : World) (hc : w.cell? ⟨g, 0, none⟩ = some (.slice a 3 ch)) :
    Calls Try.prog 17 #[.slice (some ⟨g, 0, none⟩) 1 c] w fun e w' => e = .returned (.bool false) ∧ w = w' := by
  go_enter Try.func17, Try.ntmps17
  go_wp2_with fail
  refine (knotsOf_c g c a ch w hc).mono ?_
  rintro e w1 ⟨rfl, rfl⟩
  go_wp2_with fail
  go_ret
  exact ⟨rfl, rfl⟩

theorem mk1 (w : World) : (Instr.makeSlice 24 (.int .i64 1) (.int .i64 1)).run Try.prog w = .ok (.slice (some ⟨w.heap.size, 0, none⟩) 1 1) (w.alloc (.cells #[.int .i64 0] 3)) := run_make_ints 1 (by omega) w
theorem mk3 (w : World) : (Instr.makeSlice 24 (.int .i64 3) (.int .i64 3)).run Try.prog w = .ok (.slice (some ⟨w.heap.size, 0, none⟩) 3 3) (w.alloc (.cells #[.int .i64 0, .int .i64 0, .int .i64 0] 3)) := run_make_ints 3 (by omega) w
theorem mk4 (w : World) : (Instr.makeSlice 24 (.int .i64 4) (.int .i64 4)).run Try.prog w = .ok (.slice (some ⟨w.heap.size, 0, none⟩) 4 4) (w.alloc (.cells #[.int .i64 0, .int .i64 0, .int .i64 0, .int .i64 0] 3)) := run_make_ints 4 (by omega) w

set_option maxRecDepth 20000 in
set_option maxHeartbeats 1000000 in
theorem lastKnots_c (g c : Nat) (a : Option Addr) (ch : Nat) (w : World) (hc : w.cell? ⟨g, 0, none⟩ = some (.slice a 3 ch)) :
    Calls Try.prog 20 #[.slice (some ⟨g, 0, none⟩) 1 c] w fun e w' => e = .returned (.slice (some ⟨w.heap.size, 0, none⟩) 1 1) ∧ IntsAt w' w.heap.size [2] ∧ Below w.heap.size w w' := by
  have hg : g < w.heap.size := World.block_lt_of_cell? w _ hc
  have hmk := mk1 w
  go_enter Try.func20, Try.ntmps20
  go_wp2_with fail
  refine wp_loop_rounds 2 ?_
  rw [rounds_succ]
  go_wp2_with fail
  rw [rounds_succ]
  go_wp2_with fail
  go_ret
  exact ⟨rfl, intsAt_alloc w [2], (Below.refl _ _).alloc (Nat.le_refl _) _⟩

theorem run_make_bytes (k : Nat) (hk : k ≤ 1048577) (u : World) : (Instr.makeSlice 23 (.int .i64 (k : Int)) (.int .i64 (k : Int))).run Try.prog u =
      .ok (.slice (some ⟨u.heap.size, 0, none⟩) k k) (u.alloc (.cells ((List.replicate k (0 : Int)).map (Value.int .u8)).toArray 5)) := by
  obtain ⟨i0, hi, hz0, hz1, hz2⟩ := info_parts infoU8
  have h := run_make (P := Try.prog) u 23 5 i0 (.int .u8 0) Try.underlying23 hi hz0 .i64 .i64 (k : Int) (k : Int) (by omega) (Int.le_refl _) (by rw [hz2]; omega) (by omega)
  rw [Int.toNat_natCast] at h
  rw [← made_zero8]
  simpa [hz1, Value.cells] using h
theorem mkB3 (w : World) : (Instr.makeSlice 23 (.int .i64 3) (.int .i64 3)).run Try.prog w = .ok (.slice (some ⟨w.heap.size, 0, none⟩) 3 3) (w.alloc (.cells #[.int .u8 0, .int .u8 0, .int .u8 0] 5)) := run_make_bytes 3 (by omega) w
theorem blk_past {w : World} {A : Nat} {o : Obj} (h : w.heap[A]? = some o) (o' : Obj) : (w.alloc o').heap[A]? = some o := (Below.heap_alloc w o' A (Array.getElem?_eq_some_iff.1 h).1).trans h

set_option maxRecDepth 20000 in
set_option maxHeartbeats 1000000 in
theorem flagsOf_c (h ch : Nat) (w : World) (ht : Tri w h) :
    Calls Try.prog 21 #[.slice (some ⟨h, 0, none⟩) 3 ch] w fun e w' => e = .returned (.slice (some ⟨w.heap.size, 0, none⟩) 3 3) ∧ BytL w' w.heap.size [1, 0, 1] ∧ Below w.heap.size w w' := by
  obtain ⟨c0, c1, c2, c3, c4, c5, c6, c7, c8⟩ := ht
  have hh : h < w.heap.size := World.block_lt_of_cell? w _ c0
  have hh1 : h < w.heap.size + 1 := by omega
  have hh2 : h < w.heap.size + 1 + 1 := by omega
  have hh3 : h < w.heap.size + 1 + 1 + 1 := by omega
  have hmk := mkB3 w
  go_enter Try.func21, Try.ntmps21
  go_wp2_with fail
  refine wp_loop_rounds 4 ?_
  rw [rounds_succ]
  go_wp2_with fail
  rw [rounds_succ]
  go_wp2_with fail
  rw [rounds_succ]
  go_wp2_with fail
  rw [rounds_succ]
  go_wp2_with fail
  go_ret
  refine ⟨rfl, ?_, bel_alloc (bel_alloc (bel_alloc ((Below.refl _ _).alloc (Nat.le_refl _) _) _) _) _⟩
  exact blk_past (blk_past (blk_past (heap_alloc_new w _) _) _) _

set_option maxHeartbeats 400000 in
theorem enc1_c (x y k : Int) (w : World) : Calls Try.prog 23 #[.agg #[.int .i64 x, .int .i64 y, .int .i64 k]] w fun e w' => e = .returned (.int .i64 x) ∧ w' = w.alloc (.cells #[.int .i64 x, .int .i64 y, .int .i64 k] 35) := by
  go_enter Try.func23, Try.ntmps23
  go_wp2_with fail
  go_ret
  exact ⟨rfl, rfl⟩

set_option maxHeartbeats 400000 in
theorem enc2_c (x y k : Int) (w : World) : Calls Try.prog 24 #[.agg #[.int .i64 x, .int .i64 y, .int .i64 k]] w fun e w' => e = .returned (.int .i64 y) ∧ w' = w.alloc (.cells #[.int .i64 x, .int .i64 y, .int .i64 k] 35) := by
  go_enter Try.func24, Try.ntmps24
  go_wp2_with fail
  go_ret
  exact ⟨rfl, rfl⟩

set_option maxRecDepth 20000 in
set_option maxHeartbeats 2000000 in
theorem diff1_c (h ch : Nat) (w : World) (ht : Tri w h) :
    Calls Try.prog 22 #[.slice (some ⟨h, 0, none⟩) 3 ch, .func (.func 23) #[] #[]] w fun e w' => e = .returned (.slice (some ⟨w.heap.size, 0, none⟩) 3 3) ∧ IntsAt w' w.heap.size [1, 8, -9] ∧ Below w.heap.size w w' := by
  obtain ⟨c0, c1, c2, c3, c4, c5, c6, c7, c8⟩ := ht
  have hh : h < w.heap.size := World.block_lt_of_cell? w _ c0
  have hh1 : h < w.heap.size + 1 := by omega
  have hh2 : h < w.heap.size + 1 + 1 := by omega
  have hh3 : h < w.heap.size + 1 + 1 + 1 := by omega
  have hh4 : h < w.heap.size + 1 + 1 + 1 + 1 := by omega
  have hh5 : h < w.heap.size + 1 + 1 + 1 + 1 + 1 := by omega
  have hh6 : h < w.heap.size + 1 + 1 + 1 + 1 + 1 + 1 := by omega
  have hh7 : h < w.heap.size + 1 + 1 + 1 + 1 + 1 + 1 + 1 := by omega
  have hh8 : h < w.heap.size + 1 + 1 + 1 + 1 + 1 + 1 + 1 + 1 := by omega
  have hh9 : h < w.heap.size + 1 + 1 + 1 + 1 + 1 + 1 + 1 + 1 + 1 := by omega
  have hh10 : h < w.heap.size + 1 + 1 + 1 + 1 + 1 + 1 + 1 + 1 + 1 + 1 := by omega
  have hmk := mk3 w
  go_enter Try.func22, Try.ntmps22
  go_wp2_with fail
  refine wp_loop_rounds 4 ?_
  rw [rounds_succ]
  go_wp2_with (go_at_call 23; refine (enc1_c _ _ _ _).mono ?_; rintro e w1 ⟨rfl, rfl⟩)
  rw [rounds_succ]
  go_wp2_with (go_at_call 23; refine (enc1_c _ _ _ _).mono ?_; rintro e w1 ⟨rfl, rfl⟩)
  rw [rounds_succ]
  go_wp2_with (go_at_call 23; refine (enc1_c _ _ _ _).mono ?_; rintro e w1 ⟨rfl, rfl⟩)
  rw [rounds_succ]
  go_wp2_with fail
  go_ret
  refine ⟨rfl, ?_, ?_⟩
  · iterate 9 (refine blk_past ?_ _)
    exact heap_alloc_new w _
  · iterate 9 (refine bel_alloc ?_ _)
    exact (Below.refl _ _).alloc (Nat.le_refl _) _

set_option maxRecDepth 20000 in
set_option maxHeartbeats 2000000 in
theorem diff2_c (h ch : Nat) (w : World) (ht : Tri w h) :
    Calls Try.prog 22 #[.slice (some ⟨h, 0, none⟩) 3 ch, .func (.func 24) #[] #[]] w fun e w' => e = .returned (.slice (some ⟨w.heap.size, 0, none⟩) 3 3) ∧ IntsAt w' w.heap.size [2, -6, 11] ∧ Below w.heap.size w w' := by
  obtain ⟨c0, c1, c2, c3, c4, c5, c6, c7, c8⟩ := ht
  have hh : h < w.heap.size := World.block_lt_of_cell? w _ c0
  have hh1 : h < w.heap.size + 1 := by omega
  have hh2 : h < w.heap.size + 1 + 1 := by omega
  have hh3 : h < w.heap.size + 1 + 1 + 1 := by omega
  have hh4 : h < w.heap.size + 1 + 1 + 1 + 1 := by omega
  have hh5 : h < w.heap.size + 1 + 1 + 1 + 1 + 1 := by omega
  have hh6 : h < w.heap.size + 1 + 1 + 1 + 1 + 1 + 1 := by omega
  have hh7 : h < w.heap.size + 1 + 1 + 1 + 1 + 1 + 1 + 1 := by omega
  have hh8 : h < w.heap.size + 1 + 1 + 1 + 1 + 1 + 1 + 1 + 1 := by omega
  have hh9 : h < w.heap.size + 1 + 1 + 1 + 1 + 1 + 1 + 1 + 1 + 1 := by omega
  have hh10 : h < w.heap.size + 1 + 1 + 1 + 1 + 1 + 1 + 1 + 1 + 1 + 1 := by omega
  have hmk := mk3 w
  go_enter Try.func22, Try.ntmps22
  go_wp2_with fail
  refine wp_loop_rounds 4 ?_
  rw [rounds_succ]
  go_wp2_with (go_at_call 24; refine (enc2_c _ _ _ _).mono ?_; rintro e w1 ⟨rfl, rfl⟩)
  rw [rounds_succ]
  go_wp2_with (go_at_call 24; refine (enc2_c _ _ _ _).mono ?_; rintro e w1 ⟨rfl, rfl⟩)
  rw [rounds_succ]
  go_wp2_with (go_at_call 24; refine (enc2_c _ _ _ _).mono ?_; rintro e w1 ⟨rfl, rfl⟩)
  rw [rounds_succ]
  go_wp2_with fail
  go_ret
  refine ⟨rfl, ?_, ?_⟩
  · iterate 9 (refine blk_past ?_ _)
    exact heap_alloc_new w _
  · iterate 9 (refine bel_alloc ?_ _)
    exact (Below.refl _ _).alloc (Nat.le_refl _) _

end Go.Proofs.Ytllbegmgknlaiaa
