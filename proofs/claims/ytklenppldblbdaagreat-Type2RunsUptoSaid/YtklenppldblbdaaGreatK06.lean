import Derived.Test.YtklenppldblbdaaGreatK05
import Derived.BigQuiet
import Derived.Deep.QuietTactic
import Derived.Test.YtklenppldblbdaaGreatRows
import Derived.Deep.RegionHeld
import Derived.Tactics
import Derived.Deep.RegionHeld3
import Derived.Deep.RegionWith
import Derived.Deep.DeepCutAuto
import Derived.Deep.CutBlock
set_option linter.unusedSimpArgs false
set_option linter.unusedVariables false
namespace Go.Proofs.YtklenppldblbdaaGreat
open Go.RowKit Go.PlainAid
def IntKeep (w w' : World) : Prop := ∀ (b : Nat) (cs : Array Value) (fr : Nat × Nat), w.heap[b]? = some (.cells cs 3 fr) → w'.heap[b]? = some (.cells cs 3 fr)
theorem IntKeep.refl (w : World) : IntKeep w w := fun _ _ _ h => h
theorem IntKeep.trans {a b c : World} (h : IntKeep a b) (k : IntKeep b c) : IntKeep a c := fun x cs fr hx => k x cs fr (h x cs fr hx)
theorem keep_chg {w w' : World} {r : Option Nat} {T : TypeId} (hg : w.grownBy w' r) (ht : TypAt w r T) (h : T ≠ 3) : IntKeep w w' := fun _ _ _ hx => blk_chg hx hg ht (Ne.symm h)
theorem keep_bel {w w' : World} (hb : Below w.heap.size w w') : IntKeep w w' := fun _ _ _ hx => blk_below hx hb
theorem keep_set {w : World} {D : Nat} {cs : Array Value} {T : TypeId} {fr : Nat × Nat} (h : w.heap[D]? = some (.cells cs T fr)) (hT : T ≠ 3) (j : Nat) (v : Value) : IntKeep w (w.setCell ⟨D, j, none⟩ v) := keep_chg (grown_set w D j v) (typ_blk h) hT
def LPost (B M F : Nat) (L : Lay) (s' : MS) (v : Value) (w : World) (e : Ending) (w' : World) : Prop := e = .returned v ∧ Mach w' B M F L s' ∧ Below B w w' ∧ IntKeep w w'
def PenPost (B M F : Nat) (L : Lay) (s' : MS) (v : Value) (w : World) (e : Ending) (w' : World) : Prop := e = .returned v ∧ (∃ oa oc vs, Mach w' B M F { L with oa := oa, oc := oc, vs := vs } s') ∧ Below B w w' ∧ IntKeep w w'
theorem LPost.pen {B M F : Nat} {L : Lay} {s' : MS} {v : Value} {w : World} {e : Ending} {w' : World} (h : LPost B M F L s' v w e w') : PenPost B M F L s' v w e w' := ⟨h.1, ⟨_, _, _, h.2.1⟩, h.2.2⟩
theorem Mach.lt {w : World} {B M F : Nat} {L : Lay} {s : MS} (h : Mach w B M F L s) : M < w.heap.size := blk_lt h.mem
theorem Mach.le {w : World} {B M F : Nat} {L : Lay} {s : MS} (h : Mach w B M F L s) : B ≤ w.heap.size := Nat.le_trans h.mB (Nat.le_of_lt h.lt)
theorem bel_mset {B : Nat} (w : World) {M : Nat} (h : B ≤ M) (j : Nat) (v : Value) : Below B w (w.setCell ⟨M, j, none⟩ v) := (Below.refl B w).setCell h v
theorem Mach.bset {w : World} {B M F : Nat} {L : Lay} {s : MS} (h : Mach w B M F L s) (j : Nat) (v : Value) : Below B w (w.setCell ⟨M, j, none⟩ v) ∧ IntKeep w (w.setCell ⟨M, j, none⟩ v) := ⟨bel_mset w h.mB j v, keep_set h.mem (by decide) j v⟩
set_option maxHeartbeats 400000 in
theorem refuse_c (B M F : Nat) (L : Lay) (s : MS) (e0 : Int) (w : World) (h : Mach w B M F L s) :
 Calls Tryz.prog 46 #[.pointer (some ⟨M, 0, none⟩), .int .i64 e0] w (LPost B M F L (s.refuse e0) (.tuple #[]) w) := by
 have H := Lib.hid h
 have h4 := h.c4
 have f4 := h.f 4
 clear h
 by_cases hf : s.fault = 0
 ·have HE : Hid (s.refuse e0 = { s with fault := e0 }) := by unfold Hid MS.refuse; rw [if_pos hf]
  rw [HE.out]
  rw [hf] at h4
  clear hf HE
  go_enter Tryz.func46, Tryz.ntmps46
  go_wp2_with fail
  go_end0
  exact ⟨rfl, H.out.setFault e0, H.out.bset 4 _⟩
 ·have HE : Hid (s.refuse e0 = s) := by unfold Hid MS.refuse; rw [if_neg hf]
  rw [HE.out]
  clear HE
  go_enter Tryz.func46, Tryz.ntmps46
  go_wp2_with fail
  go_end0
  exact ⟨rfl, H.out, Below.refl _ _, IntKeep.refl _⟩
theorem sumOr_f (a b : Int) : (sumOr a b).2 = 0 ∨ (sumOr a b).2 = 14 := by unfold sumOr; split <;> simp
set_option maxHeartbeats 400000 in
theorem add_c (B M F : Nat) (L : Lay) (s : MS) (a b : Int) (w : World) (h : Mach w B M F L s) :
 Calls Tryz.prog 107 #[.pointer (some ⟨M, 0, none⟩), .int .i64 a, .int .i64 b] w (LPost B M F L { s with fault := addF s.fault a b } (.int .i64 (sumOr a b).1) w) := by
 have H := Lib.hid h
 obtain ⟨x, HX⟩ : ∃ x, Hid ((sumOr a b).1 = x) := ⟨_, rfl⟩
 obtain ⟨f, HF⟩ : ∃ f, Hid ((sumOr a b).2 = f) := ⟨_, rfl⟩
 have HS : Hid (sumOr a b = (x, f)) := by unfold Hid; rw [← HX.out, ← HF.out]
 have HZ := Lib.hid (sumOr_f a b)
 rw [HF.out] at HZ
 rw [HX.out]
 clear h
 rcases HZ.out with hz | hz
 ·have HE : Hid (({ s with fault := addF s.fault a b } : MS) = s) := by unfold Hid addF; rw [HF.out, hz]; simp
  rw [HE.out]
  subst hz
  go_enter Tryz.func107, Tryz.ntmps107
  go_wp2_with fail
  refine (add_any a b x 0 _ HS).mono ?_
  rintro e w1 ⟨rfl, hb1⟩
  go_wp2_with fail
  go_ret
  exact ⟨rfl, H.out.below hb1, hb1.mono H.out.le, keep_bel hb1⟩
 ·have HE : Hid (({ s with fault := addF s.fault a b } : MS) = s.refuse 84) := by
   unfold Hid addF MS.refuse; rw [HF.out, hz]
   by_cases h0 : s.fault = 0 <;> simp [h0]
  rw [HE.out]
  subst hz
  go_enter Tryz.func107, Tryz.ntmps107
  go_wp2_with fail
  refine (add_any a b x 14 _ HS).mono ?_
  rintro e w1 ⟨rfl, hb1⟩
  have H1 := Lib.hid (H.out.below hb1)
  have HB1 := Lib.hid (hb1.mono H.out.le)
  have HK1 := Lib.hid (keep_bel hb1)
  clear hb1
  go_wp2_with fail
  refine (refuse_c B M F L s 84 _ H1.out).mono ?_
  rintro e w2 ⟨rfl, h2, hb2, hk2⟩
  go_wp2_with fail
  go_ret
  exact ⟨rfl, h2, HB1.out.trans hb2, HK1.out.trans hk2⟩
set_option maxHeartbeats 400000 in
theorem nearest_c (n : Int) (w : World) (h0 : -2147483648 ≤ n) (h1 : n ≤ 2147483648) :
 Calls Tryz.prog 97 #[.int .i64 n] w fun e w' => e = .returned (.int .i64 (nearM n)) ∧ Below w.heap.size w w' := by
 have HM := Lib.hid (muldiv_low n 1 65536 w (by omega) (by omega) (by omega) (by omega) (by omega) (by omega) (by rw [show Int.natAbs 1 = 1 from rfl]; omega))
 clear h0 h1
 go_enter Tryz.func97, Tryz.ntmps97
 go_wp2_with fail
 refine HM.out.mono ?_
 rintro e w1 ⟨rfl, hb1⟩
 have HB := Lib.hid hb1
 clear hb1
 generalize hq : (mulDiv n 1 65536).1 = q at *
 generalize (mulDiv n 1 65536).2 = q2 at *
 have HQ := Lib.hid hq
 clear hq
 go_wp2_with fail
 go_ret
 exact ⟨by rw [nearM, HQ.out]; rfl, HB.out⟩
end Go.Proofs.YtklenppldblbdaaGreat
namespace Go.Proofs.YtklenppldblbdaaGreat
open Go.RowKit Go.PlainAid
def IdxIs (w : World) (a : Option Addr) (n c : Nat) (d : Option Addr) (Ps : List ByteArray) : Prop :=
 (Ps = [] ∧ n = 0) ∨ ∃ ob vb s cs fr, a = some ⟨ob, 0, none⟩ ∧ d = some ⟨vb, 0, none⟩ ∧ n = Ps.length + 1 ∧ w.heap[ob]? = some (.cells cs 3 fr) ∧ w.heap[vb]? = some (.cells #[.string s] 68 (0, 0)) ∧ s.size ≤ 1000000 ∧
  ∀ (i : Nat) (P : ByteArray), Ps[i]? = some P → ∃ o : Nat, cs[i]? = some (.int .i64 (o : Int)) ∧ cs[i + 1]? = some (.int .i64 ((o + P.size : Nat) : Int)) ∧ o + P.size ≤ s.size ∧ s.extract o (o + P.size) = P
theorem IdxIs.below {w w' : World} {a : Option Addr} {n c : Nat} {d : Option Addr} {Ps : List ByteArray} (h : IdxIs w a n c d Ps) (hb : Below w.heap.size w w') : IdxIs w' a n c d Ps := by
 rcases h with h | ⟨ob, vb, s, cs, fr, h1, h2, h3, h4, h5, h6⟩
 ·exact .inl h
 ·exact .inr ⟨ob, vb, s, cs, fr, h1, h2, h3, blk_below h4 hb, blk_below h5 hb, h6⟩
theorem IdxIs.count {w : World} {a : Option Addr} {n c : Nat} {d : Option Addr} {Ps : List ByteArray} (h : IdxIs w a n c d Ps) : n - 1 = Ps.length := by
 rcases h with h | ⟨ob, vb, s, cs, fr, h1, h2, h3, _⟩
 ·rw [h.1, h.2]; rfl
 ·omega
set_option maxHeartbeats 400000 in
theorem count_c (a : Option Addr) (n c : Nat) (d : Value) (w : World) (hn : n ≤ 100000) :
 Calls Tryz.prog 19 #[.agg #[.slice a n c, d]] w fun e w' => e = .returned (.int .i64 ((n - 1 : Nat) : Int)) ∧ Below w.heap.size w w' := by
 by_cases h : 2 ≤ n
 ·have HE : Hid (((n - 1 : Nat) : Int) = (n : Int) - 1) := by unfold Hid; omega
  have h1 : (0 : Int) < (n : Int) - 1 := by omega
  have h3 : ¬ (n : Int) ≤ 1 := by omega
  go_enter Tryz.func19, Tryz.ntmps19
  go_wp2_with fail
  all_goals first
   | (go_ret; rw [HE.out]; exact ⟨rfl, (Below.refl _ _).alloc (Nat.le_refl _) _⟩)
   | (exfalso; omega)
 by_cases h1 : n = 1
 ·subst h1
  go_enter Tryz.func19, Tryz.ntmps19
  go_wp2_with fail
  go_ret
  exact ⟨rfl, (Below.refl _ _).alloc (Nat.le_refl _) _⟩
 ·obtain rfl : n = 0 := by omega
  go_enter Tryz.func19, Tryz.ntmps19
  go_wp2_with fail
  go_ret
  exact ⟨rfl, (Below.refl _ _).alloc (Nat.le_refl _) _⟩
theorem biasN_bound (n : Nat) : 107 ≤ biasN n ∧ biasN n ≤ 32768 := by unfold biasN; split; { omega }; { split <;> omega }
set_option maxHeartbeats 400000 in
theorem bias_c (n : Nat) (w : World) (hn : n ≤ 100000) :
 Calls Tryz.prog 83 #[.int .i64 (n : Int)] w fun e w' => e = .returned (.int .i64 (biasN n)) ∧ w = w' := by
 by_cases h1 : n < 1240
 ·have HE : Hid (biasN n = 107) := by unfold Hid biasN; rw [if_pos h1]
  have z : (n : Int) < 1240 := by omega
  rw [HE.out]
  go_enter Tryz.func83, Tryz.ntmps83
  go_wp2_with fail
  go_ret
  exact ⟨rfl, rfl⟩
 ·by_cases h2 : n < 33900
  ·have HE : Hid (biasN n = 1131) := by unfold Hid biasN; rw [if_neg h1, if_pos h2]
   have z : ¬ (n : Int) < 1240 := by omega
   have z2 : (n : Int) < 33900 := by omega
   rw [HE.out]
   go_enter Tryz.func83, Tryz.ntmps83
   go_wp2_with fail
   go_ret
   exact ⟨rfl, rfl⟩
  ·have HE : Hid (biasN n = 32768) := by unfold Hid biasN; rw [if_neg h1, if_neg h2]
   have z : ¬ (n : Int) < 1240 := by omega
   have z2 : ¬ (n : Int) < 33900 := by omega
   rw [HE.out]
   go_enter Tryz.func83, Tryz.ntmps83
   go_wp2_with fail
   go_ret
   exact ⟨rfl, rfl⟩
set_option maxRecDepth 20000 in
set_option maxHeartbeats 1000000 in
theorem piece_c (a : Option Addr) (n c : Nat) (d : Option Addr) (Ps : List ByteArray) (i : Nat) (P : ByteArray) (w : World) (h : IdxIs w a n c d Ps) (hi : Ps[i]? = some P) (hn : n ≤ 100000) (hc : n ≤ c) :
 Calls Tryz.prog 18 #[.agg #[.slice a n c, .pointer d], .int .i64 (i : Int)] w fun e w' => (∃ v, e = .returned (.pointer (some ⟨v, 0, none⟩)) ∧ w.heap.size ≤ v ∧ w'.heap[v]? = some (.cells #[.string P] 68 (0, 0))) ∧ Below w.heap.size w w' := by
 have hil := (List.getElem?_eq_some_iff.1 hi).1
 rcases h with h | ⟨ob, vb, s, cs, fr, rfl, rfl, rfl, h4, h5, h6, h7⟩
 ·rw [h.1] at hil; simp at hil
 obtain ⟨o, o1, o2, o3, o4⟩ := h7 i P hi
 have c0 : w.cell? ⟨ob, i, none⟩ = some (.int .i64 (o : Int)) := by simp only [World.cell?, h4]; exact o1
 have c1 : w.cell? ⟨ob, i + 1, none⟩ = some (.int .i64 ((o + P.size : Nat) : Int)) := by simp only [World.cell?, h4]; exact o2
 have hlt : ob < w.heap.size := blk_lt h4
 have HV := Lib.hid h5
 have HP := Lib.hid (And.intro o3 (And.intro h6 o4))
 have b0 : (0 : Int) ≤ (i : Int) := by omega
 have b1 : (i : Int) < (Ps.length : Int) + 1 := by omega
 have b2 : (i : Int) + 1 < (Ps.length : Int) + 1 := by omega
 have b3 : (0 : Int) ≤ (i : Int) + 1 := by omega
 have bi : (i : Int) ≤ 100000 := by omega
 have e2 : ((i : Int) + 1).toNat = i + 1 := by omega
 have es : IntKind.i64.wrap ((i : Int) + 1) = (i : Int) + 1 := IntWalk.i64_in _ (by omega)
 obtain ⟨q, HQ⟩ : ∃ q, Hid (o + P.size = q) := ⟨_, rfl⟩
 rw [HQ.out] at c1
 have HW : Hid (wrap64 ((q : Int) - (o : Int)) = (P.size : Int)) := by have := HP.out.1; have := HP.out.2.1; have := HQ.out; unfold Hid wrap64; omega
 clear h4 h5 h6 h7 hi o1 o2 o3 o4 hil
 go_enter Tryz.func18, Tryz.ntmps18
 go_wp2_with fail
 go_quiet (fail)
 have HB : Hid (Below w.heap.size w ((w.alloc (.cells #[.slice (some ⟨ob, 0, none⟩) (Ps.length + 1) c, .pointer (some ⟨vb, 0, none⟩)] 57)).drewN nq)) := bel_drewN ((Below.refl _ _).alloc (Nat.le_refl _) _) nq
 have HV2 := Lib.hid (blk_cell (blk_below HV.out HB.out) 0 _ rfl)
 clear c0 c1 b0 b1 b2 b3 bi e2 es
 go_wp2_with fail
 rw [HW.out]
 refine (cut_yes vb o P.size s _ HV2.out (by have := HP.out; omega) HP.out.1).mono ?_
 rintro e w2 ⟨rfl, rfl⟩
 rw [HP.out.2.2]
 generalize HGW : (w.alloc (.cells #[.slice (some ⟨ob, 0, none⟩) (Ps.length + 1) c, .pointer (some ⟨vb, 0, none⟩)] 57)).drewN nq = W at *
 have HWW := Lib.hid HGW
 clear HGW
 go_wp2_with fail
 go_ret
 exact ⟨⟨_, rfl, HB.out.size, heap_alloc_new W _⟩, HB.out.alloc HB.out.size _⟩
end Go.Proofs.YtklenppldblbdaaGreat
namespace Go.Proofs.YtklenppldblbdaaGreat
open Go
section
variable {P : Program} {ops : Array Oper} {Q : Exit → Act → World → Prop} {md : Region.Mode} {S : World → Prop} {s : Nat}
def wpUpto (P : Program) (md : Region.Mode) (ops : Array Oper) (Q : Exit → Act → World → Prop) (S : World → Prop) (s : Nat) : Nat → Array Bool → Act → World → Prop
 | 0, l, a, w => Region.ready md ops l = [] ∧ Q .normal a w
 | f + 1, l, a, w => (Region.ready md ops l = [] → Q .normal a w) ∧ ∀ i ∈ Region.ready md ops l, wpOp P ops Q i (fun a' w' => (i ≠ s → S w') ∧ wpUpto P md ops Q S s f (l.setIfInBounds i true) a' w') a w
theorem wpUpto_any : ∀ (f : Nat) (l : Array Bool) (a : Act) (w : World), wpUpto P md ops Q S s f l a w → wpAny P md ops Q f l a w
 | 0, _, _, _, h => h
 | f + 1, _, _, _, h => ⟨h.1, fun i hi => wpOp_mono (fun a' w' h' => wpUpto_any f _ a' w' h'.2) (h.2 i hi)⟩
def waitsB (md : Region.Mode) (ops : Array Oper) (s i : Nat) : Bool := match ops[s]? with
 | some o => o.after.any fun e => Region.binds md e && e.on == i
 | none => false
theorem not_ready {l : Array Bool} {i : Nat} (hw : waitsB md ops s i = true) (hi : l.getD i true = false) : s ∉ Region.ready md ops l := by
 intro h
 obtain ⟨_, o, ho, hall⟩ := mem_ready.1 h
 unfold waitsB at hw
 rw [ho] at hw
 simp only [Array.any_eq_true, Bool.and_eq_true, beq_iff_eq] at hw
 obtain ⟨j, hj, hb, he⟩ := hw
 have h1 := hall _ (Array.getElem_mem hj) hb
 rw [he] at h1
 rcases Nat.lt_or_ge i l.size with h' | h'
 ·simp [h'] at hi h1; rw [hi] at h1; cases h1
 ·simp [Array.getElem?_eq_none h'] at h1
theorem wpUpto_take {i : Nat} {oi : Oper} {v : Value} {f : Nat} {l : Array Bool} {a : Act} {w : World} (hi : ops[i]? = some oi) (hsel : Region.noSelect ops = true) (hf : Region.free md ops l i = true) (hr : (Region.ready md ops l).contains i = true)
 (hw : waitsB md ops s i = true) (hQ : ∀ c a w, Q (.panic c) (a.put oi.dst v) w → Q (.panic c) a w) (hy : YieldsIf P ops S oi v a) (hS : S w)
 (h : wpUpto P md ops Q S s f (l.setIfInBounds i true) (a.put oi.dst v) w) : wpUpto P md ops Q S s (f + 1) l a w := by
 have hs := Region.noSelect_spec hsel
 have hfree := Region.free_spec hi hf
 have hri : i ∈ Region.ready md ops l := by simpa using hr
 clear hf hr
 induction f generalizing l a w with
 | zero =>
   refine ⟨fun e => by rw [e] at hri; (cases hri), fun j hj => ?_⟩
   by_cases e : j = i
   ·subst e; exact hy.wpOp hi hS ⟨fun _ => hS, h⟩
   ·have := ready_mono hj e
    rw [h.1] at this; cases this
 | succ f ih =>
   refine ⟨fun e => by rw [e] at hri; (cases hri), fun j hj => ?_⟩
   by_cases e : j = i
   ·subst e; exact hy.wpOp hi hS ⟨fun _ => hS, h⟩
   ·obtain ⟨hju, oj, hoj, hall⟩ := mem_ready.1 hj
    have hiu := (mem_ready.1 hri).1
    have hjs : j ≠ s := fun e2 => by
     subst e2
     refine not_ready hw ?_ hj
     simpa using hiu
    have hno : ∀ x ∈ oj.after, Region.binds md x = true → x.on ≠ i := fun x hx hb hxi => by
     have h1 := hall x hx hb
     rw [hxi] at h1
     rcases Nat.lt_or_ge i l.size with h' | h'
     ·simp [h'] at hiu h1; rw [hiu] at h1; cases h1
     ·simp [Array.getElem?_eq_none h'] at h1
    have h2 := wpOp_putIf hoj (hfree j oj hoj e hju hno) (fun cs b => hs i oi cs b hi) (fun cs b => hs j oj cs b hoj) hQ hy (h.2 j (ready_mono hj e))
    refine wpOp_mono (fun a' w' h3 => ⟨h3.2.1, ih h3.1 (h3.2.1 hjs) ?_ (fun k ok hk hki hun hn => ?_) (ready_mono hri (Ne.symm e))⟩) h2
    ·rw [Array.setIfInBounds_comm _ _ e]; exact h3.2.2
    ·refine hfree k ok hk hki ?_ hn
     by_cases hjk : j = k
     ·subst hjk; exact hju
     ·rw [getD_set_ne true hjk] at hun; exact hun
theorem sA {α : Type} (l : List α) (i : Nat) (a : α) : l.toArray.setIfInBounds i a = (l.set i a).toArray := List.setIfInBounds_toArray ..
theorem sB {α : Type} (a b : α) (l : List α) : (a :: l).set 0 b = b :: l := rfl
theorem sC {α : Type} (a b : α) (l : List α) (i : Nat) : (a :: l).set (i + 1) b = a :: l.set i b := rfl
theorem takeK (i : Nat) {oi : Oper} (v : Value) {f : Nat} {l : Array Bool} {a : Act} {w : World} (hi : ops[i]? = some oi) (hb : (Region.noSelect ops && Region.free md ops l i && (Region.ready md ops l).contains i && waitsB md ops s i) = true)
 (hS : S w) (h : wpUpto P md ops Q S s f (l.setIfInBounds i true) (a.put oi.dst v) w) (hy : YieldsIf P ops S oi v a := by exact Or.inl ⟨by rfl, fun V hV => by go_simp⟩)
 (hQ : ∀ c a w, Q (.panic c) (a.put oi.dst v) w → Q (.panic c) a w := by exact fun _ _ _ h => h) : wpUpto P md ops Q S s (f + 1) l a w := by
 simp only [Bool.and_eq_true] at hb
 exact wpUpto_take hi hb.1.1.1 hb.1.1.2 hb.1.2 hb.2 hQ hy hS h
theorem wpUpto_one {f : Nat} {l : Array Bool} {a : Act} {w : World} {i : Nat} {o : Oper} (hr : Region.ready md ops l = [i]) (ho : ops[i]? = some o)
 (h : ∀ K' : Act → World → Prop, Shut (∀ a w, (i ≠ s → S w) → wpUpto P md ops Q S s f (l.setIfInBounds i true) a w → K' a w) → if Region.wanted o (yielded ops a.tmps) = true then Oper.wp P o a w K' Q else K' (a.put o.dst undef) w) :
 wpUpto P md ops Q S s (f + 1) l a w :=
 ⟨fun e => by rw [hr] at e; (cases e), fun j hj => by
  rw [hr] at hj
  obtain rfl : j = i := by simpa using hj
  exact wpOp_step ho (fun K' hK => h K' (fun a w hS hW => hK a w ⟨hS, hW⟩))⟩
theorem wpUpto_done {l : Array Bool} {a : Act} {w : World} (hr : Region.ready md ops l = []) (h : Q .normal a w) : ∀ f, wpUpto P md ops Q S s f l a w
 | 0 => ⟨hr, h⟩
 | _ + 1 => ⟨fun _ => h, by rw [hr]; simp⟩
theorem wp_region_upto {id : Nat} {a : Act} {w : World} (S : World → Prop) (s : Nat) (hm : P.follows .mixedOrders = true) (hS : S w.drew)
 (h : S w.drew → wpUpto P .any ops Q S s ops.size (Array.replicate ops.size false) a w.drew) : (Code.region id ops true).wp P Q a w := wp_region_any hm (wpUpto_any _ _ _ _ (h hS))
end
end Go.Proofs.YtklenppldblbdaaGreat
namespace Go.Proofs.YtklenppldblbdaaGreat
open Go.RowKit Go.PlainAid
def PenFit (s : MS) : Prop := s.knots ≤ 4096 ∧ s.out.length ≤ 256 ∧ (s.out.map List.length).sum = s.knots
theorem sum_mem : ∀ (l : List Nat) (x : Nat), x ∈ l → x ≤ l.sum
 | [], x, h => by simp at h
 | a :: l, x, h => by
   rw [List.sum_cons]
   rcases List.mem_cons.1 h with h | h
   ·omega
   ·have := sum_mem l x h; omega
theorem PenFit.len {s : MS} (h : PenFit s) {c : List Kn} (hc : c ∈ s.out) : c.length ≤ 4096 := by
 have := sum_mem (s.out.map List.length) c.length (List.mem_map.2 ⟨c, hc, rfl⟩)
 have := h.1; have := h.2.2; omega
theorem sumOr_bound (a b : Int) : -2147483647 ≤ (sumOr a b).1 ∧ (sumOr a b).1 ≤ 2147483647 := by
 unfold sumOr
 split
 ·rename_i h
  exact fixB_true (Bool.and_eq_true_iff.1 h).2
 ·simp
set_option maxRecDepth 20000 in
set_option maxHeartbeats 2000000 in
theorem knot_yes (B M F : Nat) (L : Lay) (s : MS) (dx dy k : Int) (w : World) (h : Mach w B M F L s) (hf : s.fault = 0) (ho : 0 < s.out.length) (hk : s.knots < 4096) (hp : PenFit s) :
 Calls Tryz.prog 98 #[.pointer (some ⟨M, 0, none⟩), .int .i64 dx, .int .i64 dy, .int .i64 k] w (PenPost B M F L (s.knot dx dy k) (.tuple #[]) w) := by
 have HE : Hid (s.knot dx dy k = { s with x := (sumOr s.x dx).1, y := (sumOr s.y dy).1, fault := addF (addF 0 s.x dx) s.y dy, out := snocLast s.out ⟨nearM (sumOr s.x dx).1, nearM (sumOr s.y dy).1, k⟩, knots := s.knots + 1 }) := by
  unfold Hid MS.knot
  rw [if_neg (by simp [hf]), if_neg (by omega), if_neg (by omega)]
 rw [HE.out]
 clear HE
 have H := Lib.hid h
 have HD := Lib.hid (h.below (Below.refl _ _).drew)
 have c0 := h.c0
 have c1 := h.c1
 have c2 := h.c2
 have c3 := h.c3
 have c4 := h.c4
 rw [hf] at c4
 have HF := Lib.hid hf
 have HO := Lib.hid ho
 have HK := Lib.hid hk
 have HP := Lib.hid hp
 have hknn : ¬ s.knots = 4096 := by omega
 obtain ⟨n, HN⟩ : ∃ n, Hid (s.out.length = n) := ⟨_, rfl⟩
 rw [HN.out] at c0 ho
 have z1 : ((n : Int) == 0) = false := by simp; omega
 have z2 : ((s.knots : Int) == 4096) = false := by simp; omega
 clear h hf hk hp HK
 go_enter Tryz.func98, Tryz.ntmps98
 go_upto_region 0 with (fail)
 go_cut [] (fun wx => Hid (Mach wx B M F L { s with x := (sumOr s.x dx).1, y := (sumOr s.y dy).1, fault := addF (addF 0 s.x dx) s.y dy }) ∧ Hid (Below B w wx) ∧ Hid (IntKeep w wx))
 case first =>
  go_region_with (first
   | (go_at_call 107; ((with_reducible refine (add_c B M F L s s.x dx _ HD.out).mono ?_); rintro e w2 ⟨rfl, h2, hb2, hk2⟩; have q2 := h2.c2; have q3 := h2.c3; have HX := Lib.hid h2; have HBX := Lib.hid hb2; have HKX := Lib.hid hk2; clear h2 hb2 hk2))
   | (go_at_call 107; ((with_reducible refine (add_c B M F L _ s.y dy _ HX.out).mono ?_); rintro e w3 ⟨rfl, h2, hb2, hk2⟩; have r2 := h2.c2; have r3 := h2.c3; have r4 := h2.f 2; have r5 := h2.f 3; have HXY := Lib.hid h2; have HBY := Lib.hid hb2; have HKY := Lib.hid hk2; clear h2 hb2 hk2)))
  all_goals (
   have HZ := Lib.hid ((HXY.out.setX (sumOr s.x dx).1).setY (sumOr s.y dy).1)
   rw [HF.out] at HZ
   have HBZ : Hid (Below B w ((w3.setCell ⟨M, 2, none⟩ (.int .i64 (sumOr s.x dx).1)).setCell ⟨M, 3, none⟩ (.int .i64 (sumOr s.y dy).1))) := bel_set (bel_set (((Below.refl B w).drew.trans HBX.out).trans HBY.out) H.out.mB _) H.out.mB _
   have HKZ : Hid (IntKeep w ((w3.setCell ⟨M, 2, none⟩ (.int .i64 (sumOr s.x dx).1)).setCell ⟨M, 3, none⟩ (.int .i64 (sumOr s.y dy).1))) := (((keep_bel (Below.refl w.heap.size w).drew).trans HKX.out).trans HKY.out).trans (((HXY.out.bset 2 _).2).trans (((HXY.out.setX (sumOr s.x dx).1).bset 3 _).2))
   go_wp2_with fail
   go_meet
   exact ⟨HZ, HBZ, HKZ⟩)
 case rest =>
  obtain ⟨HZ, HBZ, HKZ⟩ := hcut
  clear c0 c1 c2 c3 c4 z1 z2 hknn HD
  obtain ⟨m, rfl⟩ : ∃ m, n = m + 1 := ⟨n - 1, by omega⟩
  obtain ⟨G, hG, hGB, hGl, hGc⟩ := own_some HZ.out.out.own HO.out
  obtain ⟨c, hc⟩ := get_of (show s.out.length - 1 < s.out.length by have := HO.out; omega)
  obtain ⟨ai, ci, hv, hown⟩ := HZ.out.out.conts _ c hc
  have hor := HZ.out.out.own
  rw [hG] at hor
  have dg := own_lies hor _ _ hv
  rw [HN.out, Nat.add_sub_cancel, Nat.zero_add] at dg
  have d0' := HZ.out.c0
  rw [hG] at d0'
  have d0 : wc.cell? ⟨M, 0, none⟩ = some (.slice (some ⟨G, 0, none⟩) (m + 1) L.oc) := by rw [← HN.out]; exact d0'
  clear d0'
  have d2 := HZ.out.c2
  have d3 := HZ.out.c3
  have HXB : Hid (-2147483648 ≤ (sumOr s.x dx).1 ∧ (sumOr s.x dx).1 ≤ 2147483648) := by have := sumOr_bound s.x dx; unfold Hid; omega
  have HYB : Hid (-2147483648 ≤ (sumOr s.y dy).1 ∧ (sumOr s.y dy).1 ≤ 2147483648) := by have := sumOr_bound s.y dy; unfold Hid; omega
  have HCL : Hid (c.length ≤ 4096) := HP.out.len (List.mem_of_getElem? hc)
  have HZd := Lib.hid (HZ.out.below (Below.refl _ _).drew)
  have HBd := Lib.hid HBZ.out.drew
  have HKd := Lib.hid (HKZ.out.trans (keep_bel (Below.refl wc.heap.size wc).drew))
  have HG := Lib.hid hG
  have HC := Lib.hid hc
  have HV := Lib.hid hv
  obtain ⟨q, HQ⟩ : ∃ q, Hid (c.length = q) := ⟨_, rfl⟩
  rw [HQ.out] at dg
  have hm : m ≤ 255 := by have h1 := HP.out.2.1; have h2 := HN.out; omega
  have hGl2 : (0 : Int) ≤ (m : Int) := by omega
  have hGl3 : (m : Int) < ((m + 1 : Nat) : Int) := by omega
  clear hGB hGl hor hown hc hv hG ho HBZ HKZ HZ
  simp only at d2 d3
  obtain ⟨oc, HOC⟩ : ∃ oc, Hid (L.oc = oc) := ⟨_, rfl⟩
  rw [HOC.out] at d0 hGc
  obtain ⟨x, HX⟩ : ∃ x, Hid ((sumOr s.x dx).1 = x) := ⟨_, rfl⟩
  obtain ⟨y, HY⟩ : ∃ y, Hid ((sumOr s.y dy).1 = y) := ⟨_, rfl⟩
  rw [HX.out] at d2 HXB HZd
  rw [HY.out] at d3 HYB HZd
  go_wp2_with fail
  refine wp_region_upto (fun V => V.cell? ⟨M, 0, none⟩ = some (.slice (some ⟨G, 0, none⟩) (m + 1) oc) ∧ V.cell? ⟨M, 2, none⟩ = some (.int .i64 x) ∧ V.cell? ⟨M, 3, none⟩ = some (.int .i64 y) ∧ V.cell? ⟨G, m, none⟩ = some (.slice ai q ci)) 27 (by kernel_rfl) ⟨d0, d2, d3, dg⟩ (fun hH => ?_)
  refine takeK 0 (.pointer (some ⟨M, 0, none⟩)) rfl (by kernel_rfl) hH ?_
  try simp only [Act.put, sA, sB, sC]
  refine takeK 1 (.pointer (some ⟨M, 0, none⟩)) rfl (by kernel_rfl) hH ?_
  try simp only [Act.put, sA, sB, sC]
  refine takeK 2 (.pointer (some ⟨M, 0, none⟩)) rfl (by kernel_rfl) hH ?_
  try simp only [Act.put, sA, sB, sC]
  refine takeK 3 (.slice (some ⟨G, 0, none⟩) (m + 1) oc) rfl (by kernel_rfl) hH ?_ (Or.inl ⟨by rfl, fun V hV => by obtain ⟨h0, h1, h2, h3⟩ := hV; go_simp⟩)
  try simp only [Act.put, sA, sB, sC]
  refine takeK 4 (.int .i64 (m : Int)) rfl (by kernel_rfl) hH ?_
  try simp only [Act.put, sA, sB, sC]
  refine takeK 5 (.pointer (some ⟨M, 0, none⟩)) rfl (by kernel_rfl) hH ?_
  try simp only [Act.put, sA, sB, sC]
  refine takeK 6 (.pointer (some ⟨M, 0, none⟩)) rfl (by kernel_rfl) hH ?_
  try simp only [Act.put, sA, sB, sC]
  refine takeK 7 (.pointer (some ⟨M, 0, none⟩)) rfl (by kernel_rfl) hH ?_
  try simp only [Act.put, sA, sB, sC]
  refine takeK 8 (.slice (some ⟨G, 0, none⟩) (m + 1) oc) rfl (by kernel_rfl) hH ?_ (Or.inl ⟨by rfl, fun V hV => by obtain ⟨h0, h1, h2, h3⟩ := hV; go_simp⟩)
  try simp only [Act.put, sA, sB, sC]
  refine takeK 9 (.int .i64 (m : Int)) rfl (by kernel_rfl) hH ?_
  try simp only [Act.put, sA, sB, sC]
  refine takeK 10 (.pointer (some ⟨G, m, none⟩)) rfl (by kernel_rfl) hH ?_ (Or.inl ⟨by rfl, fun V hV => by go_simp; intro h; omega⟩)
  try simp only [Act.put, sA, sB, sC]
  refine takeK 11 (.slice ai q ci) rfl (by kernel_rfl) hH ?_ (Or.inl ⟨by rfl, fun V hV => by obtain ⟨h0, h1, h2, h3⟩ := hV; go_simp⟩)
  try simp only [Act.put, sA, sB, sC]
  refine takeK 12 (.pointer (some ⟨M, 0, none⟩)) rfl (by kernel_rfl) hH ?_
  try simp only [Act.put, sA, sB, sC]
  refine takeK 13 (.pointer (some ⟨M, 0, none⟩)) rfl (by kernel_rfl) hH ?_
  try simp only [Act.put, sA, sB, sC]
  refine takeK 14 (.pointer (some ⟨M, 2, none⟩)) rfl (by kernel_rfl) hH ?_
  try simp only [Act.put, sA, sB, sC]
  refine takeK 15 (.int .i64 x) rfl (by kernel_rfl) hH ?_ (Or.inl ⟨by rfl, fun V hV => by obtain ⟨h0, h1, h2, h3⟩ := hV; go_simp⟩)
  try simp only [Act.put, sA, sB, sC]
  refine takeK 17 (.pointer (some ⟨M, 0, none⟩)) rfl (by kernel_rfl) hH ?_
  try simp only [Act.put, sA, sB, sC]
  refine takeK 18 (.pointer (some ⟨M, 0, none⟩)) rfl (by kernel_rfl) hH ?_
  try simp only [Act.put, sA, sB, sC]
  refine takeK 19 (.pointer (some ⟨M, 3, none⟩)) rfl (by kernel_rfl) hH ?_
  try simp only [Act.put, sA, sB, sC]
  refine takeK 20 (.int .i64 y) rfl (by kernel_rfl) hH ?_ (Or.inl ⟨by rfl, fun V hV => by obtain ⟨h0, h1, h2, h3⟩ := hV; go_simp⟩)
  try simp only [Act.put, sA, sB, sC]
  refine takeK 22 (.int .i64 k) rfl (by kernel_rfl) hH ?_
  try simp only [Act.put, sA, sB, sC]
  refine wpUpto_one (i := 16) (by kernel_rfl) rfl (fun K hK => ?_)
  go_simp
  refine (nearest_c x wc.drew HXB.out.1 HXB.out.2).mono ?_
  rintro e w6 ⟨rfl, hb6⟩
  have hH6 : w6.cell? ⟨M, 0, none⟩ = some (.slice (some ⟨G, 0, none⟩) (m + 1) oc) ∧ w6.cell? ⟨M, 2, none⟩ = some (.int .i64 x) ∧ w6.cell? ⟨M, 3, none⟩ = some (.int .i64 y) ∧ w6.cell? ⟨G, m, none⟩ = some (.slice ai q ci) := ⟨keepC hb6 hH.1, keepC hb6 hH.2.1, keepC hb6 hH.2.2.1, keepC hb6 hH.2.2.2⟩
  refine hK.out _ _ (fun _ => hH6) ?_
  replace hH := hH6
  have HZ6 := Lib.hid (HZd.out.below hb6)
  have HB6 := Lib.hid (HBd.out.trans (hb6.mono HZd.out.le))
  have HK6 := Lib.hid (HKd.out.trans (keep_bel hb6))
  clear hb6 hH6
  clear hK K
  try simp only [Act.put, sA, sB, sC]
  refine wpUpto_one (i := 21) (by kernel_rfl) rfl (fun K hK => ?_)
  go_simp
  refine (nearest_c y w6 HYB.out.1 HYB.out.2).mono ?_
  rintro e w7 ⟨rfl, hb7⟩
  have hH7 : w7.cell? ⟨M, 0, none⟩ = some (.slice (some ⟨G, 0, none⟩) (m + 1) oc) ∧ w7.cell? ⟨M, 2, none⟩ = some (.int .i64 x) ∧ w7.cell? ⟨M, 3, none⟩ = some (.int .i64 y) ∧ w7.cell? ⟨G, m, none⟩ = some (.slice ai q ci) := ⟨keepC hb7 hH.1, keepC hb7 hH.2.1, keepC hb7 hH.2.2.1, keepC hb7 hH.2.2.2⟩
  refine hK.out _ _ (fun _ => hH7) ?_
  replace hH := hH7
  have HZ7 := Lib.hid (HZ6.out.below hb7)
  have HB7 := Lib.hid (HB6.out.trans (hb7.mono HZ6.out.le))
  have HK7 := Lib.hid (HK6.out.trans (keep_bel hb7))
  clear hb7 hH7
  clear hK K
  try simp only [Act.put, sA, sB, sC]
  refine wpUpto_one (i := 23) (by kernel_rfl) rfl (fun K hK => ?_)
  go_simp
  refine hK.out _ _ (fun _ => hH) ?_
  clear hK K
  try simp only [Act.put, sA, sB, sC]
  refine wpUpto_one (i := 24) (by kernel_rfl) rfl (fun K hK => ?_)
  go_simp
  have hb8 : Below w7.heap.size w7 (w7.alloc (.cells #[.int .i64 (nearM x), .int .i64 (nearM y), .int .i64 k] 43)) := (Below.refl _ _).alloc (Nat.le_refl _) _
  have hH8 : (w7.alloc (.cells #[.int .i64 (nearM x), .int .i64 (nearM y), .int .i64 k] 43)).cell? ⟨M, 0, none⟩ = some (.slice (some ⟨G, 0, none⟩) (m + 1) oc) ∧ (w7.alloc (.cells #[.int .i64 (nearM x), .int .i64 (nearM y), .int .i64 k] 43)).cell? ⟨M, 2, none⟩ = some (.int .i64 x) ∧ (w7.alloc (.cells #[.int .i64 (nearM x), .int .i64 (nearM y), .int .i64 k] 43)).cell? ⟨M, 3, none⟩ = some (.int .i64 y) ∧ (w7.alloc (.cells #[.int .i64 (nearM x), .int .i64 (nearM y), .int .i64 k] 43)).cell? ⟨G, m, none⟩ = some (.slice ai q ci) := ⟨keepC hb8 hH.1, keepC hb8 hH.2.1, keepC hb8 hH.2.2.1, keepC hb8 hH.2.2.2⟩
  refine hK.out _ _ (fun _ => hH8) ?_
  replace hH := hH8
  have HZ8 := Lib.hid (HZ7.out.below hb8)
  have HB8 := Lib.hid (HB7.out.trans (hb8.mono HZ7.out.le))
  have HK8 := Lib.hid (HK7.out.trans (keep_bel hb8))
  clear hb8 hH8
  clear hK K
  try simp only [Act.put, sA, sB, sC]
  have HOW : Hid ((w7.alloc (.cells #[.int .i64 (nearM x), .int .i64 (nearM y), .int .i64 k] 43)).ownsRow B 43 3 (.slice ai q ci) q (c.flatMap clK)) := by have h1 := HZ8.out.out.conts _ c HC.out; obtain ⟨a9, c9, h2, h3⟩ := h1; rw [HV.out] at h2; simp only [Option.some.injEq, Value.slice.injEq] at h2; obtain ⟨rfl, _, rfl⟩ := h2; rw [HQ.out] at h3; exact h3
  have HQL : Hid (q ≤ 4096) := by have h1 := HCL.out; have h2 := HQ.out; unfold Hid; omega
  refine wpUpto_one (i := 25) (by kernel_rfl) rfl (fun K hK => ?_)
  refine step_appA elK rfl _ _ rfl (w7.alloc (.cells #[.int .i64 (nearM x), .int .i64 (nearM y), .int .i64 k] 43)) B ai q ci (c.flatMap clK) w7.heap.size 1 1 (clK ⟨nearM x, nearM y, k⟩) rfl rfl HOW.out rfl lies_new (by intro u hu; exact clK_one (L := [⟨nearM x, nearM y, k⟩]) u (by simpa using hu)) (by decide) (by have := HQL.out; omega) (by have := HQL.out; omega) HZ8.out.le ?_
  intro g9 c9 w9 ho9 hg9 hat9
  have ht9 := typ_own HOW.out
  have hor9 := own_chg HZ8.out.out.own hg9 ht9 (by decide)
  rw [HG.out] at hor9
  have hv9 := own_lies hor9 _ _ HV.out
  rw [HN.out, Nat.add_sub_cancel, Nat.zero_add, HQ.out] at hv9
  have hm9 := blk_chg HZ8.out.mem hg9 ht9 (by decide)
  have hH9 : w9.cell? ⟨M, 0, none⟩ = some (.slice (some ⟨G, 0, none⟩) (m + 1) oc) ∧ w9.cell? ⟨M, 2, none⟩ = some (.int .i64 x) ∧ w9.cell? ⟨M, 3, none⟩ = some (.int .i64 y) ∧ w9.cell? ⟨G, m, none⟩ = some (.slice ai q ci) := ⟨by have := blk_cell hm9 0 (.slice L.oa s.out.length L.oc) rfl; rw [HG.out, HOC.out, HN.out] at this; exact this, blk_cell hm9 2 _ rfl, blk_cell hm9 3 _ rfl, hv9⟩
  have hfz9 : w9.frozen? ⟨G, m, none⟩ = false := by rcases hor9.2 with ⟨hx, _⟩ | ⟨gg, cap, cur, hx, hb, hgg, _⟩; { cases hx }; { cases hx; exact blk_free hgg m }
  have HZ10 := Lib.hid (Mach.knotted (k := ⟨nearM x, nearM y, k⟩) HZ8.out HC.out HV.out HG.out (by rw [HQ.out]; exact ho9) (by rw [HQ.out]; exact hg9) (by rw [HQ.out]; exact hat9))
  rw [HQ.out, HN.out, Nat.add_sub_cancel] at HZ10
  have hB9 : B ≤ g9 := (ownsRow_cap ho9).2.1
  have HB10 : Hid (Below B w (w9.setCell ⟨G, m, none⟩ (.slice (some ⟨g9, 0, none⟩) (q + 1) c9))) := by
   refine bel_set (Below.trans HB8.out ?_) (ownsRow_cap hor9).2.1 _
   refine ⟨hg9.os, hg9.tape, hg9.output, hg9.size, fun j hj => hg9.block j (Nat.lt_of_lt_of_le hj HZ8.out.le) (fun e => ?_)⟩
   have := (HOW.out.lt j e.symm).1
   omega
  have HK10 : Hid (IntKeep w (w9.setCell ⟨G, m, none⟩ (.slice (some ⟨g9, 0, none⟩) (q + 1) c9))) := (HK8.out.trans (keep_chg hg9 ht9 (by decide))).trans (keep_chg (grown_set w9 G m _) (typ_own hor9) (by decide))
  clear ho9 hg9 hat9 ht9 hor9 hv9 hm9
  refine hK.out _ _ (fun _ => hH9) ?_
  replace hH := hH9
  clear hK K hH9
  try simp only [Act.put, sA, sB, sC]
  refine wpUpto_one (i := 26) (by kernel_rfl) rfl (fun K hK => ?_)
  go_simp
  rw [if_pos (show (m : Int) < (m : Int) + 1 by omega)]
  go_simp
  refine hK.out _ _ (fun _ => hH) ?_
  clear hK K
  try simp only [Act.put, sA, sB, sC]
  refine wpUpto_one (i := 27) (by kernel_rfl) rfl (fun K hK => ?_)
  go_simp
  refine hK.out _ _ (fun h => absurd rfl h) ?_
  clear hK K
  try simp only [Act.put, sA, sB, sC]
  refine wpUpto_done (by kernel_rfl) ?_ _
  generalize w9.setCell ⟨G, m, none⟩ (.slice (some ⟨g9, 0, none⟩) (q + 1) c9) = w10 at *
  have e1 := HZ10.out.c1
  have e2 := HZ10.out.f 1
  simp only at e1
  have HZ11 := Lib.hid (HZ10.out.setKnots (s.knots + 1))
  have hkn : s.knots ≤ 4096 := HP.out.1
  have HW : Hid (wrap64 ((s.knots : Int) + 1) = ((s.knots + 1 : Nat) : Int)) := by unfold Hid wrap64; omega
  have HBF := Lib.hid (bel_set HB10.out H.out.mB (o := 1) (.int .i64 ((s.knots + 1 : Nat) : Int)))
  have HKF := Lib.hid (HK10.out.trans (HZ10.out.bset 1 (.int .i64 ((s.knots + 1 : Nat) : Int))).2)
  clear hH d0 d2 d3 dg HZ10 HB10 HK10
  go_wp2_with fail
  go_end0
  rw [HX.out, HY.out]
  exact ⟨rfl, ⟨_, _, _, HZ11.out⟩, HBF.out, HKF.out⟩
end Go.Proofs.YtklenppldblbdaaGreat
