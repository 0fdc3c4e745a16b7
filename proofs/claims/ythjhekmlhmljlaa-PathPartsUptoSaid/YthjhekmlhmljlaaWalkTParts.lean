/-
  The walk of PathParts: it answers true for every two outlines of moderate size, and changes nothing that was there.
-/
import Derived.Test.YthjhekmlhmljlaaCpB
import Derived.Test.YthjhekmlhmljlaaAlP
import Derived.Test.YthjhekmlhmljlaaPtG
import Derived.Test.YthjhekmlhmljlaaHlB
import Derived.Test.YthjhekmlhmljlaaOpK
namespace Go.Proofs.Ythjhekmlhmljlaa
open Go.RowKit Go.PlainAid
set_option linter.unusedSimpArgs false
set_option linter.unusedVariables false

theorem wpList_appW {t e : TypeId} {s by' : Nat} (H : ElT t e s by') {ops : Array Oper} {rest : List Oper} {o : Oper} {f : Act} {Q : Exit → Act → World → Prop} (hw : Region.wanted o (yielded ops f.tmps) = true) (sl x : Operand)
    (ho : o.op = .call { callee := .builtin .append, args := #[sl, x], argTypes := #[t, t] })
    (w : World) (base g c n : Nat) (xs : List Value) (a : Option Addr) (m cap : Nat) (news : List Value) (hs : f.eval sl = .slice (some ⟨g, 0, none⟩) n c) (hx : f.eval x = .slice a m cap)
    (hown : w.ownsRow base e s (.slice (some ⟨g, 0, none⟩) n c) n xs) (hl : news.length = m * s) (hsrc : m = 0 ∨ ∃ b off, a = some ⟨b, off, none⟩ ∧ Lies w b off news) (h1 : ∀ u ∈ news, u.oneCell' = true)
    (hb : (n + m) * by' ≤ 140737488355328) (hm : n + m ≤ 140737488355328) (hbase : base ≤ w.heap.size)
    (h : ∀ g' c' w', w'.ownsRow base e s (.slice (some ⟨g', 0, none⟩) (n + m) c') (n + m) (xs ++ news) → w.grownBy w' (some g) → (g' = g ∨ g' = w.heap.size) → wpList Try.prog ops Q rest (f.put o.dst (.slice (some ⟨g', 0, none⟩) (n + m) c')) w') :
    wpList Try.prog ops Q (o :: rest) f w :=
  BigFrame.wpList_want hw fun _ hK => by
    obtain ⟨g', c', w', hr, h2, h3, h4⟩ := app_run H w base o.type g c n xs a m cap news hown hl hsrc h1 hb hm hbase
    unfold Oper.wp execOp
    simp only [ho, resolve, invoke, builtin, Sem.run_bind, Sem.run_pure, Result.andThen_ok, List.map_toArray, List.map_cons, List.map_nil, hs, hx, hr]
    exact hK _ _ (h g' c' w' h2 h3 h4)

theorem RowsOwn.one {w : World} {B g : Nat} {vs : List Value} {O : List (List Kn)} (h : RowsOwn w B g vs O) : ∀ u ∈ vs, u.oneCell' = true := by
  intro u hu
  obtain ⟨i, hi⟩ := List.mem_iff_getElem?.1 hu
  have hlt := (List.getElem?_eq_some_iff.1 hi).1
  obtain ⟨c, hc⟩ := get_of (show i < O.length by rw [← h.1]; exact hlt)
  obtain ⟨gi, ci, h1, _⟩ := h.2 i c hc
  rw [hi] at h1
  cases h1
  rfl
/-- Two copies, one appended to the other. -/
theorem isO_app {w w8 : World} {B1 B2 ga gb g8 n c8 : Nat} {vsA vsB : List Value} {A B : List (List Kn)} (ha : RowsOwn w B1 ga vsA A) (hb : RowsOwn w B2 gb vsB B) (hB : ga < B2) (hg : w.grownBy w8 (some ga))
    (ho : w8.ownsRow B1 35 1 (.slice (some ⟨g8, 0, none⟩) n c8) n (vsA ++ vsB)) : IsO clK w8 (some ⟨g8, 0, none⟩) (A ++ B) := by
  refine .inr ⟨g8, 0, rfl, fun i d hd => ?_⟩
  by_cases hi : i < A.length
  · rw [List.getElem?_append_left hi] at hd
    obtain ⟨gi, ci, h1, h2, h3⟩ := ha.2 i d hd
    refine ⟨_, ci, own_lies ho i _ (by rw [List.getElem?_append_left (by rw [ha.1]; exact hi)]; exact h1), (ownsRow_cap h3).1, own_isR rfl (own_keep h3 fun x hx => ?_)⟩
    have : x = gi := by simpa [Value.ownBlock] using hx.symm
    subst this
    exact hg.block x (ownsRow_cap h3).2.2 (fun e => h2 (by cases e; rfl))
  · rw [List.getElem?_append_right (by omega)] at hd
    obtain ⟨gi, ci, h1, h2, h3⟩ := hb.2 _ d hd
    refine ⟨_, ci, own_lies ho i _ (by rw [List.getElem?_append_right (by rw [ha.1]; omega), ha.1]; exact h1), (ownsRow_cap h3).1, own_isR rfl (own_keep h3 fun x hx => ?_)⟩
    have : x = gi := by simpa [Value.ownBlock] using hx.symm
    subst this
    have h4 := (ownsRow_cap h3).2.1
    exact hg.block x (ownsRow_cap h3).2.2 (fun e => by cases e; omega)
theorem OutAt.one {α : Type} {cl : α → List Value} {s : Nat} {T TS : TypeId} {g : Nat} {vs : List Value} {Ls : List (List α)} {N : Nat → Nat} {V : World} (h : OutAt cl s T TS g vs Ls 0 N V) : ∀ u ∈ vs, u.oneCell' = true := by
  intro u hu
  obtain ⟨i, hi⟩ := List.mem_iff_getElem?.1 hu
  have hlt := (List.getElem?_eq_some_iff.1 hi).1
  obtain ⟨c, hc⟩ := get_of (show i < Ls.length by rw [← h.len]; exact hlt)
  obtain ⟨a, ca, rfl, _⟩ := h.row i u c hi hc
  rfl
theorem OutAt.lies {α : Type} {cl : α → List Value} {s : Nat} {T TS : TypeId} {g : Nat} {vs : List Value} {Ls : List (List α)} {N : Nat → Nat} {V : World} (h : OutAt cl s T TS g vs Ls 0 N V) : Lies V g 0 vs := by
  intro j u hj
  rw [Nat.zero_add, cell_blk h.blk j]
  simpa using hj
/-- Two lists of polygons, one appended to the other. -/
theorem isO_outs {V : World} {gp gq g n c B : Nat} {vsP vsQ : List Value} {P Q : List (List Sp)} {N1 N2 : Nat → Nat} {T : TypeId} (hp : OutAt clS 2 47 45 gp vsP P 0 N1 V) (hq : OutAt clS 2 47 45 gq vsQ Q 0 N2 V)
    (ho : V.ownsRow B 45 1 (.slice (some ⟨g, 0, none⟩) n c) n (vsP ++ vsQ)) : IsO clS V (some ⟨g, 0, none⟩) (P ++ Q) := by
  refine .inr ⟨g, 0, rfl, fun i d hd => ?_⟩
  have fin : ∀ (gx : Nat) (vs : List Value) (L : List (List Sp)) (N : Nat → Nat), OutAt clS 2 47 45 gx vs L 0 N V → ∀ (j : Nat) (d : List Sp), L[j]? = some d → ∃ ai ci, vs[j]? = some (.slice ai d.length ci) ∧ d.length ≤ ci ∧ IsR clS V ai d := by
    intro gx vs L N h j d hd
    obtain ⟨v, hv⟩ := get_of (show j < vs.length by rw [h.len]; exact (List.getElem?_eq_some_iff.1 hd).1)
    obtain ⟨a, ci, rfl, h1, _⟩ := h.row j v d hv hd
    refine ⟨a, ci, hv, ?_, own_isR rfl h1⟩
    rcases h1.2 with ⟨e, h0⟩ | ⟨g', cap', cur, e, _, _, hn, _⟩
    · omega
    · cases e; exact hn
  by_cases hi : i < P.length
  · rw [List.getElem?_append_left hi] at hd
    obtain ⟨ai, ci, h1, h2, h3⟩ := fin _ _ _ _ hp i d hd
    exact ⟨ai, ci, own_lies ho i _ (by rw [List.getElem?_append_left (by rw [hp.len]; exact hi)]; exact h1), h2, h3⟩
  · rw [List.getElem?_append_right (by omega)] at hd
    obtain ⟨ai, ci, h1, h2, h3⟩ := fin _ _ _ _ hq _ d hd
    exact ⟨ai, ci, own_lies ho i _ (by rw [List.getElem?_append_right (by rw [hp.len]; omega), hp.len]; exact h1), h2, h3⟩
theorem long_app {A B : List (List Kn)} (la : Long A) (lb : Long B) (sa : A.length ≤ 1048576) (sb : B.length ≤ 1048576) : Long (A ++ B) :=
  ⟨by rw [List.length_append]; omega, fun c hc => (List.mem_append.1 hc).elim (la.2 c) (lb.2 c)⟩
theorem longA_flat {O : List (List Kn)} {P : List (List Sp)} (h : flatL O = some P) (hc : checkE O = 0) : LongA P ∧ P.length ≤ 256 := by
  obtain ⟨h1, h2, h3⟩ := flatL_len h
  obtain ⟨n1, n2, n3⟩ := many_no (check_ok hc).1
  exact ⟨⟨by omega, fun p hp => by have := h2 p hp; omega⟩, by omega⟩

namespace pathParts
set_option maxRecDepth 20000 in
set_option maxHeartbeats 4000000 in
theorem walk (a : Option Addr) (ca : Nat) (A : List (List Kn)) (b : Option Addr) (cb : Nat) (B : List (List Kn)) (w : World) (hca : A.length ≤ ca) (hA : IsO clK w a A) (fA : ∀ c ∈ A, ∀ k ∈ c, WfK k) (lA : Long A) (sA : A.length ≤ 1048576 ∧ totalL A ≤ 1048576)
    (hcb : B.length ≤ cb) (hB : IsO clK w b B) (fB : ∀ c ∈ B, ∀ k ∈ c, WfK k) (lB : Long B) (sB : B.length ≤ 1048576 ∧ totalL B ≤ 1048576) :
    Calls Try.prog 9 #[.slice a A.length ca, .slice b B.length cb] w fun e w' => e = .returned (.bool true) ∧ Below w.heap.size w w' := by
  have HA := Lib.hid hA
  have HBq := Lib.hid hB
  have HLA := Lib.hid lA
  have HLB := Lib.hid lB
  have HSA := Lib.hid sA.1
  have HSB := Lib.hid sB.1
  clear hca hA fA lA sA hcb hB fB lB sB
  go_enter Try.func9, Try.ntmps9
  go_wp2_with fail
  refine (pathAlive_c _).mono ?_
  rintro e w1 ⟨rfl, hb1⟩
  have HB1 := Lib.hid hb1
  clear hb1
  go_wp2_with fail
  refine (copy_c a ca A w1 (HA.out.below HB1.out) HLA.out).mono ?_
  rintro e w2 ⟨ga, c2, vsA, rfl, ho2, hr2, hb2⟩
  have HB2 := Lib.hid (bel_next HB1.out hb2)
  have HO2 := Lib.hid ho2
  have HR2 := Lib.hid hr2
  clear ho2 hr2 hb2
  go_wp2_with fail
  refine (copy_c b cb B w2 (HBq.out.below HB2.out) HLB.out).mono ?_
  rintro e w3 ⟨gb, c3, vsB, rfl, ho3, hr3, hb3⟩
  have HB3 := Lib.hid (bel_next HB2.out hb3)
  have HO3 := Lib.hid ho3
  have HR3 := Lib.hid hr3
  have HO2' := Lib.hid (own_below HO2.out hb3)
  have HR2' := Lib.hid (HR2.out.below hb3)
  have HGA : Hid (ga < w2.heap.size ∧ w.heap.size ≤ ga) := ⟨(ownsRow_cap HO2.out).2.2, Nat.le_trans HB1.out.size (ownsRow_cap HO2.out).2.1⟩
  clear ho3 hr3 hb3
  go_wp2_with (at_builtin; refine wpList_app elKK rfl _ _ rfl w3 w1.heap.size ga c2 A.length vsA (some ⟨gb, 0, none⟩) B.length c3 vsB rfl rfl HO2'.out (by rw [HR3.out.1, Nat.mul_one]) (.inr ⟨gb, 0, rfl, own_lies HO3.out⟩) HR3.out.one (by have := HSA.out; have := HSB.out; omega) (by have := HSA.out; have := HSB.out; omega) (by have := (ownsRow_cap HO2'.out).2; omega) ?_; intro g4 c4 w4 ho4 hg4 hat4)
  have HQ4 := Lib.hid (isO_app HR2'.out HR3.out HGA.out.1 hg4 ho4)
  have HB4 : Hid (Below w.heap.size w w4) := belGrown HB3.out hg4 HGA.out.2 HB3.out.size
  have HL4 := Lib.hid (long_app HLA.out HLB.out HSA.out HSB.out)
  have HRC := Lib.hid (refcheck_c (some ⟨g4, 0, none⟩) c4 (A ++ B) w4 HQ4.out HL4.out)
  clear ho4 hg4 hat4
  by_cases hck : checkE (A ++ B) = 0
  case neg =>
    obtain ⟨E, HE⟩ : ∃ E, Hid (checkE (A ++ B) = E) := ⟨_, rfl⟩
    rw [List.length_append, HE.out] at HRC
    rw [HE.out] at hck
    have q : (E == 0) = false := by simpa using hck
    clear hck
    go_wp2_with fail
    refine HRC.out.mono ?_
    rintro e w5 ⟨rfl, hb5⟩
    have HB5 := Lib.hid (bel_next HB4.out hb5)
    clear hb5
    go_wp2_with fail
    go_ret
    exact ⟨rfl, HB5.out⟩
  case pos =>
    rw [List.length_append, hck] at HRC
    have HCK := Lib.hid hck
    have HCA := Lib.hid (check_app hck).1
    have HCB := Lib.hid (check_app hck).2
    clear hck
    go_wp2_with fail
    refine HRC.out.mono ?_
    rintro e w5 ⟨rfl, hb5⟩
    have HB5 := Lib.hid (bel_next HB4.out hb5)
    have HQ5 := Lib.hid (HQ4.out.below hb5)
    clear hb5
    go_wp2_with fail
    refine (copy_c a ca A w5 (HA.out.below HB5.out) HLA.out).mono ?_
    rintro e w6 ⟨g6, c6, vs6, rfl, ho6, hr6, hb6⟩
    have HB6 := Lib.hid (bel_next HB5.out hb6)
    have HQ6 := Lib.hid (HQ5.out.below hb6)
    have HF6 := Lib.hid (flat_run (some ⟨g6, 0, none⟩) c6 A w6 (hr6.isO ho6) HLA.out HCA.out)
    clear ho6 hr6 hb6
    go_wp2_with fail
    refine HF6.out.mono ?_
    intro e w7 hp7
    unfold FlatsPost at hp7
    cases hfa : flatL A with
    | none =>
      rw [hfa] at hp7
      obtain ⟨rfl, hb7⟩ := hp7
      have HB7 := Lib.hid (bel_next HB6.out hb7)
      have HQ7 := Lib.hid (HQ6.out.below hb7)
      have HFX : Hid (flatL (A ++ B) = none) := by unfold Hid; rw [flatL_app, hfa]
      clear hb7 hfa
      go_wp2_with fail
      refine (copy_c b cb B w7 (HBq.out.below HB7.out) HLB.out).mono ?_
      rintro e w8 ⟨g8, c8, vs8, rfl, ho8, hr8, hb8⟩
      have HB8 := Lib.hid (bel_next HB7.out hb8)
      have HQ8 := Lib.hid (HQ7.out.below hb8)
      have HF8 := Lib.hid (flat_run (some ⟨g8, 0, none⟩) c8 B w8 (hr8.isO ho8) HLB.out HCB.out)
      clear ho8 hr8 hb8
      go_wp2_with fail
      refine HF8.out.mono ?_
      intro e w9 hp9
      unfold FlatsPost at hp9
      cases hfb : flatL B with
      | none =>
        rw [hfb] at hp9
        obtain ⟨rfl, hb9⟩ := hp9
        have HB9 := Lib.hid (bel_next HB8.out hb9)
        have HQ9 := Lib.hid (HQ8.out.below hb9)
        clear hb9 hfb
        have HFY := Lib.hid (flat_run (some ⟨g4, 0, none⟩) c4 (A ++ B) w9 HQ9.out HL4.out HCK.out)
        rw [HFX.out, List.length_append] at HFY
        go_wp2_with fail
        refine HFY.out.mono ?_
        rintro e wz ⟨rfl, hbz⟩
        have HBz := Lib.hid (bel_next HB9.out hbz)
        clear hbz
        go_wp2_with fail
        go_ret
        exact ⟨rfl, HBz.out⟩
      | some Q =>
        rw [hfb] at hp9
        obtain ⟨g9, vs9, N9, rfl, hout9, hge9, hb9⟩ := hp9
        have HB9 := Lib.hid (bel_next HB8.out hb9)
        have HQ9 := Lib.hid (HQ8.out.below hb9)
        clear hb9 hfb hout9 hge9
        have HFY := Lib.hid (flat_run (some ⟨g4, 0, none⟩) c4 (A ++ B) w9 HQ9.out HL4.out HCK.out)
        rw [HFX.out, List.length_append] at HFY
        go_wp2_with fail
        refine HFY.out.mono ?_
        rintro e wz ⟨rfl, hbz⟩
        have HBz := Lib.hid (bel_next HB9.out hbz)
        clear hbz
        go_wp2_with fail
        go_ret
        exact ⟨rfl, HBz.out⟩
    | some P =>
      rw [hfa] at hp7
      obtain ⟨g7, vs7, N7, rfl, hout7, hge7, hb7⟩ := hp7
      have HB7 := Lib.hid (bel_next HB6.out hb7)
      have HQ7 := Lib.hid (HQ6.out.below hb7)
      have HO7 := Lib.hid hout7
      have HFA := Lib.hid hfa
      have HLP := Lib.hid (longA_flat hfa HCA.out)
      clear hb7 hfa hout7 hge7
      go_wp2_with fail
      refine (copy_c b cb B w7 (HBq.out.below HB7.out) HLB.out).mono ?_
      rintro e w8 ⟨g8, c8, vs8, rfl, ho8, hr8, hb8⟩
      have HB8 := Lib.hid (bel_next HB7.out hb8)
      have HQ8 := Lib.hid (HQ7.out.below hb8)
      have HO8 := Lib.hid (HO7.out.below hb8)
      have HF8 := Lib.hid (flat_run (some ⟨g8, 0, none⟩) c8 B w8 (hr8.isO ho8) HLB.out HCB.out)
      clear ho8 hr8 hb8
      go_wp2_with fail
      refine HF8.out.mono ?_
      intro e w9 hp9
      unfold FlatsPost at hp9
      cases hfb : flatL B with
      | none =>
        rw [hfb] at hp9
        obtain ⟨rfl, hb9⟩ := hp9
        have HB9 := Lib.hid (bel_next HB8.out hb9)
        have HQ9 := Lib.hid (HQ8.out.below hb9)
        have HFX : Hid (flatL (A ++ B) = none) := by unfold Hid; rw [flatL_app, hfb]; cases flatL A <;> rfl
        clear hb9 hfb
        have HFY := Lib.hid (flat_run (some ⟨g4, 0, none⟩) c4 (A ++ B) w9 HQ9.out HL4.out HCK.out)
        rw [HFX.out, List.length_append] at HFY
        go_wp2_with fail
        refine HFY.out.mono ?_
        rintro e wz ⟨rfl, hbz⟩
        have HBz := Lib.hid (bel_next HB9.out hbz)
        clear hbz
        go_wp2_with fail
        go_ret
        exact ⟨rfl, HBz.out⟩
      | some Q =>
        rw [hfb] at hp9
        obtain ⟨g9, vs9, N9, rfl, hout9, hge9, hb9⟩ := hp9
        have HB9 := Lib.hid (bel_next HB8.out hb9)
        have HQ9 := Lib.hid (HQ8.out.below hb9)
        have HO9 := Lib.hid hout9
        have HP9 := Lib.hid (HO8.out.below hb9)
        have HLQ := Lib.hid (longA_flat hfb HCB.out)
        have HFX : Hid (flatL (A ++ B) = some (P ++ Q)) := by unfold Hid; rw [flatL_app, hfb, HFA.out]
        have HLX := Lib.hid (longA_flat HFX.out HCK.out)
        have HF9 := Lib.hid (flat_run (some ⟨g4, 0, none⟩) c4 (A ++ B) w9 HQ9.out HL4.out HCK.out)
        rw [HFX.out, List.length_append] at HF9
        clear hb9 hfb hout9 hge9
        go_wp2_with fail
        refine HF9.out.mono ?_
        rintro e wx ⟨gx, vsx, Nx, rfl, houtx, hgex, hbx⟩
        have HBx := Lib.hid (bel_next HB9.out hbx)
        have HOx := Lib.hid houtx
        have HPx := Lib.hid (HP9.out.below hbx)
        have HQx := Lib.hid (HO9.out.below hbx)
        clear houtx hgex hbx
        have HE1 := Lib.hid (World.ownsRow_lit (base := wx.heap.size) (e := 45) (size := 1) wx #[] 0 (Nat.le_refl _) (by decide) rfl)
        have HN1 : Hid (Below wx.heap.size wx (wx.alloc (.cells #[] 45))) := (Below.refl _ _).alloc (Nat.le_refl _) _
        have HPy := Lib.hid (HPx.out.below HN1.out)
        rw [List.length_append]
        go_wp2_with (at_builtin; first
          | (refine wpList_appW elSS rfl _ _ rfl (wx.alloc (.cells #[] 45)) wx.heap.size wx.heap.size 0 0 [] (some ⟨g7, 0, none⟩) P.length P.length vs7 rfl rfl HE1.out (by rw [HPx.out.len, Nat.mul_one]) (.inr ⟨_, 0, rfl, HPy.out.lies⟩) HPx.out.one (by have := HLP.out.2; omega) (by have := HLP.out.2; omega) (by simp) ?_; intro gy cy wy hoy hgy haty; rw [Nat.zero_add, List.nil_append] at hoy; rw [Nat.zero_add])
          | (refine wpList_appW elSS rfl _ _ rfl wy wx.heap.size gy cy P.length vs7 (some ⟨g9, 0, none⟩) Q.length Q.length vs9 rfl rfl hoy (by rw [HQx.out.len, Nat.mul_one]) (.inr ⟨_, 0, rfl, (HQx.out.below (belGrown HN1.out hgy (Nat.le_refl _) (by simp))).lies⟩) HQx.out.one (by have := HLP.out.2; have := HLQ.out.2; omega) (by have := HLP.out.2; have := HLQ.out.2; omega) ((belGrown HN1.out hgy (Nat.le_refl _) (by simp))).size ?_; intro gz cz wz hoz hgz hatz))
        have HNy : Hid (Below wx.heap.size wx wy) := (belGrown HN1.out hgy (Nat.le_refl _) (by simp))
        have HNz : Hid (Below wx.heap.size wx wz) := belGrown HNy.out hgz (ownsRow_cap hoy).2.1 HNy.out.size
        have HSC := Lib.hid (sameSpots_c (some ⟨gx, 0, none⟩) (some ⟨gz, 0, none⟩) (P.length + Q.length) cz (P ++ Q) wz (HOx.out.isO.below HNz.out) (isO_outs (T := 0) (HPx.out.below HNz.out) (HQx.out.below HNz.out) hoz) HLX.out.1)
        rw [List.length_append] at HSC
        have HBz := Lib.hid (bel_next HBx.out HNz.out)
        clear hoy hgy haty hoz hgz hatz
        refine HSC.out.mono ?_
        rintro e wk ⟨rfl, hbk⟩
        have HBk := Lib.hid (bel_next HBz.out hbk)
        clear hbk
        go_wp2_with fail
        go_ret
        exact ⟨rfl, HBk.out⟩

end pathParts
end Go.Proofs.Ythjhekmlhmljlaa
