/-
  The walk of GstateShifts: it answers true for every row of points, of flags, every distance, and changes nothing that was there.
-/
import Derived.Test.YtnoadceeenioeaaZsc
import Derived.Test.YtnoadceeenioeaaWalkZPuts
import Derived.Deep.DeepCutAuto
import Derived.Deep.CutBlock
import Derived.Deep.CutRange
import Derived.IntWalk
namespace Go.Proofs.Ytnoadceeenioeaa
open Go.RowKit Go.PlainAid
set_option linter.unusedSimpArgs false
set_option linter.unusedVariables false

theorem take_snocS {α : Type} {L : List α} {i : Nat} {x : α} (h : L[i]? = some x) : L.take (i + 1) = L.take i ++ [x] := by rw [List.take_add_one, h]; rfl

namespace gstateShifts
set_option maxRecDepth 20000 in
set_option maxHeartbeats 16000000 in
theorem walk (L : List Sp) (la : Option Addr) (lc : Nat) (B : List Bool) (ba : Option Addr) (bc : Nat) (d : Int) (w : World) (hL : IsR clS w la L) (hB : IsR clB w ba B) (hl : L.length ≤ 8796093021952) (hlb : B.length ≤ 140737488351232) :
    Calls Try.prog 8 #[.slice la L.length lc, .slice ba B.length bc, .int .i64 d] w fun e w' => e = .returned (.bool true) ∧ Below w.heap.size w w' := by
  obtain ⟨n, HN⟩ : ∃ n, Hid (L.length = n) := ⟨_, rfl⟩
  obtain ⟨bn, HBN⟩ : ∃ n, Hid (B.length = n) := ⟨_, rfl⟩
  have HLB : Hid (bn ≤ 140737488351232) := by rw [Hid, ← HBN.out]; exact hlb
  have HL := Lib.hid hL
  have HF := Lib.hid hB
  rw [HN.out] at hl
  rw [HN.out, HBN.out]
  clear hL hB hlb
  by_cases h0 : n = 0
  · subst h0
    go_enter Try.func8, Try.ntmps8
    go_wp2_with fail
    refine (alive_c _).mono ?_
    rintro e w1 ⟨rfl, hb⟩
    have HB := Lib.hid hb
    clear hb
    go_wp2_with fail
    go_ret
    exact ⟨rfl, HB.out⟩
  have hn0 : ¬ ((n : Int) = 0) := by omega
  by_cases h1 : 4096 < n
  · have hn1 : (4096 : Int) < (n : Int) := by omega
    go_enter Try.func8, Try.ntmps8
    go_wp2_with fail
    refine (alive_c _).mono ?_
    rintro e w1 ⟨rfl, hb⟩
    have HB := Lib.hid hb
    clear hb
    go_wp2_with fail
    go_ret
    exact ⟨rfl, HB.out⟩
  have hn1 : ¬ (4096 : Int) < (n : Int) := by omega
  by_cases h2 : d < -1048576
  · go_enter Try.func8, Try.ntmps8
    go_wp2_with fail
    refine (alive_c _).mono ?_
    rintro e w1 ⟨rfl, hb⟩
    have HB := Lib.hid hb
    clear hb
    go_wp2_with fail
    go_ret
    exact ⟨rfl, HB.out⟩
  by_cases h3 : 1048576 < d
  · go_enter Try.func8, Try.ntmps8
    go_wp2_with fail
    refine (alive_c _).mono ?_
    rintro e w1 ⟨rfl, hb⟩
    have HB := Lib.hid hb
    clear hb
    go_wp2_with fail
    go_ret
    exact ⟨rfl, HB.out⟩
  have HD : Hid (Sm d) := ⟨by omega, by omega⟩
  have HN1 : Hid (0 < n ∧ n ≤ 4096) := ⟨by omega, by omega⟩
  have q0 : ((n : Int) == 0) = false := by simpa using hn0
  have q1 : decide ((4096 : Int) < (n : Int)) = false := decide_eq_false hn1
  have q2 : decide (d < -1048576) = false := decide_eq_false h2
  have q3 : decide (1048576 < d) = false := decide_eq_false h3
  clear h0 h1 h2 h3 hn0 hn1
  go_enter Try.func8, Try.ntmps8
  go_wp2_with fail
  refine (alive_c _).mono ?_
  rintro e w1 ⟨rfl, hb⟩
  have HB1 := Lib.hid hb
  clear hb
  go_wp2_with fail
  clear q0 q1 q2 q3
  have HO : Hid ((w1.alloc (.cells #[] 59)).ownsRow w1.heap.size 59 3 (.slice (some ⟨w1.heap.size, 0, none⟩) 0 0) 0 (([] : List Kn).flatMap clK)) := by
    have := World.ownsRow_lit (base := w1.heap.size) (e := 59) (size := 3) w1 #[] 0 (Nat.le_refl _) (by unfold maxLen; omega) (by simp)
    unfold Hid; simpa using this
  have HB2 : Hid (Below w.heap.size w (w1.alloc (.cells #[] 59))) := bel_next HB1.out (bel_alloc (Below.refl _ _) _)
  have HSZ : Hid (w.heap.size ≤ w1.heap.size ∧ w1.heap.size ≤ (w1.alloc (.cells #[] 59)).heap.size) := ⟨HB1.out.size, by simp [go_sem]⟩
  obtain ⟨K, HK⟩ : ∃ K, Hid (w1.heap.size = K) := ⟨_, rfl⟩
  rw [HK.out] at HO HSZ ⊢
  generalize (w1.alloc (.cells #[] 59)) = W at *
  go_loopw [7, 40] (fun u x wr => ∃ (i : Nat) (ca : Option Addr) (cc : Nat), i ≤ n ∧ u = .slice ca i cc ∧ x = .int .i64 i ∧ Hid (wr.ownsRow K 59 3 (.slice ca i cc) i (((L.take i).map knS).flatMap clK)) ∧ Hid (∀ s ∈ L.take i, Sm s.x ∧ Sm s.y) ∧ Hid (Below w.heap.size w wr) ∧ Hid (K ≤ wr.heap.size)) (fun _ x _ => n - (intOf x).toNat)
  case atStart => exact ⟨0, _, 0, Nat.zero_le _, rfl, rfl, HO, by intro s hs; simp at hs, HB2, HSZ.out.2⟩
  case round =>
    clear HO HB2
    obtain ⟨i, ca, cc, hi, rfl, rfl, HO, HP, HB, HKS⟩ := hrel
    by_cases hlt : i < n
    · have hlt' : (i : Int) < (n : Int) := by omega
      have hi0 : (0 : Int) ≤ (i : Int) := by omega
      obtain ⟨s, hs⟩ := get_of (show i < L.length by rw [HN.out]; exact hlt)
      obtain ⟨b, o, rfl, x0, x1⟩ := (HL.out.below HB.out).spot hs
      have HTS := Lib.hid (take_snocS hs)
      have HLT := Lib.hid hlt
      have HX := Lib.hid (next64 (j := i) (by have := HN1.out; omega))
      clear hs hi hlt
      have fin : ∀ V, Below wr.heap.size wr V → Below w.heap.size w V := fun V hb => bel_next HB.out hb
      have HFIN := Lib.hid fin
      clear fin
      by_cases k0 : s.x < -1048576
      · go_wp2_with fail
        go_ret
        exact ⟨rfl, HFIN.out _ (bel_alloc (Below.refl _ _) _)⟩
      by_cases k1 : 1048576 < s.x
      · go_wp2_with fail
        go_ret
        exact ⟨rfl, HFIN.out _ (bel_alloc (Below.refl _ _) _)⟩
      by_cases k2 : s.y < -1048576
      · go_wp2_with fail
        go_ret
        exact ⟨rfl, HFIN.out _ (bel_alloc (Below.refl _ _) _)⟩
      by_cases k3 : 1048576 < s.y
      · go_wp2_with fail
        go_ret
        exact ⟨rfl, HFIN.out _ (bel_alloc (Below.refl _ _) _)⟩
      have hba : Below wr.heap.size wr ((wr.alloc (.cells #[.int .i64 s.x, .int .i64 s.y] 38)).alloc (.cells #[.int .i64 s.x, .int .i64 s.y, .int .i64 1] 59)) := bel_alloc (bel_alloc (Below.refl _ _) _) _
      have HOA := Lib.hid (own_below HO.out hba)
      have HLI : Hid (Lies ((wr.alloc (.cells #[.int .i64 s.x, .int .i64 s.y] 38)).alloc (.cells #[.int .i64 s.x, .int .i64 s.y, .int .i64 1] 59)) (wr.heap.size + 1) 0 ([knS s].flatMap clK)) := by
        have := lies_new (w := wr.alloc (.cells #[.int .i64 s.x, .int .i64 s.y] 38)) (cs := #[.int .i64 s.x, .int .i64 s.y, .int .i64 1]) (T := 59)
        rwa [show (wr.alloc (.cells #[.int .i64 s.x, .int .i64 s.y] 38)).heap.size = wr.heap.size + 1 by simp [go_sem]] at this
      have HBA := Lib.hid (HFIN.out _ hba)
      have HSA : Hid (K ≤ ((wr.alloc (.cells #[.int .i64 s.x, .int .i64 s.y] 38)).alloc (.cells #[.int .i64 s.x, .int .i64 s.y, .int .i64 1] 59)).heap.size) := by have := hba.size; have := HKS.out; unfold Hid; omega
      have HP2 : Hid (∀ t ∈ L.take (i + 1), Sm t.x ∧ Sm t.y) := by
        intro t ht
        rw [HTS.out, List.mem_append, List.mem_singleton] at ht
        rcases ht with ht | rfl
        · exact HP.out t ht
        · exact ⟨⟨by omega, by omega⟩, ⟨by omega, by omega⟩⟩
      clear hba
      go_wp2_with (at_builtin; refine wpList_appR elK rfl _ _ rfl _ K ca i cc (((L.take i).map knS).flatMap clK) (some ⟨wr.heap.size + 1, 0, none⟩) 1 1 ([knS s].flatMap clK) rfl rfl HOA.out rfl (.inr ⟨_, _, rfl, HLI.out⟩) clK_one (by have := HLT.out; have := HN1.out; omega) (by have := HLT.out; have := HN1.out; omega) HSA.out ?_; intro a8 c8 w8 ho8 hg8 hat8)
      have HO8 : Hid (w8.ownsRow K 59 3 (.slice a8 (i + 1) c8) (i + 1) (((L.take (i + 1)).map knS).flatMap clK)) := by
        rw [Hid, HTS.out, List.map_append, List.flatMap_append]; exact ho8
      have HB8 : Hid (Below w.heap.size w w8) := bel_grownA HBA.out (own_base HOA.out HSZ.out.1) hg8 HBA.out.size
      have HS8 : Hid (K ≤ w8.heap.size) := Nat.le_trans HSA.out hg8.size
      clear ho8 hg8 hat8 k0 k1 k2 k3 x0 x1
      go_wp2_with fail
      go_roundw
      case rel => exact ⟨i + 1, a8, c8, HLT.out, rfl, by first | rw [HX.out] | rfl, HO8, HP2, HB8, HS8⟩
      case measure => (try rw [HX.out]); have := HLT.out; simp only [intOf]; omega
    · have hlt' : ¬ (i : Int) < (n : Int) := by omega
      obtain rfl : n = i := by omega
      have HPP : Hid (ShP L d) := ⟨by rw [HN.out]; exact HN1.out.2, fun e => by have := HN1.out.1; have := HN.out; subst e; simp at this; omega, fun s hs => HP.out s (by rwa [List.take_of_length_le (by rw [HN.out]; exact Nat.le_refl _)]), HD.out⟩
      have HO2 : Hid (wr.ownsRow K 59 3 (.slice ca n cc) n ((L.map knS).flatMap clK)) := by have := HO.out; rwa [List.take_of_length_le (by rw [HN.out]; exact Nat.le_refl _)] at this
      obtain ⟨g1, rfl, _, _, hcc⟩ := own_some HO2.out HN1.out.1
      have HNW := Lib.hid (shnew_c HPP.out HN.out B (some ⟨g1, 0, none⟩) cc wr (own_isR (by simp [HN.out]) HO2.out) hcc)
      clear HO HP hlt HO2 hcc
      go_wp2_with fail
      refine HNW.out.mono ?_
      rintro e w3 ⟨b0, b1, b2, b3, b4, d0, d1, d2, d3, d4, rfl, ho, hb⟩
      have HZ := Lib.hid ((ho.base HB.out.size).below (bel_alloc (Below.refl w3.heap.size w3) (.cells #[.slice b0 n d0, .slice b1 n d1, .slice b2 n d2, .slice b3 n d3, .slice b4 1 d4] 31)))
      have HG := Lib.hid (gz_new w3 (.slice b0 n d0) (.slice b1 n d1) (.slice b2 n d2) (.slice b3 n d3) (.slice b4 1 d4))
      replace HB := Lib.hid (bel_alloc (bel_next HB.out hb) (.cells #[.slice b0 n d0, .slice b1 n d1, .slice b2 n d2, .slice b3 n d3, .slice b4 1 d4] 31))
      obtain ⟨Zb, HZb⟩ : ∃ g, Hid (w3.heap.size = g) := ⟨_, rfl⟩
      have HZL : Hid (w.heap.size ≤ Zb) := by rw [Hid, ← HZb.out]; have h1 := hb.size; exact Nat.le_trans (Nat.le_trans HSZ.out.1 HKS.out) h1
      rw [HZb.out] at HG
      clear ho hb HNW HKS
      go_upto_region 14 with (fail)
      rw [HZb.out]
      generalize (w3.alloc (.cells #[.slice b0 n d0, .slice b1 n d1, .slice b2 n d2, .slice b3 n d3, .slice b4 1 d4] 31)) = W3 at *
      go_wp2_with fail
      go_loopw [11, 76] (fun f x wr => ∃ (i : Nat) (b0 b1 b2 b3 b4 : Option Addr) (d0 d1 d2 d3 d4 : Nat), i ≤ n ∧ f = .bool (anyT B i) ∧ x = .int .i64 i ∧ Hid (GZ wr Zb (.slice b0 n d0) (.slice b1 n d1) (.slice b2 n d2) (.slice b3 n d3) (.slice b4 1 d4)) ∧ Hid (ZOwn wr w.heap.size (shZ L B d i) b0 b1 b2 b3 b4 d0 d1 d2 d3 d4) ∧ Hid (Below w.heap.size w wr)) (fun _ x _ => n - (intOf x).toNat)
      case atStart => exact ⟨0, _, _, _, _, _, _, _, _, _, _, Nat.zero_le _, rfl, rfl, HG, HZ, HB⟩
      case round =>
        clear HG HZ HB
        obtain ⟨i, b0, b1, b2, b3, b4, d0, d1, d2, d3, d4, hi, rfl, rfl, HG, HZ, HB⟩ := hrel
        by_cases hlt : i < n
        · have hlt' : (i : Int) < (n : Int) := by omega
          have hi0 : (0 : Int) ≤ (i : Int) := by omega
          obtain ⟨s, hs⟩ := get_of (show i < L.length by rw [HN.out]; exact hlt)
          have HLT := Lib.hid hlt
          have HX := Lib.hid (next64 (j := i) (by have := HN1.out; omega))
          have HLS := Lib.hid hs
          clear hs hi hlt
          have HSKIP : B.getD i false = false → ZOwn wr w.heap.size (shZ L B d (i + 1)) b0 b1 b2 b3 b4 d0 d1 d2 d3 d4 := fun hf => by rw [← sh_skip hf]; exact HZ.out
          have HSK := Lib.hid HSKIP
          clear HSKIP
          by_cases hbi : i < bn
          · have hbi' : (i : Int) < (bn : Int) := by omega
            obtain ⟨v, hv⟩ := get_of (show i < B.length by rw [HBN.out]; exact hbi)
            obtain ⟨fb, fo, rfl, k0⟩ := (HF.out.below HB.out).flag hv
            have hgd : B.getD i false = v := by rw [List.getD, hv]; rfl
            clear hbi hv
            cases v
            · have HE : Hid (anyT B (i + 1) = anyT B i) := by rw [Hid, anyT_succ, hgd, Bool.or_false]
              have HZ2 := Lib.hid (HSK.out hgd)
              clear hgd HSK HZ
              go_wp2_with fail
              go_roundw
              case rel => exact ⟨i + 1, b0, b1, b2, b3, b4, d0, d1, d2, d3, d4, HLT.out, by rw [HE.out], by first | rw [HX.out] | rfl, HG, HZ2, HB⟩
              case measure => (try rw [HX.out]); have := HLT.out; simp only [intOf]; omega
            · have HE : Hid (anyT B (i + 1) = true) := by rw [Hid, anyT_succ, hgd, Bool.or_true]
              have HPC : Hid (∀ V, ZIn V (shZ L B d i) b0 b1 b2 b3 b4 → Calls Try.prog 24 #[.agg #[.slice b0 n d0, .slice b1 n d1, .slice b2 n d2, .slice b3 n d3, .slice b4 1 d4], .int .i64 1, .int .i64 (i : Int), .int .i64 (s.y + d)] V fun e w' => ∃ e0 e1 e2 e3 e4 f0 f1 f2 f3 f4, e = .returned (.tuple #[.agg #[.slice e0 n f0, .slice e1 n f1, .slice e2 n f2, .slice e3 n f3, .slice e4 1 f4], .int .i64 0]) ∧ ZOwn w' V.heap.size (shZ L B d (i + 1)) e0 e1 e2 e3 e4 f0 f1 f2 f3 f4 ∧ Below V.heap.size V w') := fun V hz => shput_c HPP.out HN.out HLS.out hgd b0 b1 b2 b3 b4 d0 d1 d2 d3 d4 V hz
              have HSM := Lib.hid (HPP.out.pts s (List.mem_of_getElem? HLS.out)).2
              have HW : Hid (wrap64 (s.y + d) = s.y + d) := by have h1 := HSM.out; have h2 := HD.out; unfold Sm at h1 h2; unfold Hid wrap64; omega
              have HI := Lib.hid HZ.out.isIn
              clear hgd HSK HZ
              go_wp2_with fail
              obtain ⟨lb, lo, rfl, x0, x1⟩ := (HL.out.below HB.out).spot HLS.out
              have HX1 := Lib.hid x1
              have HLBW : Hid (lb < w.heap.size) := by
                obtain ⟨b', o', e, x0', _⟩ := HL.out.spot HLS.out
                cases e
                exact World.block_lt_of_cell? w _ x0'
              clear k0 x0 x1
              replace HG := Lib.hid (HG.out.below (Below.refl _ _).drew)
              replace HI := Lib.hid (HI.out.below (Below.refl _ _).drew)
              replace HX1 := Lib.hid (keepC (Below.refl _ _).drew HX1.out)
              replace HB := Lib.hid HB.out.drew
              have hwk : IntKind.i64.wrap (s.y + d) = s.y + d := IntWalk.i64_in _ (by have h1 := HSM.out; have h2 := HD.out; unfold Sm at h1 h2; omega)
              refine wp_region_held_drew (S := fun V => V.cell? ⟨Zb, 0, none⟩ = some (.slice b0 n d0) ∧ V.cell? ⟨Zb, 1, none⟩ = some (.slice b1 n d1) ∧ V.cell? ⟨Zb, 2, none⟩ = some (.slice b2 n d2) ∧ V.cell? ⟨Zb, 3, none⟩ = some (.slice b3 n d3) ∧ V.cell? ⟨Zb, 4, none⟩ = some (.slice b4 1 d4) ∧ V.cell? ⟨lb, lo + i * 2 + 1, none⟩ = some (.int .i64 s.y)) (by kernel_rfl) ⟨HG.out.b.c0, HG.out.b.c1, HG.out.b.c2, HG.out.b.c3, HG.out.b.c4, HX1.out⟩ (fun hH => ?_)
              refine wpAnyH_take (i := 0) (v := (.agg #[.slice b0 n d0, .slice b1 n d1, .slice b2 n d2, .slice b3 n d3, .slice b4 1 d4])) rfl (by kernel_rfl) (by kernel_rfl) (by kernel_rfl) (fun _ _ _ h => h) (Or.inl ⟨by rfl, fun V hV => by obtain ⟨h0, h1, h2, h3, h4, h5⟩ := hV; go_simp⟩) hH ?_
              try simp only [List.getElem_toArray, List.getElem_cons_succ, List.getElem_cons_zero, Act.put, List.setIfInBounds_toArray, List.set_cons_zero, List.set_cons_succ]
              refine wpAnyH_take (i := 1) (v := (.int .i64 (i : Int))) rfl (by kernel_rfl) (by kernel_rfl) (by kernel_rfl) (fun _ _ _ h => h) (Or.inl ⟨by rfl, fun V hV => by obtain ⟨h0, h1, h2, h3, h4, h5⟩ := hV; go_simp⟩) hH ?_
              try simp only [List.getElem_toArray, List.getElem_cons_succ, List.getElem_cons_zero, Act.put, List.setIfInBounds_toArray, List.set_cons_zero, List.set_cons_succ]
              refine wpAnyH_take (i := 2) (v := (.slice (some ⟨lb, lo, none⟩) n lc)) rfl (by kernel_rfl) (by kernel_rfl) (by kernel_rfl) (fun _ _ _ h => h) (Or.inl ⟨by rfl, fun V hV => by obtain ⟨h0, h1, h2, h3, h4, h5⟩ := hV; go_simp⟩) hH ?_
              try simp only [List.getElem_toArray, List.getElem_cons_succ, List.getElem_cons_zero, Act.put, List.setIfInBounds_toArray, List.set_cons_zero, List.set_cons_succ]
              refine wpAnyH_take (i := 3) (v := (.int .i64 (i : Int))) rfl (by kernel_rfl) (by kernel_rfl) (by kernel_rfl) (fun _ _ _ h => h) (Or.inl ⟨by rfl, fun V hV => by obtain ⟨h0, h1, h2, h3, h4, h5⟩ := hV; go_simp⟩) hH ?_
              try simp only [List.getElem_toArray, List.getElem_cons_succ, List.getElem_cons_zero, Act.put, List.setIfInBounds_toArray, List.set_cons_zero, List.set_cons_succ]
              refine wpAnyH_take (i := 4) (v := (.pointer (some ⟨lb, lo + i * 2, none⟩))) rfl (by kernel_rfl) (by kernel_rfl) (by kernel_rfl) (fun _ _ _ h => h) (Or.inl ⟨by rfl, fun V hV => by obtain ⟨h0, h1, h2, h3, h4, h5⟩ := hV; go_simp⟩) hH ?_
              try simp only [List.getElem_toArray, List.getElem_cons_succ, List.getElem_cons_zero, Act.put, List.setIfInBounds_toArray, List.set_cons_zero, List.set_cons_succ]
              refine wpAnyH_take (i := 5) (v := (.pointer (some ⟨lb, lo + i * 2 + 1, none⟩))) rfl (by kernel_rfl) (by kernel_rfl) (by kernel_rfl) (fun _ _ _ h => h) (Or.inl ⟨by rfl, fun V hV => by obtain ⟨h0, h1, h2, h3, h4, h5⟩ := hV; go_simp⟩) hH ?_
              try simp only [List.getElem_toArray, List.getElem_cons_succ, List.getElem_cons_zero, Act.put, List.setIfInBounds_toArray, List.set_cons_zero, List.set_cons_succ]
              refine wpAnyH_take (i := 6) (v := (.int .i64 s.y)) rfl (by kernel_rfl) (by kernel_rfl) (by kernel_rfl) (fun _ _ _ h => h) (Or.inl ⟨by rfl, fun V hV => by obtain ⟨h0, h1, h2, h3, h4, h5⟩ := hV; go_simp⟩) hH ?_
              try simp only [List.getElem_toArray, List.getElem_cons_succ, List.getElem_cons_zero, Act.put, List.setIfInBounds_toArray, List.set_cons_zero, List.set_cons_succ]
              refine wpAnyH_take (i := 7) (v := (.int .i64 d)) rfl (by kernel_rfl) (by kernel_rfl) (by kernel_rfl) (fun _ _ _ h => h) (Or.inl ⟨by rfl, fun V hV => by obtain ⟨h0, h1, h2, h3, h4, h5⟩ := hV; go_simp⟩) hH ?_
              try simp only [List.getElem_toArray, List.getElem_cons_succ, List.getElem_cons_zero, Act.put, List.setIfInBounds_toArray, List.set_cons_zero, List.set_cons_succ]
              refine wpAnyH_take (i := 8) (v := (.int .i64 (s.y + d))) rfl (by kernel_rfl) (by kernel_rfl) (by kernel_rfl) (fun _ _ _ h => h) (Or.inl ⟨by rfl, fun V hV => by obtain ⟨h0, h1, h2, h3, h4, h5⟩ := hV; go_simp; try rw [hwk]⟩) hH ?_
              try simp only [List.getElem_toArray, List.getElem_cons_succ, List.getElem_cons_zero, Act.put, List.setIfInBounds_toArray, List.set_cons_zero, List.set_cons_succ]
              generalize wr.drew = v0 at *
              refine wpAnyH_ready (rs := [9, 13]) (by kernel_rfl) (by simp) ?_
              refine AllReadyH.cons rfl (fun K hK => ?_) ?_
              · go_simp
                refine (HPC.out _ HI.out).mono ?_
                rintro e v1 ⟨e0, e1, e2, e3, e4, f0, f1, f2, f3, f4, rfl, ho, hb⟩
                have HZ := Lib.hid (ho.base HB.out.size)
                replace HG := Lib.hid (HG.out.below hb)
                replace HX1 := Lib.hid (keepC hb HX1.out)
                replace HB := Lib.hid (bel_next HB.out hb)
                clear ho hb HI
                refine hK.out _ _ ⟨HG.out.b.c0, HG.out.b.c1, HG.out.b.c2, HG.out.b.c3, HG.out.b.c4, HX1.out⟩ (fun hH => ?_)
                clear hK K
                try simp only [List.getElem_toArray, List.getElem_cons_succ, List.getElem_cons_zero, Act.put, List.setIfInBounds_toArray, List.set_cons_zero, List.set_cons_succ]
                refine wpAnyH_take (i := 10) (v := (.tuple #[.agg #[.slice e0 n f0, .slice e1 n f1, .slice e2 n f2, .slice e3 n f3, .slice e4 1 f4], .int .i64 0])) rfl (by kernel_rfl) (by kernel_rfl) (by kernel_rfl) (fun _ _ _ h => h) (Or.inl ⟨by rfl, fun V hV => by obtain ⟨h0, h1, h2, h3, h4, h5⟩ := hV; go_simp⟩) hH ?_
                try simp only [List.getElem_toArray, List.getElem_cons_succ, List.getElem_cons_zero, Act.put, List.setIfInBounds_toArray, List.set_cons_zero, List.set_cons_succ]
                refine wpAnyH_take (i := 11) (v := (.agg #[.slice e0 n f0, .slice e1 n f1, .slice e2 n f2, .slice e3 n f3, .slice e4 1 f4])) rfl (by kernel_rfl) (by kernel_rfl) (by kernel_rfl) (fun _ _ _ h => h) (Or.inl ⟨by rfl, fun V hV => by obtain ⟨h0, h1, h2, h3, h4, h5⟩ := hV; go_simp⟩) hH ?_
                try simp only [List.getElem_toArray, List.getElem_cons_succ, List.getElem_cons_zero, Act.put, List.setIfInBounds_toArray, List.set_cons_zero, List.set_cons_succ]
                refine wpAnyH_take (i := 12) (v := (.int .i64 0)) rfl (by kernel_rfl) (by kernel_rfl) (by kernel_rfl) (fun _ _ _ h => h) (Or.inl ⟨by rfl, fun V hV => by obtain ⟨h0, h1, h2, h3, h4, h5⟩ := hV; go_simp⟩) hH ?_
                try simp only [List.getElem_toArray, List.getElem_cons_succ, List.getElem_cons_zero, Act.put, List.setIfInBounds_toArray, List.set_cons_zero, List.set_cons_succ]
                refine wpAnyH_ready (rs := [13]) (by kernel_rfl) (by simp) ?_
                refine AllReadyH.cons rfl (fun K hK => ?_) AllReadyH.nil
                go_simp
                have hb : Below v1.heap.size v1 (v1.alloc (.cells #[.slice none 0 0, .slice none 0 0, .slice none 0 0, .slice none 0 0, .slice none 0 0] 31)) := (Below.refl _ _).alloc (Nat.le_refl _) _
                have HY := Lib.hid (gz_new v1 (.slice none 0 0) (.slice none 0 0) (.slice none 0 0) (.slice none 0 0) (.slice none 0 0))
                have HNE : Hid (v1.heap.size ≠ Zb ∧ w.heap.size ≤ v1.heap.size) := ⟨fun e => by obtain ⟨cs, fr, hh⟩ := HG.out.t; have := (Array.getElem?_eq_some_iff.1 hh).1; omega, HB.out.size⟩
                replace HG := Lib.hid (HG.out.below hb)
                replace HZ := Lib.hid (HZ.out.below hb)
                replace HX1 := Lib.hid (keepC hb HX1.out)
                replace HB := Lib.hid (bel_next HB.out hb)
                clear hb
                refine hK.out _ _ ⟨HG.out.b.c0, HG.out.b.c1, HG.out.b.c2, HG.out.b.c3, HG.out.b.c4, HX1.out⟩ (fun hH => ?_)
                clear hK K
                try simp only [List.getElem_toArray, List.getElem_cons_succ, List.getElem_cons_zero, Act.put, List.setIfInBounds_toArray, List.set_cons_zero, List.set_cons_succ]
                generalize (v1.alloc (.cells #[.slice none 0 0, .slice none 0 0, .slice none 0 0, .slice none 0 0, .slice none 0 0] 31)) = v2 at *
                generalize v1.heap.size = Y at *
                have y0 := HY.out.b.c0
                have q0 := HY.out.f.f0
                have y1 := HY.out.b.c1
                have q1 := HY.out.f.f1
                have y2 := HY.out.b.c2
                have q2 := HY.out.f.f2
                have y3 := HY.out.b.c3
                have q3 := HY.out.f.f3
                have y4 := HY.out.b.c4
                have q4 := HY.out.f.f4
                refine wpAnyH_ready (rs := [14]) (by kernel_rfl) (by simp) ?_
                refine AllReadyH.cons rfl (fun K hK => ?_) AllReadyH.nil
                go_simp
                have hYl : Y ≠ lb := by have h1 := HNE.out.2; have h2 := HLBW.out; omega
                replace HG := Lib.hid (HG.out.set (b := Y) 0 (.slice e0 n f0) HNE.out.1)
                replace HZ := Lib.hid (HZ.out.setZone HY.out.t 0 (.slice e0 n f0))
                replace HB := Lib.hid (bel_set HB.out (b := Y) (o := 0) HNE.out.2 (.slice e0 n f0))
                replace HX1 := Lib.hid ((keepS (o := 0) (u := .slice e0 n f0) hYl).trans HX1.out)
                replace HY := Lib.hid (HY.out.put0 (.slice e0 n f0))
                replace HG := Lib.hid (HG.out.set (b := Y) 1 (.slice e1 n f1) HNE.out.1)
                replace HZ := Lib.hid (HZ.out.setZone HY.out.t 1 (.slice e1 n f1))
                replace HB := Lib.hid (bel_set HB.out (b := Y) (o := 1) HNE.out.2 (.slice e1 n f1))
                replace HX1 := Lib.hid ((keepS (o := 1) (u := .slice e1 n f1) hYl).trans HX1.out)
                replace HY := Lib.hid (HY.out.put1 (.slice e1 n f1))
                replace HG := Lib.hid (HG.out.set (b := Y) 2 (.slice e2 n f2) HNE.out.1)
                replace HZ := Lib.hid (HZ.out.setZone HY.out.t 2 (.slice e2 n f2))
                replace HB := Lib.hid (bel_set HB.out (b := Y) (o := 2) HNE.out.2 (.slice e2 n f2))
                replace HX1 := Lib.hid ((keepS (o := 2) (u := .slice e2 n f2) hYl).trans HX1.out)
                replace HY := Lib.hid (HY.out.put2 (.slice e2 n f2))
                replace HG := Lib.hid (HG.out.set (b := Y) 3 (.slice e3 n f3) HNE.out.1)
                replace HZ := Lib.hid (HZ.out.setZone HY.out.t 3 (.slice e3 n f3))
                replace HB := Lib.hid (bel_set HB.out (b := Y) (o := 3) HNE.out.2 (.slice e3 n f3))
                replace HX1 := Lib.hid ((keepS (o := 3) (u := .slice e3 n f3) hYl).trans HX1.out)
                replace HY := Lib.hid (HY.out.put3 (.slice e3 n f3))
                replace HG := Lib.hid (HG.out.set (b := Y) 4 (.slice e4 1 f4) HNE.out.1)
                replace HZ := Lib.hid (HZ.out.setZone HY.out.t 4 (.slice e4 1 f4))
                replace HB := Lib.hid (bel_set HB.out (b := Y) (o := 4) HNE.out.2 (.slice e4 1 f4))
                replace HX1 := Lib.hid ((keepS (o := 4) (u := .slice e4 1 f4) hYl).trans HX1.out)
                replace HY := Lib.hid (HY.out.put4 (.slice e4 1 f4))
                clear y0 q0 y1 q1 y2 q2 y3 q3 y4 q4
                refine hK.out _ _ ⟨HG.out.b.c0, HG.out.b.c1, HG.out.b.c2, HG.out.b.c3, HG.out.b.c4, HX1.out⟩ (fun hH => ?_)
                clear hK K
                try simp only [List.getElem_toArray, List.getElem_cons_succ, List.getElem_cons_zero, Act.put, List.setIfInBounds_toArray, List.set_cons_zero, List.set_cons_succ]
                refine wpAnyH_ready (rs := [15]) (by kernel_rfl) (by simp) ?_
                refine AllReadyH.cons rfl (fun K hK => ?_) AllReadyH.nil
                go_simp
                refine hK.out _ _ ⟨HG.out.b.c0, HG.out.b.c1, HG.out.b.c2, HG.out.b.c3, HG.out.b.c4, HX1.out⟩ (fun hH => ?_)
                clear hK K
                try simp only [List.getElem_toArray, List.getElem_cons_succ, List.getElem_cons_zero, Act.put, List.setIfInBounds_toArray, List.set_cons_zero, List.set_cons_succ]
                refine wpAnyH_done (by kernel_rfl) ?_ _
                clear hH HX1 hYl
                have y0 := HY.out.b.c0
                have z0 := HG.out.b.c0
                have q0 := HG.out.f.f0
                have y1 := HY.out.b.c1
                have z1 := HG.out.b.c1
                have q1 := HG.out.f.f1
                have y2 := HY.out.b.c2
                have z2 := HG.out.b.c2
                have q2 := HG.out.f.f2
                have y3 := HY.out.b.c3
                have z3 := HG.out.b.c3
                have q3 := HG.out.f.f3
                have y4 := HY.out.b.c4
                have z4 := HG.out.b.c4
                have q4 := HG.out.f.f4
                go_wp2_with fail
                replace HZ := Lib.hid (HZ.out.setZone HG.out.t 0 (.slice e0 n f0))
                replace HB := Lib.hid (bel_set HB.out (b := Zb) (o := 0) HZL.out (.slice e0 n f0))
                replace HG := Lib.hid (HG.out.put0 (.slice e0 n f0))
                replace HZ := Lib.hid (HZ.out.setZone HG.out.t 1 (.slice e1 n f1))
                replace HB := Lib.hid (bel_set HB.out (b := Zb) (o := 1) HZL.out (.slice e1 n f1))
                replace HG := Lib.hid (HG.out.put1 (.slice e1 n f1))
                replace HZ := Lib.hid (HZ.out.setZone HG.out.t 2 (.slice e2 n f2))
                replace HB := Lib.hid (bel_set HB.out (b := Zb) (o := 2) HZL.out (.slice e2 n f2))
                replace HG := Lib.hid (HG.out.put2 (.slice e2 n f2))
                replace HZ := Lib.hid (HZ.out.setZone HG.out.t 3 (.slice e3 n f3))
                replace HB := Lib.hid (bel_set HB.out (b := Zb) (o := 3) HZL.out (.slice e3 n f3))
                replace HG := Lib.hid (HG.out.put3 (.slice e3 n f3))
                replace HZ := Lib.hid (HZ.out.setZone HG.out.t 4 (.slice e4 1 f4))
                replace HB := Lib.hid (bel_set HB.out (b := Zb) (o := 4) HZL.out (.slice e4 1 f4))
                replace HG := Lib.hid (HG.out.put4 (.slice e4 1 f4))
                go_roundw
                case rel => exact ⟨i + 1, e0, e1, e2, e3, e4, f0, f1, f2, f3, f4, HLT.out, by rw [HE.out], by first | rw [HX.out] | rfl, HG, HZ, HB⟩
                case measure => (try rw [HX.out]); have := HLT.out; simp only [intOf]; omega
              refine AllReadyH.cons rfl (fun K hK => ?_) AllReadyH.nil
              go_simp
              have hb : Below v0.heap.size v0 (v0.alloc (.cells #[.slice none 0 0, .slice none 0 0, .slice none 0 0, .slice none 0 0, .slice none 0 0] 31)) := (Below.refl _ _).alloc (Nat.le_refl _) _
              have HY := Lib.hid (gz_new v0 (.slice none 0 0) (.slice none 0 0) (.slice none 0 0) (.slice none 0 0) (.slice none 0 0))
              have HNE : Hid (v0.heap.size ≠ Zb ∧ w.heap.size ≤ v0.heap.size) := ⟨fun e => by obtain ⟨cs, fr, hh⟩ := HG.out.t; have := (Array.getElem?_eq_some_iff.1 hh).1; omega, HB.out.size⟩
              replace HG := Lib.hid (HG.out.below hb)
              replace HI := Lib.hid (HI.out.below hb)
              replace HX1 := Lib.hid (keepC hb HX1.out)
              replace HB := Lib.hid (bel_next HB.out hb)
              clear hb
              refine hK.out _ _ ⟨HG.out.b.c0, HG.out.b.c1, HG.out.b.c2, HG.out.b.c3, HG.out.b.c4, HX1.out⟩ (fun hH => ?_)
              clear hK K
              try simp only [List.getElem_toArray, List.getElem_cons_succ, List.getElem_cons_zero, Act.put, List.setIfInBounds_toArray, List.set_cons_zero, List.set_cons_succ]
              generalize (v0.alloc (.cells #[.slice none 0 0, .slice none 0 0, .slice none 0 0, .slice none 0 0, .slice none 0 0] 31)) = v2 at *
              generalize v0.heap.size = Y at *
              refine wpAnyH_ready (rs := [9]) (by kernel_rfl) (by simp) ?_
              refine AllReadyH.cons rfl (fun K hK => ?_) AllReadyH.nil
              go_simp
              refine (HPC.out _ HI.out).mono ?_
              rintro e v1 ⟨e0, e1, e2, e3, e4, f0, f1, f2, f3, f4, rfl, ho, hb⟩
              have HZ := Lib.hid (ho.base HB.out.size)
              replace HG := Lib.hid (HG.out.below hb)
              replace HX1 := Lib.hid (keepC hb HX1.out)
              replace HY := Lib.hid (HY.out.below hb)
              replace HB := Lib.hid (bel_next HB.out hb)
              clear ho hb HI
              refine hK.out _ _ ⟨HG.out.b.c0, HG.out.b.c1, HG.out.b.c2, HG.out.b.c3, HG.out.b.c4, HX1.out⟩ (fun hH => ?_)
              clear hK K
              try simp only [List.getElem_toArray, List.getElem_cons_succ, List.getElem_cons_zero, Act.put, List.setIfInBounds_toArray, List.set_cons_zero, List.set_cons_succ]
              refine wpAnyH_take (i := 10) (v := (.tuple #[.agg #[.slice e0 n f0, .slice e1 n f1, .slice e2 n f2, .slice e3 n f3, .slice e4 1 f4], .int .i64 0])) rfl (by kernel_rfl) (by kernel_rfl) (by kernel_rfl) (fun _ _ _ h => h) (Or.inl ⟨by rfl, fun V hV => by obtain ⟨h0, h1, h2, h3, h4, h5⟩ := hV; go_simp⟩) hH ?_
              try simp only [List.getElem_toArray, List.getElem_cons_succ, List.getElem_cons_zero, Act.put, List.setIfInBounds_toArray, List.set_cons_zero, List.set_cons_succ]
              refine wpAnyH_take (i := 11) (v := (.agg #[.slice e0 n f0, .slice e1 n f1, .slice e2 n f2, .slice e3 n f3, .slice e4 1 f4])) rfl (by kernel_rfl) (by kernel_rfl) (by kernel_rfl) (fun _ _ _ h => h) (Or.inl ⟨by rfl, fun V hV => by obtain ⟨h0, h1, h2, h3, h4, h5⟩ := hV; go_simp⟩) hH ?_
              try simp only [List.getElem_toArray, List.getElem_cons_succ, List.getElem_cons_zero, Act.put, List.setIfInBounds_toArray, List.set_cons_zero, List.set_cons_succ]
              refine wpAnyH_take (i := 12) (v := (.int .i64 0)) rfl (by kernel_rfl) (by kernel_rfl) (by kernel_rfl) (fun _ _ _ h => h) (Or.inl ⟨by rfl, fun V hV => by obtain ⟨h0, h1, h2, h3, h4, h5⟩ := hV; go_simp⟩) hH ?_
              try simp only [List.getElem_toArray, List.getElem_cons_succ, List.getElem_cons_zero, Act.put, List.setIfInBounds_toArray, List.set_cons_zero, List.set_cons_succ]
              have y0 := HY.out.b.c0
              have q0 := HY.out.f.f0
              have y1 := HY.out.b.c1
              have q1 := HY.out.f.f1
              have y2 := HY.out.b.c2
              have q2 := HY.out.f.f2
              have y3 := HY.out.b.c3
              have q3 := HY.out.f.f3
              have y4 := HY.out.b.c4
              have q4 := HY.out.f.f4
              refine wpAnyH_ready (rs := [14]) (by kernel_rfl) (by simp) ?_
              refine AllReadyH.cons rfl (fun K hK => ?_) AllReadyH.nil
              go_simp
              have hYl : Y ≠ lb := by have h1 := HNE.out.2; have h2 := HLBW.out; omega
              replace HG := Lib.hid (HG.out.set (b := Y) 0 (.slice e0 n f0) HNE.out.1)
              replace HZ := Lib.hid (HZ.out.setZone HY.out.t 0 (.slice e0 n f0))
              replace HB := Lib.hid (bel_set HB.out (b := Y) (o := 0) HNE.out.2 (.slice e0 n f0))
              replace HX1 := Lib.hid ((keepS (o := 0) (u := .slice e0 n f0) hYl).trans HX1.out)
              replace HY := Lib.hid (HY.out.put0 (.slice e0 n f0))
              replace HG := Lib.hid (HG.out.set (b := Y) 1 (.slice e1 n f1) HNE.out.1)
              replace HZ := Lib.hid (HZ.out.setZone HY.out.t 1 (.slice e1 n f1))
              replace HB := Lib.hid (bel_set HB.out (b := Y) (o := 1) HNE.out.2 (.slice e1 n f1))
              replace HX1 := Lib.hid ((keepS (o := 1) (u := .slice e1 n f1) hYl).trans HX1.out)
              replace HY := Lib.hid (HY.out.put1 (.slice e1 n f1))
              replace HG := Lib.hid (HG.out.set (b := Y) 2 (.slice e2 n f2) HNE.out.1)
              replace HZ := Lib.hid (HZ.out.setZone HY.out.t 2 (.slice e2 n f2))
              replace HB := Lib.hid (bel_set HB.out (b := Y) (o := 2) HNE.out.2 (.slice e2 n f2))
              replace HX1 := Lib.hid ((keepS (o := 2) (u := .slice e2 n f2) hYl).trans HX1.out)
              replace HY := Lib.hid (HY.out.put2 (.slice e2 n f2))
              replace HG := Lib.hid (HG.out.set (b := Y) 3 (.slice e3 n f3) HNE.out.1)
              replace HZ := Lib.hid (HZ.out.setZone HY.out.t 3 (.slice e3 n f3))
              replace HB := Lib.hid (bel_set HB.out (b := Y) (o := 3) HNE.out.2 (.slice e3 n f3))
              replace HX1 := Lib.hid ((keepS (o := 3) (u := .slice e3 n f3) hYl).trans HX1.out)
              replace HY := Lib.hid (HY.out.put3 (.slice e3 n f3))
              replace HG := Lib.hid (HG.out.set (b := Y) 4 (.slice e4 1 f4) HNE.out.1)
              replace HZ := Lib.hid (HZ.out.setZone HY.out.t 4 (.slice e4 1 f4))
              replace HB := Lib.hid (bel_set HB.out (b := Y) (o := 4) HNE.out.2 (.slice e4 1 f4))
              replace HX1 := Lib.hid ((keepS (o := 4) (u := .slice e4 1 f4) hYl).trans HX1.out)
              replace HY := Lib.hid (HY.out.put4 (.slice e4 1 f4))
              clear y0 q0 y1 q1 y2 q2 y3 q3 y4 q4
              refine hK.out _ _ ⟨HG.out.b.c0, HG.out.b.c1, HG.out.b.c2, HG.out.b.c3, HG.out.b.c4, HX1.out⟩ (fun hH => ?_)
              clear hK K
              try simp only [List.getElem_toArray, List.getElem_cons_succ, List.getElem_cons_zero, Act.put, List.setIfInBounds_toArray, List.set_cons_zero, List.set_cons_succ]
              refine wpAnyH_ready (rs := [15]) (by kernel_rfl) (by simp) ?_
              refine AllReadyH.cons rfl (fun K hK => ?_) AllReadyH.nil
              go_simp
              refine hK.out _ _ ⟨HG.out.b.c0, HG.out.b.c1, HG.out.b.c2, HG.out.b.c3, HG.out.b.c4, HX1.out⟩ (fun hH => ?_)
              clear hK K
              try simp only [List.getElem_toArray, List.getElem_cons_succ, List.getElem_cons_zero, Act.put, List.setIfInBounds_toArray, List.set_cons_zero, List.set_cons_succ]
              refine wpAnyH_done (by kernel_rfl) ?_ _
              clear hH HX1 hYl
              have y0 := HY.out.b.c0
              have z0 := HG.out.b.c0
              have q0 := HG.out.f.f0
              have y1 := HY.out.b.c1
              have z1 := HG.out.b.c1
              have q1 := HG.out.f.f1
              have y2 := HY.out.b.c2
              have z2 := HG.out.b.c2
              have q2 := HG.out.f.f2
              have y3 := HY.out.b.c3
              have z3 := HG.out.b.c3
              have q3 := HG.out.f.f3
              have y4 := HY.out.b.c4
              have z4 := HG.out.b.c4
              have q4 := HG.out.f.f4
              go_wp2_with fail
              replace HZ := Lib.hid (HZ.out.setZone HG.out.t 0 (.slice e0 n f0))
              replace HB := Lib.hid (bel_set HB.out (b := Zb) (o := 0) HZL.out (.slice e0 n f0))
              replace HG := Lib.hid (HG.out.put0 (.slice e0 n f0))
              replace HZ := Lib.hid (HZ.out.setZone HG.out.t 1 (.slice e1 n f1))
              replace HB := Lib.hid (bel_set HB.out (b := Zb) (o := 1) HZL.out (.slice e1 n f1))
              replace HG := Lib.hid (HG.out.put1 (.slice e1 n f1))
              replace HZ := Lib.hid (HZ.out.setZone HG.out.t 2 (.slice e2 n f2))
              replace HB := Lib.hid (bel_set HB.out (b := Zb) (o := 2) HZL.out (.slice e2 n f2))
              replace HG := Lib.hid (HG.out.put2 (.slice e2 n f2))
              replace HZ := Lib.hid (HZ.out.setZone HG.out.t 3 (.slice e3 n f3))
              replace HB := Lib.hid (bel_set HB.out (b := Zb) (o := 3) HZL.out (.slice e3 n f3))
              replace HG := Lib.hid (HG.out.put3 (.slice e3 n f3))
              replace HZ := Lib.hid (HZ.out.setZone HG.out.t 4 (.slice e4 1 f4))
              replace HB := Lib.hid (bel_set HB.out (b := Zb) (o := 4) HZL.out (.slice e4 1 f4))
              replace HG := Lib.hid (HG.out.put4 (.slice e4 1 f4))
              go_roundw
              case rel => exact ⟨i + 1, e0, e1, e2, e3, e4, f0, f1, f2, f3, f4, HLT.out, by rw [HE.out], by first | rw [HX.out] | rfl, HG, HZ, HB⟩
              case measure => (try rw [HX.out]); have := HLT.out; simp only [intOf]; omega
          · have hbi' : ¬ (i : Int) < (bn : Int) := by omega
            have hgd : B.getD i false = false := by rw [List.getD, List.getElem?_eq_none (by rw [HBN.out]; omega)]; rfl
            have HE : Hid (anyT B (i + 1) = anyT B i) := by rw [Hid, anyT_succ, hgd, Bool.or_false]
            have HZ2 := Lib.hid (HSK.out hgd)
            clear hgd HSK HZ hbi
            go_wp2_with fail
            go_roundw
            case rel => exact ⟨i + 1, b0, b1, b2, b3, b4, d0, d1, d2, d3, d4, HLT.out, by rw [HE.out], by first | rw [HX.out] | rfl, HG, HZ2, HB⟩
            case measure => (try rw [HX.out]); have := HLT.out; simp only [intOf]; omega
        · have hlt' : ¬ (i : Int) < (n : Int) := by omega
          obtain rfl : n = i := by omega
          clear hlt
          obtain ⟨S, hS, hSl, hSat⟩ := sh_smooth (T := B) HPP.out
          rw [HN.out] at hS hSl hSat
          have HSC := Lib.hid (fun V hz => shsmooth_c HPP.out HN.out hS hSl b0 b1 b2 b3 b4 d0 d1 d2 d3 d4 V hz)
          have HSA := Lib.hid hSat
          obtain ⟨av, HAV⟩ : ∃ av, Hid (anyT B n = av) := ⟨_, rfl⟩
          rw [HAV.out] at HSA ⊢
          have z0 := HG.out.b.c0
          have z1 := HG.out.b.c1
          have z2 := HG.out.b.c2
          have z3 := HG.out.b.c3
          have z4 := HG.out.b.c4
          clear hS hSl hSat
          go_wp2_with fail
          refine (HSC.out _ HZ.out.isIn).mono ?_
          rintro e w4 ⟨e0, e1, e2, e3, e4, f0, f1, f2, f3, f4, m0, m2, m3, m4, rfl, hr, hb⟩
          have HR := Lib.hid (hr.below (bel_alloc (Below.refl w4.heap.size w4) (.cells #[.slice e0 m0 f0, .slice e1 n f1, .slice e2 m2 f2, .slice e3 m3 f3, .slice e4 m4 f4] 31)))
          have HY := Lib.hid (bxW_new w4 (.slice e0 m0 f0) (.slice e1 n f1) (.slice e2 m2 f2) (.slice e3 m3 f3) (.slice e4 m4 f4))
          replace HB := Lib.hid (bel_alloc (bel_next HB.out hb) (.cells #[.slice e0 m0 f0, .slice e1 n f1, .slice e2 m2 f2, .slice e3 m3 f3, .slice e4 m4 f4] 31))
          obtain ⟨Sb, HSb⟩ : ∃ g, Hid (w4.heap.size = g) := ⟨_, rfl⟩
          rw [HSb.out] at HY
          clear hr hb z0 z1 z2 z3 z4 HSC HZ HG
          go_upto_region 26 with (fail)
          rw [HSb.out]
          generalize (w4.alloc (.cells #[.slice e0 m0 f0, .slice e1 n f1, .slice e2 m2 f2, .slice e3 m3 f3, .slice e4 m4 f4] 31)) = W4 at *
          have u1 := HY.out.c1
          go_wp2_with fail
          clear u1
          go_loopw [123] (fun x wr => ∃ i : Nat, i ≤ n ∧ x = .int .i64 i ∧ Hid (BxW wr Sb (.slice e0 m0 f0) (.slice e1 n f1) (.slice e2 m2 f2) (.slice e3 m3 f3) (.slice e4 m4 f4)) ∧ Hid (IsR clS wr e1 S.cur) ∧ Hid (Below w.heap.size w wr)) (fun x _ => n - (intOf x).toNat)
          case atStart => exact ⟨0, Nat.zero_le _, rfl, HY, HR, HB⟩
          case round =>
            clear HY HR HB
            obtain ⟨i, hi, rfl, HY, HR, HB⟩ := hrel
            by_cases hlt : i < n
            · have hlt' : (i : Int) < (n : Int) := by omega
              have hi0 : (0 : Int) ≤ (i : Int) := by omega
              obtain ⟨s, hs⟩ := get_of (show i < L.length by rw [HN.out]; exact hlt)
              have hr := HSA.out i s hs
              have HSM := Lib.hid (HPP.out.pts s (List.mem_of_getElem? hs)).2
              have hwk : IntKind.i64.wrap (s.y + d) = s.y + d := IntWalk.i64_in _ (by have h1 := HSM.out; have h2 := HD.out; unfold Sm at h1 h2; omega)
              obtain ⟨lb, lo, rfl, x0, x1⟩ := (HL.out.below HB.out).spot hs
              obtain ⟨sb, so, rfl, y0, y1⟩ := HR.out.spot hr
              have u1 := HY.out.c1
              have HLT := Lib.hid hlt
              have HX := Lib.hid (next64 (j := i) (by have := HN1.out; omega))
              have C0 := Lib.hid x0
              have D0 := Lib.hid y0
              have D1 := Lib.hid y1
              have U1 := Lib.hid u1
              clear hs hr hlt hi y0 y1 u1 x0
              cases av
              all_goals
                simp only [Bool.false_eq_true, if_false, if_true] at D0 D1
                go_wp2_with fail
                try rw [hwk]
                replace HY := Lib.hid (HY.out.below (Below.refl _ _).drew)
                replace HR := Lib.hid (HR.out.below (Below.refl _ _).drew)
                replace HB := Lib.hid HB.out.drew
                replace C0 := Lib.hid (keepC (Below.refl _ _).drew C0.out)
                replace D0 := Lib.hid (keepC (Below.refl _ _).drew D0.out)
                replace D1 := Lib.hid (keepC (Below.refl _ _).drew D1.out)
                replace U1 := Lib.hid (keepC (Below.refl _ _).drew U1.out)
                first
                  | go_region_held3 (fun V => V.cell? ⟨Sb, 1, none⟩ = some (.slice (some ⟨sb, so, none⟩) n f1) ∧ V.cell? ⟨sb, so + i * 2, none⟩ = some (.int .i64 s.x) ∧ V.cell? ⟨sb, so + i * 2 + 1, none⟩ = some (.int .i64 s.y) ∧ V.cell? ⟨lb, lo + i * 2, none⟩ = some (.int .i64 s.x)) (with_reducible exact ⟨U1.out, D0.out, D1.out, C0.out⟩) (fail)
                  | go_region_held3 (fun V => V.cell? ⟨Sb, 1, none⟩ = some (.slice (some ⟨sb, so, none⟩) n f1) ∧ V.cell? ⟨sb, so + i * 2, none⟩ = some (.int .i64 s.x) ∧ V.cell? ⟨sb, so + i * 2 + 1, none⟩ = some (.int .i64 (s.y + d)) ∧ V.cell? ⟨lb, lo + i * 2, none⟩ = some (.int .i64 s.x)) (with_reducible exact ⟨U1.out, D0.out, D1.out, C0.out⟩) (fail)
                go_wp2_with fail
                go_roundw
                case rel => exact ⟨i + 1, HLT.out, by first | rw [HX.out] | rfl, HY, HR, HB⟩
                case measure => (try rw [HX.out]); have := HLT.out; simp only [intOf]; omega
            · have hlt' : ¬ (i : Int) < (n : Int) := by omega
              clear hlt
              go_wp2_with fail
              go_ret
              exact ⟨rfl, HB.out⟩
end gstateShifts
end Go.Proofs.Ytnoadceeenioeaa
