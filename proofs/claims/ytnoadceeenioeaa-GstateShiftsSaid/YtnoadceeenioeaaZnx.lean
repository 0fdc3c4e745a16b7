/-
  What New of package gstate answers.
-/
import Derived.Test.YtnoadceeenioeaaZnw
import Derived.Deep.OwnRows
namespace Go.Proofs.Ytnoadceeenioeaa
open Go.RowKit Go.PlainAid
set_option linter.unusedSimpArgs false
set_option linter.unusedVariables false

theorem infoB : (Try.prog.info? 4).map (fun i => (i.zero, i.size, i.bytes)) = some (some (.bool false), 1, 1) := by kernel_rfl

/-- The zone is made. -/
structure NwE (w V : World) (h n A B : Nat) (a0 b1 a4 : Option Addr) (c0 d1 c4 : Nat) (LP : List Sp) (LE : List Int) : Prop where
  zr : BxW V h (.slice none 0 0) (.slice none 0 0) (.slice none 0 0) (.slice none 0 0) (.slice none 0 0)
  zf : Fz5 V h
  gz : GZ V (h + 1) (.slice a0 n c0) (.slice b1 n d1) (.slice (some ⟨A, 0, none⟩) n n) (.slice (some ⟨B, 0, none⟩) n n) (.slice a4 LE.length c4)
  zo : ZOwn V (h + 2) ⟨LP, LP, List.replicate n false, List.replicate n false, LE⟩ a0 b1 (some ⟨A, 0, none⟩) (some ⟨B, 0, none⟩) a4 c0 d1 n n c4
  bel : Below h w V
theorem new_end (w V : World) (h n A B : Nat) (a0 b1 a4 : Option Addr) (c0 d1 c4 : Nat) (LP : List Sp) (LE : List Int) (RB : Array Value) (hn : LP.length = n) (hr : ((List.replicate n false).flatMap clB).toArray = RB) (hn2 : n ≤ 140737488355328)
    (hw : GZ V (h + 1) (.slice a0 n c0) (.slice b1 n d1) (.slice none 0 0) (.slice none 0 0) (.slice a4 LE.length c4)) (hz : BxW V h (.slice none 0 0) (.slice none 0 0) (.slice none 0 0) (.slice none 0 0) (.slice none 0 0)) (hf : Fz5 V h)
    (o0 : V.ownsRow (h + 2) 38 2 (.slice a0 n c0) n (LP.flatMap clS)) (o1 : V.ownsRow (h + 2) 38 2 (.slice b1 n d1) n (LP.flatMap clS)) (o4 : V.ownsRow (h + 2) 3 1 (.slice a4 LE.length c4) LE.length (LE.flatMap clI)) (ha : Apart a0 b1) (hb : Below h w V) (hs : h + 2 ≤ V.heap.size)
    (hAB : (A = V.heap.size ∧ B = V.heap.size + 1) ∨ (A = V.heap.size + 1 ∧ B = V.heap.size)) :
    NwE w ((((V.setCell ⟨h + 1, 2, none⟩ (.slice (some ⟨A, 0, none⟩) n n)).setCell ⟨h + 1, 3, none⟩ (.slice (some ⟨B, 0, none⟩) n n)).alloc (.cells RB 4)).alloc (.cells RB 4)).drew h n A B a0 b1 a4 c0 d1 c4 LP LE := by
  have g1 := (hw.put2 (.slice (some ⟨A, 0, none⟩) n n)).put3 (.slice (some ⟨B, 0, none⟩) n n)
  have t0 := hw.t
  have t1 := type_set t0 ⟨h + 1, 2, none⟩ (.slice (some ⟨A, 0, none⟩) n n)
  have z1 := (hz.set (b := h + 1) 2 (.slice (some ⟨A, 0, none⟩) n n) (by omega)).set (b := h + 1) 3 (.slice (some ⟨B, 0, none⟩) n n) (by omega)
  have f1 := (hf.set ⟨h + 1, 2, none⟩ (.slice (some ⟨A, 0, none⟩) n n)).set ⟨h + 1, 3, none⟩ (.slice (some ⟨B, 0, none⟩) n n)
  have p0 := own_setA (m := 0) (i := 2) (.slice (some ⟨A, 0, none⟩) n n) o0 (apart_blk o0 t0 tz1)
  have p1 := own_setA (m := 0) (i := 2) (.slice (some ⟨A, 0, none⟩) n n) o1 (apart_blk o1 t0 tz1)
  have p4 := own_setA (m := 0) (i := 2) (.slice (some ⟨A, 0, none⟩) n n) o4 (apart_blk o4 t0 tz3)
  replace p0 := own_setA (m := 0) (i := 3) (.slice (some ⟨B, 0, none⟩) n n) p0 (apart_blk p0 t1 tz1)
  replace p1 := own_setA (m := 0) (i := 3) (.slice (some ⟨B, 0, none⟩) n n) p1 (apart_blk p1 t1 tz1)
  replace p4 := own_setA (m := 0) (i := 3) (.slice (some ⟨B, 0, none⟩) n n) p4 (apart_blk p4 t1 tz3)
  have b1' : Below h w ((V.setCell ⟨h + 1, 2, none⟩ (.slice (some ⟨A, 0, none⟩) n n)).setCell ⟨h + 1, 3, none⟩ (.slice (some ⟨B, 0, none⟩) n n)) := bel_set (bel_set hb (by omega) _) (by omega) _
  have s1 : ((V.setCell ⟨h + 1, 2, none⟩ (.slice (some ⟨A, 0, none⟩) n n)).setCell ⟨h + 1, 3, none⟩ (.slice (some ⟨B, 0, none⟩) n n)).heap.size = V.heap.size := by simp [go_sem]
  generalize ((V.setCell ⟨h + 1, 2, none⟩ (.slice (some ⟨A, 0, none⟩) n n)).setCell ⟨h + 1, 3, none⟩ (.slice (some ⟨B, 0, none⟩) n n)) = U at *
  have hrs : RB.size = n * 1 := by rw [← hr]; simp [flat_length clB_length]
  have hrl : RB.toList = (List.replicate n false).flatMap clB := by rw [← hr]
  have q1 := own_below (own_fresh U RB 4 1 n hrs hn2) (bel_alloc (Below.refl _ _) (.cells RB 4))
  have q2 := own_fresh (U.alloc (.cells RB 4)) RB 4 1 n hrs hn2
  have s2 : (U.alloc (.cells RB 4)).heap.size = V.heap.size + 1 := by simp [go_sem, s1]
  rw [s1, hrl] at q1
  rw [s2, hrl] at q2
  have hba : Below U.heap.size U ((U.alloc (.cells RB 4)).alloc (.cells RB 4)).drew := (bel_alloc (bel_alloc (Below.refl _ _) _) _).drew
  have hlr : (List.replicate n false).length = n := by simp
  refine ⟨z1.below hba, f1.below z1 hba, g1.below hba, ⟨?_, ?_, ?_, ?_, ?_, ha, ?_⟩, bel_to b1' hba (by omega)⟩
  · dsimp only; rw [hn]; exact own_below p0 hba
  · dsimp only; rw [hn]; exact own_below p1 hba
  · dsimp only; rw [hlr]
    rcases hAB with ⟨rfl, rfl⟩ | ⟨rfl, rfl⟩
    · exact own_base q1 hs
    · exact own_base q2 (by omega)
  · dsimp only; rw [hlr]
    rcases hAB with ⟨rfl, rfl⟩ | ⟨rfl, rfl⟩
    · exact own_base q2 (by omega)
    · exact own_base q1 hs
  · exact own_below p4 hba
  · intro x y hx hy
    cases hx; cases hy
    dsimp only
    omega

set_option maxRecDepth 20000 in
set_option maxHeartbeats 8000000 in
theorem new_c (O : List (List Kn)) (a : Option Addr) (cap : Nat) (w : World) (ho : IsO clK w a O) (hl : (orgO O).length * 16 ≤ 140737488355328) (hl2 : O.length * 8 ≤ 140737488355328) :
    Calls Try.prog 13 #[.slice a O.length cap] w (ZonePost w (newZ O)) := by
  have HO := Lib.hid ho
  have HL := Lib.hid (And.intro hl hl2)
  obtain ⟨h, HH⟩ : ∃ h, Hid (w.heap.size = h) := ⟨_, rfl⟩
  have HN : Hid (NwS w ((w.alloc (.cells #[.slice none 0 0, .slice none 0 0, .slice none 0 0, .slice none 0 0, .slice none 0 0] 31)).alloc (.cells #[.slice none 0 0, .slice none 0 0, .slice none 0 0, .slice none 0 0, .slice none 0 0] 31)) h none none 0 0 [] []) := by
    have hh := HH.out
    subst hh
    have hb := bel_alloc (Below.refl (w.alloc (.cells #[.slice none 0 0, .slice none 0 0, .slice none 0 0, .slice none 0 0, .slice none 0 0] 31)).heap.size _) (.cells #[.slice none 0 0, .slice none 0 0, .slice none 0 0, .slice none 0 0, .slice none 0 0] 31)
    have e1 : (w.alloc (.cells #[.slice none 0 0, .slice none 0 0, .slice none 0 0, .slice none 0 0, .slice none 0 0] 31)).heap.size = w.heap.size + 1 := by simp [go_sem]
    have g2 := gz_new (w.alloc (.cells #[.slice none 0 0, .slice none 0 0, .slice none 0 0, .slice none 0 0, .slice none 0 0] 31)) (.slice none 0 0) (.slice none 0 0) (.slice none 0 0) (.slice none 0 0) (.slice none 0 0)
    rw [e1] at g2
    exact ⟨(bxW_new w _ _ _ _ _).below hb, (fz5_new w _ _ _ _ _).below (bxW_new w (.slice none 0 0) (.slice none 0 0) (.slice none 0 0) (.slice none 0 0) (.slice none 0 0)) hb, g2, own_nil, own_nil, bel_alloc (bel_alloc (Below.refl _ _) _) _, by simp [go_sem], rfl⟩
  clear ho hl hl2
  go_enter Try.func13, Try.ntmps13
  go_wp2_with fail
  rw [HH.out]
  generalize ((w.alloc (.cells #[.slice none 0 0, .slice none 0 0, .slice none 0 0, .slice none 0 0, .slice none 0 0] 31)).alloc (.cells #[.slice none 0 0, .slice none 0 0, .slice none 0 0, .slice none 0 0, .slice none 0 0] 31)) = W at *
  go_loopw [10] (fun x wr => ∃ (i : Nat) (a0 a4 : Option Addr) (c0 c4 : Nat), i ≤ O.length ∧ x = .int .i64 i ∧ Hid (NwS w wr h a0 a4 c0 c4 (orgO (O.take i)) (endsO (O.take i)))) (fun x _ => O.length - (intOf x).toNat)
  case atStart => exact ⟨0, none, none, 0, 0, Nat.zero_le _, rfl, HN⟩
  case round =>
    clear HN
    obtain ⟨i, a0, a4, c0, c4, hi, rfl, HN⟩ := hrel
    by_cases hlt : i < O.length
    · have hlt' : (i : Int) < (O.length : Int) := by omega
      have hi0 : (0 : Int) ≤ (i : Int) := by omega
      obtain ⟨c, hcc⟩ := get_of hlt
      have hbw : Below w.heap.size w wr := by rw [HH.out]; exact HN.out.bel
      obtain ⟨b, off, ai, ci, rfl, k0, _, _⟩ := (HO.out.below hbw).at hcc
      obtain ⟨b', off', ai', ci', e', k0', _, hr⟩ := HO.out.at hcc
      cases e'
      have e2 := keepC hbw k0'
      rw [k0] at e2
      cases e2
      have HR := Lib.hid hr
      have HCC := Lib.hid hcc
      have HLE := Lib.hid (orgO_le hcc)
      have HTS := Lib.hid (take_snoc hcc)
      have HLT := Lib.hid hlt
      have HX := Lib.hid (next64 (j := i) (by have := HL.out.2; have := HLT.out; omega))
      obtain ⟨LO, HLO⟩ : ∃ LO, Hid (orgO (O.take i) = LO) := ⟨_, rfl⟩
      obtain ⟨LE, HLEE⟩ : ∃ LE, Hid (endsO (O.take i) = LE) := ⟨_, rfl⟩
      have HEL := Lib.hid (endsO_len (O.take i))
      rw [HLO.out] at HN HLE
      rw [HLEE.out] at HN HEL
      have HN0 : Hid (NwS w wr h a0 a4 c0 c4 (LO ++ (c.take 0).map spK) LE) := by unfold Hid; simpa using HN.out
      clear hr hcc hbw k0' hlt hi HN
      go_wp2_with fail
      go_loopw [16] (fun x wx => ∃ (j : Nat) (a0 : Option Addr) (c0 : Nat), j ≤ c.length ∧ x = .int .i64 j ∧ Hid (NwS w wx h a0 a4 c0 c4 (LO ++ (c.take j).map spK) LE)) (fun x _ => c.length - (intOf x).toNat)
      case atStart => exact ⟨0, a0, c0, Nat.zero_le _, rfl, HN0⟩
      case round =>
        clear HN0 k0
        obtain ⟨j, e0, f0, hj, rfl, HN⟩ := hrel
        by_cases hl2 : j < c.length
        · have hl2' : (j : Int) < (c.length : Int) := by omega
          have hj0 : (0 : Int) ≤ (j : Int) := by omega
          obtain ⟨k, hk⟩ := get_of hl2
          have hbw : Below w.heap.size w wr := by rw [HH.out]; exact HN.out.bel
          obtain ⟨kb, ko, rfl, x0, x1, x2⟩ := (HR.out.below hbw).knot hk
          obtain ⟨LJ, HLJ⟩ : ∃ LJ, Hid (LO ++ (c.take j).map spK = LJ) := ⟨_, rfl⟩
          rw [HLJ.out] at HN
          have HJN : Hid (LO ++ (c.take (j + 1)).map spK = LJ ++ [spK k]) := by rw [Hid, take_snoc hk, List.map_append, ← List.append_assoc, HLJ.out]; rfl
          have HJL : Hid (LJ.length + 1 ≤ (orgO O).length) := by
            have := HLE.out
            have h2 := HLJ.out
            rw [Hid, ← h2, List.length_append, List.length_map, List.length_take]; omega
          have HX2 := Lib.hid (next64 (j := j) (by have := HL.out.1; have := HLE.out; omega))
          have HL2 := Lib.hid hl2
          obtain ⟨kx, ky, kk⟩ := k
          dsimp only at x0 x1 x2
          have hba : Below wr.heap.size wr ((wr.alloc (.cells #[.int .i64 kx, .int .i64 ky, .int .i64 kk] 59)).alloc (.cells #[.int .i64 kx, .int .i64 ky] 38)) := bel_alloc (bel_alloc (Below.refl _ _) _) _
          have HNA := Lib.hid (HN.out.below hba)
          have HLI : Hid (Lies ((wr.alloc (.cells #[.int .i64 kx, .int .i64 ky, .int .i64 kk] 59)).alloc (.cells #[.int .i64 kx, .int .i64 ky] 38)) (wr.heap.size + 1) 0 ([(⟨kx, ky⟩ : Sp)].flatMap clS)) := by
            have := lies_new (w := wr.alloc (.cells #[.int .i64 kx, .int .i64 ky, .int .i64 kk] 59)) (cs := #[.int .i64 kx, .int .i64 ky]) (T := 38)
            rwa [show (wr.alloc (.cells #[.int .i64 kx, .int .i64 ky, .int .i64 kk] 59)).heap.size = wr.heap.size + 1 by simp [go_sem]] at this
          have hhlt : h + 1 < wr.heap.size := by have := HN.out.sz; omega
          have z0 := (HN.out.below (bel_alloc (Below.refl _ _) (.cells #[.int .i64 kx, .int .i64 ky, .int .i64 kk] 59))).gz.b.c0
          clear hba hj hk hl2 hbw
          go_wp2_with (at_builtin; refine wpList_appR elS rfl _ _ rfl _ (h + 2) e0 LJ.length f0 (LJ.flatMap clS) (some ⟨wr.heap.size + 1, 0, none⟩) 1 1 ([(⟨kx, ky⟩ : Sp)].flatMap clS) rfl rfl HNA.out.o0 rfl (.inr ⟨_, _, rfl, HLI.out⟩) oneS (by have := HJL.out; have := HL.out.1; omega) (by have := HJL.out; have := HL.out.1; omega) HNA.out.sz ?_; intro a8 c8 w8 ho8 hg8 hat8; have u0 := (cell_heap (grown_at HNA.out.o0 hg8 (b := h + 1) (by have := HNA.out.sz; omega) (.inl (by omega))) 0).trans HNA.out.gz.b.c0; have u1 := (frozen_heap (grown_at HNA.out.o0 hg8 (b := h + 1) (by have := HNA.out.sz; omega) (.inl (by omega))) 0).trans HNA.out.gz.f.f0)
          have e1 : (LJ ++ [spK ⟨kx, ky, kk⟩]).length = LJ.length + 1 := by simp
          have HN8 : Hid (NwS w (w8.setCell ⟨h + 1, 0, none⟩ (.slice a8 (LJ.length + 1) c8)) h a8 a4 c8 c4 (LO ++ (c.take (j + 1)).map spK) LE) := by
            rw [Hid, HJN.out, ← e1]
            refine HNA.out.app0 hg8 ?_
            rw [e1, List.flatMap_append]
            exact ho8
          clear ho8 hg8 hat8 u0 u1 e1 z0 x0 x1 x2 hhlt
          go_wp2_with fail
          go_roundw
          case rel => exact ⟨j + 1, a8, c8, HL2.out, by rw [HX2.out], HN8⟩
          case measure => rw [HX2.out]; have := HL2.out; simp only [intOf]; omega
        · have hl2' : ¬ (j : Int) < (c.length : Int) := by omega
          have HN2 : Hid (NwS w wr h e0 a4 f0 c4 (orgO (O.take (i + 1))) LE) := by
            have h2 := HN.out
            rw [List.take_of_length_le (by omega)] at h2
            rw [Hid, HTS.out, orgO_snoc, HLO.out]; exact h2
          obtain ⟨LP, HLP⟩ : ∃ LP, Hid (orgO (O.take (i + 1)) = LP) := ⟨_, rfl⟩
          have HLPN : Hid (LP.length = LO.length + c.length) := by rw [Hid, ← HLP.out, HTS.out, orgO_snoc, List.length_append, List.length_map, HLO.out]
          rw [HLP.out] at HN2
          clear hl2 HN
          by_cases hc0 : c.length = 0
          · have hc0' : ¬ (0 : Int) < (c.length : Int) := by omega
            have HEE : Hid (endsO (O.take (i + 1)) = LE) := by rw [Hid, HTS.out, endsO_snoc, if_pos hc0]; exact HLEE.out
            clear hc0
            go_wp2_with fail
            go_roundw
            case rel => exact ⟨i + 1, e0, a4, f0, c4, HLT.out, by rw [HX.out], by rw [HLP.out, HEE.out]; exact HN2⟩
            case measure => rw [HX.out]; have := HLT.out; simp only [intOf]; omega
          · have hc0' : (0 : Int) < (c.length : Int) := by omega
            have HEE : Hid (endsO (O.take (i + 1)) = LE ++ [((LP.length : Nat) : Int) - 1]) := by rw [Hid, HTS.out, endsO_snoc, if_neg hc0, HLEE.out, HLO.out, HLPN.out]
            have hw1 : wrap64 ((LP.length : Int) - 1) = (LP.length : Int) - 1 := by have := HLPN.out; have := HLE.out; have := HL.out.1; unfold wrap64; omega
            have HELN : Hid (LE.length + 1 ≤ O.length) := by
              have h1 := HEL.out
              have := HLT.out
              rw [List.length_take] at h1
              unfold Hid; omega
            have hba : Below wr.heap.size wr (wr.alloc (.cells #[.int .i64 ((LP.length : Int) - 1)] 3)) := bel_alloc (Below.refl _ _) _
            have HNA := Lib.hid (HN2.out.below hba)
            have HLI : Hid (Lies (wr.alloc (.cells #[.int .i64 ((LP.length : Int) - 1)] 3)) wr.heap.size 0 ([(LP.length : Int) - 1].flatMap clI)) := lies_new (w := wr) (cs := #[.int .i64 ((LP.length : Int) - 1)]) (T := 3)
            have z0 := HN2.out.gz.b.c0
            have z4 := HN2.out.gz.b.c4
            clear hba hc0
            go_wp2_with (at_builtin; (try rw [hw1]); refine wpList_appR elI rfl _ _ rfl _ (h + 2) a4 LE.length c4 (LE.flatMap clI) (some ⟨wr.heap.size, 0, none⟩) 1 1 ([(LP.length : Int) - 1].flatMap clI) rfl rfl HNA.out.o4 rfl (.inr ⟨_, _, rfl, HLI.out⟩) oneI (by have := HELN.out; have := HL.out.2; omega) (by have := HELN.out; have := HL.out.2; omega) HNA.out.sz ?_; intro a8 c8 w8 ho8 hg8 hat8; have u0 := (cell_heap (grown_at HNA.out.o4 hg8 (b := h + 1) (by have := HNA.out.sz; omega) (.inl (by omega))) 4).trans HNA.out.gz.b.c4; have u1 := (frozen_heap (grown_at HNA.out.o4 hg8 (b := h + 1) (by have := HNA.out.sz; omega) (.inl (by omega))) 4).trans HNA.out.gz.f.f4)
            have e1 : (LE ++ [(LP.length : Int) - 1]).length = LE.length + 1 := by simp
            have HN8 : Hid (NwS w (w8.setCell ⟨h + 1, 4, none⟩ (.slice a8 (LE.length + 1) c8)) h e0 a8 f0 c8 LP (endsO (O.take (i + 1)))) := by
              rw [Hid, HEE.out, ← e1]
              refine HNA.out.app4 hg8 ?_
              rw [e1, List.flatMap_append]
              exact ho8
            clear ho8 hg8 hat8 u0 u1 e1 z0 z4
            go_wp2_with fail
            go_roundw
            case rel => exact ⟨i + 1, e0, a8, f0, c8, HLT.out, by rw [HX.out], by rw [HLP.out]; exact HN8⟩
            case measure => rw [HX.out]; have := HLT.out; simp only [intOf]; omega
    · have hlt' : ¬ (i : Int) < (O.length : Int) := by omega
      have HN2 : Hid (NwS w wr h a0 a4 c0 c4 (orgO O) (endsO O)) := by
        have := HN.out
        rwa [List.take_of_length_le (by omega)] at this
      obtain ⟨LP, HLP⟩ : ∃ LP, Hid (orgO O = LP) := ⟨_, rfl⟩
      rw [HLP.out] at HN2 HL
      have z0 := HN2.out.gz.b.c0
      clear hlt hi HN
      go_wp2_with fail
      refine (cloneS_c a0 c0 LP _ (own_isR rfl HN2.out.o0) HL.out.1).mono ?_
      rintro e w5 ⟨b1, d1, rfl, ho1, hb5⟩
      have HN5 := Lib.hid (HN2.out.below hb5)
      have hz5 := HN5.out.gz.t
      have HW5 : Hid (GZ (w5.setCell ⟨h + 1, 1, none⟩ (.slice b1 LP.length d1)) (h + 1) (.slice a0 LP.length c0) (.slice b1 LP.length d1) (.slice none 0 0) (.slice none 0 0) (.slice a4 (endsO O).length c4)) := HN5.out.gz.put1 _
      have HZ5 : Hid (BxW (w5.setCell ⟨h + 1, 1, none⟩ (.slice b1 LP.length d1)) h (.slice none 0 0) (.slice none 0 0) (.slice none 0 0) (.slice none 0 0) (.slice none 0 0) ∧ Fz5 (w5.setCell ⟨h + 1, 1, none⟩ (.slice b1 LP.length d1)) h) := ⟨HN5.out.zr.set _ _ (by omega), HN5.out.zf.set _ _⟩
      have HO5 : Hid ((w5.setCell ⟨h + 1, 1, none⟩ (.slice b1 LP.length d1)).ownsRow (h + 2) 38 2 (.slice a0 LP.length c0) LP.length (LP.flatMap clS) ∧ (w5.setCell ⟨h + 1, 1, none⟩ (.slice b1 LP.length d1)).ownsRow (h + 2) 38 2 (.slice b1 LP.length d1) LP.length (LP.flatMap clS) ∧ (w5.setCell ⟨h + 1, 1, none⟩ (.slice b1 LP.length d1)).ownsRow (h + 2) 3 1 (.slice a4 (endsO O).length c4) (endsO O).length ((endsO O).flatMap clI)) :=
        ⟨own_setA (m := 0) _ HN5.out.o0 (apart_blk HN5.out.o0 hz5 tz1), own_setA (m := 0) _ (own_base ho1 HN2.out.sz) (apart_blk ho1 hz5 tz1), own_setA (m := 0) _ HN5.out.o4 (apart_blk HN5.out.o4 hz5 tz3)⟩
      have HAP : Hid (Apart a0 b1) := apart_late HN2.out.o0 ho1
      have HB5 : Hid (Below h w (w5.setCell ⟨h + 1, 1, none⟩ (.slice b1 LP.length d1)) ∧ h + 2 ≤ (w5.setCell ⟨h + 1, 1, none⟩ (.slice b1 LP.length d1)).heap.size) := ⟨bel_set HN5.out.bel (by omega) _, by simpa [go_sem] using HN5.out.sz⟩
      have u0 := HN5.out.gz.b.c1
      have u1 := HN5.out.gz.f.f1
      clear ho1 hb5 hz5 z0 HN2 HN5
      go_upto_region 14 with (fail)
      clear u0 u1
      generalize w5.setCell ⟨h + 1, 1, none⟩ (.slice b1 LP.length d1) = W5 at *
      obtain ⟨n, Hn⟩ : ∃ n, Hid (LP.length = n) := ⟨_, rfl⟩
      rw [Hn.out] at HW5 HO5 HL ⊢
      obtain ⟨RB, HRB⟩ : ∃ RB, Hid (((List.replicate n false).flatMap clB).toArray = RB) := ⟨_, rfl⟩
      have hmk : ∀ u : World, (Instr.makeSlice 28 (.int .i64 (n : Int)) (.int .i64 (n : Int))).run Try.prog u = .ok (.slice (some ⟨u.heap.size, 0, none⟩) n n) (u.alloc (.cells RB 4)) := fun u => by
        have h1 := run_make_row' (P := Try.prog) 28 4 (.bool false) 1 Try.underlying28 infoB rfl .i64 .i64 n (by have := HL.out.1; omega) (by have := HL.out.1; omega) u
        have h2 := made_gen clB_length (by decide) false n
        rw [Nat.mul_one] at h2
        rw [show (#[.bool false] : Array Value) = (clB false).toArray from rfl, h2, HRB.out] at h1
        exact h1
      have k0 := HW5.out.b.c0
      have hlt1 : h + 1 < W5.heap.size := by have := HB5.out.2; omega
      have hba := bel_alloc (Below.refl W5.heap.size W5) (.cells RB 4)
      have hbb := bel_alloc hba (.cells RB 4)
      have k2 := HW5.out.b.c2
      have k3 := HW5.out.b.c3
      have q2 := HW5.out.f.f2
      have q3 := HW5.out.f.f3
      have k2' := (HW5.out.below hbb).b.c2
      have k3' := (HW5.out.below hbb).b.c3
      have q2' := (HW5.out.below hbb).f.f2
      have q3' := (HW5.out.below hbb).f.f3
      have hlt2 : h + 1 < W5.heap.size + 1 := by omega
      have HBB := Lib.hid hbb
      clear hba hbb
      go_region
      · have HE := Lib.hid (new_end w W5 h n (W5.heap.size) (W5.heap.size + 1) a0 b1 a4 c0 d1 c4 LP (endsO O) RB Hn.out HRB.out (by have := HL.out.1; omega) HW5.out HZ5.out.1 HZ5.out.2 HO5.out.1 HO5.out.2.1 HO5.out.2.2 HAP.out HB5.out.1 HB5.out.2 (.inl ⟨rfl, rfl⟩))
        clear hmk k0 k2 k3 q2 q3 k2' k3' q2' q3' hlt1 hlt2 HBB HW5 HZ5 HO5 HB5
        generalize ((((W5.setCell ⟨h + 1, 2, none⟩ (.slice (some ⟨W5.heap.size, 0, none⟩) n n)).setCell ⟨h + 1, 3, none⟩ (.slice (some ⟨W5.heap.size + 1, 0, none⟩) n n)).alloc (.cells RB 4)).alloc (.cells RB 4)).drew = W9 at *
        generalize W5.heap.size + 1 = N1 at *
        generalize W5.heap.size = N0 at *
        have k0 := HE.out.gz.b.c0
        have k1 := HE.out.gz.b.c1
        have k2 := HE.out.gz.b.c2
        have k3 := HE.out.gz.b.c3
        have k4 := HE.out.gz.b.c4
        have o0 := HE.out.zr.c0
        have o1 := HE.out.zr.c1
        have o2 := HE.out.zr.c2
        have o3 := HE.out.zr.c3
        have o4 := HE.out.zr.c4
        have f0 := HE.out.zf.f0
        have f1 := HE.out.zf.f1
        have f2 := HE.out.zf.f2
        have f3 := HE.out.zf.f3
        have f4 := HE.out.zf.f4
        go_wp2_with fail
        refine bodyPost_ret (v := .agg #[.slice a0 n c0, .slice b1 n d1, .slice (some ⟨N0, 0, none⟩) n n, .slice (some ⟨N1, 0, none⟩) n n, .slice a4 (endsO O).length c4]) (by simp [results, Try.results13, go_sem, o0, o1, o2, o3, o4]) rfl ⟨a0, b1, some ⟨N0, 0, none⟩, some ⟨N1, 0, none⟩, a4, c0, d1, n, n, c4, ?_, ?_, ?_⟩
        · simp only [zv, newZ, HLP.out, Hn.out, List.length_replicate]
        · have hh := HH.out
          have hzo := HE.out.zo
          rw [show newZ O = ⟨LP, LP, List.replicate n false, List.replicate n false, endsO O⟩ by simp only [newZ, HLP.out, Hn.out]]
          exact (((((hzo.setLow ⟨h, 0, none⟩ _ (by simp)).setLow ⟨h, 1, none⟩ _ (by simp)).setLow ⟨h, 2, none⟩ _ (by simp)).setLow ⟨h, 3, none⟩ _ (by simp)).setLow ⟨h, 4, none⟩ _ (by simp)).base (by omega)
        · rw [HH.out]
          refine bel_set (bel_set (bel_set (bel_set (bel_set HE.out.bel ?_ _) ?_ _) ?_ _) ?_ _) ?_ _ <;> omega
      · have HE := Lib.hid (new_end w W5 h n (W5.heap.size + 1) (W5.heap.size) a0 b1 a4 c0 d1 c4 LP (endsO O) RB Hn.out HRB.out (by have := HL.out.1; omega) HW5.out HZ5.out.1 HZ5.out.2 HO5.out.1 HO5.out.2.1 HO5.out.2.2 HAP.out HB5.out.1 HB5.out.2 (.inr ⟨rfl, rfl⟩))
        clear hmk k0 k2 k3 q2 q3 k2' k3' q2' q3' hlt1 hlt2 HBB HW5 HZ5 HO5 HB5
        generalize ((((W5.setCell ⟨h + 1, 2, none⟩ (.slice (some ⟨W5.heap.size + 1, 0, none⟩) n n)).setCell ⟨h + 1, 3, none⟩ (.slice (some ⟨W5.heap.size, 0, none⟩) n n)).alloc (.cells RB 4)).alloc (.cells RB 4)).drew = W9 at *
        generalize W5.heap.size + 1 = N1 at *
        generalize W5.heap.size = N0 at *
        have k0 := HE.out.gz.b.c0
        have k1 := HE.out.gz.b.c1
        have k2 := HE.out.gz.b.c2
        have k3 := HE.out.gz.b.c3
        have k4 := HE.out.gz.b.c4
        have o0 := HE.out.zr.c0
        have o1 := HE.out.zr.c1
        have o2 := HE.out.zr.c2
        have o3 := HE.out.zr.c3
        have o4 := HE.out.zr.c4
        have f0 := HE.out.zf.f0
        have f1 := HE.out.zf.f1
        have f2 := HE.out.zf.f2
        have f3 := HE.out.zf.f3
        have f4 := HE.out.zf.f4
        go_wp2_with fail
        refine bodyPost_ret (v := .agg #[.slice a0 n c0, .slice b1 n d1, .slice (some ⟨N1, 0, none⟩) n n, .slice (some ⟨N0, 0, none⟩) n n, .slice a4 (endsO O).length c4]) (by simp [results, Try.results13, go_sem, o0, o1, o2, o3, o4]) rfl ⟨a0, b1, some ⟨N1, 0, none⟩, some ⟨N0, 0, none⟩, a4, c0, d1, n, n, c4, ?_, ?_, ?_⟩
        · simp only [zv, newZ, HLP.out, Hn.out, List.length_replicate]
        · have hh := HH.out
          have hzo := HE.out.zo
          rw [show newZ O = ⟨LP, LP, List.replicate n false, List.replicate n false, endsO O⟩ by simp only [newZ, HLP.out, Hn.out]]
          exact (((((hzo.setLow ⟨h, 0, none⟩ _ (by simp)).setLow ⟨h, 1, none⟩ _ (by simp)).setLow ⟨h, 2, none⟩ _ (by simp)).setLow ⟨h, 3, none⟩ _ (by simp)).setLow ⟨h, 4, none⟩ _ (by simp)).base (by omega)
        · rw [HH.out]
          refine bel_set (bel_set (bel_set (bel_set (bel_set HE.out.bel ?_ _) ?_ _) ?_ _) ?_ _) ?_ _ <;> omega

end Go.Proofs.Ytnoadceeenioeaa
