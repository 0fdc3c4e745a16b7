/-
  What Spots of the document's answer gives: all knots of an outline as points, in a new row. For outlines of moderate size.
-/
import Derived.Test.YthjhekmlhmljlaaCpA
import Derived.Test.YthjhekmlhmljlaaHlA
namespace Go.Proofs.Ythjhekmlhmljlaa
open Go.RowKit Go.PlainAid
set_option linter.unusedSimpArgs false
set_option linter.unusedVariables false

theorem totalL_take : ∀ (O : List (List Kn)) (i : Nat) (c : List Kn), O[i]? = some c → ((O.take i).flatten.map Kn.sp).length + c.length ≤ totalL O
  | [], i, c, h => by simp at h
  | d :: O, 0, c, h => by
    have e : d = c := by simpa using h
    subst e
    simp [totalL]
  | d :: O, i + 1, c, h => by
    have h' : O[i]? = some c := by simpa using h
    have := totalL_take O i c h'
    simp only [List.take_succ_cons, List.flatten_cons, List.map_append, List.length_append, List.length_map, totalL] at this ⊢
    omega
theorem snocSp (l : List Sp) (p : Sp) : (l ++ [p]).flatMap clS = l.flatMap clS ++ [.int .i64 p.x, .int .i64 p.y] := by simp [clS]
/-- A new row of points that is owned. -/
def SptPost (w : World) (L : List Sp) (e : Ending) (w' : World) : Prop :=
  ∃ g c, e = .returned (.slice (some ⟨g, 0, none⟩) L.length c) ∧ w'.ownsRow w.heap.size 47 2 (.slice (some ⟨g, 0, none⟩) L.length c) L.length (L.flatMap clS) ∧ Below w.heap.size w w'

set_option maxRecDepth 20000 in
set_option maxHeartbeats 2000000 in
theorem spots_c (a : Option Addr) (cap : Nat) (O : List (List Kn)) (w : World) (ho : IsO clK w a O) (hl : O.length ≤ 1048576) (ht : totalL O ≤ 1048576) : Calls Try.prog 21 #[.slice a O.length cap] w (SptPost w (spotsL O)) := by
  have HO := Lib.hid ho
  have HL := Lib.hid hl
  have HT := Lib.hid ht
  have HO1 := Lib.hid (World.ownsRow_lit (base := w.heap.size) (e := 47) (size := 2) w #[] 0 (Nat.le_refl _) (by decide) rfl)
  have HB0 : Hid (Below w.heap.size w (w.alloc (.cells #[] 47))) := (Below.refl _ _).alloc (Nat.le_refl _) _
  clear ho hl ht
  go_enter Try.func21, Try.ntmps21
  go_wp2_with fail
  go_loopw [3, 11] (fun v x wr => ∃ i n g c : Nat, i ≤ O.length ∧ v = .slice (some ⟨g, 0, none⟩) n c ∧ x = .int .i64 i ∧ Hid ((spotsL (O.take i)).length = n) ∧ Hid (wr.ownsRow w.heap.size 47 2 (.slice (some ⟨g, 0, none⟩) n c) n ((spotsL (O.take i)).flatMap clS)) ∧ Hid (Below w.heap.size w wr)) (fun _ x _ => O.length - (intOf x).toNat)
  case atStart => exact ⟨0, 0, _, _, Nat.zero_le _, rfl, rfl, rfl, HO1, HB0⟩
  case round =>
    clear HO1 HB0
    obtain ⟨i, n, g, c, hi, rfl, rfl, HN, HW, HB⟩ := hrel
    by_cases hlt : i < O.length
    · have hlt' : (i : Int) < (O.length : Int) := by omega
      obtain ⟨d, hd⟩ := get_of hlt
      obtain ⟨b, off, ai, ci, rfl, c0w, hci, hr⟩ := HO.out.at hd
      have c0 := keepC HB.out c0w
      have HRW := Lib.hid (show IsR clK w ai d from hr)
      have HLT := Lib.hid hlt
      have HTD : Hid (n + d.length ≤ 1048576) := by have h := totalL_take O i d hd; have := HT.out; have h2 := HN.out; unfold spotsL at h2; unfold Hid; omega
      have HX1 := Lib.hid (next64 (j := i) (by have := HL.out; omega))
      have HSS := Lib.hid (show spotsL (O.take (i + 1)) = spotsL (O.take i) ++ d.map Kn.sp by unfold spotsL; rw [List.take_add_one, hd]; simp)
      obtain ⟨S, HS⟩ : ∃ S, Hid (spotsL (O.take i) = S) := ⟨_, rfl⟩
      rw [HS.out] at HW HSS HN
      clear hd hr hi hlt hci c0w
      go_wp2_with fail
      clear c0
      go_loopw [3, 17] (fun v x wq => ∃ j m g c : Nat, j ≤ d.length ∧ v = .slice (some ⟨g, 0, none⟩) m c ∧ x = .int .i64 j ∧ Hid (n + j = m) ∧ Hid (wq.ownsRow w.heap.size 47 2 (.slice (some ⟨g, 0, none⟩) m c) m ((S ++ (d.take j).map Kn.sp).flatMap clS)) ∧ Hid (Below w.heap.size w wq)) (fun _ x _ => d.length - (intOf x).toNat)
      case atStart => exact ⟨0, n, _, _, Nat.zero_le _, rfl, rfl, Nat.add_zero _, by simpa using HW, HB⟩
      case round =>
        clear HW HB
        obtain ⟨j, m, g, c, hj, rfl, rfl, HM, HW, HB⟩ := hrel
        by_cases hjl : j < d.length
        · have hjl' : (j : Int) < (d.length : Int) := by omega
          obtain ⟨k, hk⟩ := get_of hjl
          obtain ⟨kb, ko, rfl, k0, k1, k2⟩ := (HRW.out.below HB.out).knot hk
          have HJL := Lib.hid hjl
          have HXJ := Lib.hid (next64 (j := j) (by have := HTD.out; omega))
          have HTS : Hid ((S ++ (d.take (j + 1)).map Kn.sp).flatMap clS = (S ++ (d.take j).map Kn.sp).flatMap clS ++ [.int .i64 k.x, .int .i64 k.y]) := by
            unfold Hid
            rw [List.take_add_one, hk, Option.toList_some, List.map_append, ← List.append_assoc]
            exact snocSp _ k.sp
          have HBA := Lib.hid (bel_alloc (bel_alloc HB.out (.cells #[.int .i64 k.x, .int .i64 k.y, .int .i64 k.k] 37)) (.cells #[.int .i64 k.x, .int .i64 k.y] 47))
          have HS2 : Hid (Lies ((wr.alloc (.cells #[.int .i64 k.x, .int .i64 k.y, .int .i64 k.k] 37)).alloc (.cells #[.int .i64 k.x, .int .i64 k.y] 47)) (wr.heap.size + 1) 0 [.int .i64 k.x, .int .i64 k.y]) := by
            have h := lies_new (w := wr.alloc (.cells #[.int .i64 k.x, .int .i64 k.y, .int .i64 k.k] 37)) (cs := #[.int .i64 k.x, .int .i64 k.y]) (T := 47)
            rwa [show (wr.alloc (.cells #[.int .i64 k.x, .int .i64 k.y, .int .i64 k.k] 37)).heap.size = wr.heap.size + 1 by simp] at h
          clear hk hj hjl
          go_wp2_with (at_builtin; refine wpList_app elS rfl _ _ rfl ((wr.alloc (.cells #[.int .i64 k.x, .int .i64 k.y, .int .i64 k.k] 37)).alloc (.cells #[.int .i64 k.x, .int .i64 k.y] 47)) w.heap.size g c m ((S ++ (d.take j).map Kn.sp).flatMap clS) (some ⟨wr.heap.size + 1, 0, none⟩) 1 1 [.int .i64 k.x, .int .i64 k.y] rfl rfl ((HW.out.alloc _).alloc _) rfl (.inr ⟨_, 0, rfl, HS2.out⟩) (by simp [Value.oneCell']) (by have := HM.out; have := HTD.out; have := HJL.out; omega) (by have := HM.out; have := HTD.out; have := HJL.out; omega) (by have := HB.out.size; simp; omega) ?_; intro g8 c8 w8 ho8 hg8 hat8)
          have HB8 : Hid (Below w.heap.size w w8) := belGrown HBA.out hg8 (ownsRow_cap HW.out).2.1 HBA.out.size
          have HW8 : Hid (w8.ownsRow w.heap.size 47 2 (.slice (some ⟨g8, 0, none⟩) (m + 1) c8) (m + 1) ((S ++ (d.take (j + 1)).map Kn.sp).flatMap clS)) := by unfold Hid; rw [HTS.out]; exact ho8
          clear ho8 hg8 hat8
          go_wp2_with fail
          go_roundw
          case rel => exact ⟨j + 1, m + 1, g8, c8, HJL.out, rfl, by first | rw [HXJ.out] | go_num, by have := HM.out; unfold Hid; omega, HW8, HB8⟩
          case measure => (try rw [HXJ.out]); have := HJL.out; simp only [intOf]; omega
        · have hjl' : ¬ (j : Int) < (d.length : Int) := by omega
          obtain rfl : j = d.length := by omega
          rw [List.take_length] at HW
          go_wp2_with fail
          go_roundw
          case rel => exact ⟨i + 1, m, g, c, HLT.out, rfl, by first | rw [HX1.out] | go_num, (by unfold Hid; rw [HSS.out, List.length_append, List.length_map, HN.out]; exact HM.out), (by unfold Hid; rw [HSS.out]; exact HW.out), HB⟩
          case measure => (try rw [HX1.out]); have := HLT.out; simp only [intOf]; omega
    · have hlt' : ¬ (i : Int) < (O.length : Int) := by omega
      obtain rfl : i = O.length := by omega
      rw [List.take_length] at HW HN
      go_wp2_with fail
      go_ret
      exact ⟨g, c, by rw [HN.out]; rfl, by rw [HN.out]; exact HW.out, HB.out⟩

end Go.Proofs.Ythjhekmlhmljlaa
