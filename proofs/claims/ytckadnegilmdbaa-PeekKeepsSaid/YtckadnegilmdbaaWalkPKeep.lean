/-
  The walk of PeekKeeps: it answers true at every slice of bytes, in every world, and changes nothing that was there. Condition: the slice has at most 2 to the 47th less 4096 bytes.
-/
import Derived.Test.YtckadnegilmdbaaPeekK
namespace Go.Proofs.Ytckadnegilmdbaa.peekKeeps
open Go.RowKit Go.PlainAid
set_option linter.unusedSimpArgs false
set_option linter.unusedVariables false

theorem extract_all (s : ByteArray) : s.extract 0 (0 + s.size) = s := by
  apply ByteArray.ext
  simp [ByteArray.data_extract]

set_option maxRecDepth 20000 in
set_option maxHeartbeats 1000000 in
theorem walk0 (a : Option Addr) (cap : Nat) (s : ByteArray) (w : World) (hB : IsB w a s.size cap s) (hs : (s.size : Int) ≤ 140737488351232) :
    Calls Try.prog 5 #[.slice a s.size cap] w fun e w' => e = .returned (.bool true) ∧ Below w.heap.size w w' := by
  have HB := Lib.hid hB
  have HS := Lib.hid hs
  have hss : (s.toList == s.toList) = true := by simp
  clear hB hs
  go_enter Try.func5, Try.ntmps5
  go_wp2_with fail
  refine (alive_c _).mono ?_
  rintro e w1 ⟨rfl, hb1⟩
  have HB1 := Lib.hid (HB.out.below hb1)
  have HW1 := Lib.hid hb1
  clear hb1
  go_wp2_with (at_builtin; refine wpList_copy rfl _ _ rfl w1 a s.size cap s rfl rfl HB1.out (by have := HS.out; omega) ?_; intro go co w2 hown hb2)
  have HC2 := Lib.hid (isB_of_owns hown)
  have HR2 : Hid (Room w2 go s.size) := room_owns hown (fun i u hu => by
    have hl : i < (cellsOfStr s).length := (List.getElem?_eq_some_iff.1 hu).1
    rw [cellsOfStr_length] at hl
    rw [cellsOfStr_get s i hl] at hu
    cases hu
    exact ⟨_, rfl⟩)
  have HG2 : Hid (w.heap.size ≤ go ∧ go < w2.heap.size) := by
    have := hown.lt go rfl
    have := HW1.out.size
    unfold Hid
    omega
  have HW2 := Lib.hid (HW1.out.trans (hb2.mono HW1.out.size))
  clear hb2 hown HB1
  refine (new_c _ _ _ s _ HC2.out).mono ?_
  rintro e w3 ⟨rfl, hw3⟩
  have hb3 : Below w2.heap.size w2 w3 := by rw [hw3]; exact (Below.refl _ _).alloc (Nat.le_refl _) _
  have HZ3 : Hid (w3.heap.size = w2.heap.size + 1) := by unfold Hid; rw [hw3]; simp
  have HC3 : Hid (w3.cell? ⟨w2.heap.size, 0, none⟩ = some (.string s)) := by unfold Hid; rw [hw3]; simp [go_sem]
  have HR3 := Lib.hid (HR2.out.below hb3)
  have HW3 := Lib.hid (HW2.out.trans (hb3.mono HW2.out.size))
  generalize w2.heap.size = gv at *
  clear hw3 hb3 HC2 HR2 HW2 HW1
  go_wp2_with fail
  refine (bytes_c gv s _ HC3.out).mono ?_
  rintro e w4 ⟨rfl, hw4⟩
  have hb4 : Below w3.heap.size w3 w4 := by rw [hw4]; exact below_bytes _ _ _
  have HZ4 : Hid (w4.heap.size = w3.heap.size + 1) := by unfold Hid; rw [hw4, Lib.bytesWorld_size]
  have HO4 := Lib.hid (room_bytes w3 s)
  have HL4 := Lib.hid (grownCap_ge w3 s.size 0 5)
  rw [← hw4] at HO4
  have HC4 : Hid (w4.cell? ⟨gv, 0, none⟩ = some (.string s)) := by
    have := World.block_lt_of_cell? w3 _ HC3.out
    unfold Hid; rw [hb4.cell (p := ⟨gv, 0, none⟩) this]; exact HC3.out
  have HR4 := Lib.hid (HR3.out.below hb4)
  have HW4 := Lib.hid (HW3.out.trans (hb4.mono HW3.out.size))
  clear hw4 hb4 HC3 HR3 HW3
  generalize grownCap w3 s.size 0 5 = ct at *
  go_wp2_with fail
  refine (cut_yes gv 0 s.size s _ HC4.out (by have := HS.out; omega) (by omega)).mono ?_
  rintro e w5 ⟨rfl, hw5⟩
  rw [extract_all] at hw5
  have hb5 : Below w4.heap.size w4 w5 := by rw [hw5]; exact (Below.refl _ _).alloc (Nat.le_refl _) _
  have HSit : Hid (Sit w s gv w4.heap.size w5) := by
    refine ⟨HW4.out.trans (hb5.mono HW4.out.size), ?_, ?_⟩
    · have := World.block_lt_of_cell? w4 _ HC4.out
      rw [hb5.cell (p := ⟨gv, 0, none⟩) this]; exact HC4.out
    · rw [hw5]; simp [go_sem]
  have HRo := Lib.hid (HR4.out.below hb5)
  have HRt := Lib.hid (HO4.out.below hb5)
  have HN : Hid (w.heap.size ≤ go ∧ go ≠ gv ∧ go ≠ w4.heap.size ∧ w.heap.size ≤ w3.heap.size ∧ w3.heap.size ≠ gv ∧ w3.heap.size ≠ w4.heap.size) := by
    have := HG2.out
    have := HZ3.out
    have := HZ4.out
    unfold Hid
    omega
  clear hw5 hb5 HR4 HO4 HC4 HW4 HZ3 HZ4 HG2
  generalize w3.heap.size = gt at *
  generalize w4.heap.size = gc at *
  go_wp2_with fail
  go_loopw [39] (fun i wr => ∃ k : Nat, k ≤ s.size ∧ i = .int .i64 k ∧ Sit w s gv gc wr ∧ Room wr go s.size ∧ Room wr gt ct) (fun i _ => s.size - (intOf i).toNat)
  case atStart => exact ⟨0, Nat.zero_le _, rfl, HSit.out, HRo.out, HRt.out⟩
  case round =>
    obtain ⟨k, hk, rfl, sit, ro, rt⟩ := hrel
    by_cases hlt : k < s.size
    · obtain ⟨⟨z, hz⟩, hf⟩ := ro k hlt
      have hlt' : (k : Int) < (s.size : Int) := by omega
      have S1 := Lib.hid sit
      have S2 := Lib.hid ro
      have S3 := Lib.hid rt
      clear sit ro rt
      have HX : Hid (wrap64 ((k : Int) + 1) = ((k + 1 : Nat) : Int)) := by have := HS.out; unfold Hid wrap64; omega
      go_wp2_with fail
      go_roundw
      case rel => exact ⟨k + 1, by omega, by rw [HX.out], S1.out.set _ _ HN.out.1 HN.out.2.1 HN.out.2.2.1, S2.out.set _ _ _, S3.out.set _ _ _⟩
      case measure => rw [HX.out]; simp only [intOf]; omega
    · have hlt' : ¬ (k : Int) < (s.size : Int) := by omega
      have S1 := Lib.hid sit
      have S3 := Lib.hid rt
      clear sit ro rt HSit HRo HRt
      go_wp2_with fail
      go_loopw [51] (fun i wr => ∃ k : Nat, k ≤ s.size ∧ i = .int .i64 k ∧ Sit w s gv gc wr ∧ Room wr gt ct) (fun i _ => s.size - (intOf i).toNat)
      case atStart => exact ⟨0, Nat.zero_le _, rfl, S1.out, S3.out⟩
      case round =>
        clear S1 S3 hk hlt hlt'
        obtain ⟨k, hk, rfl, sit, rt⟩ := hrel
        by_cases hlt : k < s.size
        · obtain ⟨⟨z, hz⟩, hf⟩ := rt k (by have := HL4.out; omega)
          have hlt' : (k : Int) < (s.size : Int) := by omega
          have S1 := Lib.hid sit
          have S3 := Lib.hid rt
          clear sit rt
          have HX : Hid (wrap64 ((k : Int) + 1) = ((k + 1 : Nat) : Int)) := by have := HS.out; unfold Hid wrap64; omega
          go_wp2_with fail
          go_roundw
          case rel => exact ⟨k + 1, by omega, by rw [HX.out], S1.out.set _ _ HN.out.2.2.2.1 HN.out.2.2.2.2.1 HN.out.2.2.2.2.2, S3.out.set _ _ _⟩
          case measure => rw [HX.out]; simp only [intOf]; omega
        · have hlt' : ¬ (k : Int) < (s.size : Int) := by omega
          have O1 : Hid (Own w s gv gc (s.size + 0) (.slice (some ⟨gt, 0, none⟩) s.size ct) _) := ⟨sit, gt, ct, rfl, HL4.out, HN.out.2.2.2.1, HN.out.2.2.2.2.1, HN.out.2.2.2.2.2, rt.slots⟩
          clear sit rt
          go_wp2_with fail
          go_loopw [5, 10] (fun v i wr => ∃ k : Nat, k ≤ 9 ∧ i = .int .i64 k ∧ Own w s gv gc (s.size + k) v wr) (fun _ i _ => 9 - (intOf i).toNat)
          case atStart => exact ⟨0, Nat.zero_le _, rfl, O1.out⟩
          case round =>
            clear O1 hk hlt hlt'
            obtain ⟨k, hk, rfl, own⟩ := hrel
            by_cases hlt : k < 9
            · obtain ⟨g, cp, hv, _⟩ := id own.at'
              subst hv
              have O1 := Lib.hid own
              clear own
              go_wp2_with (at_builtin; refine wpList_more rfl _ _ rfl w _ s gv gc (s.size + k) (.slice (some ⟨g, 0, none⟩) (s.size + k) cp) 1 rfl rfl O1.out (by have := HS.out; omega) ?_; intro v' w' hown')
              go_roundw
              case rel => exact ⟨k + 1, by omega, by go_num, hown'⟩
              case measure => simp only [intOf]; omega
            · have S1 := Lib.hid own.sit
              clear own
              have hlt' : ¬ (k : Int) < 9 := by omega
              go_wp2_with fail
              refine (bytes_c gc s _ S1.out.c).mono ?_
              rintro e w6 ⟨rfl, hw6⟩
              have S2 : Hid (Sit w s gv gc w6) := S1.out.below (by rw [hw6]; exact below_bytes _ _ _)
              have R2 := Lib.hid ((room_bytes wr s).mono (grownCap_ge wr s.size 0 5))
              rw [← hw6] at R2
              have HM : Hid (w.heap.size ≤ wr.heap.size ∧ wr.heap.size ≠ gv ∧ wr.heap.size ≠ gc) := by
                have b1 := World.block_lt_of_cell? wr _ S1.out.v
                have b2 := World.block_lt_of_cell? wr _ S1.out.c
                have b3 := S1.out.bel.size
                simp at b1 b2
                unfold Hid
                omega
              clear hw6 S1
              generalize grownCap wr s.size 0 5 = cd at *
              generalize wr.heap.size = gd at *
              go_wp2_with fail
              go_loopw [72] (fun i wr => ∃ k : Nat, k ≤ s.size ∧ i = .int .i64 k ∧ Sit w s gv gc wr ∧ Room wr gd s.size) (fun i _ => s.size - (intOf i).toNat)
              case atStart => exact ⟨0, Nat.zero_le _, rfl, S2.out, R2.out⟩
              case round =>
                clear S2 R2 hk hlt hlt'
                obtain ⟨k, hk, rfl, sit, rt⟩ := hrel
                by_cases hlt : k < s.size
                · obtain ⟨⟨z, hz⟩, hf⟩ := rt k hlt
                  have hlt' : (k : Int) < (s.size : Int) := by omega
                  have S1 := Lib.hid sit
                  have S3 := Lib.hid rt
                  clear sit rt
                  have HX : Hid (wrap64 ((k : Int) + 1) = ((k + 1 : Nat) : Int)) := by have := HS.out; unfold Hid wrap64; omega
                  go_wp2_with fail
                  go_roundw
                  case rel => exact ⟨k + 1, by omega, by rw [HX.out], S1.out.set _ _ HM.out.1 HM.out.2.1 HM.out.2.2, S3.out.set _ _ _⟩
                  case measure => rw [HX.out]; simp only [intOf]; omega
                · have hlt' : ¬ (k : Int) < (s.size : Int) := by omega
                  have S1 := Lib.hid sit
                  clear sit rt
                  go_wp2_with fail
                  refine (bytes_c gv s _ S1.out.v).mono ?_
                  rintro e w7 ⟨rfl, hw7⟩
                  have S2 : Hid (Sit w s gv gc w7) := S1.out.below (by rw [hw7]; exact below_bytes _ _ _)
                  have B2 := Lib.hid (isB_bytes wr s 5)
                  rw [← hw7] at B2
                  clear hw7 S1
                  go_wp2_with fail
                  refine (same_c _ _ _ _ _ _ s s _ B2.out (HB.out.below S2.out.bel)).mono ?_
                  rintro e w' ⟨rfl, rfl⟩
                  rw [hss]
                  clear B2
                  go_wp2_with fail
                  refine (bytes_c gc s _ S2.out.c).mono ?_
                  rintro e w8 ⟨rfl, hw8⟩
                  have S3 : Hid (Sit w s gv gc w8) := S2.out.below (by rw [hw8]; exact below_bytes _ _ _)
                  have B3 := Lib.hid (isB_bytes w7 s 5)
                  rw [← hw8] at B3
                  clear hw8 S2
                  go_wp2_with fail
                  refine (same_c _ _ _ _ _ _ s s _ B3.out (HB.out.below S3.out.bel)).mono ?_
                  rintro e w' ⟨rfl, rfl⟩
                  rw [hss]
                  go_wp2_with fail
                  go_ret
                  exact ⟨rfl, S3.out.bel⟩

theorem walk (a : Option Addr) (cap : Nat) (s : ByteArray) (w : World) (hB : IsB w a s.size cap s) (hz : (s.size : Int) ≤ 140737488351232) :
    Calls Try.prog 5 #[.slice a s.size cap] w fun e w' => e = .returned (.bool true) ∧ Below w.heap.size w w' :=
  walk0 a cap s w hB hz

end Go.Proofs.Ytckadnegilmdbaa.peekKeeps
