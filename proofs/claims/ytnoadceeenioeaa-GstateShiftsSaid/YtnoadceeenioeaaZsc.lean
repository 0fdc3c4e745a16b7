/-
  New, Put, Smooth at a contour whose touched points are all moved by one distance.
-/
import Derived.Test.YtnoadceeenioeaaZsh
namespace Go.Proofs.Ytnoadceeenioeaa
open Go.RowKit Go.PlainAid
set_option linter.unusedSimpArgs false
set_option linter.unusedVariables false

theorem sh_zv {L : List Sp} {T : List Bool} {d : Int} {i n : Nat} (hn : L.length = n) (b0 b1 b2 b3 b4 : Option Addr) (d0 d1 d2 d3 d4 : Nat) : zv (shZ L T d i) b0 b1 b2 b3 b4 d0 d1 d2 d3 d4 = .agg #[.slice b0 n d0, .slice b1 n d1, .slice b2 n d2, .slice b3 n d3, .slice b4 1 d4] := by
  simp [zv, shZ, shC_len, shY_len, hn]
theorem sh_long {L : List Sp} {T : List Bool} {d : Int} {i : Nat} (hp : ShP L d) : ZLong (shZ L T d i) := by
  have := hp.n
  constructor <;> simp only [shZ, shC_len, shY_len, List.length_replicate, List.length_singleton] <;> omega

theorem shnew_c {L : List Sp} {d : Int} {n : Nat} (hp : ShP L d) (hn : L.length = n) (T : List Bool) (ca : Option Addr) (cc : Nat) (V : World) (hO : IsR clK V ca (L.map knS)) (hc : n ≤ cc) :
    Calls Try.prog 13 #[.slice (some ⟨V.heap.size, 0, none⟩) 1 1] (V.alloc (.cells #[.slice ca n cc] 57)) fun e w' => ∃ b0 b1 b2 b3 b4 d0 d1 d2 d3 d4, e = .returned (.agg #[.slice b0 n d0, .slice b1 n d1, .slice b2 n d2, .slice b3 n d3, .slice b4 1 d4]) ∧ ZOwn w' V.heap.size (shZ L T d 0) b0 b1 b2 b3 b4 d0 d1 d2 d3 d4 ∧ Below V.heap.size V w' := by
  have hI : IsO clK (V.alloc (.cells #[.slice ca n cc] 57)) (some ⟨V.heap.size, 0, none⟩) [L.map knS] := by
    refine .inr ⟨V.heap.size, 0, rfl, fun i c h => ?_⟩
    have hi : i = 0 := by have := (List.getElem?_eq_some_iff.1 h).1; simp at this; omega
    subst hi
    have e : L.map knS = c := by simpa using h
    subst e
    refine ⟨ca, cc, by simp [go_sem, hn], by simp [hn, hc], ?_⟩
    exact hO.below ((Below.refl _ _).alloc (Nat.le_refl _) _)
  have hnn := hp.n
  have h1 : orgO [L.map knS] = L := by
    have := shZ_new hp.ne T d
    simp only [newZ, shZ] at this
    injection this
  refine (new_c [L.map knS] (some ⟨V.heap.size, 0, none⟩) 1 _ hI (by rw [h1]; omega) (by simp)).mono ?_
  rintro e w' ⟨b0, b1, b2, b3, b4, d0, d1, d2, d3, d4, rfl, ho, hb⟩
  rw [shZ_new hp.ne T d] at ho ⊢
  refine ⟨b0, b1, b2, b3, b4, d0, d1, d2, d3, d4, by rw [sh_zv hn], ho.base (by simp [go_sem]), ?_⟩
  exact bel_next ((Below.refl _ _).alloc (Nat.le_refl _) _) hb

theorem shput_c {L : List Sp} {T : List Bool} {d : Int} {n i : Nat} {s : Sp} (hp : ShP L d) (hn : L.length = n) (hs : L[i]? = some s) (ht : T.getD i false = true) (a0 a1 a2 a3 a4 : Option Addr) (c0 c1 c2 c3 c4 : Nat) (V : World) (hz : ZIn V (shZ L T d i) a0 a1 a2 a3 a4) :
    Calls Try.prog 24 #[.agg #[.slice a0 n c0, .slice a1 n c1, .slice a2 n c2, .slice a3 n c3, .slice a4 1 c4], .int .i64 1, .int .i64 (i : Int), .int .i64 (s.y + d)] V fun e w' => ∃ b0 b1 b2 b3 b4 d0 d1 d2 d3 d4, e = .returned (.tuple #[.agg #[.slice b0 n d0, .slice b1 n d1, .slice b2 n d2, .slice b3 n d3, .slice b4 1 d4], .int .i64 0]) ∧ ZOwn w' V.heap.size (shZ L T d (i + 1)) b0 b1 b2 b3 b4 d0 d1 d2 d3 d4 ∧ Below V.heap.size V w' := by
  have h := put_c (shZ L T d i) a0 a1 a2 a3 a4 c0 c1 c2 c3 c4 1 (i : Int) (s.y + d) V hz (sh_long hp)
  have e : (.agg #[.slice a0 (shZ L T d i).org.length c0, .slice a1 (shZ L T d i).cur.length c1, .slice a2 (shZ L T d i).tx.length c2, .slice a3 (shZ L T d i).ty.length c3, .slice a4 (shZ L T d i).ends.length c4] : Value) = .agg #[.slice a0 n c0, .slice a1 n c1, .slice a2 n c2, .slice a3 n c3, .slice a4 1 c4] := sh_zv hn a0 a1 a2 a3 a4 c0 c1 c2 c3 c4
  rw [e, sh_put hp hs ht] at h
  refine h.mono ?_
  rintro e w' ⟨b0, b1, b2, b3, b4, d0, d1, d2, d3, d4, rfl, ho, hb⟩
  exact ⟨b0, b1, b2, b3, b4, d0, d1, d2, d3, d4, by dsimp only; rw [sh_zv hn], ho, hb⟩

theorem shsmooth_c {L : List Sp} {T : List Bool} {d : Int} {n : Nat} {S : Zn} (hp : ShP L d) (hn : L.length = n) (hS : smoothZ (shZ L T d n) 1 = (S, 0)) (hSl : S.cur.length = n) (a0 a1 a2 a3 a4 : Option Addr) (c0 c1 c2 c3 c4 : Nat) (V : World) (hz : ZIn V (shZ L T d n) a0 a1 a2 a3 a4) :
    Calls Try.prog 25 #[.agg #[.slice a0 n c0, .slice a1 n c1, .slice a2 n c2, .slice a3 n c3, .slice a4 1 c4], .int .i64 1] V fun e w' => ∃ b0 b1 b2 b3 b4 d0 d1 d2 d3 d4 m0 m2 m3 m4, e = .returned (.tuple #[.agg #[.slice b0 m0 d0, .slice b1 n d1, .slice b2 m2 d2, .slice b3 m3 d3, .slice b4 m4 d4], .int .i64 0]) ∧ IsR clS w' b1 S.cur ∧ Below V.heap.size V w' := by
  have h := smooth_c (shZ L T d n) a0 a1 a2 a3 a4 c0 c1 c2 c3 c4 1 V hz (sh_long hp)
  have e : (.agg #[.slice a0 (shZ L T d n).org.length c0, .slice a1 (shZ L T d n).cur.length c1, .slice a2 (shZ L T d n).tx.length c2, .slice a3 (shZ L T d n).ty.length c3, .slice a4 (shZ L T d n).ends.length c4] : Value) = .agg #[.slice a0 n c0, .slice a1 n c1, .slice a2 n c2, .slice a3 n c3, .slice a4 1 c4] := sh_zv hn a0 a1 a2 a3 a4 c0 c1 c2 c3 c4
  rw [e, hS] at h
  refine h.mono ?_
  rintro e w' ⟨b0, b1, b2, b3, b4, d0, d1, d2, d3, d4, rfl, ho, hb⟩
  exact ⟨b0, b1, b2, b3, b4, d0, d1, d2, d3, d4, _, _, _, _, by dsimp only; rw [zv, hSl], ho.isIn.r1, hb⟩

end Go.Proofs.Ytnoadceeenioeaa
