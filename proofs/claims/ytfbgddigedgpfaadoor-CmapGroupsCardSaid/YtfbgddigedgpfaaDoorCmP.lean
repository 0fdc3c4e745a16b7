/-
  What the document's Form12 and Table answer: the bytes of groups, and of a table with one subtable.
-/
import Derived.Test.YtfbgddigedgpfaaDoorBg
namespace Go.Proofs.YtfbgddigedgpfaaDoor
open Go.RowKit Go.PlainAid
set_option linter.unusedSimpArgs false
set_option linter.unusedVariables false

/-- The bytes of the first m numbers of groups. -/
def grpsB (f : Nat → Int) : Nat → ByteArray
  | 0 => ByteArray.empty
  | m + 1 => grpsB f m ++ bigB (f m) 4
theorem grpsB_size (f : Nat → Int) : ∀ m, (grpsB f m).size = 4 * m
  | 0 => rfl
  | m + 1 => by rw [grpsB, ByteArray.size_append, bigB_size, grpsB_size f m]; omega
def zeros4 : ByteArray := ⟨#[0, 0, 0, 0]⟩
/-- The head of a subtable of n groups. -/
def head12 (form : Int) (n : Nat) : ByteArray := twoB [form, 0] ++ bigB (16 + 12 * (n : Int)) 4 ++ zeros4 ++ bigB (n : Int) 4
theorem head12_size (form : Int) (n : Nat) : (head12 form n).size = 16 := by
  simp only [head12, ByteArray.size_append, bigB_size, twoB_size]; rfl
/-- Its bytes, up to the m-th number. -/
def form12B (form : Int) (n : Nat) (f : Nat → Int) (m : Nat) : ByteArray := head12 form n ++ grpsB f m
theorem form12B_size (form : Int) (n : Nat) (f : Nat → Int) (m : Nat) : (form12B form n f m).size = 16 + 4 * m := by
  rw [form12B, ByteArray.size_append, head12_size, grpsB_size]
theorem form12B_next (form : Int) (n : Nat) (f : Nat → Int) (m : Nat) : form12B form n f (m + 1) = form12B form n f m ++ bigB (f m) 4 := by
  rw [form12B, form12B, grpsB, join_assoc]
theorem form12B_zero (form : Int) (n : Nat) (f : Nat → Int) : form12B form n f 0 = head12 form n := by rw [form12B, grpsB, ByteArray.append_empty]

/-- A slice of groups. -/
def IsG (w : World) (a : Option Addr) (n : Nat) (f : Nat → Int) : Prop := n = 0 ∨ ∃ b off, a = some ⟨b, off, none⟩ ∧ ∀ m, m < 3 * n → w.cell? ⟨b, off + m, none⟩ = some (.int .i64 (f m))
theorem IsG.below {w w' : World} {a : Option Addr} {n : Nat} {f : Nat → Int} (h : IsG w a n f) (hb : Below w.heap.size w w') : IsG w' a n f := by
  rcases h with h | ⟨b, off, h1, h2⟩
  · exact .inl h
  · exact .inr ⟨b, off, h1, fun m hm => keepC hb (h2 m hm)⟩
theorem IsG.cells {w : World} {a : Option Addr} {n : Nat} {f : Nat → Int} (h : IsG w a n f) {m : Nat} (hm : m < n) : ∃ b off, a = some ⟨b, off, none⟩ ∧ w.cell? ⟨b, off + m * 3, none⟩ = some (.int .i64 (f (3 * m))) ∧ w.cell? ⟨b, off + m * 3 + 1, none⟩ = some (.int .i64 (f (3 * m + 1))) ∧ w.cell? ⟨b, off + m * 3 + 2, none⟩ = some (.int .i64 (f (3 * m + 2))) := by
  rcases h with h | ⟨b, off, h1, h2⟩
  · omega
  · refine ⟨b, off, h1, ?_, ?_, ?_⟩
    · rw [Nat.mul_comm m 3]; exact h2 _ (by omega)
    · rw [Nat.mul_comm m 3, Nat.add_assoc]; exact h2 _ (by omega)
    · rw [Nat.mul_comm m 3, Nat.add_assoc]; exact h2 _ (by omega)

theorem isB_zeros (w : World) : IsB (w.alloc (.cells #[.int .u8 0, .int .u8 0, .int .u8 0, .int .u8 0] 5)) (some ⟨w.heap.size, 0, none⟩) zeros4.size 4 zeros4 := by
  refine ⟨rfl, Nat.le_refl _, .inr ⟨w.heap.size, 0, rfl, fun i hi => ?_⟩⟩
  have h4 : i = 0 ∨ i = 1 ∨ i = 2 ∨ i = 3 := by have : i < 4 := hi; omega
  rcases h4 with rfl | rfl | rfl | rfl <;> simp [go_sem] <;> decide
def at12 : ByteArray := ⟨#[0, 0, 0, 12]⟩
theorem isB_at12 (w : World) : IsB (w.alloc (.cells #[.int .u8 0, .int .u8 0, .int .u8 0, .int .u8 12] 5)) (some ⟨w.heap.size, 0, none⟩) at12.size 4 at12 := by
  refine ⟨rfl, Nat.le_refl _, .inr ⟨w.heap.size, 0, rfl, fun i hi => ?_⟩⟩
  have h4 : i = 0 ∨ i = 1 ∨ i = 2 ∨ i = 3 := by have : i < 4 := hi; omega
  rcases h4 with rfl | rfl | rfl | rfl <;> simp [go_sem] <;> decide

theorem owns_base {w : World} {B B' : Nat} {e : TypeId} {size n g c : Nat} {xs : List Value} (h : w.ownsRow B e size (.slice (some ⟨g, 0, none⟩) n c) n xs) (hB : B' ≤ B) : w.ownsRow B' e size (.slice (some ⟨g, 0, none⟩) n c) n xs := by
  refine ⟨h.1, ?_⟩
  rcases h.2 with hn | ⟨g', cap, cur, hv, hb, rest⟩
  · exact .inl hn
  · exact .inr ⟨g', cap, cur, hv, Nat.le_trans hB hb, rest⟩
/-- A new row of bytes is answered. -/
def RowPost (S : ByteArray) (w : World) (e : Ending) (w' : World) : Prop := ∃ g c, e = .returned (.slice (some ⟨g, 0, none⟩) S.size c) ∧ OwnB w.heap.size w' g c S ∧ Below w.heap.size w w'

/-- What is kept while groups are written. -/
structure F12 (w : World) (g c : Nat) (S : ByteArray) (wr : World) : Prop where
  bel : Below w.heap.size w wr
  own : OwnB w.heap.size wr g c S
theorem F12.below {w wr w' : World} {g c : Nat} {S : ByteArray} (h : F12 w g c S wr) (hb : Below wr.heap.size wr w') : F12 w g c S w' := ⟨h.bel.trans (hb.mono h.bel.size), owns_stay h.own hb⟩
theorem F12.add {w wr w' : World} {g c g' c' : Nat} {S S' : ByteArray} (h : F12 w g c S wr) (ho : OwnB w.heap.size w' g' c' S') (hg : wr.grownBy w' (some g)) : F12 w g' c' S' w' :=
  ⟨grown_below h.bel hg h.bel.size (owns_lt h.own).2, ho⟩

/-- What is kept while a group is written. -/
structure F12g (w : World) (gb g c : Nat) (S : ByteArray) (h : Nat → Int) (wr : World) : Prop where
  f : F12 w g c S wr
  k : ∀ m, m < 3 → wr.cell? ⟨gb, m, none⟩ = some (.int .i64 (h m))
  ne : g ≠ gb
theorem F12g.below {w wr w' : World} {gb g c : Nat} {S : ByteArray} {h : Nat → Int} (x : F12g w gb g c S h wr) (hb : Below wr.heap.size wr w') : F12g w gb g c S h w' :=
  ⟨x.f.below hb, fun m hm => keepC hb (x.k m hm), x.ne⟩
theorem F12g.add {w wr w' : World} {gb g c g' c' : Nat} {S S' : ByteArray} {h : Nat → Int} (x : F12g w gb g c S h wr) (ho : OwnB w.heap.size w' g' c' S') (hg : wr.grownBy w' (some g)) (hat : g' = g ∨ wr.heap.size ≤ g') : F12g w gb g' c' S' h w' := by
  have hlt := World.block_lt_of_cell? wr _ (x.k 0 (by decide))
  refine ⟨x.f.add ho hg, fun m hm => ?_, ?_⟩
  · have hk := x.k m hm
    have := hg.block gb hlt (fun e => x.ne (Option.some.inj e).symm)
    simp only [World.cell?, World.cells?, this] at hk ⊢
    exact hk
  · rcases hat with rfl | hat
    · exact x.ne
    · intro e; subst e; simp only at hlt; omega

set_option maxRecDepth 20000 in
set_option maxHeartbeats 2000000 in
theorem form12_c (form : Int) (n cap : Nat) (f : Nat → Int) (a : Option Addr) (w : World) (hG : IsG w a n f) (hn : n ≤ 4096) (hf : ∀ m, m < 3 * n → 0 ≤ f m ∧ f m ≤ 4294967295) (hf0 : 0 ≤ form) (hf1 : form ≤ 65535) :
    Calls Tryd.prog 9 #[.int .i64 form, .slice a n cap] w (RowPost (form12B form n f (3 * n)) w) := by
  have HG := Lib.hid hG
  have HN := Lib.hid hn
  have HF' := Lib.hid hf
  have HFO := Lib.hid (And.intro hf0 hf1)
  have hb0 := (Below.refl w.heap.size w).alloc (Nat.le_refl _) (.cells #[.int .i64 form, .int .i64 0] 3)
  have HB0 := Lib.hid hb0
  have HI0 : Hid (IsI (w.alloc (.cells #[.int .i64 form, .int .i64 0] 3)) (some ⟨w.heap.size, 0, none⟩) 2 2 [form, 0]) := (intsAt_alloc w [form, 0]).isI rfl 2
  have hw1 : wrap64 (12 * (n : Int)) = 12 * (n : Int) := by unfold wrap64; omega
  have hw2 : wrap64 (16 + 12 * (n : Int)) = 16 + 12 * (n : Int) := by unfold wrap64; omega
  clear hG hn hf hf0 hf1 hb0
  go_enter Tryd.func9, Tryd.ntmps9
  go_wp2_with fail
  generalize (w.alloc (.cells #[.int .i64 form, .int .i64 0] 3)) = w0 at *
  refine (two_c (some ⟨w.heap.size, 0, none⟩) 2 2 [form, 0] w0 HI0.out (by decide) (fun x hx => by have := HFO.out; simp at hx; omega)).mono ?_
  rintro e w1 ⟨g1, c1, rfl, ho1, hb1⟩
  have HB1 := Lib.hid (HB0.out.trans (hb1.mono HB0.out.size))
  have HF1 : Hid (F12 w g1 c1 (twoB [form, 0]) w1) := ⟨HB1.out, owns_base ho1 HB0.out.size⟩
  have HZ1 : Hid ((twoB [form, 0]).size = 4) := by unfold Hid; rw [twoB_size]; rfl
  clear ho1 hb1 HB1
  go_wp2_with fail
  refine (big4_c (16 + 12 * (n : Int)) w1 (by omega) (by have := HN.out; omega)).mono ?_
  rintro e w2 ⟨rfl, hby, hb2⟩
  have HF2 := Lib.hid (HF1.out.below hb2)
  have HI2 := Lib.hid (bigIs hby (by omega))
  clear hby hb2 HF1
  go_wp2_with (first
    | (at_builtin; refine wpList_add rfl _ _ rfl w2 w.heap.size g1 c1 (twoB [form, 0]) (bigB (16 + 12 * (n : Int)) 4) (some ⟨w1.heap.size, 0, none⟩) 4 4 4 HZ1.out.symm (bigB_size 4 _).symm rfl rfl HF2.out.own HI2.out (by rw [HZ1.out, bigB_size]; omega) HF2.out.bel.size ?_; intro g3 c3 w3 ho3 hg3 hat3; have HF3 := Lib.hid (HF2.out.add ho3 hg3); clear ho3 hg3 hat3)
    | (at_builtin; refine wpList_add rfl _ _ rfl (w3.alloc (.cells #[.int .u8 0, .int .u8 0, .int .u8 0, .int .u8 0] 5)) w.heap.size g3 c3 (twoB [form, 0] ++ bigB (16 + 12 * (n : Int)) 4) zeros4 (some ⟨w3.heap.size, 0, none⟩) 4 8 4 (by rw [ByteArray.size_append, HZ1.out, bigB_size]) rfl rfl rfl (HF3.out.below ((Below.refl _ _).alloc (Nat.le_refl _) _)).own (isB_zeros w3) (by rw [ByteArray.size_append, HZ1.out, bigB_size]; decide) (HF3.out.below ((Below.refl _ _).alloc (Nat.le_refl _) _)).bel.size ?_; intro g4 c4 w4 ho4 hg4 hat4; have HF4 := Lib.hid ((HF3.out.below ((Below.refl _ _).alloc (Nat.le_refl _) _)).add ho4 hg4); clear ho4 hg4 hat4))
  refine (big4_c (n : Int) w4 (by omega) (by have := HN.out; omega)).mono ?_
  rintro e w5 ⟨rfl, hby, hb5⟩
  have HF5 := Lib.hid (HF4.out.below hb5)
  have HI5 := Lib.hid (bigIs hby (by omega))
  have HZ4 : Hid ((twoB [form, 0] ++ bigB (16 + 12 * (n : Int)) 4 ++ zeros4).size = 12) := by unfold Hid; rw [ByteArray.size_append, ByteArray.size_append, HZ1.out, bigB_size]; rfl
  clear hby hb5 HF4
  go_wp2_with (at_builtin; refine wpList_add rfl _ _ rfl w5 w.heap.size g4 c4 (twoB [form, 0] ++ bigB (16 + 12 * (n : Int)) 4 ++ zeros4) (bigB (n : Int) 4) (some ⟨w4.heap.size, 0, none⟩) 4 12 4 HZ4.out.symm (bigB_size 4 _).symm rfl rfl HF5.out.own HI5.out (by rw [HZ4.out, bigB_size]; omega) HF5.out.bel.size ?_; intro g6 c6 w6 ho6 hg6 hat6; have HF6 := Lib.hid (HF5.out.add ho6 hg6); clear ho6 hg6 hat6)
  have HF7 : Hid (F12 w g6 c6 (form12B form n f (3 * 0)) w6) := by unfold Hid; rw [Nat.mul_zero, form12B_zero]; exact HF6.out
  clear HF6 HF5 HF2
  go_loopw [5, 29] (fun v i wr => ∃ j g c : Nat, j ≤ n ∧ v = .slice (some ⟨g, 0, none⟩) (16 + 12 * j) c ∧ i = .int .i64 j ∧ Hid (F12 w g c (form12B form n f (3 * j)) wr)) (fun _ i _ => n - (intOf i).toNat)
  case atStart => exact ⟨0, g6, c6, Nat.zero_le _, rfl, rfl, HF7⟩
  case round =>
    clear HF7
    obtain ⟨j, g, c, hj, rfl, rfl, HF⟩ := hrel
    by_cases hlt : j < n
    · have hlt' : (j : Int) < (n : Int) := by omega
      obtain ⟨b, off, rfl, c0, c1, c2⟩ := (HG.out.below HF.out.bel).cells hlt
      have HX7 : Hid (wrap64 ((j : Int) + 1) = ((j + 1 : Nat) : Int)) := by have := HN.out; unfold Hid wrap64; omega
      have HJN : Hid (j < n) := hlt
      have hb1 := (Below.refl wr.heap.size wr).alloc (Nat.le_refl _) (.cells #[.int .i64 (f (3 * j)), .int .i64 (f (3 * j + 1)), .int .i64 (f (3 * j + 2))] 24)
      have HK : Hid (F12g w wr.heap.size g c (form12B form n f (3 * j + 0)) (fun m => f (3 * j + m)) (wr.alloc (.cells #[.int .i64 (f (3 * j)), .int .i64 (f (3 * j + 1)), .int .i64 (f (3 * j + 2))] 24))) := by
        refine ⟨HF.out.below hb1, fun m hm => ?_, ?_⟩
        · have h3 : m = 0 ∨ m = 1 ∨ m = 2 := by omega
          rcases h3 with rfl | rfl | rfl <;> simp [go_sem]
        · have := (owns_lt HF.out.own).1; omega
      clear hb1 hlt hj
      go_wp2_with fail
      clear c0 c1 c2 HF
      generalize (wr.alloc (.cells #[.int .i64 (f (3 * j)), .int .i64 (f (3 * j + 1)), .int .i64 (f (3 * j + 2))] 24)) = wq at *
      generalize wr.heap.size = gb at *
      go_loopw [5, 8] (fun v x wx => ∃ i g c : Nat, i ≤ 3 ∧ v = .slice (some ⟨g, 0, none⟩) (16 + 12 * j + 4 * i) c ∧ x = .int .i64 i ∧ Hid (F12g w gb g c (form12B form n f (3 * j + i)) (fun m => f (3 * j + m)) wx)) (fun _ x _ => 3 - (intOf x).toNat)
      case atStart => exact ⟨0, g, c, Nat.zero_le _, rfl, rfl, HK⟩
      case round =>
        clear HK
        obtain ⟨i, g, c, hi, rfl, rfl, HF⟩ := hrel
        by_cases hi3 : i < 3
        · have hi3' : (i : Int) < 3 := by omega
          have hi0 : (0 : Int) ≤ (i : Int) := by omega
          have ck := HF.out.k i hi3
          obtain ⟨y, HY⟩ : ∃ y, Hid (f (3 * j + i) = y) := ⟨_, rfl⟩
          rw [HY.out] at ck
          have HYB : Hid (0 ≤ y ∧ y ≤ 4294967295) := by have := HF'.out (3 * j + i) (by have := HJN.out; omega); rw [HY.out] at this; exact this
          have HI3 : Hid (i < 3) := hi3
          have HZ : Hid ((form12B form n f (3 * j + i)).size = 16 + 12 * j + 4 * i) := by unfold Hid; rw [form12B_size]; omega
          clear hi3 hi
          go_wp2_with fail
          refine (big4_c y wr HYB.out.1 (by have := HYB.out; omega)).mono ?_
          rintro e w7 ⟨rfl, hby, hb7⟩
          have HF8 := Lib.hid (HF.out.below hb7)
          have HI8 := Lib.hid (bigIs hby (by omega))
          clear hby hb7 HF ck
          go_wp2_with (at_builtin; refine wpList_add rfl _ _ rfl w7 w.heap.size g c (form12B form n f (3 * j + i)) (bigB y 4) (some ⟨wr.heap.size, 0, none⟩) 4 (16 + 12 * j + 4 * i) 4 HZ.out.symm (bigB_size 4 _).symm rfl rfl HF8.out.f.own HI8.out (by rw [HZ.out, bigB_size]; have := HN.out; have := HJN.out; have := HI3.out; omega) HF8.out.f.bel.size ?_; intro g9 c9 w9 ho9 hg9 hat9; have HF9 := Lib.hid (HF8.out.add ho9 hg9 hat9); clear ho9 hg9 hat9)
          have HF10 : Hid (F12g w gb g9 c9 (form12B form n f (3 * j + (i + 1))) (fun m => f (3 * j + m)) w9) := by
            unfold Hid; rw [← Nat.add_assoc, form12B_next, HY.out]; exact HF9.out
          go_roundw
          case rel => exact ⟨i + 1, g9, c9, HI3.out, by rw [show 16 + 12 * j + 4 * (i + 1) = 16 + 12 * j + 4 * i + 4 by omega], by go_num, HF10⟩
          case measure => have := HI3.out; simp only [intOf]; omega
        · have hi3' : ¬ (i : Int) < 3 := by omega
          obtain rfl : i = 3 := by omega
          have HF11 : Hid (F12 w g c (form12B form n f (3 * (j + 1))) wr) := HF.out.f
          go_wp2_with fail
          go_roundw
          case rel => exact ⟨j + 1, g, c, HJN.out, by rw [show 16 + 12 * (j + 1) = 16 + 12 * j + 4 * 3 by omega], by rw [HX7.out], HF11⟩
          case measure => have := HJN.out; rw [HX7.out]; simp only [intOf]; omega
    · have hlt' : ¬ (j : Int) < (n : Int) := by omega
      obtain rfl : j = n := by omega
      have HZ : Hid ((form12B form j f (3 * j)).size = 16 + 12 * j) := by unfold Hid; rw [form12B_size]; omega
      go_wp2_with fail
      go_ret
      exact ⟨g, c, by rw [HZ.out]; rfl, HF.out.own, HF.out.bel⟩

end Go.Proofs.YtfbgddigedgpfaaDoor
