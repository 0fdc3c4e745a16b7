/-
  What Flat of package path gives: an outline's polygons in new memory, or refused for its reason.
-/
import Derived.Test.YthjhekmlhmljlaaFlB
namespace Go.Proofs.Ythjhekmlhmljlaa
open Go.RowKit Go.PlainAid
set_option linter.unusedSimpArgs false
set_option linter.unusedVariables false

theorem made_nil (k : Nat) : madeCells #[Value.slice none 0 0] k = (List.replicate k (Value.slice none 0 0)).toArray := by
  apply Array.ext
  · simp [size_madeCells]
  · intro i h1 h2
    simp [madeCells, Nat.mod_one]
/-- make of so many rows, none of them there yet. -/
theorem make_rows {t e : TypeId} (H : ElT t e 1 24) (hz : (Try.prog.info? e).map (fun i => (i.zero, i.size, i.bytes)) = some (some (.slice none 0 0), 1, 24)) (k : Nat) (hk : k ≤ 1000000) (u : World) : ∃ w', (Instr.makeSlice t (.int .i64 (k : Int)) (.int .i64 (k : Int))).run Try.prog u = .ok (.slice (some ⟨u.heap.size, 0, none⟩) k k) w' ∧
    w'.heap[u.heap.size]? = some (.cells (List.replicate k (Value.slice none 0 0)).toArray e (0, 0)) ∧ Below u.heap.size u w' ∧ w'.heap.size = u.heap.size + 1 := by
  obtain ⟨i0, hi, hz0, hz1, hz2⟩ := info_parts hz
  have h := run_make (P := Try.prog) u t e i0 (.slice none 0 0) H.1 hi hz0 .i64 .i64 (k : Int) (k : Int) (by omega) (Int.le_refl _) (by rw [hz2]; omega) (by omega)
  rw [Int.toNat_natCast] at h
  refine ⟨u.alloc (.cells (List.replicate k (Value.slice none 0 0)).toArray e), ?_, heap_alloc_new u _, (Below.refl _ _).alloc (Nat.le_refl _) _, by simp [go_sem]⟩
  rw [← made_nil]
  simpa [hz1, Value.cells] using h
theorem zeroSS : (Try.prog.info? 45).map (fun i => (i.zero, i.size, i.bytes)) = some (some (.slice none 0 0), 1, 24) := by kernel_rfl
theorem zeroKK : (Try.prog.info? 35).map (fun i => (i.zero, i.size, i.bytes)) = some (some (.slice none 0 0), 1, 24) := by kernel_rfl

theorem flatL_none : ∀ {O : List (List Kn)} {c : List Kn}, c ∈ O → polyL c = none → flatL O = none
  | [], c, h, _ => by simp at h
  | a :: O, c, h, hp => by
    rw [flatL]
    rcases List.mem_cons.1 h with e | h
    · subst e; rw [hp]
    · rw [flatL_none h hp]
      cases polyL a <;> rfl
theorem flatL_some : ∀ {O : List (List Kn)} {Q : List (List Sp)}, Q.length = O.length → (∀ (j : Nat) c q, O[j]? = some c → Q[j]? = some q → polyL c = some q) → flatL O = some Q
  | [], Q, h, _ => by
    have : Q = [] := List.eq_nil_of_length_eq_zero h
    rw [this]; rfl
  | a :: O, [], h, _ => by simp at h
  | a :: O, q :: Q, h, hall => by
    rw [flatL, hall 0 a q rfl rfl, flatL_some (O := O) (Q := Q) (by simpa using h) (fun j c x hc hx => hall (j + 1) c x (by simpa using hc) (by simpa using hx))]
theorem kindB_good {k : Kn} (h1 : kindB k = true) (h2 : fixK k = true) : (k.k = 1 ∨ k.k = 2 ∨ k.k = 3) ∧ FixS k.sp := by
  have h3 : 1 ≤ k.k ∧ k.k ≤ 3 := by simpa [kindB] using h1
  unfold fixK at h2
  rw [Bool.and_eq_true] at h2
  refine ⟨by omega, fixB_true h2.1, fixB_true h2.2⟩
theorem check_ok {O : List (List Kn)} (h : checkE O = 0) : manyB O = false ∧ ∀ c ∈ O, GoodK c := by
  unfold checkE at h
  cases hm : manyB O
  · refine ⟨rfl, ?_⟩
    rw [hm] at h
    cases hk : (O.all fun c => c.all kindB)
    · rw [hk] at h; simp at h
    · cases hf : (O.all fun c => c.all fixK)
      · rw [hk, hf] at h; simp at h
      · intro c hc k hk'
        rw [List.all_eq_true] at hk hf
        have h1 := hk c hc
        have h2 := hf c hc
        rw [List.all_eq_true] at h1 h2
        exact kindB_good (h1 k hk') (h2 k hk')
  · rw [hm] at h; simp at h

/-- The polygons in new memory; refused. -/
def OutPost (w : World) (P : List (List Sp)) (e : Ending) (w' : World) : Prop := ∃ g vs N, e = .returned (.tuple #[.slice (some ⟨g, 0, none⟩) P.length P.length, .int .i64 0]) ∧ OutAt clS 2 47 45 g vs P 0 N w' ∧ w.heap.size ≤ g ∧ Below w.heap.size w w'
def ErrPost (w : World) (n : Int) (e : Ending) (w' : World) : Prop := e = .returned (.tuple #[.slice none 0 0, .int .i64 n]) ∧ Below w.heap.size w w'

set_option maxHeartbeats 1000000 in
theorem flat_refused (a : Option Addr) (cap : Nat) (O : List (List Kn)) (w : World) (ho : IsO clK w a O) (hl : Long O) (hc : ¬ checkE O = 0) :
    Calls Try.prog 18 #[.slice a O.length cap] w (ErrPost w (checkE O)) := by
  have HC := Lib.hid (checked_c a cap O w ho hl)
  obtain ⟨E, HE⟩ : ∃ E, Hid (checkE O = E) := ⟨_, rfl⟩
  rw [HE.out] at HC hc
  rw [HE.out]
  have q : (E == 0) = false := by simpa using hc
  clear ho hl hc
  go_enter Try.func18, Try.ntmps18
  go_wp2_with fail
  refine HC.out.mono ?_
  rintro e w1 ⟨rfl, hb⟩
  have HB := Lib.hid hb
  clear hb HC
  go_wp2_with fail
  go_ret2
  exact ⟨rfl, HB.out⟩

/-- What Flat answers for an outline that is not refused ahead. -/
def FlatsPost (w : World) (r : Option (List (List Sp))) (e : Ending) (w' : World) : Prop := match r with
  | none => ErrPost w 61 e w'
  | some P => OutPost w P e w'
theorem flatsPost_none {w : World} {r : Option (List (List Sp))} {e : Ending} {w' : World} (h : r = none) (hp : ErrPost w 61 e w') : FlatsPost w r e w' := by rw [h]; exact hp
theorem flatsPost_some {w : World} {r : Option (List (List Sp))} {P : List (List Sp)} {e : Ending} {w' : World} (h : r = some P) (hp : OutPost w P e w') : FlatsPost w r e w' := by rw [h]; exact hp

set_option maxRecDepth 20000 in
set_option maxHeartbeats 2000000 in
theorem flat_run (a : Option Addr) (cap : Nat) (O : List (List Kn)) (w : World) (ho : IsO clK w a O) (hl : Long O) (hc : checkE O = 0) :
    Calls Try.prog 18 #[.slice a O.length cap] w (FlatsPost w (flatL O)) := by
  have HC := Lib.hid (checked_c a cap O w ho hl)
  rw [hc] at HC
  obtain ⟨hm, hg⟩ := check_ok hc
  obtain ⟨n1, n2, n3⟩ := many_no hm
  have HG := Lib.hid hg
  have HN3 := Lib.hid n3
  have HO := Lib.hid ho
  obtain ⟨n, HN⟩ : ∃ n, Hid (O.length = n) := ⟨_, rfl⟩
  have hn : (n : Int) ≤ 256 := by have := HN.out; omega
  rw [HN.out] at HC
  rw [HN.out]
  clear ho hl hc hm hg n1 n2 n3
  go_enter Try.func18, Try.ntmps18
  go_wp2_with fail
  refine HC.out.mono ?_
  rintro e w1 ⟨rfl, hb1⟩
  have HB1 := Lib.hid hb1
  obtain ⟨w2, hmk, hblk, hb2, hs2⟩ := make_rows elSS zeroSS n (by omega) w1
  have HB2 : Hid (Below w.heap.size w w2) := bel_next hb1 hb2
  have HA0 : Hid (OutAt clS 2 47 45 w1.heap.size [] [] (n - 0) (fun _ => w1.heap.size + 1) w2) := ⟨by simpa using hblk, rfl, fun i v L hv => by simp at hv, fun _ => Nat.le_refl _, Nat.lt_succ_self _, by rw [hs2]; exact Nat.le_refl _⟩
  have HGE : Hid (w.heap.size ≤ w1.heap.size) := hb1.size
  clear hb1 hb2 hblk hs2 HC
  go_wp2_with fail
  clear hmk
  generalize w1.heap.size = g at *
  go_loopw [20] (fun x wr => ∃ i : Nat, ∃ vs Qs N, i ≤ n ∧ x = .int .i64 i ∧ Hid (OutAt clS 2 47 45 g vs Qs (n - i) N wr) ∧ Hid (Qs.length = i ∧ ∀ (j : Nat) c q, O[j]? = some c → Qs[j]? = some q → polyL c = some q) ∧ Hid (Below w.heap.size w wr)) (fun x _ => n - (intOf x).toNat)
  case atStart => exact ⟨0, [], [], _, Nat.zero_le _, rfl, HA0, ⟨rfl, fun j c q _ h => by simp at h⟩, HB2⟩
  case round =>
    clear HA0 HB2
    obtain ⟨i, vs, Qs, N, hi, rfl, HA, HQ, HB⟩ := hrel
    by_cases hlt : i < n
    · have hlt' : (i : Int) < (n : Int) := by omega
      have hi0 : (0 : Int) ≤ (i : Int) := by omega
      obtain ⟨c, hcc⟩ := get_of (show i < O.length by rw [HN.out]; exact hlt)
      obtain ⟨b, off, ai, ci, rfl, c0, hci, hr⟩ := (HO.out.below HB.out).at hcc
      have HFC := Lib.hid (flattened_c ai ci c wr hr (HN3.out c (List.mem_of_getElem? hcc)) hci (HG.out c (List.mem_of_getElem? hcc)))
      have HCC := Lib.hid hcc
      have HLT := Lib.hid hlt
      have HX := Lib.hid (next64 (j := i) (by omega))
      clear hr hcc hci hi hlt
      go_wp2_with fail
      refine HFC.out.mono ?_
      intro e w5 hp
      unfold FltPost at hp
      cases hpl : polyL c with
      | none =>
        rw [hpl] at hp
        obtain ⟨rfl, hb5⟩ := hp
        have HB5 := Lib.hid (bel_next HB.out hb5)
        have HE := Lib.hid (flatL_none (List.mem_of_getElem? HCC.out) hpl)
        clear hb5 hpl HFC c0
        go_wp2_with fail
        go_ret2
        exact flatsPost_none HE.out ⟨rfl, HB5.out⟩
      | some Q =>
        rw [hpl] at hp
        obtain ⟨ar, cr, rfl, ho5, hb5⟩ := hp
        have HA1 : Hid (OutAt clS 2 47 45 g vs Qs (n - (i + 1) + 1) N wr) := by have := HA.out; rwa [show n - i = n - (i + 1) + 1 by have := HLT.out; omega] at this
        have HA2 := Lib.hid (HA1.out.add hb5 ho5)
        have hcell : w5.cell? ⟨g, i, none⟩ = some (.slice none 0 0) := by
          have h1 := (HA.out.below hb5).blk
          rw [cell_blk h1 i]
          have h2 := HA.out.len
          have h3 := HQ.out.1
          have h4 := HLT.out
          simp [List.getElem?_append_right (show vs.length ≤ i by omega), List.getElem?_replicate, show i - vs.length < n - i by omega]
        have hfz : w5.frozen? ⟨g, i, none⟩ = false := frozen_blk (HA.out.below hb5).blk i
        have HGG : Hid (w.heap.size ≤ g) := HGE.out
        have HB5 : Hid (Below w.heap.size w (w5.setCell ⟨g, i, none⟩ (.slice ar Q.length cr))) := bel_set (bel_next HB.out hb5) HGE.out _
        have HQ2 : Hid ((Qs ++ [Q]).length = i + 1 ∧ ∀ (j : Nat) c q, O[j]? = some c → (Qs ++ [Q])[j]? = some q → polyL c = some q) := by
          refine ⟨by rw [List.length_append, HQ.out.1]; rfl, fun j c' q' h1 h2 => ?_⟩
          by_cases hj : j < Qs.length
          · rw [List.getElem?_append_left hj] at h2; exact HQ.out.2 j c' q' h1 h2
          · have hj2 : j = Qs.length := by
              have := (List.getElem?_eq_some_iff.1 h2).1
              simp at this; omega
            subst hj2
            rw [HQ.out.1, HCC.out] at h1
            have h3 : Q = q' := by simpa using h2
            cases h1
            rw [← h3]; exact hpl
        rw [HQ.out.1] at HA2
        clear hb5 ho5 hpl HFC c0
        go_wp2_with fail
        go_roundw
        case rel => exact ⟨i + 1, _, Qs ++ [Q], _, HLT.out, by go_num, HA2, HQ2, HB5⟩
        case measure => have := HLT.out; simp only [intOf]; omega
    · have hlt' : ¬ (i : Int) < (n : Int) := by omega
      obtain rfl : i = n := by omega
      have HE := Lib.hid (flatL_some (O := O) (Q := Qs) (by rw [HQ.out.1, HN.out]) HQ.out.2)
      have HAE : Hid (OutAt clS 2 47 45 g vs Qs 0 N wr) := by have := HA.out; rwa [Nat.sub_self] at this
      go_wp2_with fail
      go_ret2
      exact flatsPost_some HE.out ⟨g, vs, N, by rw [HQ.out.1]; rfl, HAE.out, HGE.out, HB.out⟩

end Go.Proofs.Ythjhekmlhmljlaa
