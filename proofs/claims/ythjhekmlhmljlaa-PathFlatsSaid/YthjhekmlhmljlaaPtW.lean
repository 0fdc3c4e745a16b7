/-
  What flattened of package path gives: a contour's polygon, in a new row, or refused. For knots of the three kinds whose coordinates are FIX.
-/
import Derived.Test.YthjhekmlhmljlaaPtY
namespace Go.Proofs.Ythjhekmlhmljlaa
open Go.RowKit Go.PlainAid
set_option linter.unusedSimpArgs false
set_option linter.unusedVariables false

/-- What flattened answers, by the arcs. -/
def RingPost (w : World) (s : Sp) (r : Option (List Arc × Bool)) (e : Ending) (w' : World) : Prop := match r with
  | none => PolyBad w e w'
  | some (bs, cl) => PolyPost w (ringL s bs cl) e w'
theorem ringPost_none {w : World} {s : Sp} {r : Option (List Arc × Bool)} {e : Ending} {w' : World} (h : r = none) (hp : PolyBad w e w') : RingPost w s r e w' := by rw [h]; exact hp
theorem ringPost_some {w : World} {s : Sp} {r : Option (List Arc × Bool)} {e : Ending} {w' : World} {bs : List Arc} {cl : Bool} (h : r = some (bs, cl)) (hp : PolyPost w (ringL s bs cl) e w') : RingPost w s r e w' := by rw [h]; exact hp

theorem flt_next {w2 : World} {W : Nat} {s : Sp} {l : List Kn} {wr w' : World} {L L' : List Kn} {done : List Arc} {cl c2 : Bool} {ca ca' : Option Addr} {cc g pc cc' g' pc' : Nat} {a : Arc} (h : Flt w2 W s l wr L done cl ca cc g pc) (hst : FixS s) (ha : arc1 s L = some (a, L', c2)) (hw : Wk w2 W s ca' cc' L' g' pc' (s :: ptsL s done ++ arcPts (endL s done) a) (cl || c2) w') : Flt w2 W s l w' L' (done ++ [a]) (cl || c2) ca' cc' g' pc' := by
  have e := ptsL_snoc s done a
  have hg := arc1_good hst h.good ha
  refine ⟨by rw [e]; exact hw, hg.2, h.run.next ha, ?_, by rw [endL_snoc]; exact hg.1, fun _ => by simp⟩
  have h1 := (arcPts_length (endL s done) a).2
  have h2 := (arc1_less ha).1
  have h3 := h.size
  rw [e, List.length_append]; omega

set_option maxRecDepth 20000 in
set_option maxHeartbeats 4000000 in
theorem flattened_run (a : Option Addr) (cap n : Nat) (s : Sp) (l : List Kn) (w : World) (hn : 0 < n) (hbg : Calls Try.prog 60 #[.slice a n cap] w (BegunPost w s l)) (hs : FixS s) (hg : GoodK l) (hl : l.length ≤ 4096) :
    Calls Try.prog 40 #[.slice a n cap] w (RingPost w s (arcsL s l)) := by
  have HS := Lib.hid hs
  have HBG := Lib.hid hbg
  have HGL := Lib.hid hg
  have HLL := Lib.hid hl
  have q0 : ((n : Int) == 0) = false := by simp; omega
  have q1 : ¬ n = 0 := by omega
  clear hs hbg hg hl hn
  go_enter Try.func40, Try.ntmps40
  go_wp2_with fail
  refine HBG.out.mono ?_
  rintro e w1 ⟨ca, cc, rfl, hcc, hr, hb1⟩
  unfold spV
  have HB1 := Lib.hid hb1
  have HR := Lib.hid (hr.below ((Below.refl _ _).alloc (Nat.le_refl _) (.cells #[.int .i64 s.x, .int .i64 s.y] 47)))
  have HCC := Lib.hid hcc
  obtain ⟨n1, HN1⟩ : ∃ n1, Hid (l.length = n1) := ⟨_, rfl⟩
  rw [HN1.out]
  clear hb1 hr hcc HBG
  go_wp2_with fail
  have HW0 := Lib.hid (wk_new (w1.alloc (.cells #[.int .i64 s.x, .int .i64 s.y] 47)) s ca cc l HR.out HCC.out)
  rw [HN1.out] at HW0
  have HSZ : Hid ((w1.alloc (.cells #[.int .i64 s.x, .int .i64 s.y] 47)).heap.size = w1.heap.size + 1) := by simp [Hid]
  rw [HSZ.out] at HW0
  have HB2 : Hid (Below w.heap.size w (w1.alloc (.cells #[.int .i64 s.x, .int .i64 s.y] 47))) := bel_alloc HB1.out _
  generalize (((w1.alloc (.cells #[.int .i64 s.x, .int .i64 s.y] 47)).alloc (.cells #[.int .i64 s.x, .int .i64 s.y] 47)).alloc (.cells #[.int .i64 s.x, .int .i64 s.y, .slice ca n1 cc, .slice (some ⟨w1.heap.size + 1, 0, none⟩) 1 1, .bool false] 102)) = V at *
  clear HSZ HR
  generalize (w1.alloc (.cells #[.int .i64 s.x, .int .i64 s.y] 47)) = w2 at *
  generalize w1.heap.size + 1 + 1 = W at *
  have HF0 : Hid (Flt w2 W s l V l [] false ca cc (w1.heap.size + 1) 1) := ⟨HW0.out, HGL.out, RunInv.start s l, by have := HLL.out; simp [ptsL]; omega, HS.out, fun h => by cases h⟩
  clear HW0
  go_loopw [8] (fun x wr => ∃ L done cl ca cc g pc, Hid (Flt w2 W s l wr L done cl ca cc g pc)) (fun _ wr => comLen W wr)
  case atStart => exact ⟨l, [], false, ca, cc, _, 1, HF0⟩
  case round =>
    clear HF0
    obtain ⟨L, done, cl, ca, cc, g, pc, HF⟩ := hrel
    obtain ⟨k, HK⟩ : ∃ k, Hid (L.length = k) := ⟨_, rfl⟩
    have c2 := HF.out.wk.cs.c2
    rw [HK.out] at c2
    have hlast := last_at (ptsL_last s done)
    have HLA := Lib.hid hlast
    have HPL : Hid ((s :: ptsL s done).length ≤ 1000000) := by have := HF.out.size; unfold Hid; simp only [List.length_cons]; omega
    have HCL := Lib.hid HF.out.wk.com_len
    clear hlast
    by_cases hL : k = 0
    · have hLn : L = [] := List.eq_nil_of_length_eq_zero (by rw [HK.out]; exact hL)
      subst hLn
      subst hL
      have HAR := Lib.hid HF.out.run.fin
      have c3 := HF.out.wk.cs.c3
      have c4 := HF.out.wk.cs.c4
      have f3 := HF.out.wk.cs.f3
      have HOW := Lib.hid (HF.out.wk.own.mono (base' := w.heap.size) HB2.out.size)
      have HBE : Hid (Below w.heap.size w wr) := HB2.out.trans (HF.out.wk.bel.mono HB2.out.size)
      have HWW : Hid (w.heap.size ≤ W) := Nat.le_trans HB2.out.size HF.out.wk.hW
      have HNE := Lib.hid HF.out.wk.ne
      obtain ⟨m, HM⟩ : ∃ m, Hid ((s :: ptsL s done).length = m) := ⟨_, rfl⟩
      have hm0 := HLA.out.2
      have hm1 := HPL.out
      rw [HM.out] at c3 hm0 hm1
      have m1 : (0 : Int) ≤ (m : Int) - 1 := by omega
      have m2 : (m : Int) - 1 ≤ (m : Int) := by omega
      have m3 : ((m : Int) - 1).toNat = m - 1 := by omega
      have m4 : (m : Int) ≤ 1000000 := by omega
      have m5 : (1 : Int) ≤ (m : Int) := by omega
      have hmc : m ≤ pc := by have := (ownsRow_cap HOW.out).1; rw [HM.out] at this; exact this
      have m6 : (m : Int) - 1 ≤ (pc : Int) := by omega
      clear HF hm0 hm1 hmc
      cases cl
      · go_wp2_with fail
        go_ret2
        refine ringPost_some HAR.out ⟨g, pc, ?_, HOW.out, HBE.out⟩
        show _ = Ending.returned (.tuple #[.slice (some ⟨g, 0, none⟩) (s :: ptsL s done).length pc, .int .i64 0])
        rw [HM.out]; rfl
      · have HO2 := Lib.hid (own_set (own_cut HOW.out (m - 1) (by rw [HM.out]; omega)) ⟨W, 3, none⟩ (.slice (some ⟨g, 0, none⟩) (m - 1) pc) (Ne.symm HNE.out))
        go_wp2_with fail
        go_ret2
        have hlen : (ringL s done true).length = m - 1 := by
          show (s :: ptsL s done).dropLast.length = m - 1
          rw [List.length_dropLast, HM.out]
        refine ringPost_some HAR.out ⟨g, pc, ?_, ?_, bel_set HBE.out HWW.out _⟩
        · rw [hlen]; rfl
        · rw [hlen]
          have h := HO2.out
          have e := flat_take (s :: ptsL s done)
          rw [HM.out] at e
          rw [e] at h
          exact h
    · have hLn : L ≠ [] := fun e => hL (by rw [← HK.out, e]; rfl)
      have q2 : (0 : Int) < (k : Int) := by omega
      have HLN := Lib.hid hLn
      clear hLn hL
      cases ha : arc1 s L with
      | none =>
        have HSN := Lib.hid (step_none w2 W s ca cc L g pc (s :: ptsL s done) (endL s done) cl wr HF.out.wk HPL.out HLA.out.1 HLA.out.2 HLN.out HF.out.good ha)
        have HAR := Lib.hid (HF.out.run.stop HLN.out ha)
        clear HF ha
        go_wp2_with fail
        refine HSN.out.mono ?_
        rintro e w5 ⟨rfl, hb5⟩
        have HB5 : Hid (Below w.heap.size w w5) := HB2.out.trans (hb5.mono HB2.out.size)
        clear hb5 HSN c2
        go_wp2_with fail
        go_ret2
        exact ringPost_none HAR.out ⟨rfl, HB5.out⟩
      | some x =>
        obtain ⟨r, L', c'⟩ := x
        have HSS := Lib.hid (step_some w2 W s ca cc L g pc (s :: ptsL s done) (endL s done) cl wr r L' c' HF.out.wk HPL.out HLA.out.1 HLA.out.2 HS.out HF.out.fix HF.out.good ha)
        have HLS := Lib.hid (arc1_less ha).1
        have HA := Lib.hid ha
        clear ha
        go_wp2_with fail
        refine HSS.out.mono ?_
        rintro e w5 ⟨rfl, ca', cc', g', pc', hwk⟩
        have HF5 := Lib.hid (flt_next HF.out HS.out HA.out hwk)
        have HC5 := Lib.hid hwk.com_len
        clear hwk HSS c2
        go_wp2_with fail
        go_roundw
        case rel => exact ⟨L', done ++ [r], cl || c', ca', cc', g', pc', HF5⟩
        case measure => rw [HC5.out, HCL.out]; exact HLS.out

end Go.Proofs.Ythjhekmlhmljlaa
