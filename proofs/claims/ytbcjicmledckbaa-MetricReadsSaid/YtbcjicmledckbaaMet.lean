/-
  What the chapter's Read of layer 4 answers, as a function of an opened font's kind, rows and file; and that the tables that say a font's measures, made into a file of kind 2, are read back the same. It hangs on no function of the program. Conditions: the measures within the limits that the last theorem names.
-/
import Derived.Test.YtbcjicmledckbaaSfMade
namespace Go.Proofs.Ytbcjicmledckbaa
open Go.RowKit Go.PlainAid
set_option linter.unusedSimpArgs false
set_option linter.unusedVariables false

/-- A number of two bytes, with its sign. -/
def sign16 (x : Int) : Int := if 32768 ≤ x then x - 65536 else x

/-- A font's measures. -/
structure Met where
  kind : Int
  units : Int
  glyphs : Int
  ascent : Int
  descent : Int
  gap : Int
  adv : List Int
  bear : List Int
  places : List Int

/-- A table's bytes. -/
def tabOf (l : List Row) (s : ByteArray) (tag : List UInt8) : Option ByteArray :=
  match l.find? (fun r => r.tag.toList == tag) with
  | none => none
  | some r => some (s.extract r.place.toNat (r.place.toNat + r.len.toNat))
/-- A table's bytes, if it has n of them. -/
def tabN (l : List Row) (s : ByteArray) (tag : List UInt8) (n : Int) : Option ByteArray :=
  match tabOf l s tag with
  | none => none
  | some b => if (b.size : Int) < n then none else some b

/-- What head says: an error, or the units and the form of loca. -/
def rHead (b : ByteArray) : Int × Int × Int :=
  if (numOr b 12 4).1 ≠ 1594834165 then (41, 0, 0)
  else if (numOr b 18 2).1 < 16 then (41, 0, 0)
  else if 16384 < (numOr b 18 2).1 then (41, 0, 0)
  else if 1 < (numOr b 50 2).1 then (41, 0, 0)
  else if (numOr b 52 2).1 ≠ 0 then (42, 0, 0)
  else (0, (numOr b 18 2).1, (numOr b 50 2).1)
/-- What maxp says: an error, or the number of glyphs. -/
def rMaxp (b : ByteArray) : Int × Int :=
  if (numOr b 0 4).1 ≠ 20480 ∧ (numOr b 0 4).1 ≠ 65536 then (42, 0)
  else if (numOr b 4 2).1 = 0 then (41, 0)
  else if 4096 < (numOr b 4 2).1 then (43, 0)
  else (0, (numOr b 4 2).1)
/-- What hhea says of the wide rows: an error, or their number. -/
def rHhea (b : ByteArray) (glyphs : Int) : Int × Int :=
  if (numOr b 34 2).1 < 1 then (41, 0)
  else if glyphs < (numOr b 34 2).1 then (41, 0)
  else (0, (numOr b 34 2).1)
def advAt (b : ByteArray) (wide g : Int) : Int := if g < wide then (numOr b (4 * g) 2).1 else (numOr b (4 * wide - 4) 2).1
def bearAt (b : ByteArray) (wide g : Int) : Int := sign16 (if g < wide then (numOr b (4 * g + 2) 2).1 else (numOr b (2 * wide + 2 * g) 2).1)
def advL (b : ByteArray) (wide : Int) (n : Nat) : List Int := (List.range n).map fun (g : Nat) => advAt b wide (g : Int)
def bearL (b : ByteArray) (wide : Int) (n : Nat) : List Int := (List.range n).map fun (g : Nat) => bearAt b wide (g : Int)
def placeAt (b : ByteArray) (form g : Int) : Int := if form = 1 then (numOr b (4 * g) 4).1 else 2 * (numOr b (2 * g) 2).1
/-- The first n places, if none is less than the one ahead of it or above the length. -/
def placeL (b : ByteArray) (form size : Int) : Nat → Option (List Int)
  | 0 => some []
  | k + 1 =>
    match placeL b form size k with
    | none => none
    | some l => if (0 < k ∧ placeAt b form (k : Int) < l.getD (k - 1) 0) ∨ size < placeAt b form (k : Int) then none else some (l ++ [placeAt b form (k : Int)])

def headTg : List UInt8 := [104, 101, 97, 100]
def maxpTg : List UInt8 := [109, 97, 120, 112]
def hheaTg : List UInt8 := [104, 104, 101, 97]
def hmtxTg : List UInt8 := [104, 109, 116, 120]
def cffTg : List UInt8 := [67, 70, 70, 32]
def locaTg : List UInt8 := [108, 111, 99, 97]
def glyfTg : List UInt8 := [103, 108, 121, 102]

/-- What loca and glyf, or CFF, say: an error, or the places. -/
def rPlaces (kd : Int) (l : List Row) (s : ByteArray) (glyphs form : Int) : Int × List Int :=
  if kd = 2 then
    match tabN l s cffTg 0 with
    | none => (41, [])
    | some _ => (0, [])
  else
    match tabN l s locaTg ((glyphs + 1) * (2 + 2 * form)) with
    | none => (41, [])
    | some lo =>
      match tabN l s glyfTg 0 with
      | none => (41, [])
      | some gl =>
        match placeL lo form gl.size (glyphs + 1).toNat with
        | none => (41, [])
        | some ps => (0, ps)

/-- The error, or the measures. -/
def readOf (kd : Int) (l : List Row) (s : ByteArray) : Int × Option Met :=
  match tabN l s headTg 54 with
  | none => (41, none)
  | some hd =>
    if (rHead hd).1 ≠ 0 then ((rHead hd).1, none) else
    match tabN l s maxpTg 6 with
    | none => (41, none)
    | some mx =>
      if (rMaxp mx).1 ≠ 0 then ((rMaxp mx).1, none) else
      match tabN l s hheaTg 36 with
      | none => (41, none)
      | some hh =>
        if (rHhea hh (rMaxp mx).2).1 ≠ 0 then ((rHhea hh (rMaxp mx).2).1, none) else
        match tabN l s hmtxTg (2 * (rMaxp mx).2 + 2 * (rHhea hh (rMaxp mx).2).2) with
        | none => (41, none)
        | some hm =>
          if (rPlaces kd l s (rMaxp mx).2 (rHead hd).2.2).1 ≠ 0 then ((rPlaces kd l s (rMaxp mx).2 (rHead hd).2.2).1, none) else
          (0, some ⟨kd, (rHead hd).2.1, (rMaxp mx).2, sign16 (numOr hh 4 2).1, sign16 (numOr hh 6 2).1, sign16 (numOr hh 8 2).1,
            advL hm (rHhea hh (rMaxp mx).2).2 (rMaxp mx).2.toNat, bearL hm (rHhea hh (rMaxp mx).2).2 (rMaxp mx).2.toNat, (rPlaces kd l s (rMaxp mx).2 (rHead hd).2.2).2⟩)

theorem tab_made {kind : Int} {l m : List Pce} {p : Pce} {T : List UInt8} (hT : p.1.toList = T) (h : ∀ q ∈ l ++ p :: m, q.1.size = 4) (hne : ∀ q ∈ l, (q.1.toList == T) = false) :
    tabOf (rowsL (12 + 16 * (l ++ p :: m).length) (l ++ p :: m)) (madeB kind (l ++ p :: m)) T = some p.2 := by
  subst hT
  have hs := (table_made (kind := kind) h).ext
  generalize 12 + 16 * (l ++ p :: m).length = A at *
  have hf : ∀ (l : List Pce) (a : Nat), (∀ q ∈ l, (q.1.toList == p.1.toList) = false) → (rowsL a l).find? (fun r => r.tag.toList == p.1.toList) = none := by
    intro l
    induction l with
    | nil => intro a _; rfl
    | cons q r ih => intro a hq; rw [rowsL, List.find?_cons, hq q (by simp)]; exact ih _ (fun x hx => hq x (by simp [hx]))
  unfold tabOf
  rw [rowsL_join, List.find?_append, hf l A hne, rowsL, List.find?_cons]
  simp only [beq_self_eq_true, Option.none_or, Int.toNat_natCast]
  rw [hs]
theorem tabN_made {kind : Int} {l m : List Pce} {p : Pce} {T : List UInt8} (n : Int) (hT : p.1.toList = T) (h : ∀ q ∈ l ++ p :: m, q.1.size = 4) (hne : ∀ q ∈ l, (q.1.toList == T) = false) (hn : ¬ (p.2.size : Int) < n) :
    tabN (rowsL (12 + 16 * (l ++ p :: m).length) (l ++ p :: m)) (madeB kind (l ++ p :: m)) T n = some p.2 := by
  unfold tabN
  rw [tab_made hT h hne]
  simp only [if_neg hn]

/-- Numbers of two bytes each. -/
def twoB : List Int → ByteArray
  | [] => ByteArray.empty
  | x :: r => bigB ((if x < 0 then x + 65536 else x) % 65536) 2 ++ twoB r
theorem twoB_size : ∀ l, (twoB l).size = 2 * l.length
  | [] => rfl
  | x :: r => by rw [twoB, ByteArray.size_append, bigB_size, twoB_size r, List.length_cons]; omega
theorem two_num {f : ByteArray} {p : Nat} {x : Int} {r : List Int} (h : Seg f p (twoB (x :: r))) (h0 : 0 ≤ x) (h1 : x ≤ 65535) : numOr f p 2 = (x, 0) := by
  have h2 := h.left
  rw [if_neg (by omega), Int.emod_eq_of_lt h0 (by omega)] at h2
  exact num_big2 h2 h0 h1
theorem two_sign {f : ByteArray} {p : Nat} {x : Int} {r : List Int} (h : Seg f p (twoB (x :: r))) (h0 : -32768 ≤ x) (h1 : x ≤ 32767) : sign16 (numOr f p 2).1 = x := by
  have h2 := h.left
  by_cases hx : x < 0
  · rw [if_pos hx, Int.emod_eq_of_lt (by omega) (by omega)] at h2
    rw [num_big2 h2 (by omega) (by omega)]
    unfold sign16
    rw [if_pos (by omega)]
    omega
  · rw [if_neg hx, Int.emod_eq_of_lt (by omega) (by omega)] at h2
    rw [num_big2 h2 (by omega) (by omega)]
    unfold sign16
    rw [if_neg (by omega)]
theorem two_next {f : ByteArray} {p : Nat} {x : Int} {r : List Int} (h : Seg f p (twoB (x :: r))) : Seg f (p + 2) (twoB r) := by
  have h2 := h.right
  rwa [bigB_size] at h2

/-- The tables. -/
def headB (units : Int) : ByteArray := zerosB 12 ++ (⟨#[95, 15, 60, 245]⟩ ++ (zerosB 2 ++ (bigB units 2 ++ (zerosB 30 ++ (⟨#[0, 1]⟩ ++ zerosB 2)))))
def hheaB (a d g n : Int) : ByteArray := zerosB 4 ++ (twoB [a, d, g] ++ (zerosB 24 ++ bigB n 2))
def maxpB (n : Int) : ByteArray := ⟨#[0, 1, 0, 0]⟩ ++ bigB n 2
/-- The wide rows of two lists. -/
def hmtxB : List Int → List Int → ByteArray
  | a :: r, b :: t => twoB [a, b] ++ hmtxB r t
  | _, _ => ByteArray.empty

theorem zeros2 {f : ByteArray} {p : Nat} (h : Seg f p (zerosB 2)) : numOr f p 2 = (0, 0) := by
  have e : zerosB 2 = bigB 0 2 := by decide +kernel
  rw [e] at h
  exact num_big2 h (by omega) (by omega)

theorem head_back (units : Int) (h0 : 16 ≤ units) (h1 : units ≤ 16384) : (headB units).size = 54 ∧ rHead (headB units) = (0, units, 1) := by
  have s0 := seg_self (headB units)
  have s1 := s0.right
  simp only [zerosB_size, Nat.zero_add] at s1
  have m1 := s1.left
  have s2 := s1.right
  have z4 : (⟨#[95, 15, 60, 245]⟩ : ByteArray).size = 4 := rfl
  have z2 : (⟨#[0, 1]⟩ : ByteArray).size = 2 := rfl
  rw [z4] at s2
  have s3 := s2.right
  rw [zerosB_size] at s3
  have s4 := s3.right
  rw [bigB_size] at s4
  have s5 := s4.right
  rw [zerosB_size] at s5
  have s6 := s5.right
  rw [z2] at s6
  have e1 : (⟨#[95, 15, 60, 245]⟩ : ByteArray) = bigB 1594834165 4 := by decide +kernel
  have e2 : (⟨#[0, 1]⟩ : ByteArray) = bigB 1 2 := by decide +kernel
  have n1 : numOr (headB units) 12 4 = (1594834165, 0) := num_big4 (by rw [← e1]; exact m1) (by omega) (by omega)
  have n2 : numOr (headB units) 18 2 = (units, 0) := num_big2 s3.left (by omega) (by omega)
  have n3 : numOr (headB units) 50 2 = (1, 0) := num_big2 (by rw [← e2]; exact s5.left) (by omega) (by omega)
  have n4 : numOr (headB units) 52 2 = (0, 0) := zeros2 s6
  refine ⟨by simp only [headB, ByteArray.size_append, zerosB_size, bigB_size, z4, z2], ?_⟩
  unfold rHead
  rw [n1, n2, n3, n4]
  simp only []
  rw [if_neg (by omega), if_neg (by omega), if_neg (by omega), if_neg (by omega), if_neg (by omega)]

theorem maxp_back (n : Int) (h0 : 1 ≤ n) (h1 : n ≤ 4096) : (maxpB n).size = 6 ∧ rMaxp (maxpB n) = (0, n) := by
  have s0 := seg_self (maxpB n)
  have s1 := s0.right
  have z4 : (⟨#[0, 1, 0, 0]⟩ : ByteArray).size = 4 := rfl
  rw [z4] at s1
  have e1 : (⟨#[0, 1, 0, 0]⟩ : ByteArray) = bigB 65536 4 := by decide +kernel
  have n1 : numOr (maxpB n) 0 4 = (65536, 0) := num_big4 (by rw [← e1]; exact s0.left) (by omega) (by omega)
  have n2 : numOr (maxpB n) 4 2 = (n, 0) := num_big2 s1 (by omega) (by omega)
  refine ⟨by simp only [maxpB, ByteArray.size_append, bigB_size, z4], ?_⟩
  unfold rMaxp
  rw [n1, n2]
  simp only []
  rw [if_neg (by omega), if_neg (by omega), if_neg (by omega)]

theorem hhea_back (a d g n : Int) (ha : -32768 ≤ a ∧ a ≤ 32767) (hd : -32768 ≤ d ∧ d ≤ 32767) (hg : -32768 ≤ g ∧ g ≤ 32767) (h0 : 1 ≤ n) (h1 : n ≤ 4096) :
    (hheaB a d g n).size = 36 ∧ rHhea (hheaB a d g n) n = (0, n) ∧ sign16 (numOr (hheaB a d g n) 4 2).1 = a ∧ sign16 (numOr (hheaB a d g n) 6 2).1 = d ∧ sign16 (numOr (hheaB a d g n) 8 2).1 = g := by
  have s0 := seg_self (hheaB a d g n)
  have s1 := s0.right
  simp only [zerosB_size, Nat.zero_add] at s1
  have s2 := s1.right
  rw [twoB_size] at s2
  have s3 := s2.right
  rw [zerosB_size] at s3
  have n1 : numOr (hheaB a d g n) 34 2 = (n, 0) := num_big2 s3 (by omega) (by omega)
  refine ⟨by simp only [hheaB, ByteArray.size_append, zerosB_size, bigB_size, twoB_size, List.length_cons, List.length_nil], ?_, two_sign s1.left ha.1 ha.2, two_sign (two_next s1.left) hd.1 hd.2, two_sign (two_next (two_next s1.left)) hg.1 hg.2⟩
  unfold rHhea
  rw [n1]
  simp only []
  rw [if_neg (by omega), if_neg (by omega)]

theorem hmtx_size : ∀ (l m : List Int), l.length = m.length → (hmtxB l m).size = 4 * l.length
  | [], [], _ => rfl
  | a :: r, b :: t, h => by
    rw [hmtxB, ByteArray.size_append, twoB_size, hmtx_size r t (by simpa using h)]
    simp only [List.length_cons, List.length_nil]
    omega
theorem hmtx_seg {f : ByteArray} : ∀ (l m : List Int) (p g : Nat), l.length = m.length → Seg f p (hmtxB l m) → g < l.length → Seg f (p + 4 * g) (twoB [l.getD g 0, m.getD g 0])
  | a :: r, b :: t, p, 0, h, hs, _ => by rw [hmtxB] at hs; exact hs.left
  | a :: r, b :: t, p, g + 1, h, hs, hg => by
    rw [hmtxB] at hs
    have h2 := hs.right
    rw [twoB_size] at h2
    have := hmtx_seg r t _ g (by simpa using h) h2 (by simpa using hg)
    simp only [List.length_cons, List.length_nil] at this
    rw [show p + 4 * (g + 1) = p + 2 * (0 + 1 + 1) + 4 * g by omega]
    simpa [List.getD] using this

theorem hmtx_back (l m : List Int) (h : l.length = m.length) (ha : ∀ x ∈ l, 0 ≤ x ∧ x ≤ 65535) (hb : ∀ x ∈ m, -32768 ≤ x ∧ x ≤ 32767) :
    advL (hmtxB l m) l.length l.length = l ∧ bearL (hmtxB l m) l.length l.length = m := by
  have hn : ∀ g, g < l.length → numOr (hmtxB l m) (4 * (g : Int)) 2 = (l.getD g 0, 0) ∧ sign16 (numOr (hmtxB l m) (4 * (g : Int) + 2) 2).1 = m.getD g 0 := by
    intro g hg
    have s := hmtx_seg (f := hmtxB l m) l m 0 g h (seg_self _) hg
    rw [Nat.zero_add] at s
    have hm1 : l.getD g 0 ∈ l := by simp [List.getD, hg]
    have hg2 : g < m.length := by omega
    have hm2 : m.getD g 0 ∈ m := by simp [List.getD, hg2]
    exact ⟨two_num (p := 4 * g) s (ha _ hm1).1 (ha _ hm1).2, two_sign (p := 4 * g + 2) (two_next s) (hb _ hm2).1 (hb _ hm2).2⟩
  constructor
  · apply List.ext_getElem (by simp [advL])
    intro i h1 h2
    have := (hn i h2).1
    simp only [advL, List.getElem_map, List.getElem_range, advAt]
    rw [if_pos (by omega), this]
    simp [List.getD, h2]
  · apply List.ext_getElem (by simp [bearL, h])
    intro i h1 h2
    have hi : i < l.length := by omega
    have := (hn i hi).2
    simp only [bearL, List.getElem_map, List.getElem_range, bearAt]
    rw [if_pos (by omega), this]
    simp [List.getD, h2]

def tagB (t : List UInt8) : ByteArray := ⟨t.toArray⟩
theorem tl_cffTg : (tagB cffTg).toList = cffTg := by decide +kernel
theorem tl_headTg : (tagB headTg).toList = headTg := by decide +kernel
theorem tl_hheaTg : (tagB hheaTg).toList = hheaTg := by decide +kernel
theorem tl_hmtxTg : (tagB hmtxTg).toList = hmtxTg := by decide +kernel
theorem tl_maxpTg : (tagB maxpTg).toList = maxpTg := by decide +kernel
theorem tl_locaTg : (tagB locaTg).toList = locaTg := by decide +kernel
theorem tl_glyfTg : (tagB glyfTg).toList = glyfTg := by decide +kernel
/-- The pieces of a font of kind 2, in the order of their tags. -/
def cffPieces (m : Met) : List Pce := [(tagB cffTg, ByteArray.empty), (tagB headTg, headB m.units), (tagB hheaTg, hheaB m.ascent m.descent m.gap m.glyphs), (tagB hmtxTg, hmtxB m.adv m.bear), (tagB maxpTg, maxpB m.glyphs)]

theorem cff_back (m : Met) (hu : 16 ≤ m.units ∧ m.units ≤ 16384) (hg : 1 ≤ m.glyphs ∧ m.glyphs ≤ 4096) (ha : (m.adv.length : Int) = m.glyphs) (hb : (m.bear.length : Int) = m.glyphs) (hp : m.places = []) (hk : m.kind = 2)
    (h1 : ∀ x ∈ m.adv, 0 ≤ x ∧ x ≤ 65535) (h2 : ∀ x ∈ m.bear, -32768 ≤ x ∧ x ≤ 32767) (h3 : -32768 ≤ m.ascent ∧ m.ascent ≤ 32767) (h4 : -32768 ≤ m.descent ∧ m.descent ≤ 32767) (h5 : -32768 ≤ m.gap ∧ m.gap ≤ 32767) :
    openOf (madeB 2 (cffPieces m)) 0 = (0, some (2, rowsL 92 (cffPieces m))) ∧ readOf 2 (rowsL 92 (cffPieces m)) (madeB 2 (cffPieces m)) = (0, some m) ∧ (madeB 2 (cffPieces m)).size ≤ 16700 := by
  obtain ⟨q1, q2⟩ := head_back m.units hu.1 hu.2
  obtain ⟨q3, q4⟩ := maxp_back m.glyphs hg.1 hg.2
  obtain ⟨q5, q6, q7, q8, q9⟩ := hhea_back m.ascent m.descent m.gap m.glyphs h3 h4 h5 hg.1 hg.2
  have hlen : m.adv.length = m.bear.length := by omega
  obtain ⟨q10, q11⟩ := hmtx_back m.adv m.bear hlen h1 h2
  have q12 := hmtx_size m.adv m.bear hlen
  have ht : ∀ q ∈ cffPieces m, q.1.size = 4 := by
    intro q hq
    simp [cffPieces] at hq
    rcases hq with rfl | rfl | rfl | rfl | rfl <;> rfl
  have hr : Rises ByteArray.empty (cffPieces m) = true := by
    simp only [cffPieces, Rises]
    decide +kernel
  have hl : (cffPieces m).length = 5 := rfl
  have hd : dataN (cffPieces m) ≤ 16500 := by
    simp only [cffPieces, dataN, q1, q3, q5, q12]
    have : (ByteArray.empty).size = 0 := rfl
    unfold upto4
    omega
  have hz := madeB_size 2 (cffPieces m) ht
  rw [hl] at hz
  have e92 : 12 + 16 * (cffPieces m).length = 92 := rfl
  have hopen := open_made 2 (cffPieces m) (.inr rfl) (by rw [hl]; omega) (by rw [hl]; omega) ht hr (by omega)
  rw [e92] at hopen
  refine ⟨hopen, ?_, by omega⟩
  have t1 : tabN (rowsL 92 (cffPieces m)) (madeB 2 (cffPieces m)) cffTg 0 = some ByteArray.empty :=
    tabN_made (kind := 2) (l := []) (m := (cffPieces m).drop 1) (p := (tagB cffTg, ByteArray.empty)) 0 (tl_cffTg) ht (by simp) (by simp)
  have t2 : tabN (rowsL 92 (cffPieces m)) (madeB 2 (cffPieces m)) headTg 54 = some (headB m.units) :=
    tabN_made (kind := 2) (l := (cffPieces m).take 1) (m := (cffPieces m).drop 2) (p := (tagB headTg, headB m.units)) 54 (tl_headTg) ht (by simp [cffPieces]; decide +kernel) (by simp [q1])
  have t3 : tabN (rowsL 92 (cffPieces m)) (madeB 2 (cffPieces m)) hheaTg 36 = some (hheaB m.ascent m.descent m.gap m.glyphs) :=
    tabN_made (kind := 2) (l := (cffPieces m).take 2) (m := (cffPieces m).drop 3) (p := (tagB hheaTg, hheaB m.ascent m.descent m.gap m.glyphs)) 36 (tl_hheaTg) ht (by simp [cffPieces]; decide +kernel) (by simp [q5])
  have t4 : tabN (rowsL 92 (cffPieces m)) (madeB 2 (cffPieces m)) hmtxTg (2 * m.glyphs + 2 * m.glyphs) = some (hmtxB m.adv m.bear) :=
    tabN_made (kind := 2) (l := (cffPieces m).take 3) (m := (cffPieces m).drop 4) (p := (tagB hmtxTg, hmtxB m.adv m.bear)) (2 * m.glyphs + 2 * m.glyphs) (tl_hmtxTg) ht (by simp [cffPieces]; decide +kernel) (by simp [q12]; omega)
  have t5 : tabN (rowsL 92 (cffPieces m)) (madeB 2 (cffPieces m)) maxpTg 6 = some (maxpB m.glyphs) :=
    tabN_made (kind := 2) (l := (cffPieces m).take 4) (m := []) (p := (tagB maxpTg, maxpB m.glyphs)) 6 (tl_maxpTg) ht (by simp [cffPieces]; decide +kernel) (by simp [q3])
  have hgN : m.glyphs.toNat = m.adv.length := by omega
  have hpl : rPlaces 2 (rowsL 92 (cffPieces m)) (madeB 2 (cffPieces m)) m.glyphs 1 = (0, []) := by
    unfold rPlaces
    rw [if_pos rfl, t1]
  unfold readOf
  rw [t2]
  simp only [q2, ne_eq, not_true_eq_false, if_false, t5, q4, t3, q6, t4, hpl, q7, q8, q9, hgN]
  rw [← ha, q10, q11, ha, ← hp]
  cases m
  simp at hk
  subst hk
  rfl

end Go.Proofs.Ytbcjicmledckbaa
