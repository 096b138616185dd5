import Derived.Test.YtfoedamnlhkpiabMsort
namespace Go.Proofs.Ytfoedamnlhkpiab

/-! The faults of a row of entries, as plain lists: a number and a path. Nothing of the dump. -/

abbrev Flt := Nat × ByteArray

/-- What entry k says against the path p of entry i. -/
def fltPair (p q : ByteArray) (other : Bool) : List Flt := (if other && decide (q = p) then [(5, p)] else []) ++ (if underB p.data.toList q.data.toList then [(6, p)] else [])

def fltPairs (ps : Nat → ByteArray) (i : Nat) : Nat → List Flt
  | 0 => []
  | k + 1 => fltPairs ps i k ++ fltPair (ps i) (ps k) (decide (k ≠ i))

def fltBad (p : ByteArray) : List Flt := if pathB p.data.toList then [] else [(4, p)]
def fltLong (p : ByteArray) (l : Nat) : List Flt := if 600 < l then [(7, p)] else []

def fltEntry (ps : Nat → ByteArray) (l : Nat) (n i : Nat) : List Flt := fltBad (ps i) ++ fltPairs ps i n ++ fltLong (ps i) l

theorem fltPair_len (p q : ByteArray) (o : Bool) : (fltPair p q o).length ≤ 2 := by
  unfold fltPair
  rw [List.length_append]
  have h1 : (if o && decide (q = p) then [((5, p) : Flt)] else []).length ≤ 1 := by split <;> simp
  have h2 : (if underB p.data.toList q.data.toList then [((6, p) : Flt)] else []).length ≤ 1 := by split <;> simp
  omega

theorem fltPairs_len (ps : Nat → ByteArray) (i k : Nat) : (fltPairs ps i k).length ≤ 2 * k := by
  induction k with
  | zero => simp [fltPairs]
  | succ k ih =>
    have := fltPair_len (ps i) (ps k) (decide (k ≠ i))
    rw [fltPairs, List.length_append]
    omega

theorem fltBad_len (p : ByteArray) : (fltBad p).length ≤ 1 := by unfold fltBad; split <;> simp
theorem fltLong_len (p : ByteArray) (l : Nat) : (fltLong p l).length ≤ 1 := by unfold fltLong; split <;> simp

theorem fltEntry_len (ps : Nat → ByteArray) (l n i : Nat) : (fltEntry ps l n i).length ≤ 2 * n + 2 := by
  have h1 := fltBad_len (ps i)
  have h2 := fltPairs_len ps i n
  have h3 := fltLong_len (ps i) l
  unfold fltEntry
  rw [List.length_append, List.length_append]
  omega

/-- The faults of the entries ahead of m. -/
def fltFirst (ps : Nat → ByteArray) (ls : Nat → Nat) (n : Nat) : Nat → List Flt
  | 0 => []
  | i + 1 => fltFirst ps ls n i ++ fltEntry ps (ls i) n i

theorem fltFirst_len (ps : Nat → ByteArray) (ls : Nat → Nat) (n m : Nat) : (fltFirst ps ls n m).length ≤ m * (2 * n + 2) := by
  induction m with
  | zero => simp [fltFirst]
  | succ m ih =>
    have := fltEntry_len ps (ls m) n m
    rw [fltFirst, List.length_append, Nat.succ_mul]
    omega

def fltHead (ks : Nat) (al : Int) (n : Nat) : List Flt :=
  (if keyB ks then [] else [(1, ByteArray.empty)]) ++ (if al < 1 ∨ 16 < al then [(2, ByteArray.empty)] else []) ++ (if 20 < n then [(3, ByteArray.empty)] else [])

theorem fltHead_len (ks : Nat) (al : Int) (n : Nat) : (fltHead ks al n).length ≤ 3 := by
  unfold fltHead
  rw [List.length_append, List.length_append]
  have h1 : (if keyB ks then [] else [((1, ByteArray.empty) : Flt)]).length ≤ 1 := by split <;> simp
  have h2 : (if al < 1 ∨ 16 < al then [((2, ByteArray.empty) : Flt)] else []).length ≤ 1 := by split <;> simp
  have h3 : (if 20 < n then [((3, ByteArray.empty) : Flt)] else []).length ≤ 1 := by split <;> simp
  omega

/-- All the faults of a row of n entries. -/
def fltAll (ks : Nat) (al : Int) (ps : Nat → ByteArray) (ls : Nat → Nat) (n : Nat) : List Flt := fltHead ks al n ++ fltFirst ps ls n n

theorem fltAll_len (ks : Nat) (al : Int) (ps : Nat → ByteArray) (ls : Nat → Nat) (n : Nat) : (fltAll ks al ps ls n).length ≤ 3 + n * (2 * n + 2) := by
  have h1 := fltHead_len ks al n
  have h2 := fltFirst_len ps ls n n
  unfold fltAll
  rw [List.length_append]
  omega

def noFlt : Flt := (0, ByteArray.empty)
def leastStep (c x : Flt) : Flt := if c.1 = 0 ∨ x.1 < c.1 ∨ (x.1 = c.1 ∧ lexB x.2.data.toList c.2.data.toList = true) then x else c
def leastOf (fs : List Flt) : Flt := fs.foldl leastStep noFlt

end Go.Proofs.Ytfoedamnlhkpiab
