import Derived.Laws.BitsLemmas
namespace Go.Proofs.Ytfoedamnlhkpiab

/-! The sum and the tag, as plain functions of lists of bytes. Nothing of the dump. -/

theorem xor64 (a b : Nat) (ha : a < 4294967296) (hb : b < 4294967296) : bits .xor .i64 (a : Int) (b : Int) = ((a ^^^ b : Nat) : Int) := by
  have h : a ^^^ b < 2 ^ 32 := Nat.xor_lt_two_pow (by omega) (by omega)
  have ha' : a % 2 ^ IntKind.i64.bits = a := Nat.mod_eq_of_lt (by show a < 2 ^ 64; omega)
  have hb' : b % 2 ^ IntKind.i64.bits = b := Nat.mod_eq_of_lt (by show b < 2 ^ 64; omega)
  simp only [bits, BitVec.ofInt_natCast, BitVec.toNat_xor, BitVec.toNat_ofNat, ha', hb']
  rw [IntKind.wrap_i64]
  omega

theorem and64 (a b : Nat) (ha : a < 4294967296) (hb : b < 4294967296) : bits .and .i64 (a : Int) (b : Int) = ((a &&& b : Nat) : Int) := by
  have h : a &&& b < 2 ^ 32 := Nat.and_lt_two_pow _ (by omega)
  have ha' : a % 2 ^ IntKind.i64.bits = a := Nat.mod_eq_of_lt (by show a < 2 ^ 64; omega)
  have hb' : b % 2 ^ IntKind.i64.bits = b := Nat.mod_eq_of_lt (by show b < 2 ^ 64; omega)
  simp only [bits, BitVec.ofInt_natCast, BitVec.toNat_and, BitVec.toNat_ofNat, ha', hb']
  rw [IntKind.wrap_i64]
  omega

theorem and64_one (a : Nat) (ha : a < 4294967296) : bits .and .i64 (a : Int) 1 = ((a % 2 : Nat) : Int) := by
  have h := and64 a 1 ha (by omega)
  rw [Nat.and_one_is_mod] at h
  exact h

theorem xor_lt {a b : Nat} (ha : a < 4294967296) (hb : b < 4294967296) : a ^^^ b < 4294967296 :=
  Nat.xor_lt_two_pow (n := 32) ha hb

def crcBit (r : Nat) : Nat := if r % 2 = 1 then (r / 2) ^^^ 3988292384 else r / 2

def crcIt : Nat → Nat → Nat
  | 0, r => r
  | k + 1, r => crcBit (crcIt k r)

def crcByte (r b : Nat) : Nat := crcIt 8 (r ^^^ b)

def crcAll (xs : List UInt8) : Nat := xs.foldl (fun r b => crcByte r b.toNat) 4294967295

def sumOf (xs : List UInt8) : Nat := crcAll xs ^^^ 4294967295

theorem crcBit_lt {r : Nat} (h : r < 4294967296) : crcBit r < 4294967296 := by
  unfold crcBit
  split
  · exact xor_lt (by omega) (by omega)
  · omega

theorem crcIt_lt {r : Nat} (h : r < 4294967296) : ∀ k, crcIt k r < 4294967296
  | 0 => h
  | k + 1 => crcBit_lt (crcIt_lt h k)

theorem crcByte_lt {r b : Nat} (h : r < 4294967296) (hb : b < 256) : crcByte r b < 4294967296 := crcIt_lt (xor_lt h (by omega)) 8

theorem crcAll_lt (xs : List UInt8) : crcAll xs < 4294967296 := by
  unfold crcAll
  suffices h : ∀ (l : List UInt8) (r : Nat), r < 4294967296 → l.foldl (fun r b => crcByte r b.toNat) r < 4294967296 from h xs _ (by omega)
  intro l
  induction l with
  | nil => intro r h; exact h
  | cons b l ih => intro r h; exact ih _ (crcByte_lt h b.toNat_lt)

theorem crcAll_snoc (xs : List UInt8) (b : UInt8) : crcAll (xs ++ [b]) = crcByte (crcAll xs) b.toNat := by
  unfold crcAll
  rw [List.foldl_append]
  rfl

/-- The register of bits, one bit at a time. -/
def refBit (n : Nat) (i : Bool) : Nat := if (n.testBit 0 != i) = true then (n / 2) ^^^ 3988292384 else n / 2

def refIt (n b : Nat) : Nat → Nat
  | 0 => n
  | k + 1 => refBit (refIt n b k) (b.testBit k)

theorem refBit_lt {r : Nat} {i : Bool} (h : r < 4294967296) : refBit r i < 4294967296 := by
  unfold refBit
  split
  · exact xor_lt (by omega) (by omega)
  · omega

theorem refIt_lt {n b : Nat} (h : n < 4294967296) : ∀ k, refIt n b k < 4294967296
  | 0 => h
  | k + 1 => refBit_lt (refIt_lt h k)

theorem xor_div2 (a b : Nat) : (a ^^^ b) / 2 = (a / 2) ^^^ (b / 2) := by
  have := Nat.shiftRight_xor_distrib (a := a) (b := b) (i := 1)
  simpa [Nat.shiftRight_succ] using this

theorem crcBit_xor (m c : Nat) : crcBit (m ^^^ c) = refBit m (c.testBit 0) ^^^ (c / 2) := by
  have hp : ((m ^^^ c) % 2 = 1) ↔ (m.testBit 0 != c.testBit 0) = true := by
    have h : (m ^^^ c).testBit 0 = (m.testBit 0 ^^ c.testBit 0) := Nat.testBit_xor ..
    rw [Nat.testBit_zero] at h
    rw [← decide_eq_true_iff (p := (m ^^^ c) % 2 = 1), h]
  unfold crcBit refBit
  rw [xor_div2]
  by_cases h : (m ^^^ c) % 2 = 1
  · rw [if_pos h, if_pos (hp.1 h)]
    rw [Nat.xor_assoc, Nat.xor_comm (c / 2), ← Nat.xor_assoc]
  · rw [if_neg h, if_neg (fun e => h (hp.2 e))]

theorem crcIt_xor (n b : Nat) : ∀ k, crcIt k (n ^^^ b) = refIt n b k ^^^ (b >>> k)
  | 0 => by simp [crcIt, refIt]
  | k + 1 => by
    rw [crcIt, crcIt_xor n b k, crcBit_xor, refIt]
    congr 1

theorem crcByte_ref (n b : Nat) (hb : b < 256) : crcByte n b = refIt n b 8 := by
  unfold crcByte
  rw [crcIt_xor]
  have : b >>> 8 = 0 := by rw [Nat.shiftRight_eq_div_pow]; omega
  rw [this, Nat.xor_zero]

/-- The register as a list of bits, the lowest first. -/
def bitsOf (n : Nat) : List Bool := (List.range 32).map fun i => n.testBit i

theorem bitsOf_length (n : Nat) : (bitsOf n).length = 32 := by simp [bitsOf]

theorem bitsOf_get (n i : Nat) (h : i < 32) : (bitsOf n)[i]? = some (n.testBit i) := by simp [bitsOf, h]

/-- The shifted register, its first j bits turned where they are to be. -/
def togOf (n : Nat) (out : Bool) (j : Nat) : List Bool := (List.range 32).map fun i => (n / 2).testBit i ^^ (decide (i < j) && out && Nat.testBit 3988292384 i)

theorem togOf_length (n : Nat) (out : Bool) (j : Nat) : (togOf n out j).length = 32 := by simp [togOf]

theorem togOf_get (n : Nat) (out : Bool) (j i : Nat) (h : i < 32) : (togOf n out j)[i]? = some ((n / 2).testBit i ^^ (decide (i < j) && out && Nat.testBit 3988292384 i)) := by simp [togOf, h]

theorem togOf_start (n : Nat) (out : Bool) (h : n < 4294967296) : togOf n out 0 = (bitsOf n).drop 1 ++ [false] := by
  apply List.ext_getElem?
  intro i
  by_cases hi : i < 32
  · rw [togOf_get n out 0 i hi]
    by_cases h31 : i < 31
    · rw [List.getElem?_append_left (by simp [bitsOf_length]; omega), List.getElem?_drop, bitsOf_get n (1 + i) (by omega)]
      simp [Nat.testBit_div_two, Nat.add_comm]
    · have : i = 31 := by omega
      subst this
      rw [List.getElem?_append_right (by simp [bitsOf_length])]
      simp [bitsOf_length]
      exact Nat.testBit_lt_two_pow (by omega)
  · rw [List.getElem?_eq_none (by simp [togOf_length]; omega), List.getElem?_eq_none (by simp [bitsOf_length]; omega)]

theorem togOf_keep (n : Nat) (out : Bool) (j : Nat) (h : (out && Nat.testBit 3988292384 j) = false) : togOf n out (j + 1) = togOf n out j := by
  unfold togOf
  apply List.map_congr_left
  intro i _
  congr 1
  by_cases hij : i = j
  · subst hij
    cases out <;> simp_all
  · have : decide (i < j + 1) = decide (i < j) := by simp; omega
    rw [this]

theorem togOf_turn (n : Nat) (out : Bool) (j : Nat) (h : (out && Nat.testBit 3988292384 j) = true) : togOf n out (j + 1) = (togOf n out j).set j (!((togOf n out j).getD j false)) := by
  apply List.ext_getElem?
  intro i
  by_cases hi : i < 32
  · rw [togOf_get _ _ _ i hi, List.getElem?_set]
    by_cases hij : j = i
    · subst hij
      rw [if_pos rfl, if_pos (by simpa [togOf_length] using hi), List.getD_eq_getElem?_getD, togOf_get n out j j hi]
      cases out
      · simp at h
      · simp at h
        simp [h]
    · rw [if_neg hij, togOf_get _ _ _ i hi]
      congr 2
      have : decide (i < j + 1) = decide (i < j) := by simp; omega
      rw [this]
  · rw [List.getElem?_eq_none (by simp [togOf_length]; omega), List.getElem?_eq_none (by simp [togOf_length]; omega)]

theorem togOf_end (n : Nat) (i : Bool) : togOf n (n.testBit 0 != i) 32 = bitsOf (refBit n i) := by
  unfold togOf bitsOf refBit
  apply List.map_congr_left
  intro j hj
  have hj' : j < 32 := by simpa using hj
  by_cases h : (n.testBit 0 != i) = true
  · rw [if_pos h, h, Nat.testBit_xor]
    simp [hj']
  · rw [if_neg h]
    have h' : (n.testBit 0 != i) = false := by simpa using h
    rw [h']
    simp

/-- The last loop: from the highest bit down. -/
theorem sum_step (m j : Nat) : m >>> j = 2 * (m >>> (j + 1)) + (if m.testBit j then 1 else 0) := by
  have h : m >>> (j + 1) = (m >>> j) / 2 := Nat.shiftRight_succ m j
  have t : m.testBit j = ((m >>> j).testBit 0) := by rw [Nat.testBit_shiftRight]; rfl
  rw [h, t, Nat.testBit_zero]
  by_cases e : m >>> j % 2 = 1
  · simp [e]; omega
  · simp [e]; omega

theorem not_bit (n j : Nat) (hj : j < 32) : (n ^^^ 4294967295).testBit j = !(n.testBit j) := by
  rw [Nat.testBit_xor]
  have : Nat.testBit 4294967295 j = true := by
    have := Nat.testBit_two_pow_sub_one 32 j
    simpa [hj] using this
  rw [this]
  cases n.testBit j <;> rfl

/-! The tag. -/
def tagStepOf (h b : Nat) : Nat := (h * 257 + b + 1) % 4294967291
def tagFrom (h : Nat) (xs : List UInt8) : Nat := xs.foldl (fun h b => tagStepOf h b.toNat) h

theorem tagStepOf_lt (h b : Nat) : tagStepOf h b < 4294967291 := Nat.mod_lt _ (by omega)

theorem tagFrom_lt {h : Nat} (hh : h < 4294967291) (xs : List UInt8) : tagFrom h xs < 4294967291 := by
  unfold tagFrom
  induction xs generalizing h with
  | nil => exact hh
  | cons b l ih => exact ih (tagStepOf_lt h b.toNat)

theorem tagFrom_snoc (h : Nat) (xs : List UInt8) (b : UInt8) : tagFrom h (xs ++ [b]) = tagStepOf (tagFrom h xs) b.toNat := by
  unfold tagFrom
  rw [List.foldl_append]
  rfl

theorem tagFrom_append (h : Nat) (xs ys : List UInt8) : tagFrom h (xs ++ ys) = tagFrom (tagFrom h xs) ys := by
  unfold tagFrom
  rw [List.foldl_append]

theorem tagStep_int (h b : Nat) : (((h : Int) * 257 + b + 1) % 4294967291) = ((tagStepOf h b : Nat) : Int) := by
  unfold tagStepOf
  omega

def keyB (n : Nat) : Bool := decide (1 ≤ n) && decide (n ≤ 16)

theorem take_snoc {α : Type} (xs : List α) (d : α) (k : Nat) (h : k < xs.length) : xs.take (k + 1) = xs.take k ++ [xs.getD k d] := by
  rw [List.take_succ_eq_append_getElem h]
  simp [h]

end Go.Proofs.Ytfoedamnlhkpiab
