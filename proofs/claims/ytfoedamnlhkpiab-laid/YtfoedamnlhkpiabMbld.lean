import Derived.Test.YtfoedamnlhkpiabMcrc
import Derived.Test.YtfoedamnlhkpiabMpack
import Derived.Test.YtfoedamnlhkpiabMpath
namespace Go.Proofs.Ytfoedamnlhkpiab

/-! Building, as plain functions of lists of bytes. Nothing of the dump. -/

def lexB : List UInt8 → List UInt8 → Bool
  | _, [] => false
  | [], _ :: _ => true
  | a :: r, b :: s => if a = b then lexB r s else decide (a.toNat < b.toNat)

def underB (p q : List UInt8) : Bool := decide (q.length < p.length) && decide (p.take q.length = q) && decide ((p.getD q.length 0).toNat = 47)

theorem lexB_drop (xs ys : List UInt8) (i : Nat) (h : ∀ j, j < i → xs.getD j 0 = ys.getD j 0) (hx : i ≤ xs.length) (hy : i ≤ ys.length) : lexB xs ys = lexB (xs.drop i) (ys.drop i) := by
  induction i generalizing xs ys with
  | zero => rfl
  | succ i ih =>
    cases xs with
    | nil => simp at hx
    | cons a r =>
      cases ys with
      | nil => simp at hy
      | cons b s =>
        have h0 := h 0 (by omega)
        simp at h0
        subst h0
        rw [lexB, if_pos rfl, List.drop_succ_cons, List.drop_succ_cons]
        exact ih r s (fun j hj => by have := h (j + 1) (by omega); simpa using this) (by simpa using hx) (by simpa using hy)

theorem lexB_part (xs ys : List UInt8) (i : Nat) (h : ∀ j, j < i → xs.getD j 0 = ys.getD j 0) (hx : i < xs.length) (hy : i < ys.length) (hne : xs.getD i 0 ≠ ys.getD i 0) :
    lexB xs ys = decide ((xs.getD i 0).toNat < (ys.getD i 0).toNat) := by
  rw [lexB_drop xs ys i h (by omega) (by omega), drop_cons xs i hx, drop_cons ys i hy, lexB, if_neg hne]

theorem lexB_end (xs ys : List UInt8) (i : Nat) (h : ∀ j, j < i → xs.getD j 0 = ys.getD j 0) (hx : i ≤ xs.length) (hy : i ≤ ys.length) (he : xs.length = i ∨ ys.length = i) :
    lexB xs ys = decide (xs.length < ys.length) := by
  rw [lexB_drop xs ys i h hx hy]
  by_cases e : ys.length = i
  · rw [show ys.drop i = [] from List.drop_of_length_le (by omega)]
    have : ¬ xs.length < ys.length := by omega
    simp [lexB, this]
  · have e2 : xs.length = i := by omega
    rw [show xs.drop i = [] from List.drop_of_length_le (by omega), drop_cons ys i (by omega)]
    have : xs.length < ys.length := by omega
    simp [lexB, this]

theorem underB_iff (p q : List UInt8) : underB p q = true ↔ q.length < p.length ∧ p.take q.length = q ∧ (p.getD q.length 0).toNat = 47 := by
  simp [underB, and_assoc]

/-- A number in four bytes, in two. -/
def fourOf (v : Nat) : List UInt8 := [UInt8.ofNat (v / 16777216), UInt8.ofNat (v / 65536), UInt8.ofNat (v / 256), UInt8.ofNat v]
def twoOf (v : Nat) : List UInt8 := [UInt8.ofNat (v / 256), UInt8.ofNat v]

/-- What is laid of a body. -/
def laidOf (pack : Bool) (b : List UInt8) : List UInt8 := if pack && decide ((packOf b).length < b.length) then packOf b else b
def methOf (pack : Bool) (b : List UInt8) : Nat := if pack && decide ((packOf b).length < b.length) then 1 else 0

/-- How many noughts, so that the place behind them is a multiple of the alignment. -/
def padOf (al n : Nat) : Nat := (al - n % al) % al

/-- An entry's bytes ahead of what it says of its noughts. -/
def entHead (pack : Bool) (p b : List UInt8) : List UInt8 := UInt8.ofNat p.length :: (p ++ (UInt8.ofNat (methOf pack b) :: (twoOf b.length ++ twoOf (laidOf pack b).length)))
def entPad (pack : Bool) (al n : Nat) (p b : List UInt8) : Nat := if methOf pack b = 0 then padOf al (n + (entHead pack p b).length + 1) else 0
def entOf (pack : Bool) (al n : Nat) (p b : List UInt8) : List UInt8 :=
  entHead pack p b ++ (UInt8.ofNat (entPad pack al n p b) :: (List.replicate (entPad pack al n p b) 0 ++ laidOf pack b))

theorem padOf_lt {al : Nat} (h : 0 < al) (n : Nat) : padOf al n < al := Nat.mod_lt _ h

theorem padOf_zero {al n : Nat} (h : 0 < al) : (n + padOf al n) % al = 0 := by
  unfold padOf
  by_cases h0 : n % al = 0
  · rw [h0, Nat.sub_zero, Nat.mod_self, Nat.add_zero, h0]
  · have hl : n % al < al := Nat.mod_lt _ h
    rw [Nat.mod_eq_of_lt (a := al - n % al) (by omega), Nat.add_mod, Nat.mod_eq_of_lt (a := al - n % al) (by omega), show n % al + (al - n % al) = al from by omega, Nat.mod_self]

theorem padOf_least {al n k : Nat} (h : 0 < al) (hk : k < padOf al n) : (n + k) % al ≠ 0 := by
  intro e
  have hp := padOf_lt h n
  have hz := padOf_zero (n := n) h
  have h1 : al ∣ (n + padOf al n) - (n + k) := Nat.dvd_sub (Nat.dvd_of_mod_eq_zero hz) (Nat.dvd_of_mod_eq_zero e)
  have h2 : (n + padOf al n) - (n + k) = padOf al n - k := by omega
  rw [h2] at h1
  have := Nat.le_of_dvd (by omega) h1
  omega

end Go.Proofs.Ytfoedamnlhkpiab
