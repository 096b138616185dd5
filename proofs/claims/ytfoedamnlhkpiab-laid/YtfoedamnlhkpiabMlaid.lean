import Derived.Test.YtfoedamnlhkpiabMall
import Derived.Test.YtfoedamnlhkpiabWkeyed
namespace Go.Proofs.Ytfoedamnlhkpiab

/-! The bytes of a package, read again. -/

/-- A number in n bytes from a place on. -/
def numAt (xs : List UInt8) (at_ : Nat) : Nat → Nat
  | 0 => 0
  | i + 1 => 256 * numAt xs at_ i + (xs.getD (at_ + i) 0).toNat

theorem numAt_lt (xs : List UInt8) (at_ n : Nat) : numAt xs at_ n < 256 ^ n := by
  induction n with
  | zero => simp [numAt]
  | succ n ih =>
    have h1 := (xs.getD (at_ + n) 0).toNat_lt
    rw [numAt, Nat.pow_succ]
    omega

theorem getD_mid (pre ys post : List UInt8) (i : Nat) (h : i < ys.length) : (pre ++ (ys ++ post)).getD (pre.length + i) 0 = ys.getD i 0 := by
  rw [List.getD_eq_getElem?_getD, List.getD_eq_getElem?_getD, List.getElem?_append_right (by omega), Nat.add_sub_cancel_left, List.getElem?_append_left h]

theorem numAt_mid (pre ys post : List UInt8) (n : Nat) (h : n ≤ ys.length) : numAt (pre ++ (ys ++ post)) pre.length n = numAt ys 0 n := by
  induction n with
  | zero => rfl
  | succ n ih => rw [numAt, numAt, ih (by omega), getD_mid pre ys post n (by omega), Nat.zero_add]

theorem numAt_one (v : Nat) (h : v < 256) : numAt [UInt8.ofNat v] 0 1 = v := by
  simp [numAt]
  omega

theorem numAt_two (v : Nat) (h : v < 65536) : numAt (twoOf v) 0 2 = v := by
  simp [numAt, twoOf]
  omega

theorem numAt_four (v : Nat) (h : v < 4294967296) : numAt (fourOf v) 0 4 = v := by
  simp [numAt, fourOf]
  omega

theorem numAt_at {xs pre ys post : List UInt8} {k n v : Nat} (e : xs = pre ++ (ys ++ post)) (hk : k = pre.length) (hn : n ≤ ys.length) (hv : numAt ys 0 n = v) : numAt xs k n = v := by
  subst e hk hv
  exact numAt_mid pre ys post n hn

theorem bodyOf_append (pk : Bool) (al : Nat) : ∀ (l m : List (List UInt8 × List UInt8)) (out : List UInt8), bodyOf pk al out (l ++ m) = bodyOf pk al (bodyOf pk al out l) m
  | [], _, _ => rfl
  | x :: r, m, out => by
    rw [List.cons_append, bodyOf, bodyOf]
    exact bodyOf_append pk al r m _

theorem bodyOf_out (pk : Bool) (al : Nat) : ∀ (l : List (List UInt8 × List UInt8)) (out : List UInt8), ∃ r, bodyOf pk al out l = out ++ r
  | [], out => ⟨[], by simp [bodyOf]⟩
  | x :: r, out => by
    obtain ⟨s, hs⟩ := bodyOf_out pk al r (out ++ entOf pk al out.length x.1 x.2)
    exact ⟨entOf pk al out.length x.1 x.2 ++ s, by rw [bodyOf, hs, List.append_assoc]⟩

/-- Where the body of entry i begins. -/
def bodyTo (pk : Bool) (al : Nat) (l : List (List UInt8 × List UInt8)) (i : Nat) : List UInt8 := bodyOf pk al (headBytes pk al l.length) (l.take i)

theorem made_entry (key : List UInt8) (pk : Bool) (al : Nat) (l : List (List UInt8 × List UInt8)) (i : Nat) (hi : i < l.length) :
    ∃ post, 8 ≤ post.length ∧ madeOf key pk al l = bodyTo pk al l i ++ (entOf pk al (bodyTo pk al l i).length (l.getD i ([], [])).1 (l.getD i ([], [])).2 ++ post) ∧ bodyTo pk al l (i + 1) = bodyTo pk al l i ++ entOf pk al (bodyTo pk al l i).length (l.getD i ([], [])).1 (l.getD i ([], [])).2 := by
  have ht := take_snoc l ([], []) i hi
  have h1 : bodyTo pk al l (i + 1) = bodyTo pk al l i ++ entOf pk al (bodyTo pk al l i).length (l.getD i ([], [])).1 (l.getD i ([], [])).2 := by
    unfold bodyTo
    rw [ht, bodyOf_snoc]
  have h2 : bodyOf pk al (headBytes pk al l.length) l = bodyOf pk al (bodyTo pk al l (i + 1)) (l.drop (i + 1)) := by
    unfold bodyTo
    rw [← bodyOf_append, List.take_append_drop]
  obtain ⟨r, hr⟩ := bodyOf_out pk al (l.drop (i + 1)) (bodyTo pk al l (i + 1))
  refine ⟨r ++ (sumsOf l ++ (fourOf (sumOf (plainOf pk al l)) ++ fourOf (tagFrom 0 (key ++ summed (plainOf pk al l) ++ key)))), ?_, ?_, h1⟩
  · simp [fourOf]
    omega
  have h3 : madeOf key pk al l = plainOf pk al l ++ (fourOf (sumOf (plainOf pk al l)) ++ fourOf (tagFrom 0 (key ++ summed (plainOf pk al l) ++ key))) := by
    unfold madeOf tagged
    conv => lhs; arg 1; unfold summed
    rw [List.append_assoc]
  rw [h3]
  conv => lhs; arg 1; unfold plainOf
  rw [h2, hr, h1]
  simp only [List.append_assoc]

theorem made_sum (key : List UInt8) (pk : Bool) (al : Nat) (l : List (List UInt8 × List UInt8)) (i : Nat) (hi : i < l.length) :
    ∃ post, madeOf key pk al l = (bodyTo pk al l l.length ++ sumsOf (l.take i)) ++ (fourOf (sumOf (l.getD i ([], [])).2) ++ post) := by
  have ht := take_snoc l ([], []) i hi
  have h1 : sumsOf l = sumsOf (l.take i) ++ (fourOf (sumOf (l.getD i ([], [])).2) ++ sumsOf (l.drop (i + 1))) := by
    conv => lhs; rw [← List.take_append_drop (i + 1) l, ht]
    rw [sumsOf_append, sumsOf_append]
    simp [sumsOf]
  refine ⟨sumsOf (l.drop (i + 1)) ++ (fourOf (sumOf (plainOf pk al l)) ++ fourOf (tagFrom 0 (key ++ summed (plainOf pk al l) ++ key))), ?_⟩
  have h3 : madeOf key pk al l = plainOf pk al l ++ (fourOf (sumOf (plainOf pk al l)) ++ fourOf (tagFrom 0 (key ++ summed (plainOf pk al l) ++ key))) := by
    unfold madeOf tagged
    conv => lhs; arg 1; unfold summed
    rw [List.append_assoc]
  rw [h3]
  conv => lhs; arg 1; unfold plainOf
  unfold bodyTo
  rw [List.take_of_length_le (Nat.le_refl _), h1]
  simp only [List.append_assoc]

theorem made_end (key : List UInt8) (pk : Bool) (al : Nat) (l : List (List UInt8 × List UInt8)) : madeOf key pk al l = plainOf pk al l ++ (fourOf (sumOf (plainOf pk al l)) ++ fourOf (tagVal key (summed (plainOf pk al l)))) := by
  unfold madeOf tagged tagVal
  conv => lhs; arg 1; unfold summed
  rw [List.append_assoc]

theorem plain_len (pk : Bool) (al : Nat) (l : List (List UInt8 × List UInt8)) : (plainOf pk al l).length = (bodyTo pk al l l.length).length + 4 * l.length := by
  unfold plainOf bodyTo
  rw [List.take_of_length_le (Nat.le_refl _), List.length_append, sumsOf_length]

theorem made_head (key : List UInt8) (pk : Bool) (al : Nat) (l : List (List UInt8 × List UInt8)) : ∃ r, madeOf key pk al l = headBytes pk al l.length ++ r := by
  obtain ⟨r, hr⟩ := bodyOf_out pk al l (headBytes pk al l.length)
  refine ⟨r ++ (sumsOf l ++ (fourOf (sumOf (plainOf pk al l)) ++ fourOf (tagVal key (summed (plainOf pk al l))))), ?_⟩
  rw [made_end]
  conv => lhs; arg 1; unfold plainOf
  rw [hr]
  simp only [List.append_assoc]

theorem head_nums (pk : Bool) (al n : Nat) (r : List UInt8) (hal : al ≤ 16) (hn : n ≤ 20) : numAt (headBytes pk al n ++ r) 0 2 = 20556 ∧ numAt (headBytes pk al n ++ r) 2 1 = al ∧ numAt (headBytes pk al n ++ r) 3 1 = (if pk then 1 else 0) ∧ numAt (headBytes pk al n ++ r) 4 1 = n := by
  refine ⟨by simp [numAt, headBytes], by simp [numAt, headBytes]; omega, ?_, by simp [numAt, headBytes]; omega⟩
  cases pk <;> simp [numAt, headBytes]

end Go.Proofs.Ytfoedamnlhkpiab
