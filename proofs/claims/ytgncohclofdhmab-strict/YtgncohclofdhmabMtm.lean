import Derived.Test.YtgncohclofdhmabMall
import Derived.Test.YtgncohclofdhmabMread
namespace Go.Proofs.Ytgncohclofdhmab

/-! One byte turned: the sum is another one. Nothing of the dump. -/

theorem xor_cancel {a b c : Nat} (h : a ^^^ c = b ^^^ c) : a = b := by
  have h1 : a ^^^ c ^^^ c = b ^^^ c ^^^ c := by rw [h]
  rwa [Nat.xor_assoc, Nat.xor_self, Nat.xor_zero, Nat.xor_assoc, Nat.xor_self, Nat.xor_zero] at h1

theorem xor_top {a b : Nat} (ha : a < 2147483648) (hb : b < 2147483648) : a ^^^ 3988292384 ≠ b := by
  intro h
  have h1 : (a ^^^ 3988292384).testBit 31 = b.testBit 31 := by rw [h]
  rw [Nat.testBit_xor, Nat.testBit_lt_two_pow (x := a) (i := 31) (by omega), Nat.testBit_lt_two_pow (x := b) (i := 31) (by omega)] at h1
  revert h1
  decide

theorem crcBit_inj {a b : Nat} (ha : a < 4294967296) (hb : b < 4294967296) (h : crcBit a = crcBit b) : a = b := by
  unfold crcBit at h
  by_cases h1 : a % 2 = 1
  · by_cases h2 : b % 2 = 1
    · rw [if_pos h1, if_pos h2] at h
      have := xor_cancel h
      omega
    · rw [if_pos h1, if_neg h2] at h
      exact absurd h (xor_top (by omega) (by omega))
  · by_cases h2 : b % 2 = 1
    · rw [if_neg h1, if_pos h2] at h
      exact absurd h.symm (xor_top (by omega) (by omega))
    · rw [if_neg h1, if_neg h2] at h
      omega

theorem crcIt_inj {a b : Nat} (ha : a < 4294967296) (hb : b < 4294967296) : ∀ k, crcIt k a = crcIt k b → a = b
  | 0, h => h
  | k + 1, h => crcIt_inj ha hb k (crcBit_inj (crcIt_lt ha k) (crcIt_lt hb k) h)

theorem crcByte_inj {a b c : Nat} (ha : a < 4294967296) (hb : b < 4294967296) (hc : c < 256) (h : crcByte a c = crcByte b c) : a = b :=
  xor_cancel (crcIt_inj (xor_lt ha (by omega)) (xor_lt hb (by omega)) 8 h)

theorem crcByte_inj2 {r b c : Nat} (hr : r < 4294967296) (hb : b < 256) (hc : c < 256) (h : crcByte r b = crcByte r c) : b = c := by
  have h1 := crcIt_inj (xor_lt hr (by omega)) (xor_lt hr (by omega)) 8 h
  rw [Nat.xor_comm r b, Nat.xor_comm r c] at h1
  exact xor_cancel h1

theorem fold_inj : ∀ (l : List UInt8) {a b : Nat}, a < 4294967296 → b < 4294967296 → l.foldl (fun r x => crcByte r x.toNat) a = l.foldl (fun r x => crcByte r x.toNat) b → a = b
  | [], _, _, _, _, h => h
  | x :: l, _, _, ha, hb, h => crcByte_inj ha hb x.toNat_lt (fold_inj l (crcByte_lt ha x.toNat_lt) (crcByte_lt hb x.toNat_lt) h)

/-- With one byte turned the sum is another one. -/
theorem sum_turned (xs ys : List UInt8) (b c : UInt8) (h : sumOf (xs ++ b :: ys) = sumOf (xs ++ c :: ys)) : b = c := by
  have h1 := xor_cancel h
  unfold crcAll at h1
  rw [List.foldl_append, List.foldl_append] at h1
  have hx := crcAll_lt xs
  unfold crcAll at hx
  have h2 := fold_inj ys (crcByte_lt hx b.toNat_lt) (crcByte_lt hx c.toNat_lt) h1
  have h3 := crcByte_inj2 hx b.toNat_lt c.toNat_lt h2
  exact UInt8.toNat_inj.1 h3

end Go.Proofs.Ytgncohclofdhmab

namespace Go.Proofs.Ytgncohclofdhmab

/-! What Verify's head says of a package with one byte turned. Nothing of the dump. -/

theorem numAt_out (p : List UInt8) (i : Nat) (b : UInt8) (at_ : Nat) : ∀ k, i < at_ ∨ at_ + k ≤ i → numAt (p.set i b) at_ k = numAt p at_ k
  | 0, _ => rfl
  | k + 1, h => by
    rw [numAt, numAt, numAt_out p i b at_ k (by omega)]
    have : (p.set i b).getD (at_ + k) 0 = p.getD (at_ + k) 0 := by
      rw [List.getD_eq_getElem?_getD, List.getD_eq_getElem?_getD, List.getElem?_set_ne (by omega)]
    rw [this]

theorem numAt_in (p : List UInt8) (i : Nat) (b : UInt8) (hi : i < p.length) (at_ : Nat) : ∀ k, at_ ≤ i → i < at_ + k → numAt (p.set i b) at_ k = numAt p at_ k → b = p.getD i 0
  | 0, h1, h2, _ => by omega
  | k + 1, h1, h2, h => by
    rw [numAt, numAt] at h
    have l1 := ((p.set i b).getD (at_ + k) 0).toNat_lt
    have l2 := (p.getD (at_ + k) 0).toNat_lt
    by_cases hk : i = at_ + k
    · have h3 : ((p.set i b).getD (at_ + k) 0).toNat = (p.getD (at_ + k) 0).toNat := by omega
      have h4 := UInt8.toNat_inj.1 h3
      rw [← hk] at h4
      rw [← h4, List.getD_eq_getElem?_getD, List.getElem?_set_self hi]
      rfl
    · exact numAt_in p i b hi at_ k h1 (by omega) (by omega)

theorem sum_set (p : List UInt8) (i n : Nat) (b : UInt8) (hi : i < n) (hn : n ≤ p.length) (h : sumOf ((p.set i b).take n) = sumOf (p.take n)) : b = p.getD i 0 := by
  have e1 : p.take n = (p.take n).take i ++ p.getD i 0 :: (p.take n).drop (i + 1) := by
    have hl : i < (p.take n).length := by rw [List.length_take]; omega
    have h1 : (p.take n)[i] = p.getD i 0 := by
      rw [List.getElem_take, List.getD_eq_getElem?_getD, List.getElem?_eq_getElem (by omega)]
      rfl
    rw [← h1, List.getElem_cons_drop hl, List.take_append_drop]
  have e2 : (p.set i b).take n = (p.take n).take i ++ b :: (p.take n).drop (i + 1) := by
    rw [List.take_set, List.set_eq_take_append_cons_drop, if_pos (by rw [List.length_take]; omega)]
  exact sum_turned ((p.take n).take i) ((p.take n).drop (i + 1)) _ _ (e2 ▸ h.trans (congrArg sumOf e1))

theorem turned_head {key p : List UInt8} (h0 : verHead key p = 0) {i : Nat} (hi : i < p.length) {b : UInt8} (hb : b ≠ p.getD i 0) : verHead key (p.set i b) = if p.length - 4 ≤ i then 11 else 10 := by
  unfold verHead at h0 ⊢
  rw [List.length_set]
  by_cases k1 : keyB key.length = false
  · rw [if_pos k1] at h0
    omega
  by_cases k2 : 4000 < p.length
  · rw [if_neg k1, if_pos k2] at h0
    omega
  by_cases k3 : p.length < 13
  · rw [if_neg k1, if_neg k2, if_pos k3] at h0
    omega
  by_cases k4 : numAt p (p.length - 8) 4 ≠ sumOf (p.take (p.length - 8))
  · rw [if_neg k1, if_neg k2, if_neg k3, if_pos k4] at h0
    omega
  by_cases k5 : numAt p (p.length - 4) 4 ≠ tagVal key (p.take (p.length - 4))
  · rw [if_neg k1, if_neg k2, if_neg k3, if_neg k4, if_pos k5] at h0
    omega
  have s4 := Decidable.not_not.1 k4
  have s5 := Decidable.not_not.1 k5
  rw [if_neg k1, if_neg k2, if_neg k3]
  by_cases c1 : p.length - 4 ≤ i
  · rw [if_pos c1, if_neg, if_pos]
    · rw [List.take_set_of_le (by omega), ← s5]
      exact fun h => hb (numAt_in p i b hi _ 4 c1 (by omega) h)
    · rw [List.take_set_of_le (by omega), numAt_out p i b _ 4 (by omega)]
      exact k4
  · rw [if_neg c1, if_pos]
    by_cases c2 : p.length - 8 ≤ i
    · rw [List.take_set_of_le (by omega), ← s4]
      exact fun h => hb (numAt_in p i b hi _ 4 c2 (by omega) h)
    · rw [numAt_out p i b _ 4 (by omega), s4]
      exact fun h => hb (sum_set p i _ b (by omega) (by omega) h.symm)

/-- Whatever is summed and tagged, the head finds no fault with it. -/
theorem seal_head {key xs : List UInt8} (hk : keyB key.length = true) (h1 : 5 ≤ xs.length) (h2 : xs.length + 8 ≤ 4000) : verHead key (tagged key (summed xs)) = 0 := by
  have e : tagged key (summed xs) = xs ++ (fourOf (sumOf xs) ++ fourOf (tagVal key (summed xs))) := by
    unfold tagged tagVal
    conv => lhs; arg 1; unfold summed
    rw [List.append_assoc]
  have e2 : tagged key (summed xs) = summed xs ++ (fourOf (tagVal key (summed xs)) ++ []) := by
    rw [List.append_nil]
    rfl
  have l2 : (summed xs).length = xs.length + 4 := by
    unfold summed
    rw [List.length_append]
    rfl
  have l1 : (tagged key (summed xs)).length = xs.length + 8 := by
    rw [e2, List.length_append, List.append_nil, l2]
    rfl
  unfold verHead
  rw [l1, if_neg (by rw [hk]; simp), if_neg (by omega), if_neg (by omega), if_neg, if_neg]
  · refine Decidable.not_not.2 ?_
    rw [numAt_at e2 (by omega) (Nat.le_refl 4) (numAt_four _ (tagVal_lt _ _)), e2, show xs.length + 8 - 4 = (summed xs).length by omega, List.take_left']
    rfl
  · refine Decidable.not_not.2 ?_
    rw [numAt_at e (by omega) (Nat.le_refl 4) (numAt_four _ (sumOf_lt' _)), e, Nat.add_sub_cancel, List.take_left']
    rfl

theorem IsPack.clean {key p : List UInt8} {l : List (List UInt8 × List UInt8)} {al : Nat} {pk : Bool} (h : IsPack key p l al pk) (hk : keyB key.length = true) (hl : 13 ≤ p.length) : verHead key p = 0 := by
  have e := h.made
  have hs := h.short
  have l1 : p.length = (plainOf pk al l).length + 8 := by
    rw [e, made_end, List.length_append, List.length_append]
    rfl
  rw [e]
  exact seal_head hk (by omega) (by omega)

end Go.Proofs.Ytgncohclofdhmab
