import Derived.Test.YtgncohclofdhmaaGreatMall
namespace Go.Proofs.YtgncohclofdhmaaGreat

/-! The bytes of a package, read again. -/

/-- A number in n bytes from a place on. -/
def numAt (xs : List UInt8) (at_ : Nat) : Nat → Nat
  | 0 => 0
  | i + 1 => 256 * numAt xs at_ i + (xs.getD (at_ + i) 0).toNat

theorem numAt_lt (xs : List UInt8) (at_ n : Nat) : numAt xs at_ n < 256 ^ n := by
  induction n with
  | zero => simp [numAt]
  | succ n ih =>
    have h1 := (xs.getD (at_ + n) 0).toNat_lt
    rw [numAt, Nat.pow_succ]
    omega

theorem getD_mid (pre ys post : List UInt8) (i : Nat) (h : i < ys.length) : (pre ++ (ys ++ post)).getD (pre.length + i) 0 = ys.getD i 0 := by
  rw [List.getD_eq_getElem?_getD, List.getD_eq_getElem?_getD, List.getElem?_append_right (by omega), Nat.add_sub_cancel_left, List.getElem?_append_left h]

theorem numAt_mid (pre ys post : List UInt8) (n : Nat) (h : n ≤ ys.length) : numAt (pre ++ (ys ++ post)) pre.length n = numAt ys 0 n := by
  induction n with
  | zero => rfl
  | succ n ih => rw [numAt, numAt, ih (by omega), getD_mid pre ys post n (by omega), Nat.zero_add]

theorem numAt_one (v : Nat) (h : v < 256) : numAt [UInt8.ofNat v] 0 1 = v := by
  simp [numAt]
  omega

theorem numAt_two (v : Nat) (h : v < 65536) : numAt (twoOf v) 0 2 = v := by
  simp [numAt, twoOf]
  omega

theorem numAt_four (v : Nat) (h : v < 4294967296) : numAt (fourOf v) 0 4 = v := by
  simp [numAt, fourOf]
  omega

theorem numAt_at {xs pre ys post : List UInt8} {k n v : Nat} (e : xs = pre ++ (ys ++ post)) (hk : k = pre.length) (hn : n ≤ ys.length) (hv : numAt ys 0 n = v) : numAt xs k n = v := by
  subst e hk hv
  exact numAt_mid pre ys post n hn

theorem bodyOf_append (pk : Bool) (al : Nat) : ∀ (l m : List (List UInt8 × List UInt8)) (out : List UInt8), bodyOf pk al out (l ++ m) = bodyOf pk al (bodyOf pk al out l) m
  | [], _, _ => rfl
  | x :: r, m, out => by
    rw [List.cons_append, bodyOf, bodyOf]
    exact bodyOf_append pk al r m _

theorem bodyOf_out (pk : Bool) (al : Nat) : ∀ (l : List (List UInt8 × List UInt8)) (out : List UInt8), ∃ r, bodyOf pk al out l = out ++ r
  | [], out => ⟨[], by simp [bodyOf]⟩
  | x :: r, out => by
    obtain ⟨s, hs⟩ := bodyOf_out pk al r (out ++ entOf pk al out.length x.1 x.2)
    exact ⟨entOf pk al out.length x.1 x.2 ++ s, by rw [bodyOf, hs, List.append_assoc]⟩

/-- Where the body of entry i begins. -/
def bodyTo (pk : Bool) (al : Nat) (l : List (List UInt8 × List UInt8)) (i : Nat) : List UInt8 := bodyOf pk al (headBytes pk al l.length) (l.take i)

theorem made_entry (key : List UInt8) (pk : Bool) (al : Nat) (l : List (List UInt8 × List UInt8)) (i : Nat) (hi : i < l.length) :
    ∃ post, 8 ≤ post.length ∧ madeOf key pk al l = bodyTo pk al l i ++ (entOf pk al (bodyTo pk al l i).length (l.getD i ([], [])).1 (l.getD i ([], [])).2 ++ post) ∧ bodyTo pk al l (i + 1) = bodyTo pk al l i ++ entOf pk al (bodyTo pk al l i).length (l.getD i ([], [])).1 (l.getD i ([], [])).2 := by
  have ht := take_snoc l ([], []) i hi
  have h1 : bodyTo pk al l (i + 1) = bodyTo pk al l i ++ entOf pk al (bodyTo pk al l i).length (l.getD i ([], [])).1 (l.getD i ([], [])).2 := by
    unfold bodyTo
    rw [ht, bodyOf_snoc]
  have h2 : bodyOf pk al (headBytes pk al l.length) l = bodyOf pk al (bodyTo pk al l (i + 1)) (l.drop (i + 1)) := by
    unfold bodyTo
    rw [← bodyOf_append, List.take_append_drop]
  obtain ⟨r, hr⟩ := bodyOf_out pk al (l.drop (i + 1)) (bodyTo pk al l (i + 1))
  refine ⟨r ++ (sumsOf l ++ (fourOf (sumOf (plainOf pk al l)) ++ fourOf (tagFrom 0 (key ++ summed (plainOf pk al l) ++ key)))), ?_, ?_, h1⟩
  · simp [fourOf]
    omega
  have h3 : madeOf key pk al l = plainOf pk al l ++ (fourOf (sumOf (plainOf pk al l)) ++ fourOf (tagFrom 0 (key ++ summed (plainOf pk al l) ++ key))) := by
    unfold madeOf tagged
    conv => lhs; arg 1; unfold summed
    rw [List.append_assoc]
  rw [h3]
  conv => lhs; arg 1; unfold plainOf
  rw [h2, hr, h1]
  simp only [List.append_assoc]

theorem made_sum (key : List UInt8) (pk : Bool) (al : Nat) (l : List (List UInt8 × List UInt8)) (i : Nat) (hi : i < l.length) :
    ∃ post, madeOf key pk al l = (bodyTo pk al l l.length ++ sumsOf (l.take i)) ++ (fourOf (sumOf (l.getD i ([], [])).2) ++ post) := by
  have ht := take_snoc l ([], []) i hi
  have h1 : sumsOf l = sumsOf (l.take i) ++ (fourOf (sumOf (l.getD i ([], [])).2) ++ sumsOf (l.drop (i + 1))) := by
    conv => lhs; rw [← List.take_append_drop (i + 1) l, ht]
    rw [sumsOf_append, sumsOf_append]
    simp [sumsOf]
  refine ⟨sumsOf (l.drop (i + 1)) ++ (fourOf (sumOf (plainOf pk al l)) ++ fourOf (tagFrom 0 (key ++ summed (plainOf pk al l) ++ key))), ?_⟩
  have h3 : madeOf key pk al l = plainOf pk al l ++ (fourOf (sumOf (plainOf pk al l)) ++ fourOf (tagFrom 0 (key ++ summed (plainOf pk al l) ++ key))) := by
    unfold madeOf tagged
    conv => lhs; arg 1; unfold summed
    rw [List.append_assoc]
  rw [h3]
  conv => lhs; arg 1; unfold plainOf
  unfold bodyTo
  rw [List.take_of_length_le (Nat.le_refl _), h1]
  simp only [List.append_assoc]

theorem made_end (key : List UInt8) (pk : Bool) (al : Nat) (l : List (List UInt8 × List UInt8)) : madeOf key pk al l = plainOf pk al l ++ (fourOf (sumOf (plainOf pk al l)) ++ fourOf (tagVal key (summed (plainOf pk al l)))) := by
  unfold madeOf tagged tagVal
  conv => lhs; arg 1; unfold summed
  rw [List.append_assoc]

theorem plain_len (pk : Bool) (al : Nat) (l : List (List UInt8 × List UInt8)) : (plainOf pk al l).length = (bodyTo pk al l l.length).length + 4 * l.length := by
  unfold plainOf bodyTo
  rw [List.take_of_length_le (Nat.le_refl _), List.length_append, sumsOf_length]

theorem made_head (key : List UInt8) (pk : Bool) (al : Nat) (l : List (List UInt8 × List UInt8)) : ∃ r, madeOf key pk al l = headBytes pk al l.length ++ r := by
  obtain ⟨r, hr⟩ := bodyOf_out pk al l (headBytes pk al l.length)
  refine ⟨r ++ (sumsOf l ++ (fourOf (sumOf (plainOf pk al l)) ++ fourOf (tagVal key (summed (plainOf pk al l))))), ?_⟩
  rw [made_end]
  conv => lhs; arg 1; unfold plainOf
  rw [hr]
  simp only [List.append_assoc]

theorem head_nums (pk : Bool) (al n : Nat) (r : List UInt8) (hal : al ≤ 16) (hn : n ≤ 20) : numAt (headBytes pk al n ++ r) 0 2 = 20556 ∧ numAt (headBytes pk al n ++ r) 2 1 = al ∧ numAt (headBytes pk al n ++ r) 3 1 = (if pk then 1 else 0) ∧ numAt (headBytes pk al n ++ r) 4 1 = n := by
  refine ⟨by simp [numAt, headBytes], by simp [numAt, headBytes]; omega, ?_, by simp [numAt, headBytes]; omega⟩
  cases pk <;> simp [numAt, headBytes]

end Go.Proofs.YtgncohclofdhmaaGreat

namespace Go.Proofs.YtgncohclofdhmaaGreat

/-! An entry's bytes, read again. -/

theorem entOf_flat (pk : Bool) (al n : Nat) (p b : List UInt8) : entOf pk al n p b = [UInt8.ofNat p.length] ++ (p ++ ([UInt8.ofNat (methOf pk b)] ++ (twoOf b.length ++ (twoOf (laidOf pk b).length ++ ([UInt8.ofNat (entPad pk al n p b)] ++ (List.replicate (entPad pk al n p b) 0 ++ laidOf pk b)))))) := by
  simp [entOf, entHead]

theorem entPad_lt (pk : Bool) (al n : Nat) (p b : List UInt8) (hal : 1 ≤ al) (hal2 : al ≤ 16) : entPad pk al n p b < 16 := by
  unfold entPad
  split
  · have := padOf_lt (al := al) (by omega) (n + (entHead pk p b).length + 1)
    omega
  · omega

theorem entOf_len (pk : Bool) (al n : Nat) (p b : List UInt8) : (entOf pk al n p b).length = 7 + p.length + entPad pk al n p b + (laidOf pk b).length := by
  rw [entOf_flat]
  simp [twoOf]
  omega

structure EntFacts (xs : List UInt8) (pk : Bool) (al n0 : Nat) (p b : List UInt8) (pd L m : Nat) : Prop where
  f1 : numAt xs n0 1 = p.length
  f2 : numAt xs (n0 + 1 + p.length) 1 = m
  f3 : numAt xs (n0 + 1 + p.length + 1) 2 = b.length
  f4 : numAt xs (n0 + 1 + p.length + 3) 2 = L
  f5 : numAt xs (n0 + 1 + p.length + 5) 1 = pd
  f6 : (xs.drop (n0 + 1)).take p.length = p
  f7 : (xs.drop (n0 + 7 + p.length + pd)).take L = laidOf pk b
  f8 : ∀ j, j < pd → xs.getD (n0 + 7 + p.length + j) 0 = 0
  f9 : n0 + 7 + p.length + pd + L ≤ xs.length
  f10 : m = 0 → (n0 + 7 + p.length + pd) % al = 0 ∧ pd < al ∧ laidOf pk b = b
  f11 : m ≠ 0 → m = 1 ∧ pk = true ∧ pd = 0 ∧ laidOf pk b = packOf b ∧ L < b.length
  f12 : L = (laidOf pk b).length

theorem entry_facts {xs pre post : List UInt8} {pk : Bool} {al : Nat} {p b : List UInt8} (hx : xs = pre ++ (entOf pk al pre.length p b ++ post)) (hp : p.length ≤ 255) (hb : b.length ≤ 600) (hal : 1 ≤ al) (hal2 : al ≤ 16) :
    EntFacts xs pk al pre.length p b (entPad pk al pre.length p b) (laidOf pk b).length (methOf pk b) := by
  have hpad := entPad_lt pk al pre.length p b hal hal2
  have hlaid := laidOf_le pk b
  have hmeth : methOf pk b ≤ 1 := by unfold methOf; split <;> omega
  have hpz : methOf pk b = 0 → entPad pk al pre.length p b = padOf al (pre.length + 7 + p.length) := by
    intro h
    unfold entPad
    rw [if_pos h]
    congr 1
    simp [entHead, twoOf]
    omega
  have hl : (entOf pk al pre.length p b).length = 7 + p.length + entPad pk al pre.length p b + (laidOf pk b).length := entOf_len _ _ _ _ _
  have hpd0 : methOf pk b ≠ 0 → entPad pk al pre.length p b = 0 := by
    intro h
    unfold entPad
    rw [if_neg h]
  rw [entOf_flat] at hx
  generalize entPad pk al pre.length p b = pd at *
  have hm10 : methOf pk b = 0 → laidOf pk b = b := by
    unfold methOf laidOf
    intro h
    split at h
    · omega
    · rename_i h2; rw [if_neg h2]
  have hm11 : methOf pk b ≠ 0 → methOf pk b = 1 ∧ pk = true ∧ laidOf pk b = packOf b ∧ (laidOf pk b).length < b.length := by
    intro h
    have h1 : (pk && decide ((packOf b).length < b.length)) = true := by
      cases hc : (pk && decide ((packOf b).length < b.length))
      · unfold methOf at h; rw [hc] at h; simp at h
      · rfl
    have h2 : laidOf pk b = packOf b := by unfold laidOf; rw [if_pos h1]
    rw [Bool.and_eq_true, decide_eq_true_eq] at h1
    exact ⟨by omega, h1.1, h2, by rw [h2]; exact h1.2⟩
  refine ⟨?_, ?_, ?_, ?_, ?_, ?_, ?_, ?_, ?_, ?_, ?_, rfl⟩
  · exact numAt_at (pre := pre) hx rfl (by simp) (numAt_one _ (by omega))
  · refine numAt_at (pre := pre ++ ([UInt8.ofNat p.length] ++ p)) (ys := [UInt8.ofNat (methOf pk b)]) (post := twoOf b.length ++ (twoOf (laidOf pk b).length ++ ([UInt8.ofNat pd] ++ (List.replicate pd 0 ++ laidOf pk b))) ++ post) ?_ (by simp; omega) (by simp) (numAt_one _ (by omega))
    rw [hx]
    simp
  · refine numAt_at (pre := pre ++ ([UInt8.ofNat p.length] ++ (p ++ [UInt8.ofNat (methOf pk b)]))) (ys := twoOf b.length) (post := (twoOf (laidOf pk b).length ++ ([UInt8.ofNat pd] ++ (List.replicate pd 0 ++ laidOf pk b))) ++ post) ?_ (by simp; omega) (by simp [twoOf]) (numAt_two _ (by omega))
    rw [hx]
    simp
  · refine numAt_at (pre := pre ++ ([UInt8.ofNat p.length] ++ (p ++ ([UInt8.ofNat (methOf pk b)] ++ twoOf b.length)))) (ys := twoOf (laidOf pk b).length) (post := ([UInt8.ofNat pd] ++ (List.replicate pd 0 ++ laidOf pk b)) ++ post) ?_ (by simp [twoOf]; omega) (by simp [twoOf]) (numAt_two _ (by omega))
    rw [hx]
    simp
  · refine numAt_at (pre := pre ++ ([UInt8.ofNat p.length] ++ (p ++ ([UInt8.ofNat (methOf pk b)] ++ (twoOf b.length ++ twoOf (laidOf pk b).length))))) (ys := [UInt8.ofNat pd]) (post := (List.replicate pd 0 ++ laidOf pk b) ++ post) ?_ (by simp [twoOf]; omega) (by simp) (numAt_one _ (by omega))
    rw [hx]
    simp
  · have e : xs = (pre ++ [UInt8.ofNat p.length]) ++ (p ++ ([UInt8.ofNat (methOf pk b)] ++ (twoOf b.length ++ (twoOf (laidOf pk b).length ++ ([UInt8.ofNat pd] ++ (List.replicate pd 0 ++ laidOf pk b)))) ++ post)) := by
      rw [hx]
      simp
    rw [e, show pre.length + 1 = (pre ++ [UInt8.ofNat p.length]).length from by simp, List.drop_left, List.take_left]
  · have e : xs = (pre ++ ([UInt8.ofNat p.length] ++ (p ++ ([UInt8.ofNat (methOf pk b)] ++ (twoOf b.length ++ (twoOf (laidOf pk b).length ++ ([UInt8.ofNat pd] ++ List.replicate pd 0))))))) ++ (laidOf pk b ++ post) := by
      rw [hx]
      simp
    have e2 : pre.length + 7 + p.length + pd = (pre ++ ([UInt8.ofNat p.length] ++ (p ++ ([UInt8.ofNat (methOf pk b)] ++ (twoOf b.length ++ (twoOf (laidOf pk b).length ++ ([UInt8.ofNat pd] ++ List.replicate pd 0))))))).length := by
      simp [twoOf]
      omega
    rw [e2, e, List.drop_left, List.take_left]
  · intro j hj
    have e : xs = (pre ++ ([UInt8.ofNat p.length] ++ (p ++ ([UInt8.ofNat (methOf pk b)] ++ (twoOf b.length ++ (twoOf (laidOf pk b).length ++ [UInt8.ofNat pd])))))) ++ (List.replicate pd 0 ++ (laidOf pk b ++ post)) := by
      rw [hx]
      simp
    have e2 : pre.length + 7 + p.length = (pre ++ ([UInt8.ofNat p.length] ++ (p ++ ([UInt8.ofNat (methOf pk b)] ++ (twoOf b.length ++ (twoOf (laidOf pk b).length ++ [UInt8.ofNat pd])))))).length := by
      simp [twoOf]
      omega
    rw [e2, e, getD_mid _ _ _ j (by simpa using hj)]
    simp [hj]
  · rw [hx]
    simp [twoOf]
    omega
  · intro h
    have h1 := hpz h
    have h2 := padOf_zero (al := al) (n := pre.length + 7 + p.length) (by omega)
    have h3 := padOf_lt (al := al) (by omega) (pre.length + 7 + p.length)
    rw [← h1] at h2 h3
    exact ⟨h2, h3, hm10 h⟩
  · intro h
    obtain ⟨h1, h2, h3, h4⟩ := hm11 h
    exact ⟨h1, h2, hpd0 h, h3, h4⟩

end Go.Proofs.YtgncohclofdhmaaGreat

namespace Go.Proofs.YtgncohclofdhmaaGreat

/-! A package, read again: at most one list of entries and one way of settings have made it. -/

/-- What the bytes of an entry at a place say. -/
def decPath (xs : List UInt8) (n0 : Nat) : List UInt8 := (xs.drop (n0 + 1)).take (numAt xs n0 1)
def decMeth (xs : List UInt8) (n0 : Nat) : Nat := numAt xs (n0 + 1 + numAt xs n0 1) 1
def decLaid (xs : List UInt8) (n0 : Nat) : Nat := numAt xs (n0 + 1 + numAt xs n0 1 + 3) 2
def decPad (xs : List UInt8) (n0 : Nat) : Nat := numAt xs (n0 + 1 + numAt xs n0 1 + 5) 1
def decAt (xs : List UInt8) (n0 : Nat) : Nat := n0 + 7 + numAt xs n0 1 + decPad xs n0
def decBytes (xs : List UInt8) (n0 : Nat) : List UInt8 := (xs.drop (decAt xs n0)).take (decLaid xs n0)
def decBody (xs : List UInt8) (n0 : Nat) : List UInt8 := if decMeth xs n0 = 0 then decBytes xs n0 else (unOf (decBytes xs n0)).1
def decNext (xs : List UInt8) (n0 : Nat) : Nat := decAt xs n0 + decLaid xs n0

theorem EntFacts.dec {xs : List UInt8} {pk : Bool} {al n0 : Nat} {p b : List UInt8} {pd L m : Nat} (F : EntFacts xs pk al n0 p b pd L m) (hb : b.length ≤ 600) : decPath xs n0 = p ∧ decBody xs n0 = b ∧ decNext xs n0 = n0 + 7 + p.length + pd + L := by
  have e2 : decMeth xs n0 = m := by unfold decMeth; rw [F.f1]; exact F.f2
  have e4 : decLaid xs n0 = L := by unfold decLaid; rw [F.f1]; exact F.f4
  have e5 : decPad xs n0 = pd := by unfold decPad; rw [F.f1]; exact F.f5
  have e6 : decAt xs n0 = n0 + 7 + p.length + pd := by unfold decAt; rw [F.f1, e5]
  have e7 : decBytes xs n0 = laidOf pk b := by unfold decBytes; rw [e6, e4]; exact F.f7
  refine ⟨?_, ?_, ?_⟩
  · unfold decPath
    rw [F.f1]
    exact F.f6
  · unfold decBody
    rw [e2, e7]
    by_cases h : m = 0
    · rw [if_pos h]
      exact (F.f10 h).2.2
    · rw [if_neg h, (F.f11 h).2.2.2.1, unOf_packOf b hb]
  · unfold decNext
    rw [e6, e4]

def decAll (xs : List UInt8) : Nat → Nat → List (List UInt8 × List UInt8)
  | _, 0 => []
  | n0, k + 1 => (decPath xs n0, decBody xs n0) :: decAll xs (decNext xs n0) k

/-- Entries that may be, sorted; an alignment that is one. -/
structure GoodL (l : List (List UInt8 × List UInt8)) (al : Nat) : Prop where
  len : l.length ≤ 20
  path : ∀ x, x ∈ l → pathB x.1 = true
  body : ∀ x, x ∈ l → x.2.length ≤ 600
  apart : l.Pairwise fun x y => lexB x.1 y.1 = true ∧ underB y.1 x.1 = false
  lo : 1 ≤ al
  hi : al ≤ 16

theorem pathB_len {p : List UInt8} (h : pathB p = true) : p.length ≤ 40 := by
  unfold pathB at h
  rw [Bool.and_eq_true, decide_eq_true_eq] at h
  exact h.1

theorem getD_pair {l : List (List UInt8 × List UInt8)} {i : Nat} (hi : i < l.length) : l.getD i ([], []) ∈ l := by
  rw [List.getD_eq_getElem?_getD, List.getElem?_eq_getElem hi]
  exact List.getElem_mem hi

theorem dec_from (key : List UInt8) (pk : Bool) (al : Nat) (l : List (List UInt8 × List UInt8)) (h : GoodL l al) (k : Nat) : ∀ i, i + k = l.length → decAll (madeOf key pk al l) (bodyTo pk al l i).length k = l.drop i := by
  induction k with
  | zero =>
    intro i hi
    rw [decAll, List.drop_of_length_le (by omega)]
  | succ k ih =>
    intro i hi
    have hil : i < l.length := by omega
    have hm := getD_pair hil
    obtain ⟨post, _, hM, hn⟩ := made_entry key pk al l i hil
    have F := entry_facts hM (by have := pathB_len (h.path _ hm); omega) (h.body _ hm) h.lo h.hi
    obtain ⟨d1, d2, d3⟩ := F.dec (h.body _ hm)
    have hnl : decNext (madeOf key pk al l) (bodyTo pk al l i).length = (bodyTo pk al l (i + 1)).length := by
      rw [d3, hn, List.length_append, entOf_len]
      omega
    rw [decAll, d1, d2, hnl, ih (i + 1) (by omega)]
    rw [List.drop_eq_getElem_cons hil]
    congr 1
    rw [List.getD_eq_getElem?_getD, List.getElem?_eq_getElem hil]
    rfl

theorem dec_made (key : List UInt8) (pk : Bool) (al : Nat) (l : List (List UInt8 × List UInt8)) (h : GoodL l al) : decAll (madeOf key pk al l) 5 l.length = l := dec_from key pk al l h l.length 0 (by omega)

/-- p is the package of l with these settings. -/
structure IsPack (key p : List UInt8) (l : List (List UInt8 × List UInt8)) (al : Nat) (pk : Bool) : Prop where
  good : GoodL l al
  made : p = madeOf key pk al l
  short : p.length ≤ 4000

theorem IsPack.head {key p : List UInt8} {l : List (List UInt8 × List UInt8)} {al : Nat} {pk : Bool} (h : IsPack key p l al pk) : numAt p 2 1 = al ∧ numAt p 3 1 = (if pk then 1 else 0) ∧ numAt p 4 1 = l.length ∧ decAll p 5 l.length = l := by
  obtain ⟨r, hr⟩ := made_head key pk al l
  have hn := head_nums pk al l.length r h.good.hi h.good.len
  rw [← hr, ← h.made] at hn
  refine ⟨hn.2.1, hn.2.2.1, hn.2.2.2, ?_⟩
  rw [h.made]
  exact dec_made key pk al l h.good

theorem IsPack.only {key p : List UInt8} {l l' : List (List UInt8 × List UInt8)} {al al' : Nat} {pk pk' : Bool} (h : IsPack key p l al pk) (h' : IsPack key p l' al' pk') : l = l' ∧ al = al' ∧ pk = pk' := by
  obtain ⟨a1, a2, a3, a4⟩ := h.head
  obtain ⟨b1, b2, b3, b4⟩ := h'.head
  refine ⟨?_, by omega, ?_⟩
  · rw [← a4, ← b4, ← a3, ← b3]
  · rw [a2] at b2
    cases pk <;> cases pk' <;> simp at b2 <;> rfl

/-- The first of Verify's errors that tells without looking into the package; 0: none. -/
def verHead (key p : List UInt8) : Nat :=
  if keyB key.length = false then 1 else if 4000 < p.length then 8 else if p.length < 13 then 9 else if numAt p (p.length - 8) 4 ≠ sumOf (p.take (p.length - 8)) then 10 else if numAt p (p.length - 4) 4 ≠ tagVal key (p.take (p.length - 4)) then 11 else 0

end Go.Proofs.YtgncohclofdhmaaGreat

namespace Go.Proofs.YtgncohclofdhmaaGreat

/-! The document's careless reading, as plain functions. -/

abbrev Cur := List UInt8 × Bool

def curTake (c : Cur) (n : Nat) : List UInt8 × Cur := if c.2 = true ∨ c.1.length < n then ([], (c.1, true)) else (c.1.take n, (c.1.drop n, false))
def curNum (c : Cur) (n : Nat) : Nat × Cur := (numAt (curTake c n).1 0 (curTake c n).1.length, (curTake c n).2)

/-- The last step: what is laid, by its method. -/
def curBody (path : List UInt8) (m : Nat) (l : List UInt8) (c : Cur) : (List UInt8 × List UInt8) × Cur :=
  if m = 0 then ((path, l), c) else ((path, (unOf l).1), if (unOf l).2 = 0 then c else (c.1, true))

def curNext (c : Cur) : (List UInt8 × List UInt8) × Cur :=
  let n := curNum c 1
  let path := curTake n.2 n.1
  let m := curNum path.2 1
  let size := curNum m.2 2
  let laid := curNum size.2 2
  let noughts := curNum laid.2 1
  let pad := curTake noughts.2 noughts.1
  let l := curTake pad.2 laid.1
  curBody path.1 m.1 l.1 l.2

def curLoop : Nat → Cur → List (List UInt8 × List UInt8) → List (List UInt8 × List UInt8) × Cur
  | 0, c, acc => (acc, c)
  | k + 1, c, acc => if c.2 = true then (acc, c) else curLoop k (curNext c).2 (acc ++ [(curNext c).1])

/-- Entries, alignment, packed or not, fine or not. -/
def guessOf (p : List UInt8) : List (List UInt8 × List UInt8) × Nat × Bool × Bool :=
  let t := curTake (p, false) 2
  let a := curNum t.2 1
  let k := curNum a.2 1
  let n := curNum k.2 1
  let r := curLoop n.1 n.2 []
  (r.1, a.1, k.1 == 1, !r.2.2)

theorem curTake_app (ys zs : List UInt8) (n : Nat) (h : n = ys.length) : curTake (ys ++ zs, false) n = (ys, (zs, false)) := by
  subst h
  unfold curTake
  rw [if_neg (by simp)]
  simp

theorem curNum_app (ys zs : List UInt8) (n v : Nat) (h : n = ys.length) (hv : numAt ys 0 ys.length = v) : curNum (ys ++ zs, false) n = (v, (zs, false)) := by
  unfold curNum
  rw [curTake_app ys zs n h]
  rw [hv]

theorem curNext_ent (pk : Bool) (al n0 : Nat) (p b post : List UInt8) (hp : p.length ≤ 255) (hb : b.length ≤ 600) (hal : 1 ≤ al) (hal2 : al ≤ 16) : curNext (entOf pk al n0 p b ++ post, false) = ((p, b), (post, false)) := by
  have hpad := entPad_lt pk al n0 p b hal hal2
  have hlaid := laidOf_le pk b
  have hmeth : methOf pk b ≤ 1 := by unfold methOf; split <;> omega
  rw [entOf_flat]
  generalize entPad pk al n0 p b = pd at *
  unfold curNext
  simp only [List.append_assoc]
  rw [curNum_app [UInt8.ofNat p.length] _ 1 p.length rfl (numAt_one _ (by omega))]
  simp only
  rw [curTake_app p _ p.length rfl]
  simp only
  rw [curNum_app [UInt8.ofNat (methOf pk b)] _ 1 (methOf pk b) rfl (numAt_one _ (by omega))]
  simp only
  rw [curNum_app (twoOf b.length) _ 2 b.length rfl (numAt_two _ (by omega))]
  simp only
  rw [curNum_app (twoOf (laidOf pk b).length) _ 2 (laidOf pk b).length rfl (numAt_two _ (by omega))]
  simp only
  rw [curNum_app [UInt8.ofNat pd] _ 1 pd rfl (numAt_one _ (by omega))]
  simp only
  rw [curTake_app (List.replicate pd 0) _ pd (by simp)]
  simp only
  rw [curTake_app (laidOf pk b) post (laidOf pk b).length rfl]
  simp only
  unfold curBody
  by_cases h : methOf pk b = 0
  · rw [if_pos h]
    have : laidOf pk b = b := by
      unfold methOf at h
      unfold laidOf
      split at h
      · omega
      · rename_i h2; rw [if_neg h2]
    rw [this]
  · rw [if_neg h]
    have h1 : (pk && decide ((packOf b).length < b.length)) = true := by
      cases hc : (pk && decide ((packOf b).length < b.length))
      · unfold methOf at h; rw [hc] at h; simp at h
      · rfl
    have h2 : laidOf pk b = packOf b := by unfold laidOf; rw [if_pos h1]
    rw [h2, unOf_packOf b hb]
    rfl

/-- The entries' bytes from a place on. -/
def entsFrom (pk : Bool) (al : Nat) : Nat → List (List UInt8 × List UInt8) → List UInt8
  | _, [] => []
  | n0, x :: r => entOf pk al n0 x.1 x.2 ++ entsFrom pk al (n0 + (entOf pk al n0 x.1 x.2).length) r

theorem bodyOf_ents (pk : Bool) (al : Nat) : ∀ (l : List (List UInt8 × List UInt8)) (out : List UInt8), bodyOf pk al out l = out ++ entsFrom pk al out.length l
  | [], out => by simp [bodyOf, entsFrom]
  | x :: r, out => by
    rw [bodyOf, bodyOf_ents pk al r, entsFrom, List.length_append, List.append_assoc]

theorem curLoop_ents (pk : Bool) (al : Nat) (hal : 1 ≤ al) (hal2 : al ≤ 16) (post : List UInt8) : ∀ (l acc : List (List UInt8 × List UInt8)) (n0 : Nat), (∀ x, x ∈ l → x.1.length ≤ 255 ∧ x.2.length ≤ 600) → curLoop l.length (entsFrom pk al n0 l ++ post, false) acc = (acc ++ l, (post, false))
  | [], acc, n0, _ => by simp [curLoop, entsFrom]
  | x :: r, acc, n0, h => by
    have hx := h x (by simp)
    rw [List.length_cons, curLoop, if_neg (by simp), entsFrom, List.append_assoc, curNext_ent pk al n0 x.1 x.2 _ hx.1 hx.2 hal hal2]
    simp only
    rw [curLoop_ents pk al hal hal2 post r (acc ++ [(x.1, x.2)]) _ (fun y hy => h y (List.mem_cons_of_mem _ hy))]
    simp

theorem guess_made {key p : List UInt8} {l : List (List UInt8 × List UInt8)} {al : Nat} {pk : Bool} (h : IsPack key p l al pk) : guessOf p = (l, al, pk, true) := by
  have hl : ∀ x, x ∈ l → x.1.length ≤ 255 ∧ x.2.length ≤ 600 := fun x hx => ⟨by have := pathB_len (h.good.path x hx); omega, h.good.body x hx⟩
  have e : p = [80, 76] ++ ([UInt8.ofNat al] ++ ([UInt8.ofNat (if pk then 1 else 0)] ++ ([UInt8.ofNat l.length] ++ (entsFrom pk al 5 l ++ (sumsOf l ++ (fourOf (sumOf (plainOf pk al l)) ++ fourOf (tagVal key (summed (plainOf pk al l))))))))) := by
    rw [h.made, made_end]
    conv => lhs; arg 1; unfold plainOf
    rw [bodyOf_ents]
    simp [headBytes]
  have hal2 := h.good.hi
  have hlen := h.good.len
  unfold guessOf
  rw [e, curTake_app [80, 76] _ 2 rfl]
  simp only
  rw [curNum_app [UInt8.ofNat al] _ 1 al rfl (numAt_one _ (by omega))]
  simp only
  rw [curNum_app [UInt8.ofNat (if pk then 1 else 0)] _ 1 (if pk then 1 else 0) rfl (numAt_one _ (by split <;> omega))]
  simp only
  rw [curNum_app [UInt8.ofNat l.length] _ 1 l.length rfl (numAt_one _ (by omega))]
  simp only
  rw [curLoop_ents pk al h.good.lo hal2 _ l [] 5 hl]
  cases pk <;> simp

theorem curTake_len (c : Cur) (n : Nat) : (curTake c n).2.1.length ≤ c.1.length ∧ (curTake c n).1.length ≤ n ∧ (curTake c n).1.length ≤ c.1.length := by
  unfold curTake
  split
  · simp
  · simp; omega

theorem curNum_lt (c : Cur) (n : Nat) : (curNum c n).1 < 256 ^ n ∧ (curNum c n).2.1.length ≤ c.1.length := by
  have h := curTake_len c n
  refine ⟨?_, h.1⟩
  unfold curNum
  simp only
  have h1 := numAt_lt (curTake c n).1 0 (curTake c n).1.length
  have h2 : 256 ^ (curTake c n).1.length ≤ 256 ^ n := Nat.pow_le_pow_right (by omega) h.2.1
  omega

theorem curBody_len (path : List UInt8) (m : Nat) (l : List UInt8) (c : Cur) : (curBody path m l c).1.1 = path ∧ (curBody path m l c).2.1 = c.1 := by
  unfold curBody
  split
  · exact ⟨rfl, rfl⟩
  · refine ⟨rfl, ?_⟩
    simp only
    split <;> rfl

theorem curNext_len (c : Cur) : (curNext c).1.1.length ≤ c.1.length ∧ (curNext c).2.1.length ≤ c.1.length := by
  unfold curNext
  simp only
  rw [(curBody_len _ _ _ _).1, (curBody_len _ _ _ _).2]
  have a1 := (curNum_lt c 1).2
  have a2 := curTake_len (curNum c 1).2 (curNum c 1).1
  refine ⟨by omega, ?_⟩
  refine Nat.le_trans (curTake_len _ _).1 ?_
  refine Nat.le_trans (curTake_len _ _).1 ?_
  refine Nat.le_trans (curNum_lt _ 1).2 ?_
  refine Nat.le_trans (curNum_lt _ 2).2 ?_
  refine Nat.le_trans (curNum_lt _ 2).2 ?_
  refine Nat.le_trans (curNum_lt _ 1).2 ?_
  omega

end Go.Proofs.YtgncohclofdhmaaGreat

namespace Go.Proofs.YtgncohclofdhmaaGreat

/-! The program's reading, as plain functions: of the bytes from an entry on. -/

theorem numAt_drop (xs : List UInt8) (n0 j n : Nat) : numAt (xs.drop n0) j n = numAt xs (n0 + j) n := by
  induction n with
  | zero => rfl
  | succ n ih => rw [numAt, numAt, ih, List.getD_eq_getElem?_getD, List.getD_eq_getElem?_getD, List.getElem?_drop, Nat.add_assoc]

theorem dec_drop (xs : List UInt8) (n0 : Nat) : numAt (xs.drop n0) 0 1 = numAt xs n0 1 ∧ decMeth (xs.drop n0) 0 = decMeth xs n0 ∧ decLaid (xs.drop n0) 0 = decLaid xs n0 ∧ decPad (xs.drop n0) 0 = decPad xs n0 ∧ decPath (xs.drop n0) 0 = decPath xs n0 ∧ decBytes (xs.drop n0) 0 = decBytes xs n0 ∧ n0 + decNext (xs.drop n0) 0 = decNext xs n0 := by
  have h1 : numAt (xs.drop n0) 0 1 = numAt xs n0 1 := by rw [numAt_drop, Nat.add_zero]
  have h2 : decMeth (xs.drop n0) 0 = decMeth xs n0 := by unfold decMeth; rw [h1, numAt_drop]; congr 1; omega
  have h3 : decLaid (xs.drop n0) 0 = decLaid xs n0 := by unfold decLaid; rw [h1, numAt_drop]; congr 1; omega
  have h4 : decPad (xs.drop n0) 0 = decPad xs n0 := by unfold decPad; rw [h1, numAt_drop]; congr 1; omega
  have h5 : n0 + decAt (xs.drop n0) 0 = decAt xs n0 := by unfold decAt; rw [h1, h4]; omega
  refine ⟨h1, h2, h3, h4, ?_, ?_, ?_⟩
  · unfold decPath
    rw [h1, List.drop_drop]
  · unfold decBytes
    rw [h3, List.drop_drop, h5]
  · unfold decNext
    rw [h3, ← h5]
    omega

/-- What the program reads as a body. -/
def rdBody (r : List UInt8) : List UInt8 := if decMeth r 0 = 1 then (unOf (decBytes r 0)).1 else decBytes r 0

/-- No entry can be read. -/
def rdBad (r : List UInt8) : Bool := decide (r.length < numAt r 0 1 + 7) || (decide (r.length < decNext r 0) || (decide (decMeth r 0 = 1) && decide ((unOf (decBytes r 0)).2 ≠ 0)))

def rdLoop : Nat → List UInt8 → Option (List (List UInt8 × List UInt8))
  | 0, _ => some []
  | k + 1, r => if rdBad r = true then none else (rdLoop k (r.drop (decNext r 0))).map ((decPath r 0, rdBody r) :: ·)

def rdAll (p : List UInt8) : Option (List (List UInt8 × List UInt8)) := rdLoop (numAt p 4 1) (p.drop 5)

theorem EntFacts.rd {xs : List UInt8} {pk : Bool} {al n0 : Nat} {p b : List UInt8} {pd L m : Nat} (F : EntFacts xs pk al n0 p b pd L m) (hb : b.length ≤ 600) : rdBad (xs.drop n0) = false ∧ decPath (xs.drop n0) 0 = p ∧ rdBody (xs.drop n0) = b ∧ n0 + decNext (xs.drop n0) 0 = n0 + 7 + p.length + pd + L := by
  obtain ⟨d1, d2, d3, d4, d5, d6, d7⟩ := dec_drop xs n0
  have e2 : decMeth xs n0 = m := by unfold decMeth; rw [F.f1]; exact F.f2
  have e4 : decLaid xs n0 = L := by unfold decLaid; rw [F.f1]; exact F.f4
  have e5 : decPad xs n0 = pd := by unfold decPad; rw [F.f1]; exact F.f5
  have e6 : decAt xs n0 = n0 + 7 + p.length + pd := by unfold decAt; rw [F.f1, e5]
  have e7 : decBytes xs n0 = laidOf pk b := by unfold decBytes; rw [e6, e4]; exact F.f7
  have e8 : decNext xs n0 = n0 + 7 + p.length + pd + L := by unfold decNext; rw [e6, e4]
  have e9 : decPath xs n0 = p := by unfold decPath; rw [F.f1]; exact F.f6
  have f9 := F.f9
  refine ⟨?_, by rw [d5, e9], ?_, by rw [d7, e8]⟩
  · unfold rdBad
    rw [d1, d2, d6, F.f1, e2, e7, List.length_drop]
    have h1 : decide (xs.length - n0 < p.length + 7) = false := by simp; omega
    have h2 : decide (xs.length - n0 < decNext (xs.drop n0) 0) = false := by
      simp only [decide_eq_false_iff_not]
      rw [e8] at d7
      omega
    rw [h1, h2, Bool.false_or, Bool.false_or]
    by_cases h : m = 0
    · subst h
      simp
    · rw [(F.f11 h).2.2.2.1, unOf_packOf b hb]
      simp
  · unfold rdBody
    rw [d2, d6, e2, e7]
    by_cases h : m = 0
    · subst h
      simp only [Nat.zero_ne_one, if_false]
      exact (F.f10 rfl).2.2
    · rw [if_pos (F.f11 h).1, (F.f11 h).2.2.2.1, unOf_packOf b hb]

theorem rd_from (key : List UInt8) (pk : Bool) (al : Nat) (l : List (List UInt8 × List UInt8)) (h : GoodL l al) (k : Nat) : ∀ i, i + k = l.length → rdLoop k ((madeOf key pk al l).drop (bodyTo pk al l i).length) = some (l.drop i) := by
  induction k with
  | zero =>
    intro i hi
    rw [rdLoop, List.drop_of_length_le (by omega)]
  | succ k ih =>
    intro i hi
    have hil : i < l.length := by omega
    have hm := getD_pair hil
    obtain ⟨post, _, hM, hn⟩ := made_entry key pk al l i hil
    have F := entry_facts hM (by have := pathB_len (h.path _ hm); omega) (h.body _ hm) h.lo h.hi
    obtain ⟨d0, d1, d2, d3⟩ := F.rd (h.body _ hm)
    have hnl : (bodyTo pk al l i).length + decNext ((madeOf key pk al l).drop (bodyTo pk al l i).length) 0 = (bodyTo pk al l (i + 1)).length := by
      rw [d3, hn, List.length_append, entOf_len]
      omega
    rw [rdLoop, d0, d1, d2, List.drop_drop, hnl, ih (i + 1) (by omega)]
    rw [List.drop_eq_getElem_cons hil]
    simp only [Bool.false_eq_true, if_false, Option.map_some]
    congr 2
    rw [List.getD_eq_getElem?_getD, List.getElem?_eq_getElem hil]
    rfl

theorem rd_made {key p : List UInt8} {l : List (List UInt8 × List UInt8)} {al : Nat} {pk : Bool} (h : IsPack key p l al pk) : rdAll p = some l ∧ numAt p 2 1 = al ∧ decide (numAt p 3 1 = 1) = pk := by
  obtain ⟨h1, h2, h3, _⟩ := h.head
  refine ⟨?_, h1, ?_⟩
  · unfold rdAll
    rw [h3, h.made]
    exact rd_from key pk al l h.good l.length 0 (by omega)
  · rw [h2]
    cases pk <;> simp

theorem rdLoop_len : ∀ (k : Nat) (r : List UInt8) (l : List (List UInt8 × List UInt8)), rdLoop k r = some l → l.length = k
  | 0, r, l, h => by
    rw [rdLoop, Option.some.injEq] at h
    rw [← h]
    rfl
  | k + 1, r, l, h => by
    rw [rdLoop] at h
    split at h
    · cases h
    · obtain ⟨m, h1, h2⟩ := Option.map_eq_some_iff.1 h
      rw [← h2, List.length_cons, rdLoop_len k _ m h1]

theorem numAt_byte (xs : List UInt8) (k : Nat) : numAt xs k 1 = (xs.getD k 0).toNat := by simp [numAt]

theorem rdBad_len {r : List UInt8} (h : rdBad r = false) : numAt r 0 1 + 7 ≤ r.length ∧ decNext r 0 ≤ r.length ∧ 7 ≤ decNext r 0 := by
  unfold rdBad at h
  simp only [Bool.or_eq_false_iff, decide_eq_false_iff_not] at h
  refine ⟨by omega, by omega, ?_⟩
  unfold decNext decAt
  omega

end Go.Proofs.YtgncohclofdhmaaGreat
