namespace Go.Proofs.Ytfoedamnlhkpiab

/-! Paths, as plain functions of lists of bytes. Nothing of the dump. -/

def plainN (n : Nat) : Bool := decide (97 ≤ n ∧ n ≤ 122) || decide (48 ≤ n ∧ n ≤ 57) || decide (n = 46) || decide (n = 45) || decide (n = 95)

def plainAll (p : List UInt8) : Bool := p.all fun b => plainN b.toNat

def okPiece (p : List UInt8) : Bool := !(p == []) && !(p == [46]) && !(p == [46, 46]) && plainAll p

def splitGo : List UInt8 → List UInt8 → List (List UInt8)
  | cur, [] => [cur]
  | cur, b :: r => if b.toNat = 47 then cur :: splitGo [] r else splitGo (cur ++ [b]) r

def okAll (l : List (List UInt8)) : Bool := l.all okPiece

def pathB (xs : List UInt8) : Bool := decide (xs.length ≤ 40) && okAll (splitGo [] xs)

theorem drop_cons (xs : List UInt8) (i : Nat) (h : i < xs.length) : xs.drop i = xs.getD i 0 :: xs.drop (i + 1) := by
  rw [List.drop_eq_getElem_cons h]
  simp [h]

theorem split_slash (cur xs : List UInt8) (i : Nat) (h : i < xs.length) (hb : (xs.getD i 0).toNat = 47) : splitGo cur (xs.drop i) = cur :: splitGo [] (xs.drop (i + 1)) := by
  rw [drop_cons xs i h, splitGo, if_pos hb]

theorem split_more (cur xs : List UInt8) (i : Nat) (h : i < xs.length) (hb : ¬ (xs.getD i 0).toNat = 47) : splitGo cur (xs.drop i) = splitGo (cur ++ [xs.getD i 0]) (xs.drop (i + 1)) := by
  rw [drop_cons xs i h, splitGo, if_neg hb]

theorem split_end (cur xs : List UInt8) (i : Nat) (h : xs.length ≤ i) : splitGo cur (xs.drop i) = [cur] := by
  rw [List.drop_of_length_le h, splitGo]

theorem okAll_cons (p : List UInt8) (l : List (List UInt8)) : okAll (p :: l) = (okPiece p && okAll l) := rfl

theorem part_more (xs : List UInt8) (b i : Nat) (h1 : b ≤ i) (h : i < xs.length) : (xs.drop b).take (i + 1 - b) = (xs.drop b).take (i - b) ++ [xs.getD i 0] := by
  rw [show i + 1 - b = (i - b) + 1 from by omega, List.take_succ_eq_append_getElem (by simp; omega)]
  congr 2
  rw [List.getElem_drop, List.getD_eq_getElem?_getD, List.getElem?_eq_getElem h]
  simp only [Option.getD_some]
  congr 1
  omega

theorem okPiece_yes {p : List UInt8} (h1 : p ≠ []) (h2 : p ≠ [46]) (h3 : p ≠ [46, 46]) : okPiece p = plainAll p := by
  have e1 : (p == []) = false := by rw [beq_eq_false_iff_ne]; exact h1
  have e2 : (p == [46]) = false := by rw [beq_eq_false_iff_ne]; exact h2
  have e3 : (p == [46, 46]) = false := by rw [beq_eq_false_iff_ne]; exact h3
  simp only [okPiece, e1, e2, e3, Bool.not_false, Bool.true_and]

theorem okPiece_no {p : List UInt8} (h : p = [] ∨ p = [46] ∨ p = [46, 46]) : okPiece p = false := by
  rcases h with rfl | rfl | rfl <;> decide

theorem plainAll_false {p : List UInt8} {i : Nat} (h : i < p.length) (hb : plainN (p.getD i 0).toNat = false) : plainAll p = false := by
  unfold plainAll
  rw [List.all_eq_false]
  refine ⟨p.getD i 0, ?_, by rw [hb]; decide⟩
  rw [List.getD_eq_getElem?_getD, List.getElem?_eq_getElem h]
  exact List.getElem_mem h

theorem plainAll_true {p : List UInt8} (h : ∀ i, i < p.length → plainN (p.getD i 0).toNat = true) : plainAll p = true := by
  unfold plainAll
  rw [List.all_eq_true]
  intro x hx
  obtain ⟨i, hi, rfl⟩ := List.getElem_of_mem hx
  have := h i hi
  rw [List.getD_eq_getElem?_getD, List.getElem?_eq_getElem hi] at this
  exact this

theorem okAll_false {l : List (List UInt8)} {i : Nat} (h : i < l.length) (hb : okPiece (l.getD i []) = false) : okAll l = false := by
  unfold okAll
  rw [List.all_eq_false]
  refine ⟨l.getD i [], ?_, by rw [hb]; decide⟩
  rw [List.getD_eq_getElem?_getD, List.getElem?_eq_getElem h]
  exact List.getElem_mem h

theorem okAll_true {l : List (List UInt8)} (h : ∀ i, i < l.length → okPiece (l.getD i []) = true) : okAll l = true := by
  unfold okAll
  rw [List.all_eq_true]
  intro x hx
  obtain ⟨i, hi, rfl⟩ := List.getElem_of_mem hx
  have := h i hi
  rw [List.getD_eq_getElem?_getD, List.getElem?_eq_getElem hi] at this
  exact this

end Go.Proofs.Ytfoedamnlhkpiab
