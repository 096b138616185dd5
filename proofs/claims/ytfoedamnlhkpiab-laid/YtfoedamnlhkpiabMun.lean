namespace Go.Proofs.Ytfoedamnlhkpiab

/-! Unpacking, as plain functions of lists of bytes. Nothing of the dump. -/

def copyOut (out : List UInt8) (d : Nat) : Nat → List UInt8
  | 0 => out
  | n + 1 => copyOut out d n ++ [(copyOut out d n).getD ((copyOut out d n).length - d) 0]

theorem copyOut_length (out : List UInt8) (d : Nat) : ∀ n, (copyOut out d n).length = out.length + n
  | 0 => rfl
  | n + 1 => by rw [copyOut, List.length_append, copyOut_length out d n]; rfl

def headOf (l : List UInt8) : Nat := (l.getD 0 0).toNat
def distOf (l : List UInt8) : Nat := (l.getD 1 0).toNat + 1

def unGo : Nat → List UInt8 → List UInt8 → List UInt8 × Nat
  | 0, _, out => (out, 0)
  | f + 1, l, out =>
    if l.length = 0 then (out, 0)
    else if headOf l < 128 then
      if l.length < headOf l + 2 then ([], 12)
      else if 600 < (out ++ (l.drop 1).take (headOf l + 1)).length then ([], 7)
      else unGo f (l.drop (headOf l + 2)) (out ++ (l.drop 1).take (headOf l + 1))
    else if 191 < headOf l then ([], 12)
    else if l.length < 2 then ([], 12)
    else if out.length < distOf l then ([], 12)
    else if 600 < (copyOut out (distOf l) (headOf l - 125)).length then ([], 7)
    else unGo f (l.drop 2) (copyOut out (distOf l) (headOf l - 125))

def unOf (xs : List UInt8) : List UInt8 × Nat := unGo xs.length xs []

theorem unGo_end (f : Nat) (l out : List UInt8) (h : l.length = 0) : unGo f l out = (out, 0) := by
  cases f with
  | zero => rfl
  | succ f => rw [unGo, if_pos h]

theorem unGo_short (f : Nat) (l out : List UInt8) (h : l.length ≠ 0) (h1 : headOf l < 128) (h2 : l.length < headOf l + 2) : unGo (f + 1) l out = ([], 12) := by
  rw [unGo, if_neg h, if_pos h1, if_pos h2]

theorem unGo_litbig (f : Nat) (l out : List UInt8) (h : l.length ≠ 0) (h1 : headOf l < 128) (h2 : ¬ l.length < headOf l + 2) (h3 : 600 < (out ++ (l.drop 1).take (headOf l + 1)).length) : unGo (f + 1) l out = ([], 7) := by
  rw [unGo, if_neg h, if_pos h1, if_neg h2, if_pos h3]

theorem unGo_lit (f : Nat) (l out : List UInt8) (h : l.length ≠ 0) (h1 : headOf l < 128) (h2 : ¬ l.length < headOf l + 2) (h3 : ¬ 600 < (out ++ (l.drop 1).take (headOf l + 1)).length) :
    unGo (f + 1) l out = unGo f (l.drop (headOf l + 2)) (out ++ (l.drop 1).take (headOf l + 1)) := by
  rw [unGo, if_neg h, if_pos h1, if_neg h2, if_neg h3]

theorem unGo_none (f : Nat) (l out : List UInt8) (h : l.length ≠ 0) (h1 : ¬ headOf l < 128) (h2 : 191 < headOf l ∨ l.length < 2 ∨ out.length < distOf l) : unGo (f + 1) l out = ([], 12) := by
  rw [unGo, if_neg h, if_neg h1]
  by_cases a : 191 < headOf l
  · rw [if_pos a]
  · rw [if_neg a]
    by_cases b : l.length < 2
    · rw [if_pos b]
    · rw [if_neg b, if_pos (by rcases h2 with h2 | h2 | h2 <;> first | exact h2 | contradiction)]

theorem unGo_copybig (f : Nat) (l out : List UInt8) (h : l.length ≠ 0) (h1 : ¬ headOf l < 128) (h2 : ¬ 191 < headOf l) (h3 : ¬ l.length < 2) (h4 : ¬ out.length < distOf l)
    (h5 : 600 < (copyOut out (distOf l) (headOf l - 125)).length) : unGo (f + 1) l out = ([], 7) := by
  rw [unGo, if_neg h, if_neg h1, if_neg h2, if_neg h3, if_neg h4, if_pos h5]

theorem unGo_copy (f : Nat) (l out : List UInt8) (h : l.length ≠ 0) (h1 : ¬ headOf l < 128) (h2 : ¬ 191 < headOf l) (h3 : ¬ l.length < 2) (h4 : ¬ out.length < distOf l)
    (h5 : ¬ 600 < (copyOut out (distOf l) (headOf l - 125)).length) : unGo (f + 1) l out = unGo f (l.drop 2) (copyOut out (distOf l) (headOf l - 125)) := by
  rw [unGo, if_neg h, if_neg h1, if_neg h2, if_neg h3, if_neg h4, if_neg h5]

theorem unGo_length : ∀ (f : Nat) (l out : List UInt8), out.length ≤ 600 → (unGo f l out).1.length ≤ 600 := by
  intro f
  induction f with
  | zero => intro l out h; exact h
  | succ f ih =>
    intro l out h
    rw [unGo]
    split
    · exact h
    · split
      · split
        · simp
        · split
          · simp
          · exact ih _ _ (by omega)
      · split
        · simp
        · split
          · simp
          · split
            · simp
            · split
              · simp
              · exact ih _ _ (by omega)

theorem unOf_length (xs : List UInt8) : (unOf xs).1.length ≤ 600 := unGo_length _ _ _ (by simp)

/-- What a copy gives, by parts. -/
theorem copyOut_next (body zs : List UInt8) (d k : Nat) (hdl : d ≤ body.length) (hz : zs.length = k) (h : body ++ zs = copyOut body d k) (x : UInt8)
    (hx : x = if k < d then body.getD (body.length - d + k) 0 else zs.getD (k - d) 0) : body ++ (zs ++ [x]) = copyOut body d (k + 1) := by
  rw [copyOut, ← h, ← List.append_assoc]
  congr 2
  rw [hx, List.length_append, hz]
  by_cases hk : k < d
  · rw [if_pos hk, List.getD_eq_getElem?_getD, List.getD_eq_getElem?_getD, List.getElem?_append_left (by omega)]
    congr 2
    omega
  · rw [if_neg hk, List.getD_eq_getElem?_getD, List.getD_eq_getElem?_getD, List.getElem?_append_right (by omega)]
    congr 2
    omega

end Go.Proofs.Ytfoedamnlhkpiab
