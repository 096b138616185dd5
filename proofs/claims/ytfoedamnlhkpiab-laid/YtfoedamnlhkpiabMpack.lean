namespace Go.Proofs.Ytfoedamnlhkpiab

/-! Packing, as plain functions of lists of bytes. Nothing of the dump. -/

def Fits (xs : List UInt8) (i d n : Nat) : Prop := d ≤ i ∧ i + n ≤ xs.length ∧ ∀ k, k < n → xs.getD (i + k) 0 = xs.getD (i + k - d) 0

def fitB (xs : List UInt8) (i d n : Nat) : Bool := decide (d ≤ i) && decide (i + n ≤ xs.length) && (List.range n).all fun k => xs.getD (i + k) 0 == xs.getD (i + k - d) 0

theorem fitB_iff (xs : List UInt8) (i d n : Nat) : fitB xs i d n = true ↔ Fits xs i d n := by
  unfold fitB Fits
  simp only [Bool.and_eq_true, decide_eq_true_eq, List.all_eq_true, List.mem_range, beq_iff_eq]
  constructor
  · rintro ⟨⟨h1, h2⟩, h3⟩; exact ⟨h1, h2, h3⟩
  · rintro ⟨h1, h2, h3⟩; exact ⟨⟨h1, h2⟩, h3⟩

theorem fitB_not (xs : List UInt8) (i d n : Nat) : fitB xs i d n = false ↔ ¬ Fits xs i d n := by
  rw [← fitB_iff, Bool.not_eq_true]

theorem Fits.less {xs : List UInt8} {i d n m : Nat} (h : Fits xs i d n) (hm : m ≤ n) : Fits xs i d m :=
  ⟨h.1, by have := h.2.1; omega, fun k hk => h.2.2 k (by omega)⟩

def copyGo (xs : List UInt8) (i : Nat) : Nat → Nat × Nat
  | 0 => (0, 0)
  | f + 1 => match (List.range 256).find? (fun d => fitB xs i (d + 1) (f + 3)) with
    | some d => (f + 3, d + 1)
    | none => copyGo xs i f

def copyOf (xs : List UInt8) (i : Nat) : Nat × Nat := copyGo xs i 64

theorem copyGo_miss {xs : List UInt8} {i f : Nat} (h : ∀ d, 1 ≤ d → d ≤ 256 → ¬ Fits xs i d (f + 3)) : copyGo xs i (f + 1) = copyGo xs i f := by
  have hn : (List.range 256).find? (fun d => fitB xs i (d + 1) (f + 3)) = none := by
    rw [List.find?_eq_none]
    intro d hd
    rw [Bool.not_eq_true, fitB_not]
    exact h (d + 1) (by omega) (by have := List.mem_range.1 hd; omega)
  rw [copyGo, hn]

theorem copyGo_hit {xs : List UInt8} {i f d : Nat} (h1 : 1 ≤ d) (h2 : d ≤ 256) (hf : Fits xs i d (f + 3)) (hl : ∀ d', 1 ≤ d' → d' < d → ¬ Fits xs i d' (f + 3)) : copyGo xs i (f + 1) = (f + 3, d) := by
  obtain ⟨e, rfl⟩ : ∃ e, d = e + 1 := ⟨d - 1, by omega⟩
  have hn : (List.range 256).find? (fun d => fitB xs i (d + 1) (f + 3)) = some e := by
    rw [List.find?_range_eq_some]
    refine ⟨(fitB_iff _ _ _ _).2 hf, List.mem_range.2 (by omega), ?_⟩
    intro j hj
    rw [Bool.not_eq_true']
    exact (fitB_not _ _ _ _).2 (hl (j + 1) (by omega) (by omega))
  rw [copyGo, hn]

theorem copyOf_best {xs : List UInt8} {i best dist : Nat} (hb : best ≤ 66) (hmax : ∀ d n, 1 ≤ d → d ≤ 256 → n ≤ 66 → Fits xs i d n → n ≤ best)
    (hd : 3 ≤ best → 1 ≤ dist ∧ dist ≤ 256 ∧ Fits xs i dist best ∧ ∀ d, 1 ≤ d → Fits xs i d best → dist ≤ d) :
    copyOf xs i = if best < 3 then (0, 0) else (best, dist) := by
  have down : ∀ t f, best < f + 3 → f + t ≤ 64 → copyGo xs i (f + t) = copyGo xs i f := by
    intro t
    induction t with
    | zero => intro f _ _; rfl
    | succ t ih =>
      intro f h1 h2
      rw [← Nat.add_assoc, copyGo_miss (f := f + t) ?_]
      · exact ih f h1 (by omega)
      · intro d hd1 hd2 hf
        have := hmax d _ hd1 hd2 (by omega) hf
        omega
  unfold copyOf
  by_cases h3 : best < 3
  · rw [if_pos h3]
    have := down 64 0 (by omega) (by omega)
    rw [Nat.zero_add] at this
    rw [this]
    rfl
  · rw [if_neg h3]
    obtain ⟨d1, d2, d3, d4⟩ := hd (by omega)
    obtain ⟨f, rfl⟩ : ∃ f, best = f + 3 := ⟨best - 3, by omega⟩
    have := down (63 - f) (f + 1) (by omega) (by omega)
    rw [show f + 1 + (63 - f) = 64 from by omega] at this
    rw [this]
    exact copyGo_hit d1 d2 d3 (fun d' h1 h2 hf => by have := d4 d' h1 hf; omega)

/-- What a copy is. -/
theorem copyGo_spec (xs : List UInt8) (i : Nat) : ∀ f, f ≤ 64 → (copyGo xs i f = (0, 0) ∨ (3 ≤ (copyGo xs i f).1 ∧ (copyGo xs i f).1 ≤ 66 ∧ 1 ≤ (copyGo xs i f).2 ∧ (copyGo xs i f).2 ≤ 256 ∧ Fits xs i (copyGo xs i f).2 (copyGo xs i f).1)) := by
  intro f
  induction f with
  | zero => intro _; exact .inl rfl
  | succ f ih =>
    intro hf
    rw [copyGo]
    cases hn : (List.range 256).find? (fun d => fitB xs i (d + 1) (f + 3)) with
    | none => exact ih (by omega)
    | some d =>
      rw [List.find?_range_eq_some] at hn
      exact .inr ⟨by simp, by simp; omega, by simp, by have := List.mem_range.1 hn.2.1; simp; omega, (fitB_iff _ _ _ _).1 hn.1⟩

theorem copyOf_spec (xs : List UInt8) (i : Nat) : copyOf xs i = (0, 0) ∨ (3 ≤ (copyOf xs i).1 ∧ (copyOf xs i).1 ≤ 66 ∧ 1 ≤ (copyOf xs i).2 ∧ (copyOf xs i).2 ≤ 256 ∧ Fits xs i (copyOf xs i).2 (copyOf xs i).1) :=
  copyGo_spec xs i 64 (by omega)

/-! Runs of literals. -/
def runGo : Nat → List UInt8 → List UInt8
  | 0, _ => []
  | f + 1, l => if l.length = 0 then [] else UInt8.ofNat (min l.length 128 - 1) :: (l.take 128 ++ runGo f (l.drop 128))

def runOf (l : List UInt8) : List UInt8 := runGo l.length l

theorem runGo_enough : ∀ (f g : Nat) (l : List UInt8), l.length ≤ f → l.length ≤ g → runGo f l = runGo g l := by
  intro f
  induction f with
  | zero =>
    intro g l hf _
    cases g with
    | zero => rfl
    | succ g => rw [runGo, runGo, if_pos (by omega)]
  | succ f ih =>
    intro g l hf hg
    cases g with
    | zero => rw [runGo, runGo, if_pos (by omega)]
    | succ g =>
      rw [runGo, runGo]
      by_cases h : l.length = 0
      · rw [if_pos h, if_pos h]
      · rw [if_neg h, if_neg h, ih g (l.drop 128) (by simp; omega) (by simp; omega)]

theorem runOf_nil : runOf [] = [] := rfl

theorem runOf_step {l : List UInt8} (h : l.length ≠ 0) : runOf l = UInt8.ofNat (min l.length 128 - 1) :: (l.take 128 ++ runOf (l.drop 128)) := by
  unfold runOf
  rw [runGo_enough l.length (l.length + 1) l (by omega) (by omega), runGo, if_neg h, runGo_enough l.length (l.drop 128).length (l.drop 128) (by simp) (by omega)]

theorem runGo_length : ∀ (f : Nat) (l : List UInt8), (runGo f l).length ≤ 2 * l.length := by
  intro f
  induction f with
  | zero => intro l; simp [runGo]
  | succ f ih =>
    intro l
    rw [runGo]
    by_cases h : l.length = 0
    · rw [if_pos h]; simp
    · rw [if_neg h]
      have := ih (l.drop 128)
      simp at this ⊢
      omega

theorem runOf_length (l : List UInt8) : (runOf l).length ≤ 2 * l.length := runGo_length _ _

/-! The body packed. -/
def packGo (xs : List UInt8) : Nat → Nat → Nat → List UInt8
  | 0, _, b => runOf (xs.drop b)
  | f + 1, i, b =>
    if i < xs.length then
      if (copyOf xs i).1 = 0 then packGo xs f (i + 1) b
      else runOf ((xs.take i).drop b) ++ ([UInt8.ofNat (128 + (copyOf xs i).1 - 3), UInt8.ofNat ((copyOf xs i).2 - 1)] ++ packGo xs f (i + (copyOf xs i).1) (i + (copyOf xs i).1))
    else runOf (xs.drop b)

def packOf (xs : List UInt8) : List UInt8 := packGo xs xs.length 0 0

theorem packGo_end (xs : List UInt8) (f i b : Nat) (h : xs.length ≤ i) : packGo xs f i b = runOf (xs.drop b) := by
  cases f with
  | zero => rfl
  | succ f => rw [packGo, if_neg (by omega)]

theorem packGo_lit (xs : List UInt8) (f i b : Nat) (h : i < xs.length) (hc : (copyOf xs i).1 = 0) : packGo xs (f + 1) i b = packGo xs f (i + 1) b := by
  rw [packGo, if_pos h, if_pos hc]

theorem packGo_copy (xs : List UInt8) (f i b : Nat) (h : i < xs.length) (hc : (copyOf xs i).1 ≠ 0) :
    packGo xs (f + 1) i b = runOf ((xs.take i).drop b) ++ ([UInt8.ofNat (128 + (copyOf xs i).1 - 3), UInt8.ofNat ((copyOf xs i).2 - 1)] ++ packGo xs f (i + (copyOf xs i).1) (i + (copyOf xs i).1)) := by
  rw [packGo, if_pos h, if_neg hc]

end Go.Proofs.Ytfoedamnlhkpiab
