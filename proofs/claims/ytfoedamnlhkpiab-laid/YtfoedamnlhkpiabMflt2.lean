import Derived.Test.YtfoedamnlhkpiabMflt
namespace Go.Proofs.Ytfoedamnlhkpiab

/-! The least of some faults. Nothing of the dump. -/

theorem fltHead_path (ks : Nat) (al : Int) (n : Nat) (f : Flt) (h : f ∈ fltHead ks al n) : f.1 ≠ 0 ∧ f.2 = ByteArray.empty := by
  unfold fltHead at h
  rcases List.mem_append.1 h with h | h
  · rcases List.mem_append.1 h with h | h
    · split at h
      · cases h
      · simp at h; simp [h]
    · split at h
      · simp at h; simp [h]
      · cases h
  · split at h
    · simp at h; simp [h]
    · cases h

theorem fltPairs_path (ps : Nat → ByteArray) (i k : Nat) (f : Flt) (h : f ∈ fltPairs ps i k) : f.1 ≠ 0 ∧ f.2 = ps i := by
  induction k with
  | zero => cases h
  | succ k ih =>
    rw [fltPairs] at h
    rcases List.mem_append.1 h with h | h
    · exact ih h
    · unfold fltPair at h
      rcases List.mem_append.1 h with h | h
      · split at h
        · simp at h; simp [h]
        · cases h
      · split at h
        · simp at h; simp [h]
        · cases h

theorem fltEntry_path (ps : Nat → ByteArray) (l n i : Nat) (f : Flt) (h : f ∈ fltEntry ps l n i) : f.1 ≠ 0 ∧ f.2 = ps i := by
  unfold fltEntry at h
  rcases List.mem_append.1 h with h | h
  · rcases List.mem_append.1 h with h | h
    · unfold fltBad at h
      split at h
      · cases h
      · simp at h; simp [h]
    · exact fltPairs_path ps i n f h
  · unfold fltLong at h
    split at h
    · simp at h; simp [h]
    · cases h

theorem fltFirst_path (ps : Nat → ByteArray) (ls : Nat → Nat) (n m : Nat) (f : Flt) (h : f ∈ fltFirst ps ls n m) : f.1 ≠ 0 ∧ ∃ i, i < m ∧ f.2 = ps i := by
  induction m with
  | zero => cases h
  | succ m ih =>
    rw [fltFirst] at h
    rcases List.mem_append.1 h with h | h
    · obtain ⟨h1, i, hi, h2⟩ := ih h
      exact ⟨h1, i, by omega, h2⟩
    · obtain ⟨h1, h2⟩ := fltEntry_path ps (ls m) n m f h
      exact ⟨h1, m, by omega, h2⟩

theorem fltAll_path (ks : Nat) (al : Int) (ps : Nat → ByteArray) (ls : Nat → Nat) (n : Nat) (f : Flt) (h : f ∈ fltAll ks al ps ls n) : f.1 ≠ 0 ∧ (f.2 = ByteArray.empty ∨ ∃ i, i < n ∧ f.2 = ps i) := by
  unfold fltAll at h
  rcases List.mem_append.1 h with h | h
  · obtain ⟨h1, h2⟩ := fltHead_path _ _ _ f h
    exact ⟨h1, .inl h2⟩
  · obtain ⟨h1, h2⟩ := fltFirst_path _ _ _ _ f h
    exact ⟨h1, .inr h2⟩

theorem leastStep_mem (c x : Flt) : leastStep c x = c ∨ leastStep c x = x := by
  unfold leastStep
  split
  · exact .inr rfl
  · exact .inl rfl

theorem leastFold_mem : ∀ (fs : List Flt) (c : Flt), fs.foldl leastStep c = c ∨ fs.foldl leastStep c ∈ fs
  | [], c => .inl rfl
  | x :: r, c => by
    rw [List.foldl_cons]
    rcases leastFold_mem r (leastStep c x) with h | h
    · rw [h]
      rcases leastStep_mem c x with e | e
      · exact .inl e
      · right; rw [e]; simp
    · right
      exact List.mem_cons_of_mem _ h

/-- Once a fault is held, one is held. -/
theorem leastFold_ne : ∀ (fs : List Flt) (c : Flt), c.1 ≠ 0 → (∀ f, f ∈ fs → f.1 ≠ 0) → (fs.foldl leastStep c).1 ≠ 0
  | [], c, h, _ => h
  | x :: r, c, h, k => by
    rw [List.foldl_cons]
    refine leastFold_ne r _ ?_ (fun f hf => k f (List.mem_cons_of_mem _ hf))
    rcases leastStep_mem c x with e | e
    · rw [e]; exact h
    · rw [e]; exact k x (by simp)

theorem leastOf_zero (fs : List Flt) (k : ∀ f, f ∈ fs → f.1 ≠ 0) (h : (leastOf fs).1 = 0) : fs = [] := by
  cases fs with
  | nil => rfl
  | cons x r =>
    exfalso
    unfold leastOf at h
    rw [List.foldl_cons] at h
    refine leastFold_ne r _ ?_ (fun f hf => k f (List.mem_cons_of_mem _ hf)) h
    rw [leastStep, if_pos (.inl rfl)]
    exact k x (by simp)

theorem fltAll_nil {ks : Nat} {al : Int} {ps : Nat → ByteArray} {ls : Nat → Nat} {n : Nat} (h : fltAll ks al ps ls n = []) :
    keyB ks = true ∧ 1 ≤ al ∧ al ≤ 16 ∧ n ≤ 20 ∧ ∀ i, i < n → pathB (ps i).data.toList = true ∧ ls i ≤ 600 := by
  unfold fltAll at h
  rw [List.append_eq_nil_iff] at h
  obtain ⟨h1, h2⟩ := h
  unfold fltHead at h1
  rw [List.append_eq_nil_iff, List.append_eq_nil_iff] at h1
  obtain ⟨⟨h3, h4⟩, h5⟩ := h1
  have hk : keyB ks = true := by
    cases e : keyB ks
    · rw [e] at h3; simp at h3
    · rfl
  have ha : ¬ (al < 1 ∨ 16 < al) := by
    intro e
    rw [if_pos e] at h4
    simp at h4
  have hn : ¬ 20 < n := by
    intro e
    rw [if_pos e] at h5
    simp at h5
  refine ⟨hk, by omega, by omega, by omega, ?_⟩
  have key : ∀ m, fltFirst ps ls n m = [] → ∀ i, i < m → fltEntry ps (ls i) n i = [] := by
    intro m
    induction m with
    | zero => intro _ i hi; omega
    | succ m ih =>
      intro e i hi
      rw [fltFirst, List.append_eq_nil_iff] at e
      by_cases hm : i = m
      · subst hm; exact e.2
      · exact ih e.1 i (by omega)
  intro i hi
  have e := key n h2 i hi
  unfold fltEntry at e
  rw [List.append_eq_nil_iff, List.append_eq_nil_iff] at e
  obtain ⟨⟨e1, _⟩, e2⟩ := e
  constructor
  · unfold fltBad at e1
    cases hb : pathB (ps i).data.toList
    · rw [hb] at e1; simp at e1
    · rfl
  · unfold fltLong at e2
    by_cases hl : 600 < ls i
    · rw [if_pos hl] at e2; simp at e2
    · omega

/-- Where no fault is, no path stands twice. -/
theorem fltAll_nil_ne {ks : Nat} {al : Int} {ps : Nat → ByteArray} {ls : Nat → Nat} {n : Nat} (h : fltAll ks al ps ls n = []) (i k : Nat) (hi : i < n) (hk : k < n) (hne : k ≠ i) : ps k ≠ ps i := by
  unfold fltAll at h
  rw [List.append_eq_nil_iff] at h
  have h2 := h.2
  have key : ∀ m, fltFirst ps ls n m = [] → ∀ i, i < m → fltEntry ps (ls i) n i = [] := by
    intro m
    induction m with
    | zero => intro _ i hi; omega
    | succ m ih =>
      intro e i hi
      rw [fltFirst, List.append_eq_nil_iff] at e
      by_cases hm : i = m
      · subst hm; exact e.2
      · exact ih e.1 i (by omega)
  have e := key n h2 i hi
  unfold fltEntry at e
  rw [List.append_eq_nil_iff, List.append_eq_nil_iff] at e
  have e1 := e.1.2
  have key2 : ∀ m, fltPairs ps i m = [] → ∀ k, k < m → fltPair (ps i) (ps k) (decide (k ≠ i)) = [] := by
    intro m
    induction m with
    | zero => intro _ i hi; omega
    | succ m ih =>
      intro e k hk
      rw [fltPairs, List.append_eq_nil_iff] at e
      by_cases hm : k = m
      · subst hm; exact e.2
      · exact ih e.1 k (by omega)
  have e3 := key2 n e1 k hk
  unfold fltPair at e3
  rw [List.append_eq_nil_iff] at e3
  intro e4
  have e5 := e3.1
  rw [e4] at e5
  simp [hne] at e5

end Go.Proofs.Ytfoedamnlhkpiab
