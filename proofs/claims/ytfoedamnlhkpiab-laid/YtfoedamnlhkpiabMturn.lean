import Derived.Test.YtfoedamnlhkpiabMflt3
import Derived.Test.YtfoedamnlhkpiabMbld2
namespace Go.Proofs.Ytfoedamnlhkpiab

/-! The same entries in another order: the same faults, the same sorted row. Nothing of the dump. -/

theorem leastOf_min {fs : List Flt} (k : ∀ f, f ∈ fs → f.1 ≠ 0) (hne : fs ≠ []) : leastOf fs ∈ fs ∧ ∀ f, f ∈ fs → fltLe (leastOf fs) f := by
  cases fs with
  | nil => exact absurd rfl hne
  | cons y r =>
    unfold leastOf
    rw [List.foldl_cons, leastStep, if_pos (.inl rfl)]
    have hy : y.1 ≠ 0 := k y (by simp)
    obtain ⟨h1, h2⟩ := leastFold_le r y hy (fun f hf => k f (List.mem_cons_of_mem _ hf))
    constructor
    · rcases leastFold_mem r y with e | e
      · rw [e]; simp
      · exact List.mem_cons_of_mem _ e
    · intro f hf
      rcases List.mem_cons.1 hf with e | e
      · subst e; exact h1
      · exact h2 f e

theorem leastOf_set {fs gs : List Flt} (k : ∀ f, f ∈ fs → f.1 ≠ 0) (h : ∀ f, f ∈ fs ↔ f ∈ gs) : leastOf fs = leastOf gs := by
  by_cases hne : gs = []
  · have : fs = [] := List.eq_nil_iff_forall_not_mem.2 fun f hf => by rw [h f, hne] at hf; cases hf
    rw [this, hne]
  · obtain ⟨h1, h2⟩ := leastOf_min (fun f hf => k f ((h f).2 hf)) hne
    exact leastOf_is k ((h _).2 h1) (fun f hf => h2 f ((h f).1 hf))

structure Turn (g : Nat → Nat) (n : Nat) : Prop where
  lt : ∀ j, j < n → g j < n
  sur : ∀ i, i < n → ∃ j, j < n ∧ g j = i
  inj : ∀ j k, j < n → k < n → g j = g k → j = k

theorem fltFirst_turn {ps qs : Nat → ByteArray} {ls ms : Nat → Nat} {n : Nat} {g : Nat → Nat} (hg : Turn g n) (hp : ∀ j, j < n → qs j = ps (g j)) (hl : ∀ j, j < n → ms j = ls (g j)) (f : Flt) : f ∈ fltFirst qs ms n n ↔ f ∈ fltFirst ps ls n n := by
  rw [fltFirst_mem, fltFirst_mem]
  constructor
  · rintro ⟨i, hi, h⟩
    obtain ⟨h0, h⟩ := (fltEntry_mem qs _ n i f).1 h
    rw [hp i hi] at h0 h
    refine ⟨g i, hg.lt i hi, (fltEntry_mem ps _ n _ f).2 ⟨h0, ?_⟩⟩
    rcases h with h | ⟨h, k, hk, h2, h3⟩ | ⟨h, k, hk, h2⟩ | h
    · exact .inl h
    · rw [hp k hk] at h3
      exact .inr (.inl ⟨h, g k, hg.lt k hk, fun e => h2 (hg.inj k i hk hi e), h3⟩)
    · rw [hp k hk] at h2
      exact .inr (.inr (.inl ⟨h, g k, hg.lt k hk, h2⟩))
    · rw [hl i hi] at h
      exact .inr (.inr (.inr h))
  · rintro ⟨i, hi, h⟩
    obtain ⟨h0, h⟩ := (fltEntry_mem ps _ n i f).1 h
    obtain ⟨j, hj, rfl⟩ := hg.sur i hi
    refine ⟨j, hj, (fltEntry_mem qs _ n _ f).2 ⟨by rw [hp j hj]; exact h0, ?_⟩⟩
    rw [hp j hj]
    rcases h with h | ⟨h, k, hk, h2, h3⟩ | ⟨h, k, hk, h2⟩ | h
    · exact .inl h
    · obtain ⟨m, hm, rfl⟩ := hg.sur k hk
      exact .inr (.inl ⟨h, m, hm, fun e => h2 (by rw [e]), by rw [hp m hm]; exact h3⟩)
    · obtain ⟨m, hm, rfl⟩ := hg.sur k hk
      exact .inr (.inr (.inl ⟨h, m, hm, by rw [hp m hm]; exact h2⟩))
    · exact .inr (.inr (.inr (by rw [hl j hj]; exact h)))

theorem Chosen.turn {P Q : Nat → List UInt8} {n : Nat} {ix : List Nat} {g : Nat → Nat} (hg : Turn g n) (hp : ∀ j, j < n → Q j = P (g j)) (h : Chosen Q n ix) (hl : ix.length = n) : Chosen P n (ix.map g) := by
  have hnd : (ix.map g).Nodup := by
    rw [List.Nodup, List.pairwise_map]
    exact List.Pairwise.imp_of_mem (fun {a b} ha hb hne e => hne (hg.inj a b (h.lt a ha) (h.lt b hb) e)) h.nodup
  have hlt : ∀ j, j ∈ ix.map g → j < n := by
    intro j hj
    obtain ⟨i, hi, rfl⟩ := List.mem_map.1 hj
    exact hg.lt i (h.lt i hi)
  refine ⟨hnd, hlt, ?_, ?_⟩
  · rw [List.pairwise_map]
    exact List.Pairwise.imp_of_mem (fun {a b} ha hb e => by rw [← hp a (h.lt a ha), ← hp b (h.lt b hb)]; exact e) h.sorted
  · intro i _ j hj hm
    exact absurd (all_there n (ix.map g) hnd hlt (by rw [List.length_map]; exact hl) j hj) hm

/-- From some place on, round and round, and perhaps backward. -/
def turnTo (n s : Nat) (back : Bool) (i : Nat) : Nat := if back then n - 1 - (i + s) % n else (i + s) % n

theorem add_mod_is {n s i : Nat} (hs : s < n) (hi : i < n) : (i + s) % n = if i + s < n then i + s else i + s - n := by
  split
  · exact Nat.mod_eq_of_lt (by assumption)
  · rw [Nat.mod_eq_sub_mod (by omega)]
    exact Nat.mod_eq_of_lt (by omega)

theorem turnTo_turn {n s : Nat} (back : Bool) (hs : s < n) : Turn (turnTo n s back) n := by
  refine ⟨?_, ?_, ?_⟩
  · intro j hj
    unfold turnTo
    rw [add_mod_is hs hj]
    cases back <;> simp <;> split <;> omega
  · intro i hi
    cases back
    · refine ⟨if s ≤ i then i - s else i + n - s, by split <;> omega, ?_⟩
      unfold turnTo
      rw [add_mod_is hs (by split <;> omega)]
      simp
      split <;> split <;> omega
    · refine ⟨if s ≤ n - 1 - i then n - 1 - i - s else n - 1 - i + n - s, by split <;> omega, ?_⟩
      unfold turnTo
      rw [add_mod_is hs (by split <;> omega)]
      simp
      split <;> split <;> omega
  · intro j k hj hk e
    unfold turnTo at e
    rw [add_mod_is hs hj, add_mod_is hs hk] at e
    cases back
    · simp at e
      split at e <;> split at e <;> omega
    · simp at e
      split at e <;> split at e <;> omega

end Go.Proofs.Ytfoedamnlhkpiab
