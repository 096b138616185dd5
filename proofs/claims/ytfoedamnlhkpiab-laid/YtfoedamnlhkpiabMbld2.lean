import Derived.Test.YtfoedamnlhkpiabMsort
namespace Go.Proofs.Ytfoedamnlhkpiab

/-! Sorted in one way only, where no path stands twice. Nothing of the dump. -/

theorem same_of_sorted {R : Nat → Nat → Prop} : ∀ (l m : List Nat), l.Nodup → m.Nodup → l.Pairwise R → m.Pairwise R → (∀ x, x ∈ l ↔ x ∈ m) → (∀ x y, x ∈ l → y ∈ l → R x y → R y x → x = y) → l = m
  | [], m, _, _, _, _, h, _ => by
    cases m with
    | nil => rfl
    | cons b s => exact absurd ((h b).2 (by simp)) (by simp)
  | a :: r, m, nl, nm, pl, pm, h, anti => by
    cases m with
    | nil => exact absurd ((h a).1 (by simp)) (by simp)
    | cons b s =>
      rw [List.nodup_cons] at nl nm
      rw [List.pairwise_cons] at pl pm
      have e : a = b := by
        rcases List.mem_cons.1 ((h a).1 (by simp)) with e | ha
        · exact e
        · rcases List.mem_cons.1 ((h b).2 (by simp)) with e | hb
          · exact e.symm
          · exact anti a b (by simp) (List.mem_cons_of_mem _ hb) (pl.1 b hb) (pm.1 a ha)
      subst e
      congr 1
      refine same_of_sorted r s nl.2 nm.2 pl.2 pm.2 ?_ (fun x y hx hy => anti x y (List.mem_cons_of_mem _ hx) (List.mem_cons_of_mem _ hy))
      intro x
      have hx := h x
      rw [List.mem_cons, List.mem_cons] at hx
      constructor
      · intro h1
        rcases hx.1 (.inr h1) with e | h2
        · subst e; exact absurd h1 nl.1
        · exact h2
      · intro h1
        rcases hx.2 (.inr h1) with e | h2
        · subst e; exact absurd h1 nm.1
        · exact h2

theorem Chosen.only {P : Nat → List UInt8} {n : Nat} {ix jx : List Nat} (h : Chosen P n ix) (k : Chosen P n jx) (hl : ix.length = n) (kl : jx.length = n) (inj : ∀ i j, i < n → j < n → P i = P j → i = j) : ix = jx := by
  refine same_of_sorted (R := fun i j => lexB (P j) (P i) = false) ix jx h.nodup k.nodup h.sorted k.sorted ?_ ?_
  · intro x
    constructor
    · intro hx
      exact all_there n jx k.nodup k.lt kl x (h.lt x hx)
    · intro hx
      exact all_there n ix h.nodup h.lt hl x (k.lt x hx)
  · intro x y hx hy h1 h2
    exact inj x y (h.lt x hx) (h.lt y hy) (lexB_total _ _ h2 h1)

end Go.Proofs.Ytfoedamnlhkpiab
