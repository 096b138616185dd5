import Derived.Test.YtfoedamnlhkpiabMbld
namespace Go.Proofs.Ytfoedamnlhkpiab

/-! The order of paths; sorting by choosing. Nothing of the dump. -/

theorem lexB_irrefl : ∀ a : List UInt8, lexB a a = false
  | [] => rfl
  | x :: r => by rw [lexB, if_pos rfl]; exact lexB_irrefl r

theorem lexB_asymm : ∀ a b : List UInt8, lexB a b = true → lexB b a = false
  | _, [], h => by simp [lexB] at h
  | [], _ :: _, _ => rfl
  | x :: r, y :: s, h => by
    rw [lexB] at h ⊢
    by_cases e : x = y
    · subst e
      rw [if_pos rfl] at h ⊢
      exact lexB_asymm r s h
    · rw [if_neg e] at h
      rw [if_neg (fun e2 => e e2.symm)]
      simp at h ⊢
      omega

/-- What is not ahead of b is not ahead of what is. -/
theorem lexB_le : ∀ a b c : List UInt8, lexB a b = true → lexB c b = false → lexB c a = false
  | _, [], _, h, _ => by simp [lexB] at h
  | [], _ :: _, c, _, _ => by cases c <;> rfl
  | x :: r, y :: s, [], _, h2 => by simp [lexB] at h2
  | x :: r, y :: s, z :: t, h1, h2 => by
    rw [lexB] at h1 h2 ⊢
    by_cases e : x = y
    · subst e
      rw [if_pos rfl] at h1
      by_cases e2 : z = x
      · subst e2
        rw [if_pos rfl] at h2 ⊢
        exact lexB_le r s t h1 h2
      · rw [if_neg e2] at h2 ⊢
        exact h2
    · rw [if_neg e] at h1
      by_cases e2 : z = y
      · subst e2
        rw [if_neg (fun e3 => e e3.symm)]
        simp at h1 ⊢
        omega
      · rw [if_neg e2] at h2
        by_cases e3 : z = x
        · subst e3
          simp at h1 h2
          omega
        · rw [if_neg e3]
          simp at h1 h2 ⊢
          omega

theorem lexB_total : ∀ a b : List UInt8, lexB a b = false → lexB b a = false → a = b
  | [], [], _, _ => rfl
  | [], _ :: _, h, _ => by simp [lexB] at h
  | _ :: _, [], _, h => by simp [lexB] at h
  | x :: r, y :: s, h1, h2 => by
    rw [lexB] at h1 h2
    by_cases e : x = y
    · subst e
      rw [if_pos rfl] at h1 h2
      rw [lexB_total r s h1 h2]
    · rw [if_neg e] at h1
      rw [if_neg (fun e2 => e e2.symm)] at h2
      simp at h1 h2
      exact absurd (UInt8.toNat_inj.1 (by omega)) e

/-! Numbers below n, each at most once. -/
theorem pigeon : ∀ (n : Nat) (l : List Nat), (∀ j, j < n → j ∈ l) → n ≤ l.length
  | 0, _, _ => Nat.zero_le _
  | n + 1, l, h => by
    have hm := h n (by omega)
    have hl : (l.erase n).length = l.length - 1 := List.length_erase_of_mem hm
    have := pigeon n (l.erase n) fun j hj => (List.mem_erase_of_ne (by omega)).2 (h j (by omega))
    have hp : 0 < l.length := List.length_pos_of_mem hm
    omega

theorem room : ∀ (n : Nat) (l : List Nat), l.Nodup → (∀ j, j ∈ l → j < n) → l.length ≤ n
  | 0, l, _, h => by
    cases l with
    | nil => simp
    | cons x r => have := h x (by simp); omega
  | n + 1, l, hd, h => by
    have hd2 : (l.erase n).Nodup := hd.erase n
    have h2 : ∀ j, j ∈ l.erase n → j < n := by
      intro j hj
      have h3 := (hd.mem_erase_iff.1 hj)
      have := h j h3.2
      have := h3.1
      omega
    have := room n (l.erase n) hd2 h2
    by_cases hm : n ∈ l
    · have hl : (l.erase n).length = l.length - 1 := List.length_erase_of_mem hm
      omega
    · rw [List.erase_of_not_mem hm] at this
      omega

theorem free_one (n : Nat) (l : List Nat) (h : l.length < n) : ∃ j, j < n ∧ j ∉ l := by
  by_cases h2 : ∀ j, j < n → j ∈ l
  · have := pigeon n l h2; omega
  · simp only [Classical.not_forall] at h2
    obtain ⟨j, hj, hm⟩ := h2
    exact ⟨j, hj, hm⟩

theorem all_there (n : Nat) (l : List Nat) (hd : l.Nodup) (h : ∀ j, j ∈ l → j < n) (hl : l.length = n) (j : Nat) (hj : j < n) : j ∈ l := by
  by_cases hm : j ∈ l
  · exact hm
  · have := room n (j :: l) (List.nodup_cons.2 ⟨hm, hd⟩) (fun i hi => by
      rcases List.mem_cons.1 hi with rfl | h1
      · exact hj
      · exact h i h1)
    simp at this
    omega

/-- Chosen so far: each not behind those that are left. -/
structure Chosen (P : Nat → List UInt8) (n : Nat) (ix : List Nat) : Prop where
  nodup : ix.Nodup
  lt : ∀ j, j ∈ ix → j < n
  sorted : ix.Pairwise fun i j => lexB (P j) (P i) = false
  rest : ∀ i, i ∈ ix → ∀ j, j < n → j ∉ ix → lexB (P j) (P i) = false

theorem Chosen.nil (P : Nat → List UInt8) (n : Nat) : Chosen P n [] := ⟨List.nodup_nil, (fun _ h => by cases h), List.Pairwise.nil, (fun _ h => by cases h)⟩

theorem Chosen.more {P : Nat → List UInt8} {n : Nat} {ix : List Nat} {b : Nat} (h : Chosen P n ix) (hb : b < n) (hn : b ∉ ix) (hl : ∀ j, j < n → j ∉ ix → lexB (P j) (P b) = false) : Chosen P n (ix ++ [b]) := by
  refine ⟨?_, ?_, ?_, ?_⟩
  · rw [List.nodup_append]
    refine ⟨h.nodup, by simp, ?_⟩
    intro x hx y hy
    simp at hy
    subst hy
    intro e
    subst e
    exact hn hx
  · intro j hj
    rcases List.mem_append.1 hj with h1 | h1
    · exact h.lt j h1
    · simp at h1; subst h1; exact hb
  · rw [List.pairwise_append]
    refine ⟨h.sorted, by simp, ?_⟩
    intro x hx y hy
    simp at hy
    subst hy
    exact h.rest x hx y hb hn
  · intro i hi j hj hm
    have hm2 : j ∉ ix := fun e => hm (List.mem_append.2 (.inl e))
    rcases List.mem_append.1 hi with h1 | h1
    · exact h.rest i h1 j hj hm2
    · simp at h1; subst h1; exact hl j hj hm2

/-! The package's bytes. -/
def bodyOf (pk : Bool) (al : Nat) : List UInt8 → List (List UInt8 × List UInt8) → List UInt8
  | out, [] => out
  | out, x :: r => bodyOf pk al (out ++ entOf pk al out.length x.1 x.2) r

theorem bodyOf_snoc (pk : Bool) (al : Nat) : ∀ (l : List (List UInt8 × List UInt8)) (out : List UInt8) (x : List UInt8 × List UInt8), bodyOf pk al out (l ++ [x]) = bodyOf pk al out l ++ entOf pk al (bodyOf pk al out l).length x.1 x.2
  | [], _, _ => rfl
  | y :: r, out, x => by
    rw [List.cons_append, bodyOf, bodyOf]
    exact bodyOf_snoc pk al r _ x

def sumsOf : List (List UInt8 × List UInt8) → List UInt8
  | [] => []
  | x :: r => fourOf (sumOf x.2) ++ sumsOf r

theorem sumsOf_append : ∀ l m : List (List UInt8 × List UInt8), sumsOf (l ++ m) = sumsOf l ++ sumsOf m
  | [], _ => rfl
  | x :: r, m => by rw [List.cons_append, sumsOf, sumsOf, sumsOf_append r m, List.append_assoc]

theorem sumsOf_length : ∀ l : List (List UInt8 × List UInt8), (sumsOf l).length = 4 * l.length
  | [] => rfl
  | x :: r => by rw [sumsOf, List.length_append, sumsOf_length r]; simp [fourOf]; omega

def headBytes (pk : Bool) (al n : Nat) : List UInt8 := [80, 76, UInt8.ofNat al, UInt8.ofNat (if pk then 1 else 0), UInt8.ofNat n]
def plainOf (pk : Bool) (al : Nat) (l : List (List UInt8 × List UInt8)) : List UInt8 := bodyOf pk al (headBytes pk al l.length) l ++ sumsOf l
def summed (xs : List UInt8) : List UInt8 := xs ++ fourOf (sumOf xs)
def tagged (key xs : List UInt8) : List UInt8 := xs ++ fourOf (tagFrom 0 (key ++ xs ++ key))
def madeOf (key : List UInt8) (pk : Bool) (al : Nat) (l : List (List UInt8 × List UInt8)) : List UInt8 := tagged key (summed (plainOf pk al l))

theorem laidOf_le (pk : Bool) (b : List UInt8) : (laidOf pk b).length ≤ b.length := by
  unfold laidOf
  split
  · rename_i h
    simp at h
    omega
  · exact Nat.le_refl _

theorem entOf_le (pk : Bool) (al n : Nat) (p b : List UInt8) (hal : 0 < al) (hal2 : al ≤ 16) (hp : p.length ≤ 40) (hb : b.length ≤ 600) : (entOf pk al n p b).length ≤ 700 := by
  have h1 := laidOf_le pk b
  have h2 : entPad pk al n p b < 16 := by
    unfold entPad
    split
    · have := padOf_lt hal (n + (entHead pk p b).length + 1); omega
    · omega
  simp [entOf, entHead, twoOf]
  omega

theorem bodyOf_le (pk : Bool) (al : Nat) (hal : 0 < al) (hal2 : al ≤ 16) : ∀ (l : List (List UInt8 × List UInt8)) (out : List UInt8), (∀ x, x ∈ l → x.1.length ≤ 40 ∧ x.2.length ≤ 600) → (bodyOf pk al out l).length ≤ out.length + 700 * l.length
  | [], out, _ => by simp [bodyOf]
  | x :: r, out, h => by
    rw [bodyOf]
    have h1 := bodyOf_le pk al hal hal2 r (out ++ entOf pk al out.length x.1 x.2) fun y hy => h y (by simp [hy])
    have h2 := entOf_le pk al out.length x.1 x.2 hal hal2 (h x (by simp)).1 (h x (by simp)).2
    simp at h1 ⊢
    omega

end Go.Proofs.Ytfoedamnlhkpiab
