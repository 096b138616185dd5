import Derived.Test.YtfoedamnlhkpiabMpack
import Derived.Test.YtfoedamnlhkpiabMun
namespace Go.Proofs.Ytfoedamnlhkpiab

/-! What was packed comes back. Nothing of the dump. -/

theorem unGo_fuel : ∀ (f g : Nat) (l out : List UInt8), l.length ≤ f → l.length ≤ g → unGo f l out = unGo g l out := by
  intro f
  induction f with
  | zero =>
    intro g l out hf _
    rw [unGo_end 0 l out (by omega), unGo_end g l out (by omega)]
  | succ f ih =>
    intro g l out hf hg
    cases g with
    | zero => rw [unGo_end _ l out (by omega), unGo_end _ l out (by omega)]
    | succ g =>
      rw [unGo, unGo]
      by_cases h0 : l.length = 0
      · rw [if_pos h0, if_pos h0]
      · rw [if_neg h0, if_neg h0, ih g (l.drop (headOf l + 2)) _ (by simp; omega) (by simp; omega), ih g (l.drop 2) _ (by simp; omega) (by simp; omega)]

def unAt (l out : List UInt8) : List UInt8 × Nat := unGo l.length l out

theorem unOf_at (xs : List UInt8) : unOf xs = unAt xs [] := rfl

theorem unAt_nil (out : List UInt8) : unAt [] out = (out, 0) := rfl

theorem unAt_piece (p r out : List UInt8) (h1 : p.length ≠ 0) (h2 : p.length ≤ 128) (h3 : out.length + p.length ≤ 600) : unAt (UInt8.ofNat (p.length - 1) :: (p ++ r)) out = unAt r (out ++ p) := by
  have hh : headOf (UInt8.ofNat (p.length - 1) :: (p ++ r)) = p.length - 1 := by
    unfold headOf
    simp
    omega
  have hd : ((UInt8.ofNat (p.length - 1) :: (p ++ r)).drop 1).take (p.length - 1 + 1) = p := by
    rw [show p.length - 1 + 1 = p.length from by omega]
    simp
  have hd2 : (UInt8.ofNat (p.length - 1) :: (p ++ r)).drop (p.length - 1 + 2) = r := by
    rw [show p.length - 1 + 2 = p.length + 1 from by omega, List.drop_succ_cons]
    simp
  unfold unAt
  rw [show (UInt8.ofNat (p.length - 1) :: (p ++ r)).length = (p ++ r).length + 1 from rfl]
  rw [unGo_lit _ _ _ (by simp) (by rw [hh]; omega) (by rw [hh]; simp; omega) (by rw [hh, hd]; simp; omega), hh, hd, hd2]
  exact unGo_fuel _ _ _ _ (by simp) (Nat.le_refl _)

theorem unAt_run : ∀ (m : Nat) (l r out : List UInt8), l.length ≤ m → out.length + l.length ≤ 600 → unAt (runOf l ++ r) out = unAt r (out ++ l) := by
  intro m
  induction m with
  | zero =>
    intro l r out hm _
    have : l = [] := List.eq_nil_of_length_eq_zero (by omega)
    subst this
    simp [runOf_nil]
  | succ m ih =>
    intro l r out hm hl
    by_cases h0 : l.length = 0
    · have : l = [] := List.eq_nil_of_length_eq_zero h0
      subst this
      simp [runOf_nil]
    · have ht : (l.take 128).length = min l.length 128 := by simp; omega
      have := unAt_piece (l.take 128) (runOf (l.drop 128) ++ r) out (by omega) (by omega) (by omega)
      rw [runOf_step h0, ← ht]
      simp only [List.cons_append, List.append_assoc]
      rw [this, ih (l.drop 128) r (out ++ l.take 128) (by simp; omega) (by simp; omega)]
      simp

theorem unAt_copy (n d : Nat) (r out : List UInt8) (h1 : 3 ≤ n) (h2 : n ≤ 66) (h3 : 1 ≤ d) (h4 : d ≤ 256) (h5 : d ≤ out.length) (h6 : out.length + n ≤ 600) :
    unAt ([UInt8.ofNat (128 + n - 3), UInt8.ofNat (d - 1)] ++ r) out = unAt r (copyOut out d n) := by
  have hh : headOf ([UInt8.ofNat (128 + n - 3), UInt8.ofNat (d - 1)] ++ r) = 128 + n - 3 := by
    unfold headOf
    simp
    omega
  have hd : distOf ([UInt8.ofNat (128 + n - 3), UInt8.ofNat (d - 1)] ++ r) = d := by
    unfold distOf
    simp
    omega
  unfold unAt
  rw [show ([UInt8.ofNat (128 + n - 3), UInt8.ofNat (d - 1)] ++ r).length = (r.length + 1) + 1 from by simp]
  rw [unGo_copy _ _ _ (by simp) (by rw [hh]; omega) (by rw [hh]; omega) (by simp) (by rw [hd]; omega) (by rw [hh, hd, copyOut_length]; omega), hh, hd, show 128 + n - 3 - 125 = n from by omega]
  exact unGo_fuel _ _ _ _ (by simp) (Nat.le_refl _)

theorem copyOut_fits {xs : List UInt8} {i d n : Nat} (h : Fits xs i d n) (hd : 1 ≤ d) : ∀ k, k ≤ n → copyOut (xs.take i) d k = xs.take (i + k) := by
  intro k
  induction k with
  | zero => intro _; rfl
  | succ k ih =>
    intro hk
    have hl := h.2.1
    have hdi := h.1
    rw [copyOut, ih (by omega), List.length_take, show min (i + k) xs.length = i + k from by omega]
    have e1 : (xs.take (i + k)).getD (i + k - d) 0 = xs.getD (i + k - d) 0 := by
      rw [List.getD_eq_getElem?_getD, List.getD_eq_getElem?_getD, List.getElem?_take, if_pos (by omega)]
    rw [e1, ← h.2.2 k (by omega), ← Nat.add_assoc, List.take_succ_eq_append_getElem (by omega : i + k < xs.length)]
    congr 2
    rw [List.getD_eq_getElem?_getD, List.getElem?_eq_getElem (by omega)]
    rfl

theorem unAt_pack (xs : List UInt8) (hx : xs.length ≤ 600) : ∀ f i b, b ≤ i → i ≤ xs.length → xs.length ≤ i + f → unAt (packGo xs f i b) (xs.take b) = (xs, 0) := by
  have fin : ∀ b, b ≤ xs.length → unAt (runOf (xs.drop b)) (xs.take b) = (xs, 0) := by
    intro b hb
    have := unAt_run xs.length (xs.drop b) [] (xs.take b) (by simp) (by simp; omega)
    rw [List.append_nil] at this
    rw [this, unAt_nil, List.take_append_drop]
  intro f
  induction f with
  | zero => intro i b h1 h2 h3; exact fin b (by omega)
  | succ f ih =>
    intro i b h1 h2 h3
    by_cases hi : i < xs.length
    · by_cases hc : (copyOf xs i).1 = 0
      · rw [packGo_lit xs f i b hi hc]
        exact ih (i + 1) b (by omega) (by omega) (by omega)
      · rw [packGo_copy xs f i b hi hc]
        rcases copyOf_spec xs i with h | ⟨a1, a2, a3, a4, a5⟩
        · rw [h] at hc; simp at hc
        · have hfit := a5.2.1
          have hdi := a5.1
          rw [unAt_run xs.length _ _ _ (by simp; omega) (by simp; omega)]
          have e : xs.take b ++ (xs.take i).drop b = xs.take i := by
            have h := List.take_append_drop b (xs.take i)
            rw [List.take_take, show min b i = b from by omega] at h
            exact h
          rw [e, unAt_copy _ _ _ _ a1 a2 a3 a4 (by simp; omega) (by simp; omega), copyOut_fits a5 a3 _ (Nat.le_refl _)]
          exact ih _ _ (Nat.le_refl _) hfit (by omega)
    · rw [packGo_end xs _ i b (by omega)]
      exact fin b (by omega)

theorem unOf_packOf (xs : List UInt8) (hx : xs.length ≤ 600) : unOf (packOf xs) = (xs, 0) := by
  rw [unOf_at]
  exact unAt_pack xs hx xs.length 0 0 (by omega) (by omega) (by omega)

theorem runGo_bound : ∀ (f : Nat) (l : List UInt8), (runGo f l).length ≤ l.length + (l.length + 127) / 128 := by
  intro f
  induction f with
  | zero => intro l; simp [runGo]
  | succ f ih =>
    intro l
    rw [runGo]
    by_cases h : l.length = 0
    · rw [if_pos h]; simp
    · rw [if_neg h]
      have := ih (l.drop 128)
      simp at this ⊢
      omega

theorem runOf_bound (l : List UInt8) : (runOf l).length ≤ l.length + (l.length + 127) / 128 := runGo_bound _ _

theorem packGo_bound (xs : List UInt8) : ∀ f i b, b ≤ i → i ≤ xs.length → (packGo xs f i b).length ≤ (xs.length - b) + 1 + (xs.length - b) / 128 := by
  have fin : ∀ b, (runOf (xs.drop b)).length ≤ (xs.length - b) + 1 + (xs.length - b) / 128 := by
    intro b
    have := runOf_bound (xs.drop b)
    simp at this
    omega
  intro f
  induction f with
  | zero => intro i b _ _; exact fin b
  | succ f ih =>
    intro i b h1 h2
    by_cases hi : i < xs.length
    · by_cases hc : (copyOf xs i).1 = 0
      · rw [packGo_lit xs f i b hi hc]
        exact ih (i + 1) b (by omega) (by omega)
      · rw [packGo_copy xs f i b hi hc]
        rcases copyOf_spec xs i with h | ⟨a1, a2, a3, a4, a5⟩
        · rw [h] at hc; simp at hc
        · have hfit := a5.2.1
          have := ih (i + (copyOf xs i).1) (i + (copyOf xs i).1) (Nat.le_refl _) hfit
          have hr := runOf_bound ((xs.take i).drop b)
          simp at hr ⊢
          omega
    · rw [packGo_end xs _ i b (by omega)]
      exact fin b

theorem packOf_bound (xs : List UInt8) : (packOf xs).length ≤ xs.length + 1 + xs.length / 128 := by
  have := packGo_bound xs xs.length 0 0 (by omega) (by omega)
  simpa [packOf] using this

theorem packOf_some (xs : List UInt8) (hx : xs.length ≤ 600) (h : (packOf xs).length = 0) : xs.length = 0 := by
  have e : packOf xs = [] := List.eq_nil_of_length_eq_zero h
  have := unOf_packOf xs hx
  rw [e] at this
  have h2 : ([], 0) = (xs, 0) := this
  simp at h2
  rw [h2]
  rfl

end Go.Proofs.Ytfoedamnlhkpiab
