import Derived.Test.YtgncohclofdhmaaGreatWpk
import Derived.Test.YtgncohclofdhmaaGreatWsame
import Derived.Test.YtgncohclofdhmaaGreatWsum2
namespace Go.Proofs.YtgncohclofdhmaaGreat
open Go.RowKit

theorem packGo_length (xs : List UInt8) : ∀ f i b, b ≤ i → i ≤ xs.length → (packGo xs f i b).length + 2 * b ≤ 2 * xs.length := by
  intro f
  induction f with
  | zero =>
    intro i b h1 h2
    have := runOf_length (xs.drop b)
    simp at this
    rw [packGo]
    omega
  | succ f ih =>
    intro i b h1 h2
    have hr := runOf_length (xs.drop b)
    simp at hr
    by_cases hi : i < xs.length
    · by_cases hc : (copyOf xs i).1 = 0
      · rw [packGo_lit xs f i b hi hc]
        exact ih (i + 1) b (by omega) (by omega)
      · rw [packGo_copy xs f i b hi hc]
        have hs := copyOf_spec xs i
        rcases hs with h | h
        · rw [h] at hc; simp at hc
        · have := ih (i + (copyOf xs i).1) (i + (copyOf xs i).1) (Nat.le_refl _) h.2.2.2.2.2.1
          have hr2 := runOf_length ((xs.take i).drop b)
          simp at hr2 ⊢
          omega
    · rw [packGo_end xs _ i b (by omega)]
      omega

theorem packOf_length (xs : List UInt8) : (packOf xs).length ≤ 2 * xs.length := by
  have := packGo_length xs xs.length 0 0 (by omega) (by omega)
  unfold packOf
  omega

theorem packBytes_length (xs : List UInt8) : (packBytes xs).length ≤ 140737488355328 := by
  unfold packBytes
  split
  · have := packOf_length xs; omega
  · simp

end Go.Proofs.YtgncohclofdhmaaGreat
