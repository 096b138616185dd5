import Derived.Test.YtgncohclofdhmaaWpk
import Derived.Test.YtgncohclofdhmaaWsame
import Derived.Test.YtgncohclofdhmaaWsum2
namespace Go.Proofs.Ytgncohclofdhmaa
open Go.RowKit

theorem packGo_length (xs : List UInt8) : ∀ f i b, b ≤ i → i ≤ xs.length → (packGo xs f i b).length + 2 * b ≤ 2 * xs.length := by
  intro f
  induction f with
  | zero =>
    intro i b h1 h2
    have := runOf_length (xs.drop b)
    simp at this
    rw [packGo]
    omega
  | succ f ih =>
    intro i b h1 h2
    have hr := runOf_length (xs.drop b)
    simp at hr
    by_cases hi : i < xs.length
    · by_cases hc : (copyOf xs i).1 = 0
      · rw [packGo_lit xs f i b hi hc]
        exact ih (i + 1) b (by omega) (by omega)
      · rw [packGo_copy xs f i b hi hc]
        have hs := copyOf_spec xs i
        rcases hs with h | h
        · rw [h] at hc; simp at hc
        · have := ih (i + (copyOf xs i).1) (i + (copyOf xs i).1) (Nat.le_refl _) h.2.2.2.2.2.1
          have hr2 := runOf_length ((xs.take i).drop b)
          simp at hr2 ⊢
          omega
    · rw [packGo_end xs _ i b (by omega)]
      omega

theorem packOf_length (xs : List UInt8) : (packOf xs).length ≤ 2 * xs.length := by
  have := packGo_length xs xs.length 0 0 (by omega) (by omega)
  unfold packOf
  omega

theorem packBytes_length (xs : List UInt8) : (packBytes xs).length ≤ 140737488355328 := by
  unfold packBytes
  split
  · have := packOf_length xs; omega
  · simp

set_option maxHeartbeats 800000 in
theorem Packs_walk (a : Option Addr) (xs : List UInt8) (cap : Nat) (w : World) (hm : xs.length ≤ 140737488355328 - 4096) (hcap : xs.length ≤ cap) (hcm : cap ≤ maxLen) (hb : Bts w a xs) :
    Calls Try.prog 4 #[.slice a xs.length cap] w fun e w' => e = .returned (.bool true) ∧ Below w.heap.size w w' := by
  have hpl : (packBytes xs).length ≤ 140737488355328 := packBytes_length xs
  go_enter Try.func4, Try.ntmps4
  go_wp2_with fail
  refine (own_any a xs cap _ (by omega) hb).mono ?_
  rintro e w1 ⟨v1, rfl, o1, b1⟩
  obtain ⟨a1, c1, rfl, hb1, hc1, hm1⟩ := o1.shape
  clear o1
  go_wp2_with fail
  refine (Pack_any a1 xs c1 _ (by omega) hc1 hm1 hb1).mono ?_
  rintro e w2 ⟨v2, rfl, o2, b2⟩
  have b12 := b1.trans (b2.mono b1.size)
  obtain ⟨a2, c2, rfl, hb2, -, -⟩ := o2.shape
  clear b1 b2 hb1 o2
  go_wp2_with fail
  refine (refPack_any a xs cap _ (by omega) hcap hcm (hb.carry b12)).mono ?_
  rintro e w3 ⟨v3, rfl, o3, b3⟩
  have b13 := b12.trans (b3.mono b12.size)
  have hb23 := hb2.carry b3
  obtain ⟨a3, c3, rfl, hb3, -, -⟩ := o3.shape
  clear b12 b3 hb2 o3
  go_wp2_with fail
  refine (sameBytes_any a2 a3 (packBytes xs) (packBytes xs) c2 c3 _ hpl hpl hb23 hb3).mono ?_
  rintro e w4 ⟨rfl, b4⟩
  have b14 := b13.trans (b4.mono b13.size)
  rw [eqB_true]
  go_wp2
  go_ret
  exact ⟨rfl, b14⟩

end Go.Proofs.Ytgncohclofdhmaa
