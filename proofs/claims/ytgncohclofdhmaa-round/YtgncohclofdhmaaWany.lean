import Derived.Test.YtgncohclofdhmaaWturn
import Derived.Test.YtgncohclofdhmaaWsame2
import Derived.Deep.DeepCutAuto
namespace Go.Proofs.Ytgncohclofdhmaa
open Go.RowKit

/-- Which of n things a raw number speaks of. -/
def pickN (c : Int) (n : Nat) : Nat := (if c < 0 then (-(c + 1)).toNat else c.toNat) % n

theorem pickN_lt (c : Int) {n : Nat} (h : 0 < n) : pickN c n < n := Nat.mod_lt _ h

theorem pick_is (c : Int) (n : Nat) (w : World) (hc : -9223372036854775808 ≤ c) (hc2 : c ≤ 9223372036854775807) (hn : 0 < n) (hn2 : n ≤ maxLen) :
    Calls Try.prog 70 #[.int .i64 c, .int .i64 n] w fun e w' => e = .returned (.int .i64 (pickN c n : Nat)) ∧ w' = w := by
  unfold maxLen at hn2
  by_cases h : c < 0
  · obtain ⟨m, rfl⟩ : ∃ m : Nat, c = -(m : Int) - 1 := ⟨(-(c + 1)).toNat, by omega⟩
    have HP : Hid (pickN (-(m : Int) - 1) n = m % n) := by
      show _ = _
      unfold pickN
      rw [if_pos h, show (-(-(m : Int) - 1 + 1)).toNat = m from by omega]
    rw [HP.out]
    go_enter Try.func70, Try.ntmps70
    go_wp2
    go_ret
    refine ⟨ret_int ?_, rfl⟩
    first
      | (rw [show -(m : Int) - 1 + 1 = -(m : Int) from by omega, Int.neg_tmod, Int.neg_neg]; exact (Int.ofNat_tmod m n).symm)
      | (rw [Int.neg_tmod, Int.neg_neg]; exact (Int.ofNat_tmod m n).symm)
      | exact (Int.ofNat_tmod m n).symm
      | simp
  · obtain ⟨m, rfl⟩ : ∃ m : Nat, c = m := ⟨c.toNat, by omega⟩
    have HP : Hid (pickN (m : Int) n = m % n) := by
      show _ = _
      unfold pickN
      rw [if_neg h, Int.toNat_natCast]
    rw [HP.out]
    go_enter Try.func70, Try.ntmps70
    go_wp2
    go_ret
    exact ⟨ret_int (by simp), rfl⟩

end Go.Proofs.Ytgncohclofdhmaa
