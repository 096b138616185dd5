import Derived.Test.YtgncohclofdhmaaWsum
import Derived.Test.YtgncohclofdhmaaMall
import Derived.Lib.Strings
namespace Go.Proofs.Ytgncohclofdhmaa
open Go.RowKit

set_option maxRecDepth 100000 in
set_option maxHeartbeats 1000000 in
theorem isPieceByte_any (x : Nat) (w : World) (h : x < 256) : Calls Try.prog 100 #[.int .u8 x] w fun e w' => e = .returned (.bool (plainN x)) ∧ w' = w := by
  go_enter Try.func100, Try.ntmps100
  go_wp2
  all_goals
    go_ret
    refine ⟨ret_bool ?_, rfl⟩
    rw [Bool.eq_iff_iff]
    simp [plainN]
    omega

set_option maxRecDepth 100000 in
set_option maxHeartbeats 1000000 in
theorem plain_any (x : Nat) (w : World) (h : x < 256) : Calls Try.prog 80 #[.int .u8 x] w fun e w' => e = .returned (.bool (plainN x)) ∧ w' = w := by
  go_enter Try.func80, Try.ntmps80
  go_wp2
  all_goals
    go_ret
    refine ⟨ret_bool ?_, rfl⟩
    rw [Bool.eq_iff_iff]
    simp [plainN]
    omega

end Go.Proofs.Ytgncohclofdhmaa
