import Derived.Test.YtgncohclofdhmabWsum
import Derived.Test.YtgncohclofdhmabMall
import Derived.Lib.Strings
namespace Go.Proofs.Ytgncohclofdhmab
open Go.RowKit

set_option maxRecDepth 100000 in
set_option maxHeartbeats 1000000 in
theorem isPieceByte_any (x : Nat) (w : World) (h : x < 256) : Calls Try.prog 66 #[.int .u8 x] w fun e w' => e = .returned (.bool (plainN x)) ∧ w' = w := by
  go_enter Try.func66, Try.ntmps66
  go_wp2
  all_goals
    go_ret
    refine ⟨ret_bool ?_, rfl⟩
    rw [Bool.eq_iff_iff]
    simp [plainN]
    omega

end Go.Proofs.Ytgncohclofdhmab
