import Derived.Test.YtggakcalcmjolabWsum
import Derived.Test.YtggakcalcmjolabMall
import Derived.Lib.Strings
namespace Go.Proofs.Ytggakcalcmjolab
open Go.RowKit

set_option maxRecDepth 100000 in
set_option maxHeartbeats 1000000 in
theorem isPieceByte_any (x : Nat) (w : World) (h : x < 256) : Calls Try.prog 61 #[.int .u8 x] w fun e w' => e = .returned (.bool (plainN x)) ∧ w' = w := by
  go_enter Try.func61, Try.ntmps61
  go_wp2
  all_goals
    go_ret
    refine ⟨ret_bool ?_, rfl⟩
    rw [Bool.eq_iff_iff]
    simp [plainN]
    omega

end Go.Proofs.Ytggakcalcmjolab
