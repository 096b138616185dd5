import Derived.Test.YtggakcalcmjolaaWsum
import Derived.Test.YtggakcalcmjolaaMall
import Derived.Lib.Strings
namespace Go.Proofs.Ytggakcalcmjolaa
open Go.RowKit

set_option maxRecDepth 100000 in
set_option maxHeartbeats 1000000 in
theorem isPieceByte_any (x : Nat) (w : World) (h : x < 256) : Calls Try.prog 92 #[.int .u8 x] w fun e w' => e = .returned (.bool (plainN x)) ∧ w' = w := by
  go_enter Try.func92, Try.ntmps92
  go_wp2
  all_goals
    go_ret
    refine ⟨ret_bool ?_, rfl⟩
    rw [Bool.eq_iff_iff]
    simp [plainN]
    omega

set_option maxRecDepth 100000 in
set_option maxHeartbeats 1000000 in
theorem plain_any (x : Nat) (w : World) (h : x < 256) : Calls Try.prog 72 #[.int .u8 x] w fun e w' => e = .returned (.bool (plainN x)) ∧ w' = w := by
  go_enter Try.func72, Try.ntmps72
  go_wp2
  all_goals
    go_ret
    refine ⟨ret_bool ?_, rfl⟩
    rw [Bool.eq_iff_iff]
    simp [plainN]
    omega

end Go.Proofs.Ytggakcalcmjolaa
