import Derived.Test.YtfoedamnlhkpiaaWsum
import Derived.Test.YtfoedamnlhkpiaaMpath
import Derived.Lib.Strings
namespace Go.Proofs.Ytfoedamnlhkpiaa
open Go.RowKit

set_option maxRecDepth 100000 in
set_option maxHeartbeats 1000000 in
theorem isPieceByte_any (x : Nat) (w : World) (h : x < 256) : Calls Try.prog 65 #[.int .u8 x] w fun e w' => e = .returned (.bool (plainN x)) ∧ w' = w := by
  go_enter Try.func65, Try.ntmps65
  go_wp2
  all_goals
    go_ret
    refine ⟨ret_bool ?_, rfl⟩
    rw [Bool.eq_iff_iff]
    simp [plainN]
    omega

set_option maxRecDepth 100000 in
set_option maxHeartbeats 1000000 in
theorem plain_any (x : Nat) (w : World) (h : x < 256) : Calls Try.prog 52 #[.int .u8 x] w fun e w' => e = .returned (.bool (plainN x)) ∧ w' = w := by
  go_enter Try.func52, Try.ntmps52
  go_wp2
  all_goals
    go_ret
    refine ⟨ret_bool ?_, rfl⟩
    rw [Bool.eq_iff_iff]
    simp [plainN]
    omega

end Go.Proofs.Ytfoedamnlhkpiaa
