import Derived.Test.YtggakcalcmjolabWpack5
namespace Go.Proofs.Ytggakcalcmjolab
open Go.RowKit

/-- The answers of Pack. -/
def packBytes (xs : List UInt8) : List UInt8 := if xs.length ≤ 600 then packOf xs else []
def packErr (xs : List UInt8) : Nat := if xs.length ≤ 600 then 0 else 7

set_option maxRecDepth 100000 in
set_option maxHeartbeats 400000 in
theorem Pack_any (a : Option Addr) (xs : List UInt8) (cap : Nat) (w : World) (hm : xs.length ≤ 140737488355328) (hcap : xs.length ≤ cap) (hcm : cap ≤ maxLen) (hb : Bts w a xs) :
    Calls Try.prog 22 #[.slice a xs.length cap] w fun e w' => ∃ v, e = .returned (.tuple #[v, .int .i64 (packErr xs : Nat)]) ∧ Own w.heap.size w' v (packBytes xs) ∧ Below w.heap.size w w' := by
  by_cases h : xs.length ≤ 600
  · have HB : Hid (packBytes xs = packOf xs ∧ packErr xs = 0) := ⟨by simp [packBytes, h], by simp [packErr, h]⟩
    rw [HB.out.1, HB.out.2]
    go_enter Try.func22, Try.ntmps22
    go_wp2_with (go_at_call 36; refine (packBody_any a xs cap _ (by omega) hcap hcm hb).mono ?_; rintro e w' ⟨v, rfl, o, b⟩)
    go_ret2
    exact ⟨v, rfl, o, b⟩
  · have HB : Hid (packBytes xs = [] ∧ packErr xs = 7) := ⟨by simp [packBytes, h], by simp [packErr, h]⟩
    rw [HB.out.1, HB.out.2]
    go_enter Try.func22, Try.ntmps22
    go_wp2
    go_ret2
    exact ⟨_, rfl, Own.nil _ _, Below.refl _ _⟩

end Go.Proofs.Ytggakcalcmjolab
