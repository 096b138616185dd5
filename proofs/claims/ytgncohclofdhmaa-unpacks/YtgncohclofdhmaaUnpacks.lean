import Derived.Test.YtgncohclofdhmaaWuna
import Derived.Test.YtgncohclofdhmaaWsame
import Derived.Test.YtgncohclofdhmaaWsum2
namespace Go.Proofs.Ytgncohclofdhmaa
open Go.RowKit

set_option maxHeartbeats 800000 in
theorem Unpacks_walk (a : Option Addr) (xs : List UInt8) (cap : Nat) (w : World) (hm : xs.length ≤ 140737488355328 - 4096) (hcap : xs.length ≤ cap) (hcm : cap ≤ maxLen) (hb : Bts w a xs) :
    Calls Try.prog 5 #[.slice a xs.length cap] w fun e w' => e = .returned (.bool true) ∧ Below w.heap.size w w' := by
  have hpl : (unOf xs).1.length ≤ 140737488355328 := by have := unOf_length xs; omega
  go_enter Try.func5, Try.ntmps5
  go_wp2_with fail
  refine (own_any a xs cap _ (by omega) hb).mono ?_
  rintro e w1 ⟨v1, rfl, o1, b1⟩
  obtain ⟨a1, c1, rfl, hb1, hc1, hm1⟩ := o1.shape
  clear o1
  go_wp2_with fail
  refine (Unpack_any a1 xs c1 _ (by omega) hc1 hm1 hb1).mono ?_
  rintro e w2 ⟨v2, rfl, o2, b2⟩
  have b12 := b1.trans (b2.mono b1.size)
  obtain ⟨a2, c2, rfl, hb2, -, -⟩ := o2.shape
  clear b1 b2 hb1 o2
  go_wp2_with fail
  refine (refUnpack_any a xs cap _ (by omega) hcap hcm (hb.carry b12)).mono ?_
  rintro e w3 ⟨v3, rfl, o3, b3⟩
  have b13 := b12.trans (b3.mono b12.size)
  have hb23 := hb2.carry b3
  obtain ⟨a3, c3, rfl, hb3, -, -⟩ := o3.shape
  clear b12 b3 hb2 o3
  go_wp2_with fail
  refine (sameBytes_any a2 a3 (unOf xs).1 (unOf xs).1 c2 c3 _ hpl hpl hb23 hb3).mono ?_
  rintro e w4 ⟨rfl, b4⟩
  have b14 := b13.trans (b4.mono b13.size)
  rw [eqB_true]
  go_wp2
  go_ret
  exact ⟨rfl, b14⟩

end Go.Proofs.Ytgncohclofdhmaa
