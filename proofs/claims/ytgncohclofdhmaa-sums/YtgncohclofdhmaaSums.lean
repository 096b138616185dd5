import Derived.Test.YtgncohclofdhmaaWsma
namespace Go.Proofs.Ytgncohclofdhmaa
open Go.RowKit

set_option maxHeartbeats 800000 in
theorem Sums_walk (s : ByteArray) (a : Option Addr) (xs : List UInt8) (cap : Nat) (w : World) (hs : s.size ≤ maxLen) (hm : xs.length ≤ 140737488355328 - 4096) (hb : Bts w a xs) :
    Calls Try.prog 3 #[.string s, .slice a xs.length cap] w fun e w' => e = .returned (.bool true) ∧ Below w.heap.size w w' := by
  go_enter Try.func3, Try.ntmps3
  go_wp2_with fail
  refine (own_any a xs cap _ (by omega) hb).mono ?_
  rintro e w1 ⟨v1, rfl, o1, b1⟩
  obtain ⟨a1, c1, rfl, hb1, -, -⟩ := o1.shape
  clear o1
  go_wp2_with fail
  refine (Sum_any a1 xs c1 _ (by omega) hb1).mono ?_
  rintro e w1' ⟨rfl, rfl⟩
  go_wp2_with fail
  refine (refSum_any a xs cap _ (by omega) (hb.carry b1)).mono ?_
  rintro e w2 ⟨rfl, b2⟩
  have b12 := b1.trans (b2.mono b1.size)
  clear b1 b2 hb1
  go_wp2_with fail
  refine (own_any a xs cap _ (by omega) (hb.carry b12)).mono ?_
  rintro e w3 ⟨v3, rfl, o3, b3⟩
  obtain ⟨a3, c3, rfl, hb3, -, -⟩ := o3.shape
  have b13 := b12.trans (b3.mono b12.size)
  clear o3 b12 b3
  go_wp2_with fail
  refine (Tag_any s a3 xs c3 _ hs (by omega) hb3).mono ?_
  rintro e w3' ⟨rfl, rfl⟩
  go_wp2_with fail
  refine (refTag_any s a xs cap _ hs hm (hb.carry b13)).mono ?_
  rintro e w4 ⟨rfl, b4⟩
  have b14 := b13.trans (b4.mono b13.size)
  go_wp2
  go_ret
  exact ⟨rfl, b14⟩

end Go.Proofs.Ytgncohclofdhmaa
