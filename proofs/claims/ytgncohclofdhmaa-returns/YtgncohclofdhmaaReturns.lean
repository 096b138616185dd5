import Derived.Test.YtgncohclofdhmaaWcut
import Derived.Test.YtgncohclofdhmaaWuna
import Derived.Test.YtgncohclofdhmaaWsame2
import Derived.Test.YtgncohclofdhmaaMall
namespace Go.Proofs.Ytgncohclofdhmaa
open Go.RowKit

set_option maxRecDepth 100000 in
set_option maxHeartbeats 1000000 in
theorem Returns_walk (a : Option Addr) (xs : List UInt8) (cap : Nat) (w : World) (hm : xs.length ≤ 140737488355328 - 4096) (hcap : xs.length ≤ cap) (hcm : cap ≤ maxLen) (hb : Bts w a xs) :
    Calls Try.prog 12 #[.slice a xs.length cap] w fun e w' => e = .returned (.bool true) ∧ Below w.heap.size w w' := by
  obtain ⟨ys, HY⟩ : ∃ ys, Hid (ys = xs.take 600) := ⟨_, rfl⟩
  have hyl : ys.length ≤ 600 := by rw [HY.out]; simp; omega
  have HP : Hid (packBytes ys = packOf ys ∧ packErr ys = 0) := ⟨by simp [packBytes, hyl], by simp [packErr, hyl]⟩
  have HU := hide (unOf_packOf ys hyl)
  have hbd := packOf_bound ys
  have hso := packOf_some ys hyl
  go_enter Try.func12, Try.ntmps12
  go_wp2_with fail
  refine (cut_any a xs cap _ (by omega) hcap hcm hb).mono ?_
  rintro e w1 ⟨v1, rfl, o1, b1⟩
  rw [← HY.out] at o1
  obtain ⟨a1, c1, rfl, hb1, hc1, hm1⟩ := o1.shape
  go_wp2_with fail
  refine (cut_any a xs cap _ (by omega) hcap hcm (hb.carry b1)).mono ?_
  rintro e w2 ⟨v2, rfl, o2, b2⟩
  rw [← HY.out] at o2
  obtain ⟨a2, c2, rfl, hb2, hc2, hm2⟩ := o2.shape
  have b12 := b1.trans (b2.mono b1.size)
  have hb12 := hb1.carry b2
  clear b1 b2 o1 o2 hb1
  go_wp2_with fail
  refine (Pack_any a2 ys c2 _ (by omega) hc2 hm2 hb2).mono ?_
  rintro e w3 ⟨v3, rfl, o3, b3⟩
  rw [HP.out.1] at o3
  rw [HP.out.2]
  obtain ⟨a3, c3, rfl, hb3, hc3, hm3⟩ := o3.shape
  have b13 := b12.trans (b3.mono b12.size)
  have hb13 := hb12.carry b3
  clear b3 o3 hb12 hb2 b12
  obtain ⟨ps, HPs⟩ : ∃ ps, Hid (ps = packOf ys) := ⟨_, rfl⟩
  rw [← HPs.out] at hb3 hc3 hbd hso ⊢
  have HU2 : Hid (unOf ps = (ys, 0)) := by show _ = _; rw [HPs.out]; exact HU.out
  clear HU
  go_wp2_with fail
  refine (Unpack_any a3 ps c3 _ (by omega) hc3 hm3 hb3).mono ?_
  rintro e w4 ⟨v4, rfl, o4, b4⟩
  rw [HU2.out] at o4 ⊢
  obtain ⟨a4, c4, rfl, hb4, hc4, hm4⟩ := o4.shape
  have b14 := b13.trans (b4.mono b13.size)
  have hb14 := hb13.carry b4
  clear b4 o4 b13 hb13
  go_wp2_with fail
  refine (same_any a4 a1 ys ys c4 c1 _ (by omega) (by omega) hb4 hb14).mono ?_
  rintro e w5 ⟨rfl, b5⟩
  rw [eqB_true]
  have b15 := b14.trans (b5.mono b14.size)
  clear b5 b14
  have hd1 : decide ((ps.length : Int) ≤ (ys.length : Int) + 1 + (ys.length : Int) / 128) = true := by simp; omega
  by_cases h0 : 0 < ps.length
  · have hd2 : decide ((0 : Int) < (ps.length : Int)) = true := decide_eq_true (by omega)
    clear hso
    go_wp2
    go_ret
    exact ⟨rfl, b15⟩
  · have hd2 : decide ((0 : Int) < (ps.length : Int)) = false := decide_eq_false (by omega)
    have hy0 := hso (by omega)
    have hd3 : ((ys.length : Int) == 0) = true := beq_iff_eq.2 (by omega)
    clear hso hy0
    go_wp2
    go_ret
    exact ⟨rfl, b15⟩

end Go.Proofs.Ytgncohclofdhmaa
