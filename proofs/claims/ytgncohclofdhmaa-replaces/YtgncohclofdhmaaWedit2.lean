import Derived.Test.YtgncohclofdhmaaWedit
namespace Go.Proofs.Ytgncohclofdhmaa
open Go.RowKit

set_option maxRecDepth 100000 in
set_option maxHeartbeats 2000000 in
theorem Drops_walk (HV : DropKeeps) (a : Option Addr) (p : List UInt8) (cap : Nat) (w : World) (key path : ByteArray) (hm : p.length ≤ 140737488351232) (hks : key.size ≤ maxLen) (hps : path.size ≤ maxLen) (hcap : p.length ≤ cap) (hcm : cap ≤ maxLen) (hb : Bts w a p) :
    Calls Try.prog 11 #[.slice a p.length cap, .string path, .string key] w fun e w' => e = .returned (.bool true) ∧ Below w.heap.size w w' := by
  obtain ⟨n, HN⟩ : ∃ n, Hid (n = p.length) := ⟨_, rfl⟩
  have K0 := hide (own_any a p cap w (by omega) hb)
  have K1 := hide (fun W (hW : Bts W a p) => refDrop_any a p cap W key path (by omega) hks hcap hcm hW)
  rw [← HN.out] at K0 K1 ⊢
  go_enter Try.func11, Try.ntmps11
  go_wp2_with fail
  refine K0.out.mono ?_
  rintro e w1 ⟨v1, rfl, o1, b1⟩
  obtain ⟨a1, c1, rfl, hb1, hc1, hcm1⟩ := o1.shape
  have K2 := hide (HV a1 p c1 w1 key path (by omega) hks hps hc1 hcm1 hb1)
  rw [← HN.out] at K2 ⊢
  go_wp2_with fail
  refine K2.out.mono ?_
  rintro e w2 ⟨v2, E2, rfl, A2, b2⟩
  have B2 := b1.trans (b2.mono b1.size)
  have HA2 := hide A2
  clear A2 K0 K2
  go_wp2_with fail
  refine (K1.out _ (hb.carry B2)).mono ?_
  rintro e w4 ⟨v4, E4, rfl, A4, b4⟩
  obtain ⟨rfl, xs, x, x', k, k', rfl, rfl, t1, t2, t3⟩ := drop_same HA2.out A4
  have T1 := t1.carry b4
  have B4 := B2.trans (b4.mono B2.size)
  clear HA2 A4 K1 t1
  go_wp2_with fail
  refine (sameBytes_any x x' xs xs k k' w4 (by omega) (by omega) T1 t2).mono ?_
  rintro e w5 ⟨rfl, b5⟩
  rw [eqB_true]
  have B5 := B4.trans (b5.mono B4.size)
  go_wp2
  go_ret
  exact ⟨rfl, B5⟩

end Go.Proofs.Ytgncohclofdhmaa
