import Derived.Test.YtgncohclofdhmabWpk
namespace Go.Proofs.Ytgncohclofdhmab
open Go.RowKit

set_option maxRecDepth 100000 in
set_option maxHeartbeats 400000 in
theorem cut_any (a : Option Addr) (xs : List UInt8) (cap : Nat) (w : World) (hm : xs.length ≤ 140737488355328) (hcap : xs.length ≤ cap) (hcm : cap ≤ maxLen) (hb : Bts w a xs) :
    Calls Try.prog 22 #[.slice a xs.length cap] w fun e w' => ∃ v, e = .returned v ∧ Own w.heap.size w' v (xs.take 600) ∧ Below w.heap.size w w' := by
  unfold maxLen at hcm
  by_cases h : 600 < xs.length
  · obtain ⟨b, off, rfl, hc⟩ := hb 0 (by omega)
    clear hc
    obtain ⟨ys, HY⟩ : ∃ ys, Hid (ys = xs.take 600) := ⟨_, rfl⟩
    have HYl : Hid (ys.length = 600) := by show _ = _; rw [HY.out]; simp; omega
    have hby : Bts w (some ⟨b, off, none⟩) ys := by
      have := hb.sub 0 600
      rw [HY.out]
      exact this
    rw [← HY.out]
    have hs2 : ∀ n c, n = 600 → Src Try.prog 1 25 (.slice (some ⟨b, off, none⟩) n c) n (cells ys) w := fun n c hn => src_bts Try.underlying25 hby (by have := HYl.out; omega)
    clear hby
    go_enter Try.func22, Try.ntmps22
    go_wp2_with (at_builtin; go_must (refine wpApp rfl (.tmp 7) (.tmp 9) 25 rfl w.heap.size (.slice none 0 0) [] rfl (Own.nil _ _) _ ys rfl _ (hs2 _ _ (by omega)) (by have := HYl.out; simp only [List.length_nil]; omega) (Nat.le_refl _) ?_))
    intro v' w' zs hz h1 h2
    have h3 := below_own (Below.refl _ _) (Own.nil w.heap.size w) h2 (Nat.le_refl _)
    obtain rfl : zs = ys := hz.out
    clear hz h2
    go_wp2
    go_ret
    exact ⟨v', rfl, h1, h3⟩
  · rw [List.take_of_length_le (by omega)]
    go_enter Try.func22, Try.ntmps22
    go_wp2_with (at_builtin; go_must (refine wpApp rfl (.tmp 11) (.tmp 12) 25 rfl w.heap.size (.slice none 0 0) [] rfl (Own.nil _ _) _ xs rfl xs.length (src_bts Try.underlying25 hb rfl) (by simpa using hm) (Nat.le_refl _) ?_))
    intro v' w' zs hz h1 h2
    have h3 := below_own (Below.refl _ _) (Own.nil w.heap.size w) h2 (Nat.le_refl _)
    obtain rfl : zs = xs := hz.out
    clear hz h2
    go_wp2
    go_ret
    exact ⟨v', rfl, h1, h3⟩

end Go.Proofs.Ytgncohclofdhmab
