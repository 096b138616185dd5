import Derived.Test.YtggakcalcmjolaaWpack3
namespace Go.Proofs.Ytggakcalcmjolaa
open Go.RowKit

set_option maxRecDepth 100000 in
set_option maxHeartbeats 1000000 in
theorem run_any (w0 w : World) (v : Value) (ys : List UInt8) (a : Option Addr) (xs : List UInt8) (cap : Nat) (hm : xs.length ≤ 1000000) (hym : ys.length ≤ 1000000) (hcap : xs.length ≤ cap) (hcm : cap ≤ maxLen)
    (hb : Bts w0 a xs) (hbl : Below w0.heap.size w0 w) (ho : Own w0.heap.size w v ys) :
    Calls Try.prog 69 #[v, .slice a xs.length cap] w fun e w' => ∃ v', e = .returned v' ∧ Own w0.heap.size w' v' (ys ++ runOf xs) ∧ Below w0.heap.size w0 w' := by
  unfold maxLen at hcm
  go_enter Try.func69, Try.ntmps69
  go_wp2
  go_loopw [0, 1, 5] (fun o l _ wr => ∃ (n c : Nat) (al : Option Addr) (ls zs : List UInt8), n ≤ c ∧ c ≤ 9223372036854775807 ∧ l = .slice al n c ∧ Hid (n = ls.length) ∧ n ≤ 1000000 ∧ Bts w0 al ls ∧ Own w0.heap.size wr o zs ∧ Hid (zs ++ runOf ls = ys ++ runOf xs) ∧ Below w0.heap.size w0 wr) (fun _ l _ _ => match l with | .slice _ n _ => n | _ => 0)
  case atStart => exact ⟨xs.length, cap, a, xs, ys, hcap, hcm, rfl, rfl, hm, hb, ho, rfl, hbl⟩
  case round =>
    clear hbl ho
    obtain ⟨n, c, al, ls, zs, hnc, hc63, rfl, HN, hn6, hbl0, ho, HR, hbl⟩ := hrel
    have HM : Hid (zs.length ≤ ys.length + 2 * xs.length) := by
      have h1 := congrArg List.length HR.out
      rw [List.length_append, List.length_append] at h1
      have h2 := runOf_length xs
      show _ ≤ _
      omega
    by_cases hlt : 0 < n
    · obtain ⟨b, off, rfl, hc⟩ := hbl0 0 (by rw [← HN.out]; exact hlt)
      clear hc
      have hstep : Hid (runOf ls = UInt8.ofNat (min ls.length 128 - 1) :: (ls.take 128 ++ runOf (ls.drop 128))) := runOf_step (by have := HN.out; omega)
      by_cases hn : 128 < n
      · have hs1 := src_one wr (z := 127) (by omega) (by omega)
        have hn' : (128 : Int) < (n : Int) := by omega
        have ho1 := ho.alloc (.cells #[.int .u8 127] 5)
        have hbl1 := hbl.alloc hbl.size (.cells #[.int .u8 127] 5)
        go_wp2_with (at_builtin; refine wpApp rfl (.tmp 13) (.tmp 17) 22 rfl w0.heap.size _ zs rfl ho1 _ _ rfl 1 hs1 (by have := HM.out; simp; omega) hbl1.size ?_)
        intro v2 w2 z2 e2 o2 g2
        have b2 := below_own hbl1 ho1 g2 (Nat.le_refl _)
        have hb2 := (hbl0.carry b2).sub 0 128
        have L2 : Hid (z2.length = zs.length + 1) := by show _ = _; rw [e2.out]; simp
        have hs2 : ∀ m c, m = 128 → Src Try.prog 1 22 (.slice (some ⟨b, off, none⟩) m c) m (cells (ls.take 128)) w2 := fun m c hm => src_bts Try.underlying22 hb2 (by have := HN.out; simp; omega)
        clear g2 ho1 hbl1 hs1 ho hb2
        go_wp2_with (at_builtin; go_must (refine wpApp rfl (.tmp 19) (.tmp 22) 22 rfl w0.heap.size _ z2 rfl o2 _ (ls.take 128) rfl _ (hs2 _ _ (by omega)) (by have := HM.out; have := L2.out; simp; omega) b2.size ?_))
        intro v3 w3 z3 e3 o3 g3
        have b3 := below_own b2 o2 g3 (Nat.le_refl _)
        have HR2 : Hid (z3 ++ runOf (ls.drop 128) = ys ++ runOf xs) := by
          rw [e3.out, e2.out, ← HR.out, hstep.out, show min ls.length 128 - 1 = 127 from by have := HN.out; omega]
          simp [Hid]
        have hb3 := hbl0.from 128
        have HN2 : Hid (n - 128 = (ls.drop 128).length) := by show _ = _; rw [List.length_drop, ← HN.out]
        clear g3 o2 b2 hs2
        go_wp2
        go_roundw
        case rel => exact ⟨n - 128, c - 128, _, ls.drop 128, z3, by omega, by omega, rfl, HN2, by omega, hb3, o3, HR2, b3⟩
        case measure => simp; omega
      · have hn' : ¬ (128 : Int) < (n : Int) := by omega
        have hs1 := src_one wr (z := (n : Int) - 1) (by omega) (by omega)
        have ho1 := ho.alloc (.cells #[.int .u8 ((n : Int) - 1)] 5)
        have hbl1 := hbl.alloc hbl.size (.cells #[.int .u8 ((n : Int) - 1)] 5)
        go_wp2_with (at_builtin; refine wpApp rfl (.tmp 13) (.tmp 17) 22 rfl w0.heap.size _ zs rfl ho1 _ _ rfl 1 hs1 (by have := HM.out; simp; omega) hbl1.size ?_)
        intro v2 w2 z2 e2 o2 g2
        have b2 := below_own hbl1 ho1 g2 (Nat.le_refl _)
        have hb2 := hbl0.carry b2
        have L2 : Hid (z2.length = zs.length + 1) := by show _ = _; rw [e2.out]; simp
        have hs2 : ∀ m c, m = n → Src Try.prog 1 22 (.slice (some ⟨b, off, none⟩) m c) m (cells ls) w2 := fun m c hm => src_bts Try.underlying22 hb2 (by have := HN.out; omega)
        clear g2 ho1 hbl1 hs1 ho hb2
        go_wp2_with (at_builtin; go_must (refine wpApp rfl (.tmp 19) (.tmp 22) 22 rfl w0.heap.size _ z2 rfl o2 _ ls rfl _ (hs2 _ _ (by omega)) (by have := HM.out; have := L2.out; have := HN.out; omega) b2.size ?_))
        intro v3 w3 z3 e3 o3 g3
        have b3 := below_own b2 o2 g3 (Nat.le_refl _)
        have HR2 : Hid (z3 ++ runOf [] = ys ++ runOf xs) := by
          have h1 : ls.drop 128 = [] := List.drop_of_length_le (by have := HN.out; omega)
          have h2 : ls.take 128 = ls := List.take_of_length_le (by have := HN.out; omega)
          rw [e3.out, e2.out, ← HR.out, hstep.out, h1, h2, show min ls.length 128 - 1 = ((n : Int) - 1).toNat from by have := HN.out; omega]
          simp [Hid]
        clear g3 o2 b2 hs2
        by_cases hcn : c = n
        · subst hcn
          go_wp2
          go_roundw
          case rel => exact ⟨0, 0, some ⟨b, off, none⟩, [], z3, by omega, by omega, by simp, rfl, by omega, Bts.nil _ _, o3, HR2, b3⟩
          case measure => simp; omega
        · have hcn' : 0 < c - n := by omega
          go_wp2
          go_roundw
          case rel => exact ⟨0, c - n, some ⟨b, off + n, none⟩, [], z3, by omega, by omega, by simp, rfl, by omega, Bts.nil _ _, o3, HR2, b3⟩
          case measure => simp; omega
    · have h0 : ls = [] := List.eq_nil_of_length_eq_zero (by have := HN.out; omega)
      have HE : Hid (zs = ys ++ runOf xs) := by
        have h := HR.out
        rw [h0, runOf_nil, List.append_nil] at h
        exact h
      obtain rfl := HE.out
      clear HR HE h0
      go_wp2
      go_ret
      exact ⟨_, rfl, ho, hbl⟩

end Go.Proofs.Ytggakcalcmjolaa
