import Derived.Test.YtgncohclofdhmaaGreatWsum
import Derived.Test.YtgncohclofdhmaaGreatMall
import Derived.Lib.Strings
import Derived.Deep.QuietTactic
import Derived.BigQuiet
namespace Go.Proofs.YtgncohclofdhmaaGreat
open Go.RowKit

theorem strGet (s : ByteArray) (k : Nat) (h : k < s.size) : s[k] = s.data.toList.getD k 0 := by
  have h' : k < s.data.toList.length := by simpa using h
  rw [List.getD_eq_getElem?_getD, List.getElem?_eq_getElem h']
  rfl

theorem strLen (s : ByteArray) : s.data.toList.length = s.size := by simp

theorem drewN3 (w : World) (a b c : Nat) : ((w.drewN a).drewN b).drewN c = w.drewN (a + b + c) := by simp

theorem nat_ne {x y : UInt8} (h : ((x.toNat : Int) != (y.toNat : Int)) = true) : x ≠ y := by
  rintro rfl
  simp at h

theorem nat_eq {x y : UInt8} (h : ((x.toNat : Int) != (y.toNat : Int)) = false) : x = y := by
  have : x.toNat = y.toNat := by simp at h; omega
  exact UInt8.toNat_inj.1 this

set_option maxRecDepth 100000 in
set_option maxHeartbeats 1000000 in
theorem before_any (s t : ByteArray) (w : World) (hs : s.size ≤ maxLen) (ht : t.size ≤ maxLen) :
    Calls Tryz.prog 78 #[.string s, .string t] w fun e w' => e = .returned (.bool (lexB s.data.toList t.data.toList)) ∧ ∃ n, w' = w.drewN n := by
  unfold maxLen at hs ht
  have HS := hide (strLen s)
  have HT := hide (strLen t)
  go_enter Tryz.func78, Tryz.ntmps78
  go_wp2
  go_loopw [5] (fun i wr => ∃ k : Nat, k ≤ s.size ∧ k ≤ t.size ∧ i = .int .i64 k ∧ Hid (∀ j, j < k → s.data.toList.getD j 0 = t.data.toList.getD j 0) ∧ ∃ n, wr = w.drewN n) (fun i _ => s.size - (intOf i).toNat)
  case atStart => exact ⟨0, by omega, by omega, rfl, fun j hj => absurd hj (Nat.not_lt_zero j), 0, rfl⟩
  case round =>
    obtain ⟨k, hk, hk2, rfl, HA, n, rfl⟩ := hrel
    by_cases h1 : k < s.size
    · by_cases h2 : k < t.size
      · have HG := hide (strGet s k h1)
        have HG2 := hide (strGet t k h2)
        have HP := hide (lexB_part s.data.toList t.data.toList k HA.out (by rw [HS.out]; exact h1) (by rw [HT.out]; exact h2))
        rw [← HG.out, ← HG2.out] at HP
        have HA2 : Hid (s[k] = t[k] → ∀ j, j < k + 1 → s.data.toList.getD j 0 = t.data.toList.getD j 0) := by
          intro h j hj
          by_cases e : j = k
          · subst e; rw [← HG.out, ← HG2.out]; exact h
          · exact HA.out j (by omega)
        have hg1 : (k : Int) < (s.size : Int) := by omega
        have hg2 : (k : Int) < (t.size : Int) := by omega
        go_wp2
        go_quiet (fail)
        go_wp2
        · have h : ((s[k].toNat : Int) != (t[k].toNat : Int)) = true := by assumption
          have HF := hide (HP.out (nat_ne h))
          clear h
          go_quiet (fail)
          go_wp2
          go_ret
          refine ⟨ret_bool ?_, _, drewN3 w _ _ _⟩
          rw [HF.out]
        · have h : ((s[k].toNat : Int) != (t[k].toNat : Int)) = false := by assumption
          have HA3 := hide (HA2.out (nat_eq h))
          go_roundw
          case rel => exact ⟨k + 1, by omega, by omega, by go_num, HA3, _, rfl⟩
          case measure => simp [intOf]; omega
      · have HF : Hid (lexB s.data.toList t.data.toList = decide (s.size < t.size)) := by
          have := lexB_end s.data.toList t.data.toList k HA.out (by rw [HS.out]; omega) (by rw [HT.out]; omega) (.inr (by rw [HT.out]; omega))
          rw [HS.out, HT.out] at this
          exact this
        have hg2 : ¬ (k : Int) < (t.size : Int) := by omega
        go_wp2
        go_ret
        refine ⟨ret_bool ?_, _, rfl⟩
        rw [HF.out]
    · have HF : Hid (lexB s.data.toList t.data.toList = decide (s.size < t.size)) := by
        have := lexB_end s.data.toList t.data.toList k HA.out (by rw [HS.out]; omega) (by rw [HT.out]; omega) (.inl (by rw [HS.out]; omega))
        rw [HS.out, HT.out] at this
        exact this
      have hg1 : ¬ (k : Int) < (s.size : Int) := by omega
      go_wp2
      go_ret
      refine ⟨ret_bool ?_, _, rfl⟩
      rw [HF.out]

set_option maxRecDepth 100000 in
set_option maxHeartbeats 1000000 in
theorem under_any (s t : ByteArray) (w : World) (hs : s.size ≤ maxLen) (ht : t.size ≤ maxLen) :
    Calls Tryz.prog 100 #[.string s, .string t] w fun e w' => e = .returned (.bool (underB s.data.toList t.data.toList)) ∧ w' = w := by
  have hs63 : s.size ≤ 9223372036854775807 := by unfold maxLen at hs; omega
  unfold maxLen at ht
  have HS := hide (strLen s)
  have HT := hide (strLen t)
  by_cases h1 : t.size < s.size
  · have ex : (s.extract 0 t.size).toList = s.data.toList.take t.size := by rw [Lib.extract_toList]; simp
    have et : t.toList = t.data.toList := ByteArray.toList_eq t
    have HG := hide (strGet s t.size h1)
    by_cases h2 : s.data.toList.take t.size = t.data.toList
    · have h2' : ((s.extract 0 t.size).toList == t.toList) = true := by rw [ex, et, h2]; simp
      have HE : Hid (underB s.data.toList t.data.toList = decide ((s[t.size]).toNat = 47)) := by
        show _ = _
        unfold underB
        rw [HS.out, HT.out, ← HG.out]
        simp [h1, h2]
      clear ex et h2
      go_enter Tryz.func100, Tryz.ntmps100
      go_wp2
      go_ret
      refine ⟨ret_bool ?_, rfl⟩
      rw [HE.out, Bool.eq_iff_iff]
      simp
      try omega
    · have h2' : ((s.extract 0 t.size).toList == t.toList) = false := by rw [ex, et, beq_eq_false_iff_ne]; exact h2
      have HE : Hid (underB s.data.toList t.data.toList = false) := by
        show _ = _
        unfold underB
        rw [HT.out]
        simp [h2]
      clear ex et h2
      go_enter Tryz.func100, Tryz.ntmps100
      go_wp2
      go_ret
      exact ⟨ret_bool HE.out.symm, rfl⟩
  · have HE : Hid (underB s.data.toList t.data.toList = false) := by
      show _ = _
      unfold underB
      rw [HS.out, HT.out]
      simp [h1]
    go_enter Tryz.func100, Tryz.ntmps100
    go_wp2
    go_ret
    exact ⟨ret_bool HE.out.symm, rfl⟩

end Go.Proofs.YtgncohclofdhmaaGreat
