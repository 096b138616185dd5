import Derived.Test.YtgncohclofdhmaaGreatWpath1
namespace Go.Proofs.YtgncohclofdhmaaGreat
open Go.RowKit

theorem str_get (s : ByteArray) (k : Nat) (h : k < s.size) : s[k] = s.data.toList.getD k 0 := by
  have h' : k < s.data.toList.length := by simpa using h
  rw [List.getD_eq_getElem?_getD, List.getElem?_eq_getElem h']
  rfl

theorem str_len (s : ByteArray) : s.data.toList.length = s.size := by simp

set_option maxRecDepth 100000 in
set_option maxHeartbeats 1000000 in
theorem isPathPiece_any (s : ByteArray) (w : World) (hs : s.size ≤ maxLen) : Calls Tryz.prog 46 #[.string s] w fun e w' => e = .returned (.bool (okPiece s.data.toList)) ∧ w' = w := by
  unfold maxLen at hs
  have hl := str_len s
  have HLe := hide hl
  have et : s.toList = s.data.toList := ByteArray.toList_eq s
  by_cases h1 : s.data.toList = []
  · have HE := hide (okPiece_no (.inl h1))
    have h1' : s.toList.isEmpty = true := by rw [et, h1]; rfl
    clear hl et h1
    go_enter Tryz.func46, Tryz.ntmps46
    go_wp2
    go_ret
    exact ⟨ret_bool HE.out.symm, rfl⟩
  · have h1' : s.toList.isEmpty = false := by
      rw [et]
      cases h : s.data.toList with
      | nil => exact absurd h h1
      | cons x r => rfl
    by_cases h2 : s.data.toList = [46]
    · have HE := hide (okPiece_no (.inr (.inl h2)))
      have h2' : (s.toList == [46]) = true := by rw [et, h2]; rfl
      clear hl et h1 h2
      go_enter Tryz.func46, Tryz.ntmps46
      go_wp2
      go_ret
      exact ⟨ret_bool HE.out.symm, rfl⟩
    · have h2' : (s.toList == [46]) = false := by rw [et, beq_eq_false_iff_ne]; exact h2
      by_cases h3 : s.data.toList = [46, 46]
      · have HE := hide (okPiece_no (.inr (.inr h3)))
        have h3' : (s.toList == [46, 46]) = true := by rw [et, h3]; rfl
        clear hl et h1 h2 h3
        go_enter Tryz.func46, Tryz.ntmps46
        go_wp2
        go_ret
        exact ⟨ret_bool HE.out.symm, rfl⟩
      · have HE := hide (okPiece_yes h1 h2 h3)
        have h3' : (s.toList == [46, 46]) = false := by rw [et, beq_eq_false_iff_ne]; exact h3
        clear hl et h1 h2 h3
        go_enter Tryz.func46, Tryz.ntmps46
        go_wp2
        go_loop [3] (fun i => ∃ k : Nat, k ≤ s.size ∧ i = .int .i64 k ∧ Hid (∀ j, j < k → plainN (s.data.toList.getD j 0).toNat = true)) (fun i => s.size - (intOf i).toNat)
        case atStart => exact ⟨0, by omega, rfl, fun j hj => absurd hj (Nat.not_lt_zero j)⟩
        case round =>
          obtain ⟨k, hk, rfl, HA⟩ := hrel
          by_cases hlt : k < s.size
          · have hg := str_get s k hlt
            have hx := (s[k]).toNat_lt
            have HG := hide hg
            clear hg
            cases hp : plainN (s[k]).toNat
            · have HF : Hid (okPiece s.data.toList = false) := by
                show _ = _
                rw [HE.out]
                exact plainAll_false (i := k) (by rw [HLe.out]; exact hlt) (by rw [← HG.out]; exact hp)
              have hpc := isPieceByte_any (s[k]).toNat
              rw [hp] at hpc
              have HP := hide hpc
              clear hpc hp
              go_wp2_with (go_at_call 73; refine (unhide HP _ hx).mono ?_; rintro e w' ⟨rfl, rfl⟩)
              go_ret
              exact ⟨ret_bool HF.out.symm, rfl⟩
            · have HA2 : Hid (∀ j, j < k + 1 → plainN (s.data.toList.getD j 0).toNat = true) := by
                intro j hj
                by_cases e : j = k
                · subst e; rw [← HG.out]; exact hp
                · exact HA.out j (by omega)
              have hpc := isPieceByte_any (s[k]).toNat
              rw [hp] at hpc
              have HP := hide hpc
              clear hpc hp
              go_wp2_with (go_at_call 73; refine (unhide HP _ hx).mono ?_; rintro e w' ⟨rfl, rfl⟩)
              go_round
              case rel => exact ⟨k + 1, by omega, by go_num, HA2⟩
              case measure => simp [intOf]; omega
          · have HF : Hid (okPiece s.data.toList = true) := by
              show _ = _
              rw [HE.out]
              exact plainAll_true fun i hi => HA.out i (by rw [HLe.out] at hi; omega)
            go_wp2
            go_ret
            exact ⟨ret_bool HF.out.symm, rfl⟩

set_option maxRecDepth 100000 in
set_option maxHeartbeats 1000000 in
theorem isPath_any (s : ByteArray) (w : World) (hs : s.size ≤ maxLen) : Calls Tryz.prog 16 #[.string s] w fun e w' => e = .returned (.bool (pathB s.data.toList)) ∧ w' = w := by
  unfold maxLen at hs
  have HLe := hide (str_len s)
  by_cases h40 : s.size ≤ 40
  · have HE : Hid (pathB s.data.toList = okAll (splitGo [] s.data.toList)) := by
      show _ = _
      unfold pathB
      rw [HLe.out]
      simp [h40]
    go_enter Tryz.func16, Tryz.ntmps16
    go_wp2
    go_loop [3, 4] (fun b i => ∃ k f : Nat, k ≤ s.size ∧ f ≤ k ∧ i = .int .i64 k ∧ b = .int .i64 f ∧ Hid (okAll (splitGo ((s.data.toList.drop f).take (k - f)) (s.data.toList.drop k)) = pathB s.data.toList)) (fun _ i => s.size - (intOf i).toNat)
    case atStart => exact ⟨0, 0, by omega, by omega, rfl, rfl, by show _ = _; rw [HE.out]; rfl⟩
    case round =>
      obtain ⟨k, f, hk, hfk, rfl, rfl, HR⟩ := hrel
      by_cases hlt : k < s.size
      · have hx := (s[k]).toNat_lt
        have HG := hide (str_get s k hlt)
        by_cases h47 : (s[k]).toNat = 47
        · have h47' : ((s[k].toNat : Int) != 47) = false := by simp; omega
          have H47 := hide h47
          have hsp := split_slash ((s.data.toList.drop f).take (k - f)) s.data.toList k (by rw [HLe.out]; exact hlt) (by rw [← HG.out]; exact h47)
          have hR := HR.out
          rw [hsp, okAll_cons] at hR
          have ex : (s.extract f k).data.toList = (s.data.toList.drop f).take (k - f) := Lib.extract_data s f k
          rw [← ex] at hR
          have HR2 := hide hR
          have hpc := isPathPiece_any (s.extract f k)
          have hsx : (s.extract f k).size ≤ maxLen := by
            have h1 := str_len (s.extract f k)
            rw [Lib.extract_data s f k] at h1
            have h2 : ((s.data.toList.drop f).take (k - f)).length ≤ s.size := by
              have := str_len s
              simp
              omega
            unfold maxLen
            omega
          clear hR hsp HR h47 ex
          have HPC := hide (hpc w hsx)
          clear hpc hsx
          go_wp2_with fail
          refine (unhide HPC).mono ?_
          rintro e w' ⟨rfl, rfl⟩
          cases hok : okPiece (s.extract f k).data.toList
          · have HF : Hid (pathB s.data.toList = false) := by
              have h := HR2.out
              rw [hok] at h
              exact h.symm
            clear hok
            go_wp2
            go_ret
            exact ⟨ret_bool HF.out.symm, rfl⟩
          · have HR3 : Hid (okAll (splitGo ((s.data.toList.drop (k + 1)).take (k + 1 - (k + 1))) (s.data.toList.drop (k + 1))) = pathB s.data.toList) := by
              have h := HR2.out
              rw [hok, Bool.true_and] at h
              show _ = _
              rw [Nat.sub_self, List.take_zero]
              exact h
            clear hok
            go_wp2
            go_round
            case rel => exact ⟨k + 1, k + 1, by omega, by omega, by go_num, by go_num, HR3⟩
            case measure => simp [intOf]; omega
        · have h47' : ((s[k].toNat : Int) != 47) = true := by simp; omega
          have HR2 : Hid (okAll (splitGo ((s.data.toList.drop f).take (k + 1 - f)) (s.data.toList.drop (k + 1))) = pathB s.data.toList) := by
            show _ = _
            rw [part_more _ f k hfk (by rw [HLe.out]; exact hlt), ← split_more _ _ _ (by rw [HLe.out]; exact hlt) (by rw [← HG.out]; exact h47)]
            exact HR.out
          clear h47
          go_wp2
          go_round
          case rel => exact ⟨k + 1, f, by omega, by omega, by go_num, rfl, HR2⟩
          case measure => simp [intOf]; omega
      · have HR2 : Hid (okPiece (s.extract f s.size).data.toList = pathB s.data.toList) := by
          have h := HR.out
          have hk' : k = s.size := by omega
          rw [split_end _ _ _ (by rw [HLe.out]; omega), okAll_cons, hk'] at h
          show _ = _
          rw [Lib.extract_data s f s.size, ← h]
          simp [okAll]
        have hpc := isPathPiece_any (s.extract f s.size)
        have hsx : (s.extract f s.size).size ≤ maxLen := by
          have h1 := str_len (s.extract f s.size)
          rw [Lib.extract_data s f s.size] at h1
          have h2 : ((s.data.toList.drop f).take (s.size - f)).length ≤ s.size := by
            have := str_len s
            simp
          unfold maxLen
          omega
        have HPC := hide (hpc w hsx)
        clear HR hpc hsx
        go_wp2_with fail
        refine (unhide HPC).mono ?_
        rintro e w' ⟨rfl, rfl⟩
        rw [HR2.out]
        go_wp2
        go_ret
        exact ⟨rfl, rfl⟩
  · have HE : Hid (pathB s.data.toList = false) := by
      show _ = _
      unfold pathB
      rw [HLe.out]
      simp [h40]
    go_enter Tryz.func16, Tryz.ntmps16
    go_wp2
    go_ret
    exact ⟨ret_bool HE.out.symm, rfl⟩

def pathErr (s : ByteArray) : Nat := if pathB s.data.toList then 0 else 4

set_option maxHeartbeats 400000 in
theorem Path_any (s : ByteArray) (w : World) (hs : s.size ≤ maxLen) : Calls Tryz.prog 7 #[.string s] w fun e w' => e = .returned (.int .i64 (pathErr s : Nat)) ∧ w' = w := by
  have hp := isPath_any s w hs
  cases h : pathB s.data.toList
  · have HE : Hid (pathErr s = 4) := by simp [Hid, pathErr, h]
    rw [h] at hp
    have HP := hide hp
    clear hp h
    go_enter Tryz.func7, Tryz.ntmps7
    go_wp2_with (go_at_call 16; refine (unhide HP).mono ?_; rintro e w' ⟨rfl, rfl⟩)
    go_ret
    exact ⟨ret_int (by rw [HE.out]; rfl), rfl⟩
  · have HE : Hid (pathErr s = 0) := by simp [Hid, pathErr, h]
    rw [h] at hp
    have HP := hide hp
    clear hp h
    go_enter Tryz.func7, Tryz.ntmps7
    go_wp2_with (go_at_call 16; refine (unhide HP).mono ?_; rintro e w' ⟨rfl, rfl⟩)
    go_ret
    exact ⟨ret_int (by rw [HE.out]; rfl), rfl⟩

end Go.Proofs.YtgncohclofdhmaaGreat
