import Derived.Test.YtgncohclofdhmaaGreatWpath3
namespace Go.Proofs.YtgncohclofdhmaaGreat
open Go.RowKit

theorem listOf_get (ss : List ByteArray) (i : Nat) (h : i < ss.length) : (listOf ss).getD i [] = (ss.getD i ByteArray.empty).data.toList := by
  simp [listOf, h]

theorem split_len (r : List UInt8) : ∀ cur p, p ∈ splitGo cur r → p.length ≤ cur.length + r.length := by
  induction r with
  | nil => intro cur p hp; simp [splitGo] at hp; subst hp; omega
  | cons b r ih =>
    intro cur p hp
    rw [splitGo] at hp
    by_cases h : b.toNat = 47
    · rw [if_pos h] at hp
      rcases List.mem_cons.1 hp with rfl | h2
      · omega
      · have := ih [] p h2
        simp at this ⊢
        omega
    · rw [if_neg h] at hp
      have := ih _ p hp
      simp at this ⊢
      omega

theorem piece_len (ss : List ByteArray) (xs : List UInt8) (h : listOf ss = splitGo [] xs) (i : Nat) (hi : i < ss.length) : (ss.getD i ByteArray.empty).size ≤ xs.length := by
  have hm : (ss.getD i ByteArray.empty).data.toList ∈ listOf ss := by
    rw [← listOf_get ss i hi, List.getD_eq_getElem?_getD, List.getElem?_eq_getElem (by simpa [listOf] using hi)]
    exact List.getElem_mem _
  rw [h] at hm
  have := split_len xs [] _ hm
  rw [str_len] at this
  simpa using this

set_option maxRecDepth 100000 in
set_option maxHeartbeats 1000000 in
theorem pathFits_any (s : ByteArray) (w : World) (hs : s.size ≤ maxLen) : Calls Tryz.prog 17 #[.string s] w fun e w' => e = .returned (.bool (pathB s.data.toList)) ∧ Below w.heap.size w w' := by
  unfold maxLen at hs
  have HLe := hide (str_len s)
  by_cases h40 : s.size ≤ 40
  · by_cases h1 : 1 ≤ s.size
    · have HE : Hid (pathB s.data.toList = okAll (splitGo [] s.data.toList)) := by
        show _ = _
        unfold pathB
        rw [HLe.out]
        simp [h40]
      go_enter Tryz.func17, Tryz.ntmps17
      go_wp2_with fail
      refine (pieces_any s _ h40).mono ?_
      rintro e w1 ⟨v, ss, rfl, HS, hl41, hl0, ho, hbl⟩
      obtain ⟨g, cp, rfl, hBg, hgs, hcp, hcm⟩ := ho.shape hl0
      unfold maxLen at hcm
      have HS' : Hid (pathB s.data.toList = okAll (listOf ss)) := by show _ = _; rw [HE.out, HS]
      have HLl : Hid ((listOf ss).length = ss.length) := by simp [Hid, listOf]
      have HPL := hide (piece_len ss s.data.toList HS)
      clear HS HE
      go_wp2
      go_loop [4] (fun i => ∃ k : Nat, k ≤ ss.length ∧ i = .int .i64 k ∧ Hid (∀ j, j < k → okPiece ((listOf ss).getD j []) = true)) (fun i => ss.length - (intOf i).toNat)
      case atStart => exact ⟨0, by omega, rfl, fun j hj => absurd hj (Nat.not_lt_zero j)⟩
      case round =>
        obtain ⟨i, hi, rfl, HA⟩ := hrel
        by_cases hlt : i < ss.length
        · have hce := ho.cellAt rfl i hlt
          have HG := hide (listOf_get ss i hlt)
          obtain ⟨p, HP⟩ : ∃ p, Hid (p = ss.getD i ByteArray.empty) := ⟨_, rfl⟩
          rw [← HP.out] at hce
          have HG2 : Hid ((listOf ss).getD i [] = p.data.toList) := by show _ = _; rw [HG.out, ← HP.out]
          have HB : Hid (okPiece p.data.toList = false → pathB s.data.toList = false) := by
            intro h
            rw [HS'.out]
            exact okAll_false (i := i) (by rw [HLl.out]; exact hlt) (by rw [HG2.out]; exact h)
          have HA2 : Hid (okPiece p.data.toList = true → ∀ j, j < i + 1 → okPiece ((listOf ss).getD j []) = true) := by
            intro h j hj
            by_cases e : j = i
            · subst e; rw [HG2.out]; exact h
            · exact HA.out j (by omega)
          have et : p.toList = p.data.toList := ByteArray.toList_eq p
          have hps : p.size ≤ 1000000 := by
            have := HPL.out i hlt
            rw [← HP.out, HLe.out] at this
            omega
          have HPl := hide (str_len p)
          clear HG HP HG2 HA
          by_cases e1 : p.data.toList = []
          · have HF := hide (HB.out (okPiece_no (.inl e1)))
            have e1' : p.toList.isEmpty = true := by rw [et, e1]; rfl
            clear et e1
            go_wp2
            go_ret
            exact ⟨ret_bool HF.out.symm, hbl⟩
          · have e1' : p.toList.isEmpty = false := by
              rw [et]
              cases h : p.data.toList with
              | nil => exact absurd h e1
              | cons x r => rfl
            by_cases e2 : p.data.toList = [46]
            · have HF := hide (HB.out (okPiece_no (.inr (.inl e2))))
              have e2' : (p.toList == [46]) = true := by rw [et, e2]; rfl
              clear et e1 e2
              go_wp2
              go_ret
              exact ⟨ret_bool HF.out.symm, hbl⟩
            · have e2' : (p.toList == [46]) = false := by rw [et, beq_eq_false_iff_ne]; exact e2
              by_cases e3 : p.data.toList = [46, 46]
              · have HF := hide (HB.out (okPiece_no (.inr (.inr e3))))
                have e3' : (p.toList == [46, 46]) = true := by rw [et, e3]; rfl
                clear et e1 e2 e3
                go_wp2
                go_ret
                exact ⟨ret_bool HF.out.symm, hbl⟩
              · have e3' : (p.toList == [46, 46]) = false := by rw [et, beq_eq_false_iff_ne]; exact e3
                have HY := hide (okPiece_yes e1 e2 e3)
                clear et e1 e2 e3
                go_wp2
                go_loop [5] (fun q => ∃ k : Nat, k ≤ p.size ∧ q = .int .i64 k ∧ Hid (∀ j, j < k → plainN (p.data.toList.getD j 0).toNat = true)) (fun q => p.size - (intOf q).toNat)
                case atStart => exact ⟨0, by omega, rfl, fun j hj => absurd hj (Nat.not_lt_zero j)⟩
                case round =>
                  obtain ⟨k, hk, rfl, HQ⟩ := hrel
                  by_cases hkp : k < p.size
                  · have HG3 := hide (str_get p k hkp)
                    have hx := (p[k]).toNat_lt
                    cases hp : plainN (p[k]).toNat
                    · have HF : Hid (pathB s.data.toList = false) := by
                        apply HB.out
                        rw [HY.out]
                        exact plainAll_false (i := k) (by rw [HPl.out]; exact hkp) (by rw [← HG3.out]; exact hp)
                      have hpc := plain_any (p[k]).toNat
                      rw [hp] at hpc
                      have HP2 := hide hpc
                      clear hpc hp
                      go_wp2_with (go_at_call 48; refine (unhide HP2 _ hx).mono ?_; rintro e w' ⟨rfl, rfl⟩)
                      go_ret
                      exact ⟨ret_bool HF.out.symm, hbl⟩
                    · have HQ2 : Hid (∀ j, j < k + 1 → plainN (p.data.toList.getD j 0).toNat = true) := by
                        intro j hj
                        by_cases e : j = k
                        · subst e; rw [← HG3.out]; exact hp
                        · exact HQ.out j (by omega)
                      have hpc := plain_any (p[k]).toNat
                      rw [hp] at hpc
                      have HP2 := hide hpc
                      clear hpc hp
                      go_wp2_with (go_at_call 48; refine (unhide HP2 _ hx).mono ?_; rintro e w' ⟨rfl, rfl⟩)
                      go_round
                      case rel => first | exact ⟨k + 1, by omega, by go_num, HQ2⟩ | ((repeat apply Exists.intro); exact ⟨⟨k + 1, by omega, by go_num, HQ2⟩, rfl⟩)
                      case measure => simp [intOf]; omega
                  · have HF : Hid (okPiece p.data.toList = true) := by
                      show _ = _
                      rw [HY.out]
                      exact plainAll_true fun j hj => HQ.out j (by rw [HPl.out] at hj; omega)
                    have HA3 := hide (HA2.out HF.out)
                    go_wp2
                    go_round
                    case rel => first | exact ⟨i + 1, by omega, by go_num, HA3⟩ | ((repeat apply Exists.intro); exact ⟨⟨i + 1, by omega, by go_num, HA3⟩, rfl⟩)
                    case measure => simp [intOf]; omega
        · have HF : Hid (pathB s.data.toList = true) := by
            show _ = _
            rw [HS'.out]
            exact okAll_true fun j hj => HA.out j (by rw [HLl.out] at hj; omega)
          go_wp2
          go_ret
          exact ⟨ret_bool HF.out.symm, hbl⟩
    · have HE : Hid (pathB s.data.toList = false) := by
        have h0 : s.data.toList = [] := List.eq_nil_of_length_eq_zero (by rw [HLe.out]; omega)
        show _ = _
        rw [h0]
        decide
      go_enter Tryz.func17, Tryz.ntmps17
      go_wp2
      go_ret
      exact ⟨ret_bool HE.out.symm, Below.refl _ _⟩
  · have HE : Hid (pathB s.data.toList = false) := by
      show _ = _
      unfold pathB
      rw [HLe.out]
      simp [h40]
    go_enter Tryz.func17, Tryz.ntmps17
    go_wp2
    go_ret
    exact ⟨ret_bool HE.out.symm, Below.refl _ _⟩

set_option maxHeartbeats 400000 in
theorem refPath_any (s : ByteArray) (w : World) (hs : s.size ≤ maxLen) : Calls Tryz.prog 8 #[.string s] w fun e w' => e = .returned (.int .i64 (pathErr s : Nat)) ∧ Below w.heap.size w w' := by
  have hp := pathFits_any s w hs
  cases h : pathB s.data.toList
  · have HE : Hid (pathErr s = 4) := by simp [Hid, pathErr, h]
    rw [h] at hp
    have HP := hide hp
    clear hp h
    go_enter Tryz.func8, Tryz.ntmps8
    go_wp2_with (go_at_call 17; refine (unhide HP).mono ?_; rintro e w' ⟨rfl, hb⟩)
    go_ret
    exact ⟨ret_int (by rw [HE.out]; rfl), hb⟩
  · have HE : Hid (pathErr s = 0) := by simp [Hid, pathErr, h]
    rw [h] at hp
    have HP := hide hp
    clear hp h
    go_enter Tryz.func8, Tryz.ntmps8
    go_wp2_with (go_at_call 17; refine (unhide HP).mono ?_; rintro e w' ⟨rfl, hb⟩)
    go_ret
    exact ⟨ret_int (by rw [HE.out]; rfl), hb⟩

end Go.Proofs.YtgncohclofdhmaaGreat
