import Derived.Test.YtgncohclofdhmaaGreatWsum
namespace Go.Proofs.YtgncohclofdhmaaGreat
open Go.RowKit

set_option maxHeartbeats 400000 in
theorem Sum_any (a : Option Addr) (xs : List UInt8) (cap : Nat) (w : World) (hm : xs.length ≤ 140737488355328) (hb : Bts w a xs) :
    Calls Tryz.prog 26 #[.slice a xs.length cap] w fun e w' => e = .returned (.int .i64 (sumOf xs : Nat)) ∧ w' = w := by
  go_enter Tryz.func26, Tryz.ntmps26
  go_wp2
  go_loop [3, 4] (fun q i => ∃ k s : Nat, k ≤ xs.length ∧ s < 4294967296 ∧ i = .int .i64 k ∧ q = .int .i64 s ∧ Hid (s = crcAll (xs.take k))) (fun _ i => xs.length - (intOf i).toNat)
  case atStart => exact ⟨0, 4294967295, by omega, by omega, rfl, rfl, rfl⟩
  case round =>
    obtain ⟨k, s, hk, hs, rfl, rfl, HS⟩ := hrel
    by_cases hlt : k < xs.length
    · obtain ⟨b, off, rfl, hc⟩ := hb k hlt
      have HN : Hid (crcByte s (xs.getD k 0).toNat = crcAll (xs.take (k + 1))) := by rw [HS.out, take_snoc xs 0 k hlt, crcAll_snoc]; rfl
      have hx := (xs.getD k 0).toNat_lt
      have HL : crcByte s (xs.getD k 0).toNat < 4294967296 := crcByte_lt hs hx
      generalize (xs.getD k 0).toNat = x at *
      go_wp2_with (go_at_call 56; refine (sumStep_any s x _ hs hx).mono ?_; rintro e w' ⟨rfl, rfl⟩)
      go_round
      case rel => exact ⟨k + 1, crcByte s x, by omega, HL, by go_num, rfl, HN⟩
      case measure => simp [intOf]; omega
    · have h8 : xs.take k = xs := List.take_of_length_le (by omega)
      have HX : Hid (bits .xor .i64 (s : Int) 4294967295 = ((sumOf xs : Nat) : Int)) := by
        have e := xor64 s 4294967295 hs (by omega)
        unfold sumOf
        rw [← h8, ← HS.out]
        exact e
      clear h8
      go_wp2
      go_ret
      exact ⟨ret_int HX.out, rfl⟩

set_option maxHeartbeats 400000 in
theorem tagOfText_any (h : Nat) (t : ByteArray) (w : World) (hh : h < 4294967291) (hm : t.size ≤ maxLen) :
    Calls Tryz.prog 83 #[.int .i64 h, .string t] w fun e w' => e = .returned (.int .i64 (tagFrom h t.data.toList : Nat)) ∧ w' = w := by
  unfold maxLen at hm
  go_enter Tryz.func83, Tryz.ntmps83
  go_wp2
  go_loop [0, 5] (fun q i => ∃ k s : Nat, k ≤ t.size ∧ s < 4294967291 ∧ i = .int .i64 k ∧ q = .int .i64 s ∧ Hid (s = tagFrom h (t.data.toList.take k))) (fun _ i => t.size - (intOf i).toNat)
  case atStart => exact ⟨0, h, by omega, hh, rfl, rfl, rfl⟩
  case round =>
    obtain ⟨k, s, hk, hs, rfl, rfl, HS⟩ := hrel
    by_cases hlt : k < t.size
    · have hts : t.data.toList.take (k + 1) = t.data.toList.take k ++ [t[k]] := by
        rw [List.take_succ_eq_append_getElem (by simpa using hlt)]; rfl
      have HN : Hid (tagStepOf s (t[k]).toNat = tagFrom h (t.data.toList.take (k + 1))) := by rw [hts, HS.out, tagFrom_snoc]; rfl
      have hx := (t[k]).toNat_lt
      clear hts
      go_wp2_with (go_at_call 102; refine (tagStep_any s (t[k]).toNat _ hs hx).mono ?_; rintro e w' ⟨rfl, rfl⟩)
      go_round
      case rel => exact ⟨k + 1, tagStepOf s (t[k]).toNat, by omega, tagStepOf_lt _ _, by go_num, rfl, HN⟩
      case measure => simp [intOf]; omega
    · have HX : Hid (s = tagFrom h t.data.toList) := by
        have := HS.out
        rw [List.take_of_length_le (by simp; omega)] at this
        exact this
      go_wp2
      go_ret
      exact ⟨ret_int (by rw [HX.out]), rfl⟩

set_option maxHeartbeats 400000 in
theorem tagOfBytes_any (h : Nat) (a : Option Addr) (xs : List UInt8) (cap : Nat) (w : World) (hh : h < 4294967291) (hm : xs.length ≤ 140737488355328) (hb : Bts w a xs) :
    Calls Tryz.prog 84 #[.int .i64 h, .slice a xs.length cap] w fun e w' => e = .returned (.int .i64 (tagFrom h xs : Nat)) ∧ w' = w := by
  go_enter Tryz.func84, Tryz.ntmps84
  go_wp2
  go_loop [0, 5] (fun q i => ∃ k s : Nat, k ≤ xs.length ∧ s < 4294967291 ∧ i = .int .i64 k ∧ q = .int .i64 s ∧ Hid (s = tagFrom h (xs.take k))) (fun _ i => xs.length - (intOf i).toNat)
  case atStart => exact ⟨0, h, by omega, hh, rfl, rfl, rfl⟩
  case round =>
    obtain ⟨k, s, hk, hs, rfl, rfl, HS⟩ := hrel
    by_cases hlt : k < xs.length
    · obtain ⟨b, off, rfl, hc⟩ := hb k hlt
      have HN : Hid (tagStepOf s (xs.getD k 0).toNat = tagFrom h (xs.take (k + 1))) := by rw [HS.out, take_snoc xs 0 k hlt, tagFrom_snoc]; rfl
      have hx := (xs.getD k 0).toNat_lt
      generalize (xs.getD k 0).toNat = x at *
      go_wp2_with (go_at_call 102; refine (tagStep_any s x _ hs hx).mono ?_; rintro e w' ⟨rfl, rfl⟩)
      go_round
      case rel => exact ⟨k + 1, tagStepOf s x, by omega, tagStepOf_lt _ _, by go_num, rfl, HN⟩
      case measure => simp [intOf]; omega
    · have HX : Hid (s = tagFrom h xs) := by
        have := HS.out
        rw [List.take_of_length_le (by omega)] at this
        exact this
      go_wp2
      go_ret
      exact ⟨ret_int (by rw [HX.out]), rfl⟩

set_option maxHeartbeats 400000 in
theorem reftag_any (a : Option Addr) (xs : List UInt8) (cap : Nat) (w : World) (hm : xs.length ≤ 140737488355328) (hb : Bts w a xs) :
    Calls Tryz.prog 60 #[.slice a xs.length cap] w fun e w' => e = .returned (.int .i64 (tagFrom 0 xs : Nat)) ∧ w' = w := by
  go_enter Tryz.func60, Tryz.ntmps60
  go_wp2
  go_loop [3, 4] (fun q i => ∃ k s : Nat, k ≤ xs.length ∧ s < 4294967291 ∧ i = .int .i64 k ∧ q = .int .i64 s ∧ Hid (s = tagFrom 0 (xs.take k))) (fun _ i => xs.length - (intOf i).toNat)
  case atStart => exact ⟨0, 0, by omega, by omega, rfl, rfl, rfl⟩
  case round =>
    obtain ⟨k, s, hk, hs, rfl, rfl, HS⟩ := hrel
    by_cases hlt : k < xs.length
    · obtain ⟨b, off, rfl, hc⟩ := hb k hlt
      have HN : Hid (tagStepOf s (xs.getD k 0).toNat = tagFrom 0 (xs.take (k + 1))) := by rw [HS.out, take_snoc xs 0 k hlt, tagFrom_snoc]; rfl
      have hx := (xs.getD k 0).toNat_lt
      generalize (xs.getD k 0).toNat = x at *
      go_wp2
      go_round
      case rel => exact ⟨k + 1, tagStepOf s x, by omega, tagStepOf_lt _ _, by go_num, congrArg _ (tagStep_int s x), HN⟩
      case measure => simp [intOf]; omega
    · have HX : Hid (s = tagFrom 0 xs) := by
        have := HS.out
        rw [List.take_of_length_le (by omega)] at this
        exact this
      go_wp2
      go_ret
      exact ⟨ret_int (by rw [HX.out]), rfl⟩

set_option maxHeartbeats 400000 in
theorem own_any (a : Option Addr) (xs : List UInt8) (cap : Nat) (w : World) (hm : xs.length ≤ 140737488355328) (hb : Bts w a xs) :
    Calls Tryz.prog 4 #[.slice a xs.length cap] w fun e w' => ∃ v, e = .returned v ∧ Own w.heap.size w' v xs ∧ Below w.heap.size w w' := by
  go_enter Tryz.func4, Tryz.ntmps4
  go_wp2_with (at_builtin; refine wpApp rfl (.tmp 4) (.tmp 5) 29 rfl w.heap.size (.slice none 0 0) [] rfl (Own.nil _ _) _ xs rfl xs.length (src_bts Tryz.underlying29 hb rfl) (by simpa using hm) (Nat.le_refl _) ?_)
  intro v' w' zs hz h1 h2
  obtain rfl : zs = xs := hz.out
  clear hz
  have h3 := below_own (Below.refl _ _) (Own.nil w.heap.size w) h2 (Nat.le_refl _)
  go_wp2
  go_ret
  exact ⟨v', rfl, h1, h3⟩

end Go.Proofs.YtgncohclofdhmaaGreat
