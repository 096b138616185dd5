import Derived.Test.YtggakcalcmjolabWbld3
import Derived.Test.YtggakcalcmjolabWans
namespace Go.Proofs.Ytggakcalcmjolab
open Go.RowKit

/-- Bytes that have just been laid in a block are the call's own. -/
theorem own_lit (w : World) (B : Nat) (vs : Array Value) (xs : List UInt8) (n : Nat) (h : vs = (cells xs).toArray) (hn : n = xs.length) (hB : B ≤ w.heap.size) (hm : n ≤ maxLen) :
    Own B (w.alloc (.cells vs 5)) (.slice (some ⟨w.heap.size, 0, none⟩) n n) xs := by
  subst h hn
  have := World.ownsRow_lit (base := B) (e := 5) (size := 1) w (cells xs).toArray xs.length hB hm (by simp [cells_length])
  unfold Own
  simpa using this

set_option maxRecDepth 100000 in
set_option maxHeartbeats 400000 in
theorem twoBytes_any (w : World) (n : Nat) (hn : n < 65536) :
    Calls Try.prog 55 #[.int .i64 n] w fun e w' => ∃ v, e = .returned v ∧ Own w.heap.size w' v (twoOf n) ∧ Below w.heap.size w w' := by
  have ho := own_lit w w.heap.size _ (twoOf n) 2 (cells_two n hn) rfl (Nat.le_refl _) (by simp [maxLen])
  have hb := (Below.refl w.heap.size w).alloc (Nat.le_refl _) (.cells #[.int .u8 ((n : Int) / 256), .int .u8 ((n : Int) % 256)] 5)
  go_enter Try.func55, Try.ntmps55
  go_wp2
  go_ret
  exact ⟨_, rfl, ho, hb⟩

set_option maxRecDepth 100000 in
set_option maxHeartbeats 400000 in
theorem fourBytes_any (w : World) (n : Nat) (hn : n < 4294967296) :
    Calls Try.prog 43 #[.int .i64 n] w fun e w' => ∃ v, e = .returned v ∧ Own w.heap.size w' v (fourOf n) ∧ Below w.heap.size w w' := by
  have ho := own_lit w w.heap.size _ (fourOf n) 4 (cells_four n hn) rfl (Nat.le_refl _) (by simp [maxLen])
  have hb := (Below.refl w.heap.size w).alloc (Nat.le_refl _) (.cells #[.int .u8 ((n : Int) / 16777216), .int .u8 ((n : Int) / 65536 % 256), .int .u8 ((n : Int) / 256 % 256), .int .u8 ((n : Int) % 256)] 5)
  go_enter Try.func43, Try.ntmps43
  go_wp2
  go_ret
  exact ⟨_, rfl, ho, hb⟩

theorem cells_head (pk : Bool) (al n : Nat) (hal : al ≤ 16) (hn : n ≤ 20) : #[Value.int .u8 80, Value.int .u8 76, Value.int .u8 (al : Int), Value.int .u8 (if pk then 1 else 0), Value.int .u8 (n : Int)] = (cells (headBytes pk al n)).toArray := by
  have h1 : ((UInt8.ofNat al).toNat : Int) = al := by rw [ofNat_val]; omega
  have h2 : ((UInt8.ofNat n).toNat : Int) = n := by rw [ofNat_val]; omega
  cases pk <;> (simp [cells, cell, headBytes] <;> omega)

set_option maxRecDepth 100000 in
set_option maxHeartbeats 1000000 in
theorem layHead_any (w : World) (n al : Nat) (key : ByteArray) (pk : Bool) (hal : al ≤ 16) (hn : n ≤ 20) :
    Calls Try.prog 41 #[.int .i64 n, .agg #[.string key, .int .i64 al, .bool pk]] w fun e w' => ∃ v, e = .returned v ∧ Own w.heap.size w' v (headBytes pk al n) ∧ Below w.heap.size w w' := by
  have b0 := (Below.refl w.heap.size w).alloc (Nat.le_refl _) (.cells #[.string key, .int .i64 al, .bool pk] 24)
  have c01 := cell_new w #[.string key, .int .i64 al, .bool pk] 24 1
  have c02 := cell_new w #[.string key, .int .i64 al, .bool pk] 24 2
  have HO := hide (own_lit (w.alloc (.cells #[.string key, .int .i64 al, .bool pk] 24)) w.heap.size _ (headBytes pk al n) 5 (cells_head pk al n hal hn) rfl b0.size (by simp [maxLen]))
  cases pk
  · have HB := hide (b0.alloc b0.size (.cells #[Value.int .u8 80, Value.int .u8 76, Value.int .u8 (al : Int), Value.int .u8 0, Value.int .u8 (n : Int)] 5))
    go_enter Try.func41, Try.ntmps41
    go_wp2
    go_ret
    exact ⟨_, rfl, by simpa using HO.out, HB.out⟩
  · have HB := hide (b0.alloc b0.size (.cells #[Value.int .u8 80, Value.int .u8 76, Value.int .u8 (al : Int), Value.int .u8 1, Value.int .u8 (n : Int)] 5))
    go_enter Try.func41, Try.ntmps41
    go_wp2
    go_ret
    exact ⟨_, rfl, by simpa using HO.out, HB.out⟩

set_option maxRecDepth 100000 in
set_option maxHeartbeats 1000000 in
theorem noughtsAhead_any (w : World) (n al : Nat) (hal : 1 ≤ al) (hal2 : al ≤ 16) (hn : n ≤ 100000000) :
    Calls Try.prog 56 #[.int .i64 n, .int .i64 al] w fun e w' => e = .returned (.int .i64 (padOf al n : Nat)) ∧ w' = w := by
  have hpad := padOf_lt (al := al) (by omega) n
  have HPL := hide (fun k => padOf_least (al := al) (n := n) (k := k) (by omega))
  have HPZ := hide (padOf_zero (al := al) (n := n) (by omega))
  obtain ⟨pd, HPD⟩ : ∃ pd, Hid (pd = padOf al n) := ⟨_, rfl⟩
  rw [← HPD.out] at hpad HPL HPZ ⊢
  go_enter Try.func56, Try.ntmps56
  go_wp2
  go_loop [5] (fun n => ∃ k : Nat, k ≤ pd ∧ n = .int .i64 k) (fun n => pd - (intOf n).toNat)
  case atStart => exact ⟨0, by omega, rfl⟩
  case round =>
    obtain ⟨k, hk, rfl⟩ := hrel
    have hka : (k : Int) < (al : Int) := by omega
    by_cases hkp : k < pd
    · have hne : ((((n : Int) + k) % al) != 0) = true := by
        have h := HPL.out k hkp
        rw [bne_iff_ne]
        intro e
        apply h
        have : (((n + k) % al : Nat) : Int) = ((n : Int) + k) % al := by simp
        omega
      go_wp2
      go_round
      case rel => exact ⟨k + 1, by omega, by go_num⟩
      case measure => simp [intOf]; omega
    · have hke : k = pd := by omega
      subst hke
      have heq : ((((n : Int) + k) % al) != 0) = false := by
        have h := HPZ.out
        have : (((n + k) % al : Nat) : Int) = ((n : Int) + k) % al := by simp
        rw [bne_eq_false_iff_eq]
        omega
      clear HPL HPZ
      go_wp2
      go_ret
      exact ⟨rfl, rfl⟩

/-- The least fault of settings. -/
def setF (key : ByteArray) (al : Int) : Nat := if keyB key.size = false then 1 else if al < 1 ∨ 16 < al then 2 else 0

set_option maxRecDepth 100000 in
set_option maxHeartbeats 1000000 in
theorem settingsFault_any (w : World) (al : Int) (key : ByteArray) (pk : Bool) (hk : key.size ≤ maxLen) :
    Calls Try.prog 25 #[.agg #[.string key, .int .i64 al, .bool pk]] w fun e w' => e = .returned (.int .i64 (setF key al : Nat)) ∧ Below w.heap.size w w' := by
  have b0 := (Below.refl w.heap.size w).alloc (Nat.le_refl _) (.cells #[.string key, .int .i64 al, .bool pk] 24)
  have c00 := cell_new w #[.string key, .int .i64 al, .bool pk] 24 0
  have c01 := cell_new w #[.string key, .int .i64 al, .bool pk] 24 1
  have HK := isKey_any key
  cases hkb : keyB key.size
  · rw [hkb] at HK
    have HF : Hid (setF key al = 1) := by show _ = _; rw [setF, if_pos hkb]
    clear hkb
    go_enter Try.func25, Try.ntmps25
    go_wp2_with fail
    refine (HK _ hk).mono ?_
    rintro e w' ⟨rfl, rfl⟩
    go_wp2
    go_ret
    rw [HF.out]
    exact ⟨rfl, b0⟩
  · rw [hkb] at HK
    by_cases h1 : al < 1
    · have HF : Hid (setF key al = 2) := by show _ = _; rw [setF, if_neg (by rw [hkb]; simp), if_pos (.inl h1)]
      clear hkb
      go_enter Try.func25, Try.ntmps25
      go_wp2_with fail
      refine (HK _ hk).mono ?_
      rintro e w' ⟨rfl, rfl⟩
      go_wp2
      go_ret
      rw [HF.out]
      exact ⟨rfl, b0⟩
    · by_cases h2 : 16 < al
      · have HF : Hid (setF key al = 2) := by show _ = _; rw [setF, if_neg (by rw [hkb]; simp), if_pos (.inr h2)]
        clear hkb
        go_enter Try.func25, Try.ntmps25
        go_wp2_with fail
        refine (HK _ hk).mono ?_
        rintro e w' ⟨rfl, rfl⟩
        go_wp2
        go_ret
        rw [HF.out]
        exact ⟨rfl, b0⟩
      · have HF : Hid (setF key al = 0) := by show _ = _; rw [setF, if_neg (by rw [hkb]; simp), if_neg (by omega)]
        clear hkb
        go_enter Try.func25, Try.ntmps25
        go_wp2_with fail
        refine (HK _ hk).mono ?_
        rintro e w' ⟨rfl, rfl⟩
        go_wp2
        go_ret
        rw [HF.out]
        exact ⟨rfl, b0⟩

set_option maxRecDepth 100000 in
set_option maxHeartbeats 1000000 in
theorem liesUnder_any (s t : ByteArray) (w : World) (hs : s.size ≤ maxLen) (ht : t.size ≤ maxLen) :
    Calls Try.prog 53 #[.string s, .string t] w fun e w' => e = .returned (.bool (underB s.data.toList t.data.toList)) ∧ w' = w := by
  have hs63 : s.size ≤ 9223372036854775807 := by unfold maxLen at hs; omega
  unfold maxLen at ht
  have HS := hide (strLen s)
  have HT := hide (strLen t)
  by_cases h1 : t.size < s.size
  · have ex : (s.extract 0 t.size).toList = s.data.toList.take t.size := by rw [Lib.extract_toList]; simp
    have et : t.toList = t.data.toList := ByteArray.toList_eq t
    have HG := hide (strGet s t.size h1)
    by_cases h3 : (s[t.size]).toNat = 47
    · have h3' : (((s[t.size]).toNat : Int) == 47) = true := by rw [h3]; rfl
      by_cases h2 : s.data.toList.take t.size = t.data.toList
      · have h2' : ((s.extract 0 t.size).toList == t.toList) = true := by rw [ex, et, h2]; simp
        have HE : Hid (underB s.data.toList t.data.toList = true) := by
          show _ = _
          unfold underB
          rw [HS.out, HT.out, ← HG.out]
          simp [h1, h2, h3]
        clear ex et h2 h3
        go_enter Try.func53, Try.ntmps53
        go_wp2
        go_ret
        exact ⟨ret_bool HE.out.symm, rfl⟩
      · have h2' : ((s.extract 0 t.size).toList == t.toList) = false := by rw [ex, et, beq_eq_false_iff_ne]; exact h2
        have HE : Hid (underB s.data.toList t.data.toList = false) := by
          show _ = _
          unfold underB
          rw [HT.out]
          simp [h2]
        clear ex et h2 h3
        go_enter Try.func53, Try.ntmps53
        go_wp2
        go_ret
        exact ⟨ret_bool HE.out.symm, rfl⟩
    · have h3' : (((s[t.size]).toNat : Int) == 47) = false := by rw [beq_eq_false_iff_ne]; omega
      have HE : Hid (underB s.data.toList t.data.toList = false) := by
        show _ = _
        unfold underB
        rw [HS.out, HT.out, ← HG.out]
        simp [h3]
      clear ex et h3
      go_enter Try.func53, Try.ntmps53
      go_wp2
      go_ret
      exact ⟨ret_bool HE.out.symm, rfl⟩
  · have HE : Hid (underB s.data.toList t.data.toList = false) := by
      show _ = _
      unfold underB
      rw [HS.out, HT.out]
      simp [h1]
    go_enter Try.func53, Try.ntmps53
    go_wp2
    go_ret
    exact ⟨ret_bool HE.out.symm, rfl⟩

end Go.Proofs.Ytggakcalcmjolab
