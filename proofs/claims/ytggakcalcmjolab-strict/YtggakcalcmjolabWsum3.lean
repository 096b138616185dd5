import Derived.Test.YtggakcalcmjolabWsum2
namespace Go.Proofs.Ytggakcalcmjolab
open Go.RowKit

/-- The two answers of Tag. -/
def tagNum (s : ByteArray) (xs : List UInt8) : Nat := if keyB s.size then tagVal s.data.toList xs else 0
def tagErr (s : ByteArray) : Nat := if keyB s.size then 0 else 1

set_option maxHeartbeats 400000 in
theorem tagOf_any (s : ByteArray) (a : Option Addr) (xs : List UInt8) (cap : Nat) (w : World) (hs : s.size ≤ maxLen) (hm : xs.length ≤ 140737488355328) (hb : Bts w a xs) :
    Calls Try.prog 35 #[.string s, .slice a xs.length cap] w fun e w' => e = .returned (.int .i64 (tagVal s.data.toList xs : Nat)) ∧ w' = w := by
  have t1 := tagFrom_lt (h := 0) (by omega) s.data.toList
  have t2 := tagFrom_lt t1 xs
  have HN : Hid (tagVal s.data.toList xs = tagFrom (tagFrom (tagFrom 0 s.data.toList) xs) s.data.toList) := tagVal_steps _ _
  go_enter Try.func35, Try.ntmps35
  go_wp2_with fail
  refine (tagOfText_any 0 s _ (by omega) hs).mono ?_
  rintro e w' ⟨rfl, rfl⟩
  go_wp2_with fail
  refine (tagOfBytes_any _ a xs cap _ t1 hm hb).mono ?_
  rintro e w' ⟨rfl, rfl⟩
  go_wp2_with fail
  refine (tagOfText_any _ s _ t2 hs).mono ?_
  rintro e w' ⟨rfl, rfl⟩
  go_wp2
  go_ret
  rw [HN.out]
  exact ⟨rfl, rfl⟩

set_option maxHeartbeats 400000 in
theorem Tag_any (s : ByteArray) (a : Option Addr) (xs : List UInt8) (cap : Nat) (w : World) (hs : s.size ≤ maxLen) (hm : xs.length ≤ 140737488355328) (hb : Bts w a xs) :
    Calls Try.prog 17 #[.string s, .slice a xs.length cap] w fun e w' => e = .returned (.tuple #[.int .i64 (tagNum s xs : Nat), .int .i64 (tagErr s : Nat)]) ∧ w' = w := by
  have hk := isKey_any s
  cases hkb : keyB s.size
  · have HN : Hid ((tagNum s xs : Nat) = 0 ∧ tagErr s = 1) := by constructor <;> simp [tagNum, tagErr, hkb]
    rw [hkb] at hk
    clear hkb
    have HK := hk
    clear hk
    go_enter Try.func17, Try.ntmps17
    go_wp2_with (go_at_call 34; refine (HK _ hs).mono ?_; rintro e w' ⟨rfl, rfl⟩)
    go_ret2
    rw [HN.out.1, HN.out.2]
    exact ⟨rfl, rfl⟩
  · have HN : Hid ((tagNum s xs : Nat) = tagVal s.data.toList xs ∧ tagErr s = 0) := by constructor <;> simp [tagNum, tagErr, hkb]
    rw [hkb] at hk
    clear hkb
    have HK := hk
    clear hk
    go_enter Try.func17, Try.ntmps17
    go_wp2_with fail
    refine (HK _ hs).mono ?_
    rintro e w' ⟨rfl, rfl⟩
    go_wp2_with fail
    refine (tagOf_any s a xs cap _ hs hm hb).mono ?_
    rintro e w' ⟨rfl, rfl⟩
    go_wp2
    go_ret2
    rw [HN.out.1, HN.out.2]
    exact ⟨rfl, rfl⟩

end Go.Proofs.Ytggakcalcmjolab
