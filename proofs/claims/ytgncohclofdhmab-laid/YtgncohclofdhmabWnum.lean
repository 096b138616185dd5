import Derived.Test.YtgncohclofdhmabMread
import Derived.Test.YtgncohclofdhmabWpk
namespace Go.Proofs.Ytgncohclofdhmab
open Go.RowKit

set_option maxRecDepth 100000 in
set_option maxHeartbeats 1000000 in
theorem number_nat (a : Option Addr) (xs : List UInt8) (cap : Nat) (w : World) (k n : Nat) (h : k + n ≤ xs.length) (hn : n ≤ 4) (hl : xs.length ≤ 1000000) (hb : Bts w a xs) :
    Calls Try.prog 20 #[.slice a xs.length cap, .int .i64 k, .int .i64 n] w fun e w' => e = .returned (.int .i64 (numAt xs k n : Nat)) ∧ w' = w := by
  go_enter Try.func20, Try.ntmps20
  go_wp2
  go_loop [7, 8] (fun v i => ∃ j : Nat, j ≤ n ∧ i = .int .i64 j ∧ v = .int .i64 (numAt xs k j : Nat)) (fun _ i => n - (intOf i).toNat)
  case atStart => exact ⟨0, by omega, rfl, rfl⟩
  case round =>
    obtain ⟨j, hj, rfl, rfl⟩ := hrel
    by_cases hjn : j < n
    · obtain ⟨b, off, rfl, hc⟩ := hb (k + j) (by omega)
      have HNu : Hid (numAt xs k (j + 1) = 256 * numAt xs k j + (xs.getD (k + j) 0).toNat) := rfl
      have hlt : numAt xs k j < 4294967296 := by
        have h1 := numAt_lt xs k j
        have h2 : 256 ^ j ≤ 256 ^ 4 := Nat.pow_le_pow_right (by omega) (by omega)
        omega
      have hlt2 := (xs.getD (k + j) 0).toNat_lt
      generalize numAt xs k j = m at *
      generalize (xs.getD (k + j) 0).toNat = c at *
      go_wp2
      go_round
      case rel => exact ⟨j + 1, by omega, by go_num, by rw [HNu.out]; go_num⟩
      case measure => simp [intOf]; omega
    · obtain rfl : j = n := by omega
      go_wp2
      go_ret
      exact ⟨rfl, rfl⟩

theorem number_is (a : Option Addr) (xs : List UInt8) (cap : Nat) (w : World) (t c : Int) (k n v : Nat) (ht : t = k) (hc : c = n) (hv : numAt xs k n = v) (h : k + n ≤ xs.length) (hn : n ≤ 4) (hl : xs.length ≤ 1000000) (hb : Bts w a xs) :
    Calls Try.prog 20 #[.slice a xs.length cap, .int .i64 t, .int .i64 c] w fun e w' => e = .returned (.int .i64 (v : Nat)) ∧ w' = w := by
  subst ht hc hv
  exact number_nat a xs cap w k n h hn hl hb

/-- Whatever the place: as numbers of the program. -/
theorem number_int (a : Option Addr) (xs : List UInt8) (cap : Nat) (w : World) (t c : Int) (ht : 0 ≤ t) (hc : 0 ≤ c) (h : t + c ≤ xs.length) (hn : c ≤ 4) (hl : xs.length ≤ 1000000) (hb : Bts w a xs) :
    Calls Try.prog 20 #[.slice a xs.length cap, .int .i64 t, .int .i64 c] w fun e w' => e = .returned (.int .i64 (numAt xs t.toNat c.toNat : Nat)) ∧ w' = w :=
  number_is a xs cap w t c t.toNat c.toNat _ (by omega) (by omega) rfl (by omega) (by omega) hl hb

end Go.Proofs.Ytgncohclofdhmab
