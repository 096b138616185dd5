import Derived.Test.YtgncohclofdhmabWsma
import Derived.Test.YtgncohclofdhmabWpk
import Derived.Test.YtgncohclofdhmabWuna
import Derived.Test.YtgncohclofdhmabWpath2
import Derived.Test.YtgncohclofdhmabMkn
import Derived.Test.YtgncohclofdhmabWstr
namespace Go.Proofs.Ytgncohclofdhmab
open Go.RowKit

set_option maxHeartbeats 400000 in
theorem pick_any (c : Int) (n : Nat) (w : World) (hc : -9223372036854775808 ≤ c) (hc2 : c ≤ 9223372036854775807) (hn : 0 < n) (hn2 : n ≤ 1000000) :
    Calls Try.prog 11 #[.int .i64 c, .int .i64 n] w fun e w' => ∃ k : Nat, e = .returned (.int .i64 k) ∧ k < n ∧ w' = w := by
  by_cases h : c < 0
  · obtain ⟨m, rfl⟩ : ∃ m : Nat, c = -(m : Int) - 1 := ⟨(-(c + 1)).toNat, by omega⟩
    go_enter Try.func11, Try.ntmps11
    go_wp2
    go_ret
    refine ⟨m % n, ret_int ?_, Nat.mod_lt _ hn, rfl⟩
    first
      | (rw [show -(m : Int) - 1 + 1 = -(m : Int) from by omega, Int.neg_tmod, Int.neg_neg]; exact (Int.ofNat_tmod m n).symm)
      | (rw [Int.neg_tmod, Int.neg_neg]; exact (Int.ofNat_tmod m n).symm)
      | exact (Int.ofNat_tmod m n).symm
      | simp
  · go_enter Try.func11, Try.ntmps11
    go_wp2
    go_ret
    have h1 : 0 ≤ c % (n : Int) := Int.emod_nonneg _ (by omega)
    have h2 : c % (n : Int) < n := Int.emod_lt_of_pos _ (by omega)
    refine ⟨(c % (n : Int)).toNat, ret_int ?_, by omega, rfl⟩
    omega

def kBody (k : Nat) : ByteArray := strOf (kTab.getD k ([], [])).1
def kPack (k : Nat) : ByteArray := strOf (kTab.getD k ([], [])).2

set_option maxHeartbeats 400000 in
theorem table_any (w : World) : Calls Try.prog 26 #[] w fun e w' => e = .returned (.slice (some ⟨w.heap.size, 0, none⟩) 10 10) ∧
    (∀ k, k < 10 → w'.cell? ⟨w.heap.size, 2 * k, none⟩ = some (.string (kBody k)) ∧ w'.cell? ⟨w.heap.size, 2 * k + 1, none⟩ = some (.string (kPack k))) ∧ Below w.heap.size w w' := by
  go_enter Try.func26, Try.ntmps26
  go_wp2
  go_ret
  refine ⟨rfl, ?_, (Below.refl _ _).alloc (Nat.le_refl _) _⟩
  intro k hk
  match k, hk with
  | 0, _ => constructor <;> (simp; rfl)
  | 1, _ => constructor <;> (simp; rfl)
  | 2, _ => constructor <;> (simp; rfl)
  | 3, _ => constructor <;> (simp; rfl)
  | 4, _ => constructor <;> (simp; rfl)
  | 5, _ => constructor <;> (simp; rfl)
  | 6, _ => constructor <;> (simp; rfl)
  | 7, _ => constructor <;> (simp; rfl)
  | 8, _ => constructor <;> (simp; rfl)
  | 9, _ => constructor <;> (simp; rfl)

end Go.Proofs.Ytgncohclofdhmab
