import Derived.Test.YtgncohclofdhmaaGreatWpath2
namespace Go.Proofs.YtgncohclofdhmaaGreat
open Go.RowKit

def strOf (l : List UInt8) : ByteArray := ⟨l.toArray⟩

theorem map_same (l : List UInt8) (f : UInt8 → UInt8) (h : ∀ x, x ∈ l → f x = x) : l.map f = l := by
  induction l with
  | nil => rfl
  | cons x r ih =>
    rw [List.map_cons, h x (by simp), ih fun y hy => h y (by simp [hy])]

set_option maxRecDepth 100000 in
theorem run_back (l : List UInt8) (a : Option Addr) (cap : Nat) (w : World) (hb : Bts w a l) : (convert 29 9 (.slice a l.length cap)).run Tryz.prog w = .ok (.string (strOf l)) w := by
  match a with
  | none =>
    have : l = [] := by
      cases l with
      | nil => rfl
      | cons x r => obtain ⟨b, off, e, _⟩ := hb 0 (by simp); simp at e
    subst this
    exact run_convert_bytes_nil w 29 5 Tryz.underlying29 Tryz.underlying5 0 cap 9 Tryz.underlying9
  | some ad =>
    by_cases h0 : l.length = 0
    · have : l = [] := List.eq_nil_of_length_eq_zero h0
      subst this
      rw [run_convert_bytes_string w 29 9 5 (some ad) _ cap Tryz.underlying29 Tryz.underlying5 Tryz.underlying9, run_bytesToString w ad _ cap [] (by simp [loadCells, loadCellsFrom])]
      rfl
    · obtain ⟨b, off, e, _⟩ := hb 0 (by omega)
      simp only [Option.some.injEq] at e
      subst e
      have h := run_convert_bytes_arg (P := Tryz.prog) w 29 5 Tryz.underlying29 Tryz.underlying5 b off l.length cap (l.map fun x => (x.toNat : Int)) (by simp) (by
        intro i hi
        obtain ⟨b', off', e, hc⟩ := hb i hi
        simp at e
        obtain ⟨rfl, rfl⟩ := e
        rw [hc]
        simp [hi]) 9 Tryz.underlying9
      rw [h]
      congr 2
      unfold strOfNums strOf
      congr 2
      rw [List.map_map]
      exact map_same l _ fun x _ => by simp

theorem strOf_list (l : List UInt8) : (strOf l).data.toList = l := by simp [strOf]

theorem strOf_size (l : List UInt8) : (strOf l).size = l.length := by rw [← str_len, strOf_list]

end Go.Proofs.YtgncohclofdhmaaGreat
