import Derived.Test.YtgncohclofdhmabWsum
import Derived.Test.YtgncohclofdhmabMall
import Derived.Lib.Strings
import Derived.Deep.QuietTactic
import Derived.BigQuiet
namespace Go.Proofs.Ytgncohclofdhmab
open Go.RowKit

theorem strGet (s : ByteArray) (k : Nat) (h : k < s.size) : s[k] = s.data.toList.getD k 0 := by
  have h' : k < s.data.toList.length := by simpa using h
  rw [List.getD_eq_getElem?_getD, List.getElem?_eq_getElem h']
  rfl

theorem strLen (s : ByteArray) : s.data.toList.length = s.size := by simp

theorem drewN3 (w : World) (a b c : Nat) : ((w.drewN a).drewN b).drewN c = w.drewN (a + b + c) := by simp

theorem nat_ne {x y : UInt8} (h : ((x.toNat : Int) != (y.toNat : Int)) = true) : x ≠ y := by
  rintro rfl
  simp at h

theorem nat_eq {x y : UInt8} (h : ((x.toNat : Int) != (y.toNat : Int)) = false) : x = y := by
  have : x.toNat = y.toNat := by simp at h; omega
  exact UInt8.toNat_inj.1 this

end Go.Proofs.Ytgncohclofdhmab
