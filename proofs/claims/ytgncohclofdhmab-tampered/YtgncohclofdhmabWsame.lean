import Derived.Test.YtgncohclofdhmabWpk
namespace Go.Proofs.Ytgncohclofdhmab
open Go.RowKit

def eqB (xs ys : List UInt8) : Bool := decide (xs = ys)

theorem eqB_true (xs : List UInt8) : eqB xs xs = true := by simp [eqB]

theorem eq_of_all (xs ys : List UInt8) (hl : xs.length = ys.length) (h : ∀ i, i < xs.length → xs.getD i 0 = ys.getD i 0) : xs = ys := by
  apply List.ext_getElem hl
  intro i h1 h2
  have := h i h1
  simpa [List.getD_eq_getElem?_getD, h1, h2] using this

end Go.Proofs.Ytgncohclofdhmab
