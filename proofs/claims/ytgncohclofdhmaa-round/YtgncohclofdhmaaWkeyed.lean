import Derived.Test.YtgncohclofdhmaaWkp2
import Derived.Test.YtgncohclofdhmaaWsame2
import Derived.Deep.RegionWith
import Derived.BigRegion
namespace Go.Proofs.Ytgncohclofdhmaa
open Go.RowKit

/-- All of a package but its tag. -/
def upto4 (pk : Bool) (al : Nat) (l : List (List UInt8 × List UInt8)) : List UInt8 := summed (plainOf pk al l)

theorem madeOf_split (key : List UInt8) (pk : Bool) (al : Nat) (l : List (List UInt8 × List UInt8)) : madeOf key pk al l = upto4 pk al l ++ fourOf (tagVal key (upto4 pk al l)) := rfl

theorem upto4_ge (pk : Bool) (al : Nat) (l : List (List UInt8 × List UInt8)) : 9 ≤ (upto4 pk al l).length := by
  have h : ∀ (l : List (List UInt8 × List UInt8)) (out : List UInt8), out.length ≤ (bodyOf pk al out l).length := by
    intro l
    induction l with
    | nil => intro out; exact Nat.le_refl _
    | cons x r ih =>
      intro out
      rw [bodyOf]
      have := ih (out ++ entOf pk al out.length x.1 x.2)
      rw [List.length_append] at this
      omega
  have h1 := h l (headBytes pk al l.length)
  simp only [upto4, summed, plainOf, List.length_append, fourOf, headBytes, List.length_cons, List.length_nil] at h1 ⊢
  omega

theorem Bts.first {w : World} {a : Option Addr} {xs : List UInt8} (h : Bts w a xs) (hp : 0 < xs.length) : ∃ b off, a = some ⟨b, off, none⟩ := by
  obtain ⟨b, off, e, _⟩ := h 0 hp
  exact ⟨b, off, e⟩

theorem Bts.left {w : World} {a : Option Addr} {xs ys : List UInt8} (h : Bts w a (xs ++ ys)) : Bts w a xs := by
  intro i hi
  obtain ⟨b, off, e, h1⟩ := h i (by rw [List.length_append]; omega)
  refine ⟨b, off, e, ?_⟩
  rw [h1, List.getD_eq_getElem?_getD, List.getD_eq_getElem?_getD, List.getElem?_append_left hi]

end Go.Proofs.Ytgncohclofdhmaa
