import Derived.Test.YtgncohclofdhmabMall
namespace Go.Proofs.Ytgncohclofdhmab

/-- The table's bodies and what they are packed to. -/
def kTab : List (List UInt8 × List UInt8) :=
  [([], []), ([97], [0, 97]), ([97, 98, 99], [2, 97, 98, 99]), ([97, 97, 97], [2, 97, 97, 97]), ([97, 97, 97, 97], [0, 97, 128, 0]), ([97, 98, 97, 98], [3, 97, 98, 97, 98]),
   ([97, 98, 99, 97, 98, 99], [2, 97, 98, 99, 128, 2]), ([97, 98, 97, 98, 97, 98, 97, 98, 97, 98], [1, 97, 98, 133, 1]),
   ([97, 98, 99, 100, 97, 98, 99, 97, 98, 99, 100], [3, 97, 98, 99, 100, 128, 3, 129, 6]), ([120, 97, 98, 99, 121, 97, 98, 99, 122, 97, 98, 99], [4, 120, 97, 98, 99, 121, 128, 3, 0, 122, 128, 3])]

theorem kTab_ok : (kTab.all fun x => decide (packOf x.1 = x.2) && decide (unOf x.2 = (x.1, 0)) && decide (x.1.length ≤ 600) && decide (x.2.length ≤ 600)) = true := by decide +kernel

theorem known_sum : sumOf [49, 50, 51, 52, 53, 54, 55, 56, 57] = 3421780262 ∧ sumOf [97] = 3904355907 ∧ sumOf [] = 0 := by decide +kernel

theorem known_tag : tagFrom (tagFrom (tagFrom 0 [107]) []) [107] = 27864 := by decide +kernel

theorem known_path : pathB [97, 47, 98, 46, 99] = true ∧ pathB [97, 47, 47, 98] = false := by decide +kernel

theorem kTab_at (k : Nat) (h : k < 10) : packOf (kTab.getD k ([], [])).1 = (kTab.getD k ([], [])).2 ∧ unOf (kTab.getD k ([], [])).2 = ((kTab.getD k ([], [])).1, 0) ∧ (kTab.getD k ([], [])).1.length ≤ 600 ∧ (kTab.getD k ([], [])).2.length ≤ 600 := by
  have hl : k < kTab.length := h
  have hm : kTab.getD k ([], []) ∈ kTab := by
    rw [List.getD_eq_getElem?_getD, List.getElem?_eq_getElem hl]
    exact List.getElem_mem hl
  have := List.all_eq_true.1 kTab_ok _ hm
  simp only [Bool.and_eq_true, decide_eq_true_eq] at this
  exact ⟨this.1.1.1, this.1.1.2, this.1.2, this.2⟩

end Go.Proofs.Ytgncohclofdhmab
