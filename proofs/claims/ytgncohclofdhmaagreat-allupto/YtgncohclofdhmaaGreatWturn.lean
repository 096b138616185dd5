import Derived.Test.YtgncohclofdhmaaGreatWans
import Derived.Test.YtgncohclofdhmaaGreatMall
import Derived.Test.YtgncohclofdhmaaGreatWpbuild
namespace Go.Proofs.YtgncohclofdhmaaGreat
open Go.RowKit

/-- The entries of es in the order of g. -/
def Turned (g : Nat → Nat) (es fs : List Ent) : Prop := fs.length = es.length ∧ ∀ j, j < es.length → (fs.getD j noEnt).path = (es.getD (g j) noEnt).path ∧ (fs.getD j noEnt).body = (es.getD (g j) noEnt).body

theorem faults_turn {g : Nat → Nat} {es fs : List Ent} (hg : Turn g es.length) (h : Turned g es fs) (key : ByteArray) (al : Int) (f : Flt) : f ∈ faultsOf fs key al ↔ f ∈ faultsOf es key al := by
  unfold faultsOf fltAll
  rw [List.mem_append, List.mem_append, h.1]
  rw [fltFirst_turn (ps := fun k => (es.getD k noEnt).path) (ls := fun k => (es.getD k noEnt).body.length) hg (fun j hj => (h.2 j hj).1) (fun j hj => by rw [(h.2 j hj).2]) f]

/-- Building in another order answers the same. -/
theorem ans_turn {g : Nat → Nat} {es fs : List Ent} {key : ByteArray} {al : Int} {pk : Bool} {B B' : Nat} {w w' : World} {v v' : Value} {E E' : Nat} {p p' : ByteArray} (hg : Turn g es.length) (ht : Turned g es fs)
    (h : BuildAns es key al pk B w v E p) (k : BuildAns fs key al pk B' w' v' E' p') :
    E = E' ∧ p = p' ∧ ∃ (xs : List UInt8) (a a' : Option Addr) (c c' : Nat), v = .slice a xs.length c ∧ v' = .slice a' xs.length c' ∧ Bts w a xs ∧ Bts w' a' xs ∧ xs.length ≤ 4000 ∧ (E = 0 ↔ 0 < xs.length) := by
  have hset := faults_turn hg ht key al
  have hnil : faultsOf es key al = [] ↔ faultsOf fs key al = [] := by
    rw [List.eq_nil_iff_forall_not_mem, List.eq_nil_iff_forall_not_mem]
    constructor
    · intro h1 f hf
      exact h1 f ((hset f).1 hf)
    · intro h1 f hf
      exact h1 f ((hset f).2 hf)
  have hleast : leastOf (faultsOf fs key al) = leastOf (faultsOf es key al) := leastOf_set (faults_ne fs key al) hset
  unfold BuildAns at h k
  have nil : ∀ (v v' : Value) (E : Nat), E ≠ 0 → v = .slice none 0 0 → v' = .slice none 0 0 → ∃ (xs : List UInt8) (a a' : Option Addr) (c c' : Nat), v = .slice a xs.length c ∧ v' = .slice a' xs.length c' ∧ Bts w a xs ∧ Bts w' a' xs ∧ xs.length ≤ 4000 ∧ (E = 0 ↔ 0 < xs.length) := by
    intro v v' E hE h1 h2
    exact ⟨[], none, none, 0, 0, h1, h2, Bts.nil _ _, Bts.nil _ _, by simp, by simp [hE]⟩
  rcases h with ⟨h1, h2, h3, h4⟩ | ⟨h1, ix, h2, h3, h4⟩
  · rcases k with ⟨_, k2, k3, k4⟩ | ⟨k1, _⟩
    · rw [hleast] at k3 k4
      have hE : E ≠ 0 := by rw [h3]; exact faults_ne es key al _ (leastOf_min (faults_ne es key al) h1).1
      exact ⟨h3.trans k3.symm, h4.trans k4.symm, nil v v' E hE h2 k2⟩
    · exact absurd (hnil.2 k1) h1
  · rcases k with ⟨k1, _⟩ | ⟨_, jx, k2, k3, k4⟩
    · exact absurd (hnil.1 h1) k1
    · rw [ht.1] at k2 k3
      have k2' : Chosen (fun i => (es.getD i noEnt).path.data.toList) es.length (jx.map g) := k2.turn hg (fun j hj => by rw [(ht.2 j hj).1]) k3
      have e : ix = jx.map g := by
        refine h2.only k2' h3 (by rw [List.length_map]; exact k3) ?_
        intro i j hi hj he
        by_cases hij : i = j
        · exact hij
        · exact absurd (ByteArray.ext (Array.toList_inj.1 he)) (fltAll_nil_ne h1 j i hj hi hij)
      have hpairs : pairsOf (jx.map fun i => fs.getD i noEnt) = pairsOf (ix.map fun i => es.getD i noEnt) := by
        rw [e]
        unfold pairsOf
        rw [List.map_map, List.map_map, List.map_map]
        apply List.map_congr_left
        intro i hi
        simp only [Function.comp, pairOf]
        rw [(ht.2 i (k2.lt i hi)).1, (ht.2 i (k2.lt i hi)).2]
      rw [hpairs] at k4
      rcases h4 with ⟨h5, h6, h7, h8⟩ | ⟨h5, h6, h7, h8⟩
      · rcases k4 with ⟨_, k6, k7, k8⟩ | ⟨k5, _⟩
        · exact ⟨h7.trans k7.symm, h8.trans k8.symm, nil v v' E (by omega) h6 k6⟩
        · omega
      · rcases k4 with ⟨k5, _⟩ | ⟨_, k6, k7, k8⟩
        · omega
        · obtain ⟨a, c, e1, e2, _, _⟩ := h6.shape
          obtain ⟨a', c', e1', e2', _, _⟩ := k6.shape
          refine ⟨h7.trans k7.symm, h8.trans k8.symm, _, a, a', c, c', e1, e1', e2, e2', h5, ?_⟩
          constructor
          · intro _
            simp [madeOf, tagged, fourOf]
          · intro _
            exact h7

/-- Of nothing: a package of 13 bytes. -/
theorem ans_none {key : ByteArray} {B : Nat} {w : World} {v : Value} {E : Nat} {p : ByteArray} (hk : keyB key.size = true) (h : BuildAns [] key 1 false B w v E p) : E = 0 ∧ ∃ a c, v = .slice a 13 c := by
  have hf : faultsOf [] key 1 = [] := by
    unfold faultsOf fltAll fltHead
    rw [hk]
    rfl
  rcases h with ⟨h1, _⟩ | ⟨_, ix, h2, h3, h4⟩
  · exact absurd hf h1
  · have : ix = [] := List.eq_nil_of_length_eq_zero h3
    subst this
    have hl : (madeOf key.data.toList false (1 : Int).toNat (pairsOf (([] : List Nat).map fun i => ([] : List Ent).getD i noEnt))).length = 13 := by
      simp [madeOf, tagged, summed, plainOf, bodyOf, sumsOf, headBytes, fourOf, pairsOf]
    rcases h4 with ⟨h5, _⟩ | ⟨h5, h6, h7, _⟩
    · omega
    · obtain ⟨a, c, e1, _, _, _⟩ := h6.shape
      rw [hl] at e1
      exact ⟨h7, a, c, e1⟩

end Go.Proofs.YtgncohclofdhmaaGreat
