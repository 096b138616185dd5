import Derived.Test.YtgncohclofdhmaaGreatWent1
import Derived.Test.YtgncohclofdhmaaGreatMall
namespace Go.Proofs.YtgncohclofdhmaaGreat
open Go.RowKit

/-- What the document sees of entries. -/
def pairOf (e : Ent) : List UInt8 × List UInt8 := (e.path.data.toList, e.body)
def pairsOf (es : List Ent) : List (List UInt8 × List UInt8) := es.map pairOf

def faultsOf (es : List Ent) (key : ByteArray) (al : Int) : List Flt := fltAll key.size al (fun k => (es.getD k noEnt).path) (fun k => (es.getD k noEnt).body.length) es.length

/-- What building answers: the least fault; or 8; or the package. -/
def BuildAns (es : List Ent) (key : ByteArray) (al : Int) (pk : Bool) (B : Nat) (w : World) (v : Value) (E : Nat) (p : ByteArray) : Prop :=
  (faultsOf es key al ≠ [] ∧ v = .slice none 0 0 ∧ E = (leastOf (faultsOf es key al)).1 ∧ p = (leastOf (faultsOf es key al)).2) ∨
  (faultsOf es key al = [] ∧ ∃ ix, Chosen (fun i => (es.getD i noEnt).path.data.toList) es.length ix ∧ ix.length = es.length ∧
    ((4000 < (madeOf key.data.toList pk al.toNat (pairsOf (ix.map fun i => es.getD i noEnt))).length ∧ v = .slice none 0 0 ∧ E = 8 ∧ p = ByteArray.empty) ∨
     ((madeOf key.data.toList pk al.toNat (pairsOf (ix.map fun i => es.getD i noEnt))).length ≤ 4000 ∧ Own B w v (madeOf key.data.toList pk al.toNat (pairsOf (ix.map fun i => es.getD i noEnt))) ∧ E = 0 ∧ p = ByteArray.empty)))

/-- The same paths and bodies. -/
def Alike (es fs : List Ent) : Prop := (es.map fun f => (f.path, f.body)) = (fs.map fun f => (f.path, f.body))

theorem Alike.len {es fs : List Ent} (h : Alike es fs) : es.length = fs.length := by
  have := congrArg List.length h
  simpa using this

theorem Alike.get {es fs : List Ent} (h : Alike es fs) (k : Nat) : (es.getD k noEnt).path = (fs.getD k noEnt).path ∧ (es.getD k noEnt).body = (fs.getD k noEnt).body := by
  have hl := h.len
  by_cases hk : k < es.length
  · have h1 : ((es.map fun f => (f.path, f.body)))[k]? = ((fs.map fun f => (f.path, f.body)))[k]? := by rw [show (es.map fun f => (f.path, f.body)) = (fs.map fun f => (f.path, f.body)) from h]
    rw [List.getElem?_map, List.getElem?_map, List.getElem?_eq_getElem hk, List.getElem?_eq_getElem (by omega)] at h1
    simp at h1
    rw [List.getD_eq_getElem?_getD, List.getD_eq_getElem?_getD, List.getElem?_eq_getElem hk, List.getElem?_eq_getElem (by omega)]
    exact h1
  · rw [List.getD_eq_getElem?_getD, List.getD_eq_getElem?_getD, List.getElem?_eq_none (by omega), List.getElem?_eq_none (by omega)]
    exact ⟨rfl, rfl⟩

theorem Alike.faults {es fs : List Ent} (h : Alike es fs) (key : ByteArray) (al : Int) : faultsOf es key al = faultsOf fs key al := by
  unfold faultsOf
  rw [h.len, show (fun k => (es.getD k noEnt).path) = (fun k => (fs.getD k noEnt).path) from funext fun k => (h.get k).1, show (fun k => (es.getD k noEnt).body.length) = (fun k => (fs.getD k noEnt).body.length) from funext fun k => by rw [(h.get k).2]]

theorem Alike.pairs {es fs : List Ent} (h : Alike es fs) (ix : List Nat) : pairsOf (ix.map fun i => es.getD i noEnt) = pairsOf (ix.map fun i => fs.getD i noEnt) := by
  unfold pairsOf
  rw [List.map_map, List.map_map]
  apply List.map_congr_left
  intro i _
  simp only [Function.comp, pairOf]
  rw [(h.get i).1, (h.get i).2]

theorem ans_same {es fs : List Ent} {key : ByteArray} {al : Int} {pk : Bool} {B B' : Nat} {w w' : World} {v v' : Value} {E E' : Nat} {p p' : ByteArray} (hs : Alike es fs)
    (h : BuildAns es key al pk B w v E p) (k : BuildAns fs key al pk B' w' v' E' p') :
    E = E' ∧ p = p' ∧ ∃ (xs : List UInt8) (a a' : Option Addr) (c c' : Nat), v = .slice a xs.length c ∧ v' = .slice a' xs.length c' ∧ Bts w a xs ∧ Bts w' a' xs ∧ xs.length ≤ 4000 := by
  unfold BuildAns at h k
  rw [← hs.faults] at k
  have nil : ∀ (v v' : Value), v = .slice none 0 0 → v' = .slice none 0 0 → ∃ (xs : List UInt8) (a a' : Option Addr) (c c' : Nat), v = .slice a xs.length c ∧ v' = .slice a' xs.length c' ∧ Bts w a xs ∧ Bts w' a' xs ∧ xs.length ≤ 4000 := by
    intro v v' h1 h2
    exact ⟨[], none, none, 0, 0, h1, h2, Bts.nil _ _, Bts.nil _ _, by simp⟩
  rcases h with ⟨h1, h2, h3, h4⟩ | ⟨h1, ix, h2, h3, h4⟩
  · rcases k with ⟨_, k2, k3, k4⟩ | ⟨k1, _⟩
    · exact ⟨h3.trans k3.symm, h4.trans k4.symm, nil v v' h2 k2⟩
    · exact absurd k1 h1
  · rcases k with ⟨k1, _⟩ | ⟨_, jx, k2, k3, k4⟩
    · exact absurd h1 k1
    · have k2' : Chosen (fun i => (es.getD i noEnt).path.data.toList) es.length jx := by
        rw [hs.len, show (fun i => (es.getD i noEnt).path.data.toList) = (fun i => (fs.getD i noEnt).path.data.toList) from funext fun i => by rw [(hs.get i).1]]
        exact k2
      have e : ix = jx := by
        refine h2.only k2' h3 (by rw [hs.len]; exact k3) ?_
        intro i j hi hj he
        by_cases hij : i = j
        · exact hij
        · exact absurd (ByteArray.ext (Array.toList_inj.1 he)) (fltAll_nil_ne h1 j i hj hi hij)
      subst e
      rw [← hs.pairs] at k4
      rcases h4 with ⟨h5, h6, h7, h8⟩ | ⟨h5, h6, h7, h8⟩
      · rcases k4 with ⟨_, k6, k7, k8⟩ | ⟨k5, _⟩
        · exact ⟨h7.trans k7.symm, h8.trans k8.symm, nil v v' h6 k6⟩
        · omega
      · rcases k4 with ⟨k5, _⟩ | ⟨_, k6, k7, k8⟩
        · omega
        · obtain ⟨a, c, e1, e2, _, _⟩ := h6.shape
          obtain ⟨a', c', e1', e2', _, _⟩ := k6.shape
          exact ⟨h7.trans k7.symm, h8.trans k8.symm, _, a, a', c, c', e1, e1', e2, e2', h5⟩

theorem results_cell1 {fn : Func} {p : Tmp} {ty : TypeId} (h : fn.results = #[.cell p ty]) (tmps : Array Value) (P : Program) (w : World) :
    (results fn tmps).run P w = ((asAddr (tmps.getD p undef)).run P w).andThen fun a w₁ => (loadVar ty a).run P w₁ := by
  simp only [results, h]
  simp [Sem.run_bind, Result.andThen]

end Go.Proofs.YtgncohclofdhmaaGreat
