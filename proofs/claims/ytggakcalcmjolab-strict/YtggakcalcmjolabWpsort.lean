import Derived.Test.YtggakcalcmjolabWans
import Derived.Test.YtggakcalcmjolabWbld3
import Derived.Laws.Cover1
namespace Go.Proofs.Ytggakcalcmjolab
open Go.RowKit

theorem bytesLess_lexB : ∀ a b : List UInt8, Op.bytesLess a b = lexB a b
  | [], [] => rfl
  | _ :: _, [] => by simp [Op.bytesLess, lexB]
  | [], _ :: _ => by simp [Op.bytesLess, lexB]
  | x :: r, y :: s => by
    rw [Op.bytesLess, lexB, bytesLess_lexB r s]
    by_cases e : x = y
    · subst e
      simp
    · rw [if_neg e]
      simp [e, UInt8.lt_iff_toNat_lt]

/-- What the comparison of two paths says. -/
theorem path_gt {p q : ByteArray} (h : lexB p.data.toList q.data.toList = true) : Op.bytesLess q.toList p.toList = false ∧ (q.toList == p.toList) = false := by
  rw [ByteArray.toList_eq, ByteArray.toList_eq, bytesLess_lexB]
  refine ⟨lexB_asymm _ _ h, ?_⟩
  rw [beq_eq_false_iff_ne]
  intro e
  rw [e, lexB_irrefl] at h
  cases h

theorem path_le {p q : ByteArray} (h : lexB p.data.toList q.data.toList = false) : (Op.bytesLess q.toList p.toList = true) ∨ (Op.bytesLess q.toList p.toList = false ∧ (q.toList == p.toList) = true) := by
  rw [ByteArray.toList_eq, ByteArray.toList_eq, bytesLess_lexB]
  cases e : lexB q.data.toList p.data.toList
  · right
    exact ⟨rfl, by rw [lexB_total _ _ h e]; simp⟩
  · exact .inl rfl

theorem entCells_set : ∀ (es : List Ent) (j : Nat) (x : Ent), entCells (es.set j x) = ((entCells es).set (j * 2) (.string x.path)).set (j * 2 + 1) x.val
  | [], _, _ => by simp [entCells]
  | _ :: _, 0, _ => rfl
  | e :: r, j + 1, x => by
    rw [List.set_cons_succ, entCells, entCells, entCells_set r j x, show (j + 1) * 2 = j * 2 + 1 + 1 from by omega, List.set_cons_succ, List.set_cons_succ, List.set_cons_succ, List.set_cons_succ]

theorem OwnE.row {B : Nat} {w : World} {v : Value} {es : List Ent} (h : OwnE B w v es) (n : Nat) (hn : n = es.length) (hp : 0 < n) : ∃ g cap, v = .slice (some ⟨g, 0, none⟩) n cap ∧ B ≤ g ∧ n ≤ cap ∧ cap ≤ maxLen := by
  subst hn
  rcases h.2 with ⟨_, hz⟩ | ⟨g, cap, cur, rfl, hbg, hg, hnc, hcm, _, _⟩
  · omega
  · exact ⟨g, cap, rfl, hbg, hnc, hcm⟩

theorem OwnE.at_ {B : Nat} {w : World} {es : List Ent} {g n cap : Nat} (h : OwnE B w (.slice (some ⟨g, 0, none⟩) n cap) es) (hn : n = es.length) (j : Nat) (hj : j < n) :
    w.cell? ⟨g, j * 2, none⟩ = some (.string (es.getD j noEnt).path) ∧ w.cell? ⟨g, j * 2 + 1, none⟩ = some (es.getD j noEnt).val := by
  subst hn
  have hc := World.ownsRow.cellAt (g := g) (cap := cap) h (j * 2) (by omega)
  have hc2 := World.ownsRow.cellAt (g := g) (cap := cap) h (j * 2 + 1) (by omega)
  obtain ⟨e1, e2⟩ := entCells_get es j hj
  exact ⟨hc.trans e1, hc2.trans e2⟩

theorem OwnE.fr {B : Nat} {w : World} {es : List Ent} {g n cap : Nat} (h : OwnE B w (.slice (some ⟨g, 0, none⟩) n cap) es) (hn : n = es.length) (j : Nat) : w.frozen? ⟨g, j, none⟩ = false := by
  subst hn
  exact World.ownsRow.frozenAt h j

theorem OwnE.stored {B : Nat} {w : World} {es : List Ent} {g n cap : Nat} (h : OwnE B w (.slice (some ⟨g, 0, none⟩) n cap) es) (hn : n = es.length) (j : Nat) (x : Ent) :
    OwnE B ((w.setCell ⟨g, j * 2, none⟩ (.string x.path)).setCell ⟨g, j * 2 + 1, none⟩ x.val) (.slice (some ⟨g, 0, none⟩) n cap) (es.set j x) := by
  subst hn
  have h1 := (World.ownsRow.stored h (j * 2) (.string x.path)).1
  have h2 := (World.ownsRow.stored h1 (j * 2 + 1) x.val).1
  unfold OwnE
  rw [entCells_set, List.length_set]
  exact h2

/-- Sorted so far: the first k, in the order of their paths. -/
structure Ins (P : Nat → List UInt8) (k : Nat) (ix : List Nat) : Prop where
  nodup : ix.Nodup
  lt : ∀ j, j ∈ ix → j < k
  len : ix.length = k
  sorted : ix.Pairwise fun i j => lexB (P j) (P i) = false

theorem Ins.nil (P : Nat → List UInt8) : Ins P 0 [] := ⟨List.nodup_nil, (fun _ h => by cases h), rfl, List.Pairwise.nil⟩

theorem Ins.done {P : Nat → List UInt8} {n : Nat} {ix : List Nat} (h : Ins P n ix) : Chosen P n ix :=
  ⟨h.nodup, h.lt, h.sorted, fun _ _ j hj hm => absurd (all_there n ix h.nodup h.lt h.len j hj) hm⟩

theorem Ins.put {P : Nat → List UInt8} {k t : Nat} {ix : List Nat} (h : Ins P k ix) (ht : t ≤ k) (hi : ∀ j, t ≤ j → j < k → lexB (P k) (P (ix.getD j 0)) = true) (hlo : t = 0 ∨ lexB (P k) (P (ix.getD (t - 1) 0)) = false) : Ins P (k + 1) (ix.take t ++ k :: ix.drop t) := by
  have hl := h.len
  have hkn : k ∉ ix := fun e => by have := h.lt k e; omega
  have hs := h.sorted
  have hd := h.nodup
  have hsp : ix = ix.take t ++ ix.drop t := (List.take_append_drop t ix).symm
  have hget : ∀ j (hj : j < ix.length), ix.getD j 0 = ix[j] := by
    intro j hj
    rw [List.getD_eq_getElem?_getD, List.getElem?_eq_getElem hj, Option.getD_some]
  have hA : ∀ i, i ∈ ix.take t → lexB (P k) (P i) = false := by
    intro i hi2
    rcases hlo with h0 | h0
    · subst h0; simp at hi2
    · obtain ⟨j, hj, e⟩ := List.mem_iff_getElem.1 hi2
      have hj2 : j < t := by rw [List.length_take] at hj; omega
      rw [List.getElem_take] at e
      rw [hget (t - 1) (by omega)] at h0
      by_cases e2 : j = t - 1
      · subst e2; rw [← e]; exact h0
      · have h1 := List.pairwise_iff_getElem.1 hs j (t - 1) (by omega) (by omega) (by omega)
        rw [e] at h1
        cases h2 : lexB (P k) (P i)
        · rfl
        · have h3 := lexB_le _ _ _ h2 h1
          have h4 := lexB_total _ _ h0 h3
          rw [h4, h1] at h2
          cases h2
  have hB : ∀ j, j ∈ ix.drop t → lexB (P j) (P k) = false := by
    intro i hi2
    obtain ⟨j, hj, e⟩ := List.mem_iff_getElem.1 hi2
    rw [List.length_drop] at hj
    rw [List.getElem_drop] at e
    have h1 := hi (t + j) (by omega) (by omega)
    rw [hget (t + j) (by omega), e] at h1
    exact lexB_asymm _ _ h1
  rw [hsp, List.pairwise_append] at hs
  rw [hsp, List.nodup_append] at hd
  refine ⟨?_, ?_, ?_, ?_⟩
  · rw [List.nodup_append]
    refine ⟨hd.1, ?_, ?_⟩
    · rw [List.nodup_cons]
      exact ⟨fun e => hkn (List.mem_of_mem_drop e), hd.2.1⟩
    · intro x hx y hy
      rcases List.mem_cons.1 hy with e | e
      · subst e
        intro e2
        subst e2
        exact hkn (List.mem_of_mem_take hx)
      · exact hd.2.2 x hx y e
  · intro j hj
    rcases List.mem_append.1 hj with e | e
    · have := h.lt j (List.mem_of_mem_take e); omega
    · rcases List.mem_cons.1 e with e | e
      · omega
      · have := h.lt j (List.mem_of_mem_drop e); omega
  · simp
    omega
  · rw [List.pairwise_append]
    refine ⟨hs.1, ?_, ?_⟩
    · rw [List.pairwise_cons]
      exact ⟨hB, hs.2.1⟩
    · intro x hx y hy
      rcases List.mem_cons.1 hy with e | e
      · subst e; exact hA x hx
      · exact hs.2.2 x hx y e

/-- One place is open: what stands at it is about to be written over. -/
theorem open_step {α : Type} (A : List α) (y d : α) (s : Nat) (hs : s < A.length) : (A.take (s + 1) ++ y :: A.drop (s + 1)).set (s + 1) (A.getD s d) = A.take s ++ A.getD s d :: A.drop s := by
  have h1 : A.take (s + 1) = A.take s ++ [A.getD s d] := take_snoc A d s hs
  have h2 : A.drop s = A.getD s d :: A.drop (s + 1) := by
    rw [List.getD_eq_getElem?_getD, List.getElem?_eq_getElem hs, Option.getD_some]
    exact List.drop_eq_getElem_cons hs
  rw [List.set_append_right _ _ (by rw [List.length_take]; omega), List.length_take, show s + 1 - min (s + 1) A.length = 0 from by omega, h1, h2]
  simp

theorem open_end {α : Type} (A : List α) (y x : α) (t : Nat) (ht : t ≤ A.length) : (A.take t ++ y :: A.drop t).set t x = A.take t ++ x :: A.drop t := by
  rw [List.set_append_right _ _ (by rw [List.length_take]; omega), List.length_take, show t - min t A.length = 0 from by omega]
  rfl

theorem open_get {α : Type} (A : List α) (y d : α) (t s : Nat) (hs : s < t) (ht : t ≤ A.length) : (A.take t ++ y :: A.drop t).getD s d = A.getD s d := by
  rw [List.getD_eq_getElem?_getD, List.getD_eq_getElem?_getD, List.getElem?_append_left (by simp; omega), List.getElem?_take_of_lt hs]

end Go.Proofs.Ytggakcalcmjolab
