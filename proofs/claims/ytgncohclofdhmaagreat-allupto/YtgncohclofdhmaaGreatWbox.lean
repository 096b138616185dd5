import Derived.Test.YtgncohclofdhmaaGreatWans
import Derived.Test.YtgncohclofdhmaaGreatWbd
namespace Go.Proofs.YtgncohclofdhmaaGreat
open Go.RowKit

theorem grownBy_set (w : World) (k j : Nat) (u : Value) : w.grownBy (w.setCell ⟨k, j, none⟩ u) (some k) :=
  ⟨rfl, rfl, rfl, by simp, fun i _ hne => heap_setCell_other w ⟨k, j, none⟩ i u (fun e => hne (by simp [e]))⟩

theorem Own.setOther {B : Nat} {w : World} {v : Value} {xs : List UInt8} (h : Own B w v xs) {k j : Nat} (u : Value) (hk : k < B) : Own B (w.setCell ⟨k, j, none⟩ u) v xs := by
  refine h.kept (grownBy_set w k j u) ?_
  by_cases e : v.ownBlock = none
  · exact .inl e
  · right
    intro e2
    have := (World.ownsRow.lt h k e2).1
    omega

/-- An entry in a block. -/
def EBox (w : World) (g : Nat) (s : ByteArray) (v : Value) : Prop := w.heap[g]? = some (.cells #[.string s, v] 46 (0, 0))

theorem EBox.c0 {w : World} {g : Nat} {s : ByteArray} {v : Value} (h : EBox w g s v) : w.cell? ⟨g, 0, none⟩ = some (.string s) := cell_of_row _ g 0 _ _ _ h
theorem EBox.c1 {w : World} {g : Nat} {s : ByteArray} {v : Value} (h : EBox w g s v) : w.cell? ⟨g, 1, none⟩ = some v := cell_of_row _ g 1 _ _ _ h
theorem EBox.fr {w : World} {g : Nat} {s : ByteArray} {v : Value} (h : EBox w g s v) (j : Nat) : w.frozen? ⟨g, j, none⟩ = false := by
  have h' : w.heap[g]? = _ := h
  simp [World.frozen?, h']
theorem EBox.lt {w : World} {g : Nat} {s : ByteArray} {v : Value} (h : EBox w g s v) : g < w.heap.size := World.block_lt_of_cell? w _ h.c0

theorem EBox.set1 {w : World} {g : Nat} {s : ByteArray} {v : Value} (h : EBox w g s v) (u : Value) : EBox (w.setCell ⟨g, 1, none⟩ u) g s u := by
  have hl := h.lt
  have h' : w.heap[g]? = _ := h
  rw [Array.getElem?_eq_getElem hl, Option.some.injEq] at h'
  unfold EBox
  simp only [World.setCell]
  rw [Array.getElem?_eq_getElem (by simpa using hl), Array.getElem_modify_self, h']
  rfl

theorem EBox.set {w : World} {g : Nat} {s : ByteArray} {v : Value} (h : EBox w g s v) (t : ByteArray) (u : Value) : EBox ((w.setCell ⟨g, 0, none⟩ (.string t)).setCell ⟨g, 1, none⟩ u) g t u := by
  have hl := h.lt
  have h' : w.heap[g]? = _ := h
  rw [Array.getElem?_eq_getElem hl, Option.some.injEq] at h'
  unfold EBox
  simp only [World.setCell]
  rw [Array.getElem?_eq_getElem (by simpa using hl), Array.getElem_modify_self, Array.getElem_modify_self, h']
  rfl

theorem EBox.other {w : World} {g k j : Nat} {s : ByteArray} {v u : Value} (h : EBox w g s v) (hk : g ≠ k) : EBox (w.setCell ⟨k, j, none⟩ u) g s v := (heap_setCell_other w ⟨k, j, none⟩ g u hk).trans h

theorem EBox.carry {w w' : World} {g : Nat} {s : ByteArray} {v : Value} (h : EBox w g s v) (hb : Below w.heap.size w w') : EBox w' g s v := (hb.block g h.lt).trans h

theorem results_mid {fn : Func} {p q u : Tmp} {ty : TypeId} (h : fn.results = #[.tmp p, .cell q ty, .tmp u]) (tmps : Array Value) (P : Program) (w : World) :
    (results fn tmps).run P w = ((asAddr (tmps.getD q undef)).run P w).andThen fun a w₁ => ((loadVar ty a).run P w₁).andThen fun v w₂ => .ok (.tuple #[tmps.getD p undef, v, tmps.getD u undef]) w₂ := by
  simp only [results, h]
  simp [Sem.run_bind, Result.andThen]

/-- Settings in a block. -/
def SBox (w : World) (g : Nat) (key : ByteArray) (al : Int) (pk : Bool) : Prop := w.heap[g]? = some (.cells #[.string key, .int .i64 al, .bool pk] 49 (0, 0))

theorem SBox.c0 {w : World} {g : Nat} {key : ByteArray} {al : Int} {pk : Bool} (h : SBox w g key al pk) : w.cell? ⟨g, 0, none⟩ = some (.string key) := cell_of_row _ g 0 _ _ _ h
theorem SBox.c1 {w : World} {g : Nat} {key : ByteArray} {al : Int} {pk : Bool} (h : SBox w g key al pk) : w.cell? ⟨g, 1, none⟩ = some (.int .i64 al) := cell_of_row _ g 1 _ _ _ h
theorem SBox.c2 {w : World} {g : Nat} {key : ByteArray} {al : Int} {pk : Bool} (h : SBox w g key al pk) : w.cell? ⟨g, 2, none⟩ = some (.bool pk) := cell_of_row _ g 2 _ _ _ h
theorem SBox.fr {w : World} {g : Nat} {key : ByteArray} {al : Int} {pk : Bool} (h : SBox w g key al pk) (j : Nat) : w.frozen? ⟨g, j, none⟩ = false := by
  have h' : w.heap[g]? = _ := h
  simp [World.frozen?, h']
theorem SBox.lt {w : World} {g : Nat} {key : ByteArray} {al : Int} {pk : Bool} (h : SBox w g key al pk) : g < w.heap.size := World.block_lt_of_cell? w _ h.c0
theorem SBox.carry {w w' : World} {g : Nat} {key : ByteArray} {al : Int} {pk : Bool} (h : SBox w g key al pk) (hb : Below w.heap.size w w') : SBox w' g key al pk := (hb.block g h.lt).trans h

theorem SBox.set1 {w : World} {g : Nat} {key : ByteArray} {al : Int} {pk : Bool} (h : SBox w g key al pk) (a2 : Int) : SBox (w.setCell ⟨g, 1, none⟩ (.int .i64 a2)) g key a2 pk := by
  have hl := h.lt
  have h' : w.heap[g]? = _ := h
  rw [Array.getElem?_eq_getElem hl, Option.some.injEq] at h'
  unfold SBox
  simp only [World.setCell]
  rw [Array.getElem?_eq_getElem (by simpa using hl), Array.getElem_modify_self, h']
  rfl

theorem SBox.set2 {w : World} {g : Nat} {key : ByteArray} {al : Int} {pk : Bool} (h : SBox w g key al pk) (p2 : Bool) : SBox (w.setCell ⟨g, 2, none⟩ (.bool p2)) g key al p2 := by
  have hl := h.lt
  have h' : w.heap[g]? = _ := h
  rw [Array.getElem?_eq_getElem hl, Option.some.injEq] at h'
  unfold SBox
  simp only [World.setCell]
  rw [Array.getElem?_eq_getElem (by simpa using hl), Array.getElem_modify_self, h']
  rfl

theorem SBox.set {w : World} {g : Nat} {key : ByteArray} {al : Int} {pk : Bool} (h : SBox w g key al pk) (k2 : ByteArray) (a2 : Int) (p2 : Bool) : SBox (((w.setCell ⟨g, 0, none⟩ (.string k2)).setCell ⟨g, 1, none⟩ (.int .i64 a2)).setCell ⟨g, 2, none⟩ (.bool p2)) g k2 a2 p2 := by
  have hl := h.lt
  have h' : w.heap[g]? = _ := h
  rw [Array.getElem?_eq_getElem hl, Option.some.injEq] at h'
  unfold SBox
  simp only [World.setCell]
  rw [Array.getElem?_eq_getElem (by simpa using hl), Array.getElem_modify_self, Array.getElem_modify_self, Array.getElem_modify_self, h']
  rfl

theorem OwnE.low {B B' : Nat} {w : World} {v : Value} {es : List Ent} (h : OwnE B w v es) (hB : B' ≤ B) : OwnE B' w v es := by
  refine ⟨h.1, ?_⟩
  rcases h.2 with ⟨rfl, hn⟩ | ⟨g, cap, cur, rfl, hbg, hg⟩
  · exact .inl ⟨rfl, hn⟩
  · exact .inr ⟨g, cap, cur, rfl, Nat.le_trans hB hbg, hg⟩

theorem EntOwn.low {B B' : Nat} {w : World} {es : List Ent} (h : EntOwn B w es) (hB : B' ≤ B) : EntOwn B' w es := fun e he => ⟨(h e he).1.mono hB, (h e he).2⟩

theorem SBox.below {B : Nat} {w w' : World} {g : Nat} {key : ByteArray} {al : Int} {pk : Bool} (h : SBox w g key al pk) (hb : Below B w w') (hg : g < B) : SBox w' g key al pk := (hb.block g hg).trans h

theorem OwnE.setOtherE {B : Nat} {w : World} {v : Value} {es : List Ent} (h : OwnE B w v es) {k j : Nat} (u : Value) (hk : k < B) : OwnE B (w.setCell ⟨k, j, none⟩ u) v es := by
  refine World.ownsRow.kept h (grownBy_set w k j u) ?_
  by_cases e : v.ownBlock = none
  · exact .inl e
  · right
    intro e2
    have := (World.ownsRow.lt h k e2).1
    omega

theorem EntOwn.setOther {B : Nat} {w : World} {es : List Ent} (h : EntOwn B w es) {k j : Nat} (u : Value) (hk : k < B) : EntOwn B (w.setCell ⟨k, j, none⟩ u) es := fun e he => ⟨(h e he).1.setOther u hk, (h e he).2⟩

/-- What a package is made of, in a block. -/
def CBox (w : World) (g : Nat) (v : Value) (key : ByteArray) (al : Int) (pk : Bool) : Prop := w.heap[g]? = some (.cells #[v, .string key, .int .i64 al, .bool pk] 87 (0, 0))

theorem CBox.c0 {w : World} {g : Nat} {v : Value} {key : ByteArray} {al : Int} {pk : Bool} (h : CBox w g v key al pk) : w.cell? ⟨g, 0, none⟩ = some v := cell_of_row _ g 0 _ _ _ h
theorem CBox.c1 {w : World} {g : Nat} {v : Value} {key : ByteArray} {al : Int} {pk : Bool} (h : CBox w g v key al pk) : w.cell? ⟨g, 1, none⟩ = some (.string key) := cell_of_row _ g 1 _ _ _ h
theorem CBox.c2 {w : World} {g : Nat} {v : Value} {key : ByteArray} {al : Int} {pk : Bool} (h : CBox w g v key al pk) : w.cell? ⟨g, 2, none⟩ = some (.int .i64 al) := cell_of_row _ g 2 _ _ _ h
theorem CBox.c3 {w : World} {g : Nat} {v : Value} {key : ByteArray} {al : Int} {pk : Bool} (h : CBox w g v key al pk) : w.cell? ⟨g, 3, none⟩ = some (.bool pk) := cell_of_row _ g 3 _ _ _ h
theorem CBox.fr {w : World} {g : Nat} {v : Value} {key : ByteArray} {al : Int} {pk : Bool} (h : CBox w g v key al pk) (j : Nat) : w.frozen? ⟨g, j, none⟩ = false := by
  have h' : w.heap[g]? = _ := h
  simp [World.frozen?, h']
theorem CBox.lt {w : World} {g : Nat} {v : Value} {key : ByteArray} {al : Int} {pk : Bool} (h : CBox w g v key al pk) : g < w.heap.size := World.block_lt_of_cell? w _ h.c0
theorem CBox.carry {w w' : World} {g : Nat} {v : Value} {key : ByteArray} {al : Int} {pk : Bool} (h : CBox w g v key al pk) (hb : Below w.heap.size w w') : CBox w' g v key al pk := (hb.block g h.lt).trans h

theorem CBox.set {w : World} {g : Nat} {v : Value} {key : ByteArray} {al : Int} {pk : Bool} (h : CBox w g v key al pk) (v2 : Value) (k2 : ByteArray) (a2 : Int) (p2 : Bool) : CBox ((((w.setCell ⟨g, 0, none⟩ v2).setCell ⟨g, 1, none⟩ (.string k2)).setCell ⟨g, 2, none⟩ (.int .i64 a2)).setCell ⟨g, 3, none⟩ (.bool p2)) g v2 k2 a2 p2 := by
  have hl := h.lt
  have h' : w.heap[g]? = _ := h
  rw [Array.getElem?_eq_getElem hl, Option.some.injEq] at h'
  unfold CBox
  simp only [World.setCell]
  rw [Array.getElem?_eq_getElem (by simpa using hl), Array.getElem_modify_self, Array.getElem_modify_self, Array.getElem_modify_self, Array.getElem_modify_self, h']
  rfl

theorem results_fst {fn : Func} {p u : Tmp} {ty : TypeId} (h : fn.results = #[.cell p ty, .tmp u]) (tmps : Array Value) (P : Program) (w : World) :
    (results fn tmps).run P w = ((asAddr (tmps.getD p undef)).run P w).andThen fun a w₁ => ((loadVar ty a).run P w₁).andThen fun v w₂ => .ok (.tuple #[v, tmps.getD u undef]) w₂ := by
  simp only [results, h]
  simp [Sem.run_bind, Result.andThen]

end Go.Proofs.YtgncohclofdhmaaGreat
