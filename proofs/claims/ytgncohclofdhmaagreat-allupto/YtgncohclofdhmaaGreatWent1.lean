import Derived.Test.YtgncohclofdhmaaGreatWsum2
import Derived.Deep.QuietTactic
import Derived.BigQuiet
namespace Go.Proofs.YtgncohclofdhmaaGreat
open Go.RowKit

/-- An entry in memory: its path; where its body lies, the body, the capacity. -/
structure Ent where
  path : ByteArray
  adr : Option Addr
  body : List UInt8
  cap : Nat

def noEnt : Ent := ⟨ByteArray.empty, none, [], 0⟩
def Ent.val (e : Ent) : Value := .slice e.adr e.body.length e.cap
def Ent.cells (e : Ent) : List Value := [.string e.path, e.val]

def entCells : List Ent → List Value
  | [] => []
  | e :: r => .string e.path :: e.val :: entCells r

theorem entCells_length : ∀ es : List Ent, (entCells es).length = es.length * 2
  | [] => rfl
  | e :: r => by simp [entCells, entCells_length r]; omega

theorem entCells_append : ∀ es fs : List Ent, entCells (es ++ fs) = entCells es ++ entCells fs
  | [], _ => rfl
  | e :: r, fs => by simp [entCells, entCells_append r fs]

theorem entCells_one : ∀ es : List Ent, ∀ u ∈ entCells es, u.oneCell' = true
  | [], u, h => by cases h
  | e :: r, u, h => by
    simp only [entCells, List.mem_cons] at h
    rcases h with rfl | rfl | h
    · rfl
    · rfl
    · exact entCells_one r u h

theorem entCells_get : ∀ (es : List Ent) (i : Nat), i < es.length → (entCells es)[i * 2]? = some (.string (es.getD i noEnt).path) ∧ (entCells es)[i * 2 + 1]? = some (es.getD i noEnt).val
  | [], i, h => absurd h (Nat.not_lt_zero i)
  | e :: r, 0, _ => ⟨rfl, rfl⟩
  | e :: r, i + 1, h => by
    have := entCells_get r i (by simpa using h)
    rw [show (i + 1) * 2 = i * 2 + 1 + 1 from by omega]
    simpa [entCells] using this

/-- From 'a' on lie the entries es. -/
def EntAt (w : World) (a : Option Addr) (es : List Ent) : Prop :=
  ∀ i, i < es.length → ∃ b off, a = some ⟨b, off, none⟩ ∧ w.cell? ⟨b, off + i * 2, none⟩ = some (.string (es.getD i noEnt).path) ∧ w.cell? ⟨b, off + i * 2 + 1, none⟩ = some (es.getD i noEnt).val

/-- Each is a path and bytes that lie there. -/
def EntGood (w : World) (es : List Ent) : Prop := ∀ e, e ∈ es → Bts w e.adr e.body ∧ e.body.length ≤ e.cap ∧ e.cap ≤ maxLen ∧ e.path.size ≤ maxLen

theorem EntAt.carry {w w' : World} {a : Option Addr} {es : List Ent} (h : EntAt w a es) (hb : Below w.heap.size w w') : EntAt w' a es := by
  intro i hi
  obtain ⟨b, off, e, h1, h2⟩ := h i hi
  exact ⟨b, off, e, (hb.cell (p := ⟨b, off + i * 2, none⟩) (World.block_lt_of_cell? w _ h1)).trans h1, (hb.cell (p := ⟨b, off + i * 2 + 1, none⟩) (World.block_lt_of_cell? w _ h2)).trans h2⟩

theorem EntGood.carry {w w' : World} {es : List Ent} (h : EntGood w es) (hb : Below w.heap.size w w') : EntGood w' es :=
  fun e he => ⟨(h e he).1.carry hb, (h e he).2⟩

theorem EntGood.get {w : World} {es : List Ent} (h : EntGood w es) (i : Nat) (hi : i < es.length) : Bts w (es.getD i noEnt).adr (es.getD i noEnt).body ∧ (es.getD i noEnt).body.length ≤ (es.getD i noEnt).cap ∧ (es.getD i noEnt).cap ≤ maxLen ∧ (es.getD i noEnt).path.size ≤ maxLen := by
  apply h
  rw [List.getD_eq_getElem?_getD, List.getElem?_eq_getElem hi]
  exact List.getElem_mem hi

theorem EntAt.nil (w : World) (a : Option Addr) : EntAt w a [] := fun i h => absurd h (Nat.not_lt_zero i)
theorem EntGood.nil (w : World) : EntGood w [] := fun e h => by cases h

/-- A list of entries of the call's own. -/
def OwnE (B : Nat) (w : World) (v : Value) (es : List Ent) : Prop := w.ownsRow B 46 2 v es.length (entCells es)

theorem OwnE.nil (B : Nat) (w : World) : OwnE B w (.slice none 0 0) [] := World.ownsRow_nil w B 46 2

theorem OwnE.shape {B : Nat} {w : World} {v : Value} {es : List Ent} (h : OwnE B w v es) : ∃ a cap, v = .slice a es.length cap ∧ EntAt w a es ∧ es.length ≤ cap ∧ cap ≤ maxLen := by
  rcases h.2 with ⟨rfl, hn⟩ | ⟨g, cap, cur, rfl, hbg, hg, hnc, hcm, hcs, htake⟩
  · have : es = [] := List.eq_nil_of_length_eq_zero hn
    subst this
    exact ⟨none, 0, rfl, EntAt.nil _ _, Nat.le_refl _, by simp [maxLen]⟩
  · refine ⟨_, cap, rfl, ?_, hnc, hcm⟩
    intro i hi
    have hc := World.ownsRow.cellAt (g := g) (cap := cap) h (i * 2) (by omega)
    have hc2 := World.ownsRow.cellAt (g := g) (cap := cap) h (i * 2 + 1) (by omega)
    obtain ⟨e1, e2⟩ := entCells_get es i hi
    refine ⟨g, 0, rfl, ?_, ?_⟩
    · rw [Nat.zero_add, hc, e1]
    · rw [Nat.zero_add, hc2, e2]

theorem OwnE.carry {B : Nat} {w w' : World} {v : Value} {es : List Ent} (h : OwnE B w v es) (hb : Below w.heap.size w w') : OwnE B w' v es := by
  refine ⟨h.1, ?_⟩
  rcases h.2 with ⟨rfl, hn⟩ | ⟨g, cap, cur, rfl, hbg, hg, hnc, hcm, hcs, htake⟩
  · exact .inl ⟨rfl, hn⟩
  · have hlt : g < w.heap.size := by
      by_cases hh : g < w.heap.size
      · exact hh
      · rw [Array.getElem?_eq_none (by omega)] at hg; simp at hg
    exact .inr ⟨g, cap, cur, rfl, hbg, (hb.block g hlt).trans hg, hnc, hcm, hcs, htake⟩

theorem OwnE.alloc {B : Nat} {w : World} {v : Value} {es : List Ent} (h : OwnE B w v es) (o : Obj) : OwnE B (w.alloc o) v es := World.ownsRow.alloc h o

theorem below_ownE {B : Nat} {w0 w w' : World} {v : Value} {es : List Ent} (hb : Below B w0 w) (hown : OwnE B w v es) (hg : w.grownBy w' v.ownBlock) (hB : B ≤ w0.heap.size) : Below B w0 w' :=
  hb.grown hg (Nat.le_trans hB hb.size) fun k hk => (World.ownsRow.lt hown k hk).1

theorem Tryz.info46 : (Tryz.prog.info? 46).map (fun i => (i.zero, i.size, i.bytes)) = some (some (.agg #[.string ByteArray.empty, .slice none 0 0]), 2, 40) := by kernel_rfl

theorem wpAppE {w : World} {ops : Array Oper} {rest : List Oper} {o : Oper} {a : Act} {Q : Exit → Act → World → Prop} (hgd : o.guard = none) (s x : Operand)
    (ho : o.op = .call { callee := .builtin .append, args := #[s, x], argTypes := #[44, 44] })
    (B : Nat) (v : Value) (xs : List Ent) (hs : a.eval s = v) (hown : OwnE B w v xs)
    (xv : Value) (ys : List Ent) (hx : a.eval x = xv) (m : Nat) (hsrc : Src Tryz.prog 2 44 xv m (entCells ys) w)
    (hlen : (xs.length + ys.length) * 40 ≤ 140737488355328) (hB : B ≤ w.heap.size)
    (h : ∀ v' w' zs, Hid (zs = xs ++ ys) → OwnE B w' v' zs → Grows w w' v v' → wpList Tryz.prog ops Q rest (a.put o.dst v') w') : wpList Tryz.prog ops Q (o :: rest) a w := by
  obtain ⟨i0, hi, hz0, hz1, hz2⟩ := info_parts Tryz.info46
  have hm : m = ys.length := by have := hsrc.newsLen; rw [entCells_length] at this; omega
  refine wpList_append_any w hgd s x 44 44 ho B 46 i0 (.agg #[.string ByteArray.empty, .slice none 0 0]) 2 40 Tryz.underlying44 hi hz0 hz1 hz2 rfl v xs.length (entCells xs) hs hown xv m (entCells ys) hx hsrc (by unfold maxLen; omega) (by omega) hB ?_
  intro v' w' h1 h2 h3
  refine h v' w' (xs ++ ys) rfl ?_ ⟨h2, ?_⟩
  · unfold OwnE
    rw [entCells_append, List.length_append, ← hm]
    exact h1
  · rcases h3 with e | e
    · exact .inl e
    · exact .inr ⟨_, e, Nat.le_refl _⟩

/-- One entry in a block of its own. -/
theorem src_ent (w : World) (e : Ent) : Src Tryz.prog 2 44 (.slice (some ⟨w.heap.size, 0, none⟩) 1 1) 1 (entCells [e]) (w.alloc (.cells #[.string e.path, e.val] 46)) := by
  refine Src.ofSlice _ Tryz.underlying44 ⟨w.heap.size, 0, none⟩ 1 1 _ (by simp [entCells_length]) ?_ (entCells_one _)
  intro j u hj
  rw [Addr.add_lit, Nat.zero_add, cell_of_row _ w.heap.size j _ _ _ (heap_alloc_new w _)]
  simpa [entCells] using hj

/-- Bytes of the call's own lie in another block than entries of the call's own. -/
theorem own_ne {B B' : Nat} {w : World} {v u : Value} {xs : List UInt8} {es : List Ent} (h : Own B w v xs) (k : OwnE B' w u es) : v.ownBlock = none ∨ v.ownBlock ≠ u.ownBlock := by
  rcases h.2 with ⟨rfl, _⟩ | ⟨g, cap, cur, rfl, _, hg, _⟩
  · exact .inl rfl
  · right
    rcases k.2 with ⟨rfl, _⟩ | ⟨g', cap', cur', rfl, _, hg', _⟩
    · simp [Value.ownBlock]
    · intro e
      simp [Value.ownBlock] at e
      subst e
      rw [hg] at hg'
      simp at hg'

theorem Own.kept {B : Nat} {w w' : World} {v : Value} {xs : List UInt8} {row : Option Nat} (h : Own B w v xs) (hg : w.grownBy w' row) (hne : v.ownBlock = none ∨ v.ownBlock ≠ row) : Own B w' v xs := World.ownsRow.kept h hg hne

def EntOwn (B : Nat) (w : World) (es : List Ent) : Prop := ∀ e, e ∈ es → Own B w e.val e.body ∧ e.path.size ≤ maxLen

theorem EntOwn.good {B : Nat} {w : World} {es : List Ent} (h : EntOwn B w es) : EntGood w es := by
  intro e he
  obtain ⟨h1, h2⟩ := h e he
  obtain ⟨a, cap, e1, h3, h4, h5⟩ := h1.shape
  unfold Ent.val at e1
  simp only [Value.slice.injEq, true_and] at e1
  obtain ⟨rfl, rfl⟩ := e1
  exact ⟨h3, h4, h5, h2⟩

theorem EntOwn.nil (B : Nat) (w : World) : EntOwn B w [] := fun e h => by cases h

theorem EntOwn.carry {B : Nat} {w w' : World} {es : List Ent} (h : EntOwn B w es) (hb : Below w.heap.size w w') : EntOwn B w' es := fun e he => ⟨(h e he).1.carry hb, (h e he).2⟩

theorem EntOwn.grown {B B' : Nat} {w w' : World} {u : Value} {es fs : List Ent} (h : EntOwn B w es) (k : OwnE B' w u fs) (hg : w.grownBy w' u.ownBlock) : EntOwn B w' es :=
  fun e he => ⟨(h e he).1.kept hg (own_ne (h e he).1 k), (h e he).2⟩

theorem EntOwn.more {B : Nat} {w : World} {es : List Ent} {e : Ent} (h : EntOwn B w es) (k : Own B w e.val e.body) (hp : e.path.size ≤ maxLen) : EntOwn B w (es ++ [e]) := by
  intro f hf
  rcases List.mem_append.1 hf with h1 | h1
  · exact h f h1
  · simp at h1
    subst h1
    exact ⟨k, hp⟩

end Go.Proofs.YtgncohclofdhmaaGreat
