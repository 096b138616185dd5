import Derived.Test.YtggakcalcmjolaaWsort
import Derived.Test.YtggakcalcmjolaaWpath4
import Derived.Test.YtggakcalcmjolaaMall
namespace Go.Proofs.Ytggakcalcmjolaa
open Go.RowKit

def fltCells : List Flt → List Value
  | [] => []
  | f :: r => .int .i64 (f.1 : Int) :: .string f.2 :: fltCells r

theorem fltCells_length : ∀ es : List Flt, (fltCells es).length = es.length * 2
  | [] => rfl
  | e :: r => by simp [fltCells, fltCells_length r]; omega

theorem fltCells_append : ∀ es fs : List Flt, fltCells (es ++ fs) = fltCells es ++ fltCells fs
  | [], _ => rfl
  | e :: r, fs => by simp [fltCells, fltCells_append r fs]

theorem fltCells_one : ∀ es : List Flt, ∀ u ∈ fltCells es, u.oneCell' = true
  | [], u, h => by cases h
  | e :: r, u, h => by
    simp only [fltCells, List.mem_cons] at h
    rcases h with rfl | rfl | h
    · rfl
    · rfl
    · exact fltCells_one r u h

theorem fltCells_get : ∀ (es : List Flt) (i : Nat), i < es.length → (fltCells es)[i * 2]? = some (.int .i64 ((es.getD i noFlt).1 : Int)) ∧ (fltCells es)[i * 2 + 1]? = some (.string (es.getD i noFlt).2)
  | [], i, h => absurd h (Nat.not_lt_zero i)
  | e :: r, 0, _ => ⟨rfl, rfl⟩
  | e :: r, i + 1, h => by
    have := fltCells_get r i (by simpa using h)
    rw [show (i + 1) * 2 = i * 2 + 1 + 1 from by omega]
    simpa [fltCells] using this

/-- From 'a' on lie the faults es. -/
def FltAt (w : World) (a : Option Addr) (es : List Flt) : Prop :=
  ∀ i, i < es.length → ∃ b off, a = some ⟨b, off, none⟩ ∧ w.cell? ⟨b, off + i * 2, none⟩ = some (.int .i64 ((es.getD i noFlt).1 : Int)) ∧ w.cell? ⟨b, off + i * 2 + 1, none⟩ = some (.string (es.getD i noFlt).2)

theorem FltAt.carry {w w' : World} {a : Option Addr} {es : List Flt} (h : FltAt w a es) (hb : Below w.heap.size w w') : FltAt w' a es := by
  intro i hi
  obtain ⟨b, off, e, h1, h2⟩ := h i hi
  exact ⟨b, off, e, (hb.cell (p := ⟨b, off + i * 2, none⟩) (World.block_lt_of_cell? w _ h1)).trans h1, (hb.cell (p := ⟨b, off + i * 2 + 1, none⟩) (World.block_lt_of_cell? w _ h2)).trans h2⟩

theorem FltAt.nil (w : World) (a : Option Addr) : FltAt w a [] := fun i h => absurd h (Nat.not_lt_zero i)

/-- A list of faults of the call's own. -/
def OwnF (B : Nat) (w : World) (v : Value) (es : List Flt) : Prop := w.ownsRow B 66 2 v es.length (fltCells es)

theorem OwnF.nil (B : Nat) (w : World) : OwnF B w (.slice none 0 0) [] := World.ownsRow_nil w B 66 2

theorem OwnF.shape {B : Nat} {w : World} {v : Value} {es : List Flt} (h : OwnF B w v es) : ∃ a cap, v = .slice a es.length cap ∧ FltAt w a es ∧ es.length ≤ cap ∧ cap ≤ maxLen := by
  rcases h.2 with ⟨rfl, hn⟩ | ⟨g, cap, cur, rfl, hbg, hg, hnc, hcm, hcs, htake⟩
  · have : es = [] := List.eq_nil_of_length_eq_zero hn
    subst this
    exact ⟨none, 0, rfl, FltAt.nil _ _, Nat.le_refl _, by simp [maxLen]⟩
  · refine ⟨_, cap, rfl, ?_, hnc, hcm⟩
    intro i hi
    have hc := World.ownsRow.cellAt (g := g) (cap := cap) h (i * 2) (by omega)
    have hc2 := World.ownsRow.cellAt (g := g) (cap := cap) h (i * 2 + 1) (by omega)
    obtain ⟨e1, e2⟩ := fltCells_get es i hi
    refine ⟨g, 0, rfl, ?_, ?_⟩
    · rw [Nat.zero_add, hc, e1]
    · rw [Nat.zero_add, hc2, e2]

theorem OwnF.carry {B : Nat} {w w' : World} {v : Value} {es : List Flt} (h : OwnF B w v es) (hb : Below w.heap.size w w') : OwnF B w' v es := by
  refine ⟨h.1, ?_⟩
  rcases h.2 with ⟨rfl, hn⟩ | ⟨g, cap, cur, rfl, hbg, hg, hnc, hcm, hcs, htake⟩
  · exact .inl ⟨rfl, hn⟩
  · have hlt : g < w.heap.size := by
      by_cases hh : g < w.heap.size
      · exact hh
      · rw [Array.getElem?_eq_none (by omega)] at hg; simp at hg
    exact .inr ⟨g, cap, cur, rfl, hbg, (hb.block g hlt).trans hg, hnc, hcm, hcs, htake⟩

theorem OwnF.alloc {B : Nat} {w : World} {v : Value} {es : List Flt} (h : OwnF B w v es) (o : Obj) : OwnF B (w.alloc o) v es := World.ownsRow.alloc h o

theorem below_ownF {B : Nat} {w0 w w' : World} {v : Value} {es : List Flt} (hb : Below B w0 w) (hown : OwnF B w v es) (hg : w.grownBy w' v.ownBlock) (hB : B ≤ w0.heap.size) : Below B w0 w' :=
  hb.grown hg (Nat.le_trans hB hb.size) fun k hk => (World.ownsRow.lt hown k hk).1

theorem Try.info66 : (Try.prog.info? 66).map (fun i => (i.zero, i.size, i.bytes)) = some (some (.agg #[.int .i64 0, .string ByteArray.empty]), 2, 24) := by kernel_rfl

theorem src_flts {w : World} {a : Option Addr} {es : List Flt} {c n : Nat} (h : FltAt w a es) (hn : n = es.length) : Src Try.prog 2 68 (.slice a n c) n (fltCells es) w := by
  subst hn
  match a with
  | none =>
    have : es = [] := by
      cases es with
      | nil => rfl
      | cons x r => obtain ⟨b, off, e, _⟩ := h 0 (by simp); simp at e
    subst this
    exact Src.ofNil w Try.underlying68 c
  | some ad =>
    refine Src.ofSlice w Try.underlying68 ad es.length c (fltCells es) (by simp [fltCells_length]) ?_ (fltCells_one es)
    intro j u hj
    have hl : j < es.length * 2 := by
      have := (List.getElem?_eq_some_iff.1 hj).1
      simpa [fltCells_length] using this
    obtain ⟨b, off, e, hc, hc2⟩ := h (j / 2) (by omega)
    simp only [Option.some.injEq] at e
    subst e
    obtain ⟨e1, e2⟩ := fltCells_get es (j / 2) (by omega)
    rw [Addr.add_lit]
    rcases Nat.mod_two_eq_zero_or_one j with hm | hm
    · rw [show j / 2 * 2 = j from by omega] at hc e1
      rw [hj] at e1
      rw [hc, e1]
    · rw [show off + j / 2 * 2 + 1 = off + j from by omega] at hc2
      rw [show j / 2 * 2 + 1 = j from by omega] at e2
      rw [hj] at e2
      rw [hc2, e2]

theorem wpAppF {w : World} {ops : Array Oper} {rest : List Oper} {o : Oper} {a : Act} {Q : Exit → Act → World → Prop} (hgd : o.guard = none) (s x : Operand)
    (ho : o.op = .call { callee := .builtin .append, args := #[s, x], argTypes := #[68, 68] })
    (B : Nat) (v : Value) (xs : List Flt) (hs : a.eval s = v) (hown : OwnF B w v xs)
    (xv : Value) (ys : List Flt) (hx : a.eval x = xv) (m : Nat) (hsrc : Src Try.prog 2 68 xv m (fltCells ys) w)
    (hlen : (xs.length + ys.length) * 24 ≤ 140737488355328) (hB : B ≤ w.heap.size)
    (h : ∀ v' w' zs, Hid (zs = xs ++ ys) → OwnF B w' v' zs → Grows w w' v v' → wpList Try.prog ops Q rest (a.put o.dst v') w') : wpList Try.prog ops Q (o :: rest) a w := by
  obtain ⟨i0, hi, hz0, hz1, hz2⟩ := info_parts Try.info66
  have hm : m = ys.length := by have := hsrc.newsLen; rw [fltCells_length] at this; omega
  refine wpList_append_any w hgd s x 68 68 ho B 66 i0 (.agg #[.int .i64 0, .string ByteArray.empty]) 2 24 Try.underlying68 hi hz0 hz1 hz2 rfl v xs.length (fltCells xs) hs hown xv m (fltCells ys) hx hsrc (by unfold maxLen; omega) (by omega) hB ?_
  intro v' w' h1 h2 h3
  refine h v' w' (xs ++ ys) rfl ?_ ⟨h2, ?_⟩
  · unfold OwnF
    rw [fltCells_append, List.length_append, ← hm]
    exact h1
  · rcases h3 with e | e
    · exact .inl e
    · exact .inr ⟨_, e, Nat.le_refl _⟩

/-- One fault in a block of its own. -/
theorem src_flt (w : World) (n : Nat) (z : Int) (p : ByteArray) (hz : z = (n : Int)) : Src Try.prog 2 68 (.slice (some ⟨w.heap.size, 0, none⟩) 1 1) 1 (fltCells [(n, p)]) (w.alloc (.cells #[.int .i64 z, .string p] 66)) := by
  subst hz
  refine Src.ofSlice _ Try.underlying68 ⟨w.heap.size, 0, none⟩ 1 1 _ (by simp [fltCells_length]) ?_ (fltCells_one _)
  intro j u hj
  rw [Addr.add_lit, Nat.zero_add, cell_of_row _ w.heap.size j _ _ _ (heap_alloc_new w _)]
  simpa [fltCells] using hj

end Go.Proofs.Ytggakcalcmjolaa
