import Derived.Test.YtgncohclofdhmabWbld1
import Derived.Test.YtgncohclofdhmabWpk
namespace Go.Proofs.Ytgncohclofdhmab
open Go.RowKit

/-- Some bytes in a block of their own. -/
theorem src_cells (w : World) (vs : Array Value) (xs : List UInt8) (n : Nat) (h : vs = (cells xs).toArray) (hn : n = xs.length) :
    Src Try.prog 1 25 (.slice (some ⟨w.heap.size, 0, none⟩) n n) n (cells xs) (w.alloc (.cells vs 5)) := by
  subst h hn
  refine Src.ofSlice _ Try.underlying25 ⟨w.heap.size, 0, none⟩ _ _ _ (by simp [cells_length]) ?_ (cells_one xs)
  intro j u hj
  rw [Addr.add_lit, Nat.zero_add, cell_of_row _ w.heap.size j _ _ _ (heap_alloc_new w _)]
  simpa using hj

theorem ofNat_val (n : Nat) : ((UInt8.ofNat n).toNat : Int) = (n : Int) % 256 := by
  rw [UInt8.toNat_ofNat']
  omega

theorem cells_two (n : Nat) (hn : n < 65536) : #[Value.int .u8 ((n : Int) / 256), Value.int .u8 ((n : Int) % 256)] = (cells (twoOf n)).toArray := by
  simp only [cells, cell, twoOf, List.map_cons, List.map_nil, ofNat_val]
  congr 3
  omega

theorem cells_four (n : Nat) (hn : n < 4294967296) : #[Value.int .u8 ((n : Int) / 16777216), Value.int .u8 ((n : Int) / 65536 % 256), Value.int .u8 ((n : Int) / 256 % 256), Value.int .u8 ((n : Int) % 256)] = (cells (fourOf n)).toArray := by
  simp only [cells, cell, fourOf, List.map_cons, List.map_nil, ofNat_val]
  congr 3
  omega

end Go.Proofs.Ytgncohclofdhmab

namespace Go.Proofs.Ytgncohclofdhmab
open Go.RowKit

theorem Grows.ofBelow {w w' : World} (v : Value) (h : Below w.heap.size w w') : Grows w w' v v :=
  ⟨⟨h.os, h.tape, h.output, h.size, fun k hk _ => h.block k hk⟩, .inl rfl⟩

/-- A cell outside the row keeps, and stays outside. -/
theorem Grows.keep {w w' : World} {v v' : Value} {x : Addr} {u : Value} (hg : Grows w w' v v') (hc : w.cell? x = some u) (hne : v.ownBlock ≠ some x.block) : w'.cell? x = some u ∧ v'.ownBlock ≠ some x.block := by
  refine ⟨hg.by_.cell hc (fun e => hne e.symm), ?_⟩
  rcases hg.next with h | ⟨g, h, hge⟩
  · rw [h]; exact hne
  · rw [h]
    have := World.block_lt_of_cell? w x hc
    intro e
    simp at e
    omega

theorem cell_alloc {w : World} {x : Addr} {u : Value} (o : Obj) (h : w.cell? x = some u) : (w.alloc o).cell? x = some u :=
  (((Below.refl w.heap.size w).alloc (Nat.le_refl _) o).cell (World.block_lt_of_cell? w x h)).trans h

theorem cell_new (w : World) (vs : Array Value) (t : TypeId) (j : Nat) : (w.alloc (.cells vs t)).cell? ⟨w.heap.size, j, none⟩ = vs[j]? := cell_of_row _ w.heap.size j _ _ _ (heap_alloc_new w _)

theorem src_len (w : World) (n : Nat) (h : n ≤ 255) :
    Src Try.prog 1 25 (.slice (some ⟨w.heap.size, 0, none⟩) 1 1) 1 (cells [UInt8.ofNat n]) (w.alloc (.cells #[.int .u8 (n : Int)] 5)) := by
  have h1 := src_one w (z := (n : Int)) (by omega) (by omega)
  simpa using h1

theorem Own.blk_lt {B : Nat} {w : World} {v : Value} {xs : List UInt8} (h : Own B w v xs) : ∀ k, v.ownBlock = some k → k < w.heap.size := fun k hk => (World.ownsRow.lt h k hk).2

theorem Own.ne_new {B : Nat} {w : World} {v : Value} {xs : List UInt8} (h : Own B w v xs) (n : Nat) (hn : w.heap.size ≤ n) : v.ownBlock ≠ some n := by
  intro e
  have := h.blk_lt n e
  omega

/-- Bytes made later lie elsewhere. -/
theorem Own.apart {B M : Nat} {w w' : World} {v p : Value} {xs ps : List UInt8} (h : Own B w v xs) (hp : Own M w' p ps) (hM : w.heap.size ≤ M) :
    ∃ a cap, p = .slice a ps.length cap ∧ Bts w' a ps ∧ ps.length ≤ cap ∧ cap ≤ maxLen ∧ Apart v a := by
  rcases hp.2 with ⟨rfl, hn⟩ | ⟨g, cap, cur, rfl, hbg, hg, hnc, hcm, hcs, htake⟩
  · have : ps = [] := List.eq_nil_of_length_eq_zero hn
    subst this
    exact ⟨none, 0, rfl, Bts.nil _ _, Nat.le_refl _, by simp [maxLen], fun ad e => by cases e⟩
  · refine ⟨_, cap, rfl, ?_, hnc, hcm, ?_⟩
    · intro i hi
      refine ⟨g, 0, rfl, ?_⟩
      have hc := World.ownsRow.cellAt (g := g) (cap := cap) hp i (by omega)
      rw [Nat.zero_add, hc, cells_get ps i hi]
    · intro ad e
      simp only [Option.some.injEq] at e
      subst e
      exact h.ne_new g (by omega)

end Go.Proofs.Ytgncohclofdhmab

namespace Go.Proofs.Ytgncohclofdhmab
open Go.RowKit

theorem packGo_two (xs : List UInt8) : ∀ f i b, b ≤ i → i ≤ xs.length → (packGo xs f i b).length + 2 * b ≤ 2 * xs.length := by
  intro f
  induction f with
  | zero =>
    intro i b h1 h2
    have := runOf_length (xs.drop b)
    simp at this
    rw [packGo]
    omega
  | succ f ih =>
    intro i b h1 h2
    have hr := runOf_length (xs.drop b)
    simp at hr
    by_cases hi : i < xs.length
    · by_cases hc : (copyOf xs i).1 = 0
      · rw [packGo_lit xs f i b hi hc]
        exact ih (i + 1) b (by omega) (by omega)
      · rw [packGo_copy xs f i b hi hc]
        have hs := copyOf_spec xs i
        rcases hs with h | h
        · rw [h] at hc; simp at hc
        · have := ih (i + (copyOf xs i).1) (i + (copyOf xs i).1) (Nat.le_refl _) h.2.2.2.2.2.1
          have hr2 := runOf_length ((xs.take i).drop b)
          simp at hr2 ⊢
          omega
    · rw [packGo_end xs _ i b (by omega)]
      omega

theorem packOf_le (xs : List UInt8) : (packOf xs).length ≤ 2 * xs.length := by
  have := packGo_two xs xs.length 0 0 (by omega) (by omega)
  unfold packOf
  omega

end Go.Proofs.Ytgncohclofdhmab

namespace Go.Proofs.Ytgncohclofdhmab
open Go.RowKit

/-- Bytes that lie outside the row, in a block that is there. -/
structure Laid (w : World) (v : Value) (a : Option Addr) (xs : List UInt8) : Prop where
  bts : Bts w a xs
  apart : Apart v a
  lt : ∀ ad, a = some ad → ad.block < w.heap.size

theorem Laid.next {w w' : World} {v v' : Value} {a : Option Addr} {xs : List UInt8} (h : Laid w v a xs) (g : Grows w w' v v') : Laid w' v' a xs :=
  ⟨g.bts h.bts h.apart, g.apart h.lt h.apart, fun ad e => Nat.lt_of_lt_of_le (h.lt ad e) g.by_.size⟩

theorem Own.laid {B M : Nat} {w w' : World} {v p : Value} {xs ps : List UInt8} (h : Own B w v xs) (hp : Own M w' p ps) (hM : w.heap.size ≤ M) :
    ∃ a cap, p = .slice a ps.length cap ∧ Laid w' v a ps := by
  obtain ⟨a, cap, e, h1, _, _, h2⟩ := h.apart hp hM
  refine ⟨a, cap, e, h1, h2, ?_⟩
  intro ad ea
  subst ea
  subst e
  exact hp.blk_lt ad.block rfl

end Go.Proofs.Ytgncohclofdhmab
