import Derived.Test.YtggakcalcmjolabWbld2
namespace Go.Proofs.Ytggakcalcmjolab
open Go.RowKit

theorem Grows.ofBelow {w w' : World} (v : Value) (h : Below w.heap.size w w') : Grows w w' v v :=
  ⟨⟨h.os, h.tape, h.output, h.size, fun k hk _ => h.block k hk⟩, .inl rfl⟩

/-- A cell outside the row keeps, and stays outside. -/
theorem Grows.keep {w w' : World} {v v' : Value} {x : Addr} {u : Value} (hg : Grows w w' v v') (hc : w.cell? x = some u) (hne : v.ownBlock ≠ some x.block) : w'.cell? x = some u ∧ v'.ownBlock ≠ some x.block := by
  refine ⟨hg.by_.cell hc (fun e => hne e.symm), ?_⟩
  rcases hg.next with h | ⟨g, h, hge⟩
  · rw [h]; exact hne
  · rw [h]
    have := World.block_lt_of_cell? w x hc
    intro e
    simp at e
    omega

theorem cell_alloc {w : World} {x : Addr} {u : Value} (o : Obj) (h : w.cell? x = some u) : (w.alloc o).cell? x = some u :=
  (((Below.refl w.heap.size w).alloc (Nat.le_refl _) o).cell (World.block_lt_of_cell? w x h)).trans h

theorem cell_new (w : World) (vs : Array Value) (t : TypeId) (j : Nat) : (w.alloc (.cells vs t)).cell? ⟨w.heap.size, j, none⟩ = vs[j]? := cell_of_row _ w.heap.size j _ _ _ (heap_alloc_new w _)

theorem src_len (w : World) (n : Nat) (h : n ≤ 255) :
    Src Try.prog 1 25 (.slice (some ⟨w.heap.size, 0, none⟩) 1 1) 1 (cells [UInt8.ofNat n]) (w.alloc (.cells #[.int .u8 (n : Int)] 5)) := by
  have h1 := src_one w (z := (n : Int)) (by omega) (by omega)
  simpa using h1

theorem Own.blk_lt {B : Nat} {w : World} {v : Value} {xs : List UInt8} (h : Own B w v xs) : ∀ k, v.ownBlock = some k → k < w.heap.size := fun k hk => (World.ownsRow.lt h k hk).2

theorem Own.ne_new {B : Nat} {w : World} {v : Value} {xs : List UInt8} (h : Own B w v xs) (n : Nat) (hn : w.heap.size ≤ n) : v.ownBlock ≠ some n := by
  intro e
  have := h.blk_lt n e
  omega

/-- Bytes made later lie elsewhere. -/
theorem Own.apart {B M : Nat} {w w' : World} {v p : Value} {xs ps : List UInt8} (h : Own B w v xs) (hp : Own M w' p ps) (hM : w.heap.size ≤ M) :
    ∃ a cap, p = .slice a ps.length cap ∧ Bts w' a ps ∧ ps.length ≤ cap ∧ cap ≤ maxLen ∧ Apart v a := by
  rcases hp.2 with ⟨rfl, hn⟩ | ⟨g, cap, cur, rfl, hbg, hg, hnc, hcm, hcs, htake⟩
  · have : ps = [] := List.eq_nil_of_length_eq_zero hn
    subst this
    exact ⟨none, 0, rfl, Bts.nil _ _, Nat.le_refl _, by simp [maxLen], fun ad e => by cases e⟩
  · refine ⟨_, cap, rfl, ?_, hnc, hcm, ?_⟩
    · intro i hi
      refine ⟨g, 0, rfl, ?_⟩
      have hc := World.ownsRow.cellAt (g := g) (cap := cap) hp i (by omega)
      rw [Nat.zero_add, hc, cells_get ps i hi]
    · intro ad e
      simp only [Option.some.injEq] at e
      subst e
      exact h.ne_new g (by omega)

end Go.Proofs.Ytggakcalcmjolab
