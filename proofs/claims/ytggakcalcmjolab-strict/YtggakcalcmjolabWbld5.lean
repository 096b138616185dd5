import Derived.Test.YtggakcalcmjolabWbld4
namespace Go.Proofs.Ytggakcalcmjolab
open Go.RowKit

/-- Bytes that lie outside the row, in a block that is there. -/
structure Laid (w : World) (v : Value) (a : Option Addr) (xs : List UInt8) : Prop where
  bts : Bts w a xs
  apart : Apart v a
  lt : ∀ ad, a = some ad → ad.block < w.heap.size

theorem Laid.next {w w' : World} {v v' : Value} {a : Option Addr} {xs : List UInt8} (h : Laid w v a xs) (g : Grows w w' v v') : Laid w' v' a xs :=
  ⟨g.bts h.bts h.apart, g.apart h.lt h.apart, fun ad e => Nat.lt_of_lt_of_le (h.lt ad e) g.by_.size⟩

theorem Own.laid {B M : Nat} {w w' : World} {v p : Value} {xs ps : List UInt8} (h : Own B w v xs) (hp : Own M w' p ps) (hM : w.heap.size ≤ M) :
    ∃ a cap, p = .slice a ps.length cap ∧ Laid w' v a ps := by
  obtain ⟨a, cap, e, h1, _, _, h2⟩ := h.apart hp hM
  refine ⟨a, cap, e, h1, h2, ?_⟩
  intro ad ea
  subst ea
  subst e
  exact hp.blk_lt ad.block rfl

end Go.Proofs.Ytggakcalcmjolab
