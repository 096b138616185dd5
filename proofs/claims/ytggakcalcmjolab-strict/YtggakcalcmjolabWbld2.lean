import Derived.Test.YtggakcalcmjolabWbld1
import Derived.Test.YtggakcalcmjolabWpack6
namespace Go.Proofs.Ytggakcalcmjolab
open Go.RowKit

/-- Some bytes in a block of their own. -/
theorem src_cells (w : World) (vs : Array Value) (xs : List UInt8) (n : Nat) (h : vs = (cells xs).toArray) (hn : n = xs.length) :
    Src Try.prog 1 25 (.slice (some ⟨w.heap.size, 0, none⟩) n n) n (cells xs) (w.alloc (.cells vs 5)) := by
  subst h hn
  refine Src.ofSlice _ Try.underlying25 ⟨w.heap.size, 0, none⟩ _ _ _ (by simp [cells_length]) ?_ (cells_one xs)
  intro j u hj
  rw [Addr.add_lit, Nat.zero_add, cell_of_row _ w.heap.size j _ _ _ (heap_alloc_new w _)]
  simpa using hj

theorem ofNat_val (n : Nat) : ((UInt8.ofNat n).toNat : Int) = (n : Int) % 256 := by
  rw [UInt8.toNat_ofNat']
  omega

theorem cells_two (n : Nat) (hn : n < 65536) : #[Value.int .u8 ((n : Int) / 256), Value.int .u8 ((n : Int) % 256)] = (cells (twoOf n)).toArray := by
  simp only [cells, cell, twoOf, List.map_cons, List.map_nil, ofNat_val]
  congr 3
  omega

theorem cells_four (n : Nat) (hn : n < 4294967296) : #[Value.int .u8 ((n : Int) / 16777216), Value.int .u8 ((n : Int) / 65536 % 256), Value.int .u8 ((n : Int) / 256 % 256), Value.int .u8 ((n : Int) % 256)] = (cells (fourOf n)).toArray := by
  simp only [cells, cell, fourOf, List.map_cons, List.map_nil, ofNat_val]
  congr 3
  omega

end Go.Proofs.Ytggakcalcmjolab
