import Derived.Test.YtggakcalcmjolaaWbld1
import Derived.Test.YtggakcalcmjolaaWpack6
namespace Go.Proofs.Ytggakcalcmjolaa
open Go.RowKit

/-- Some bytes in a block of their own. -/
theorem src_cells (w : World) (vs : Array Value) (xs : List UInt8) (n : Nat) (h : vs = (cells xs).toArray) (hn : n = xs.length) :
    Src Try.prog 1 22 (.slice (some ⟨w.heap.size, 0, none⟩) n n) n (cells xs) (w.alloc (.cells vs 5)) := by
  subst h hn
  refine Src.ofSlice _ Try.underlying22 ⟨w.heap.size, 0, none⟩ _ _ _ (by simp [cells_length]) ?_ (cells_one xs)
  intro j u hj
  rw [Addr.add_lit, Nat.zero_add, cell_of_row _ w.heap.size j _ _ _ (heap_alloc_new w _)]
  simpa using hj

theorem ofNat_val (n : Nat) : ((UInt8.ofNat n).toNat : Int) = (n : Int) % 256 := by
  rw [UInt8.toNat_ofNat']
  omega

theorem cells_two (n : Nat) (hn : n < 65536) : #[Value.int .u8 ((n : Int) / 256), Value.int .u8 ((n : Int) % 256)] = (cells (twoOf n)).toArray := by
  simp only [cells, cell, twoOf, List.map_cons, List.map_nil, ofNat_val]
  congr 3
  omega

theorem cells_four (n : Nat) (hn : n < 4294967296) : #[Value.int .u8 ((n : Int) / 16777216), Value.int .u8 ((n : Int) / 65536 % 256), Value.int .u8 ((n : Int) / 256 % 256), Value.int .u8 ((n : Int) % 256)] = (cells (fourOf n)).toArray := by
  simp only [cells, cell, fourOf, List.map_cons, List.map_nil, ofNat_val]
  congr 3
  omega

set_option maxRecDepth 100000 in
set_option maxHeartbeats 400000 in
theorem two_any (B : Nat) (w : World) (v : Value) (zs : List UInt8) (n : Nat) (hn : n < 65536) (ho : Own B w v zs) (hB : B ≤ w.heap.size) (hl : zs.length ≤ 1000000000) :
    Calls Try.prog 98 #[v, .int .i64 n] w fun e w' => ∃ v', e = .returned v' ∧ Own B w' v' (zs ++ twoOf n) ∧ Grows w w' v v' := by
  have hs := src_cells w _ (twoOf n) 2 (cells_two n hn) rfl
  have ho1 := ho.alloc (.cells #[.int .u8 ((n : Int) / 256), .int .u8 ((n : Int) % 256)] 5)
  have g0 := Grows.alloc w v (.cells #[.int .u8 ((n : Int) / 256), .int .u8 ((n : Int) % 256)] 5)
  go_enter Try.func98, Try.ntmps98
  go_wp2_with (at_builtin; go_must (refine wpAppG rfl (.tmp 5) (.tmp 11) 22 rfl B v zs rfl ho1 _ (twoOf n) rfl 2 hs (by simp [twoOf]; omega) (by simp; omega) ?_))
  intro v2 w2 z2 e2 o2 g2
  have g3 := g0.trans g2
  obtain rfl : z2 = zs ++ twoOf n := e2.out
  clear e2 g2 g0 hs ho1
  go_wp2
  go_ret
  exact ⟨v2, rfl, o2, g3⟩

set_option maxRecDepth 100000 in
set_option maxHeartbeats 400000 in
theorem four_any (B : Nat) (w : World) (v : Value) (zs : List UInt8) (n : Nat) (hn : n < 4294967296) (ho : Own B w v zs) (hB : B ≤ w.heap.size) (hl : zs.length ≤ 1000000000) :
    Calls Try.prog 81 #[v, .int .i64 n] w fun e w' => ∃ v', e = .returned v' ∧ Own B w' v' (zs ++ fourOf n) ∧ Grows w w' v v' := by
  have hs := src_cells w _ (fourOf n) 4 (cells_four n hn) rfl
  have ho1 := ho.alloc (.cells #[.int .u8 ((n : Int) / 16777216), .int .u8 ((n : Int) / 65536 % 256), .int .u8 ((n : Int) / 256 % 256), .int .u8 ((n : Int) % 256)] 5)
  have g0 := Grows.alloc w v (.cells #[.int .u8 ((n : Int) / 16777216), .int .u8 ((n : Int) / 65536 % 256), .int .u8 ((n : Int) / 256 % 256), .int .u8 ((n : Int) % 256)] 5)
  go_enter Try.func81, Try.ntmps81
  go_wp2_with (at_builtin; go_must (refine wpAppG rfl (.tmp 5) (.tmp 17) 22 rfl B v zs rfl ho1 _ (fourOf n) rfl 4 hs (by simp [fourOf]; omega) (by simp; omega) ?_))
  intro v2 w2 z2 e2 o2 g2
  have g3 := g0.trans g2
  obtain rfl : z2 = zs ++ fourOf n := e2.out
  clear e2 g2 g0 hs ho1
  go_wp2
  go_ret
  exact ⟨v2, rfl, o2, g3⟩

end Go.Proofs.Ytggakcalcmjolaa
