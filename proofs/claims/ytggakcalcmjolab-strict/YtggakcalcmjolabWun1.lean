import Derived.Test.YtggakcalcmjolabWpack3
import Derived.Test.YtggakcalcmjolabMall
namespace Go.Proofs.Ytggakcalcmjolab
open Go.RowKit

set_option maxRecDepth 100000 in
set_option maxHeartbeats 400000 in
theorem pieceSize_lit (h : Nat) (w : World) (h1 : h < 128) : Calls Try.prog 37 #[.int .i64 h] w fun e w' => e = .returned (.int .i64 ((h : Int) + 2)) ∧ w' = w := by
  go_enter Try.func37, Try.ntmps37
  go_wp2
  go_ret
  exact ⟨rfl, rfl⟩

set_option maxRecDepth 100000 in
set_option maxHeartbeats 400000 in
theorem pieceSize_copy (h : Nat) (w : World) (h1 : 128 ≤ h) (h2 : h ≤ 191) : Calls Try.prog 37 #[.int .i64 h] w fun e w' => e = .returned (.int .i64 2) ∧ w' = w := by
  go_enter Try.func37, Try.ntmps37
  go_wp2
  go_ret
  exact ⟨rfl, rfl⟩

set_option maxRecDepth 100000 in
set_option maxHeartbeats 400000 in
theorem pieceSize_none (h : Nat) (w : World) (h1 : 191 < h) (h2 : h < 256) : Calls Try.prog 37 #[.int .i64 h] w fun e w' => e = .returned (.int .i64 0) ∧ w' = w := by
  go_enter Try.func37, Try.ntmps37
  go_wp2
  go_ret
  exact ⟨rfl, rfl⟩

theorem src_byte (w : World) (x : UInt8) :
    Src Try.prog 1 25 (.slice (some ⟨w.heap.size, 0, none⟩) 1 1) 1 (cells [x]) (w.alloc (.cells #[.int .u8 (x.toNat : Int)] 5)) := by
  refine Src.ofSlice _ Try.underlying25 ⟨w.heap.size, 0, none⟩ 1 1 _ (by simp [cells]) (cell_one_new _ _ _) ?_
  intro u hu
  simp [cells, cell] at hu
  subst hu
  rfl

set_option maxRecDepth 100000 in
set_option maxHeartbeats 1000000 in
theorem copied_any (a : Option Addr) (xs : List UInt8) (cap n d : Nat) (w : World) (hm : xs.length ≤ 1000000) (hn : n ≤ 1000) (hd1 : 1 ≤ d) (hd2 : d ≤ xs.length) (hb : Bts w a xs) :
    Calls Try.prog 38 #[.slice a xs.length cap, .int .i64 n, .int .i64 d] w fun e w' => ∃ v zs, e = .returned v ∧ xs ++ zs = copyOut xs d n ∧ Own w.heap.size w' v zs ∧ Below w.heap.size w w' := by
  go_enter Try.func38, Try.ntmps38
  go_wp2
  go_loopw [7, 8, 9] (fun v i _ wr => ∃ (k : Nat) (zs : List UInt8), k ≤ n ∧ i = .int .i64 k ∧ Own w.heap.size wr v zs ∧ Hid (zs.length = k) ∧ Hid (xs ++ zs = copyOut xs d k) ∧ Below w.heap.size w wr) (fun _ i _ _ => n - (intOf i).toNat)
  case atStart => exact ⟨0, [], by omega, rfl, Own.nil _ _, rfl, by simp [Hid, copyOut], Below.refl _ _⟩
  case round =>
    obtain ⟨k, zs, hk, rfl, ho, HL, HC, hbl⟩ := hrel
    by_cases hlt : k < n
    · have HNx := hide (copyOut_next xs zs d k hd2 HL.out HC.out)
      by_cases hkd : k < d
      · obtain ⟨b, off, rfl, hc⟩ := (hb.carry hbl) (xs.length - d + k) (by omega)
        have hx := (xs.getD (xs.length - d + k) 0).toNat_lt
        have HN := hide (HNx.out _ (by rw [if_pos hkd]))
        generalize xs.getD (xs.length - d + k) 0 = x at *
        have hs1 := src_byte wr x
        have ho1 := ho.alloc (.cells #[.int .u8 (x.toNat : Int)] 5)
        have hbl1 := hbl.alloc hbl.size (.cells #[.int .u8 (x.toNat : Int)] 5)
        clear HNx
        go_wp2_with (at_builtin; go_must (refine wpApp rfl (.tmp 33) (.tmp 35) 25 rfl w.heap.size _ zs rfl ho1 _ _ rfl 1 hs1 (by have := HL.out; simp; omega) hbl1.size ?_))
        intro v2 w2 z2 e2 o2 g2
        have b2 := below_own hbl1 ho1 g2 (Nat.le_refl _)
        have HC2 : Hid (xs ++ z2 = copyOut xs d (k + 1)) := by rw [e2.out]; exact HN.out
        have HL2 : Hid (z2.length = k + 1) := by show _ = _; rw [e2.out, List.length_append, HL.out]; rfl
        clear g2 ho1 hbl1 hs1 ho hbl
        go_wp2
        go_roundw
        case rel => exact ⟨k + 1, z2, by omega, by go_num, o2, HL2, HC2, b2⟩
        case measure => simp [intOf]; omega
      · obtain ⟨a1, c1, rfl, hbz, -, -⟩ := ho.shape
        obtain ⟨b, off, rfl, hc⟩ := hbz (k - d) (by have := HL.out; omega)
        have hx := (zs.getD (k - d) 0).toNat_lt
        have HN := hide (HNx.out _ (by rw [if_neg hkd]))
        generalize zs.getD (k - d) 0 = x at *
        rw [HL.out]
        rw [HL.out] at ho
        have hs1 := src_byte wr x
        have ho1 := ho.alloc (.cells #[.int .u8 (x.toNat : Int)] 5)
        have hbl1 := hbl.alloc hbl.size (.cells #[.int .u8 (x.toNat : Int)] 5)
        clear HNx
        go_wp2_with (at_builtin; go_must (refine wpApp rfl (.tmp 33) (.tmp 35) 25 rfl w.heap.size _ zs rfl ho1 _ _ rfl 1 hs1 (by have := HL.out; simp; omega) hbl1.size ?_))
        intro v2 w2 z2 e2 o2 g2
        have b2 := below_own hbl1 ho1 g2 (Nat.le_refl _)
        have HC2 : Hid (xs ++ z2 = copyOut xs d (k + 1)) := by rw [e2.out]; exact HN.out
        have HL2 : Hid (z2.length = k + 1) := by show _ = _; rw [e2.out, List.length_append, HL.out]; rfl
        clear g2 ho1 hbl1 hs1 ho hbl
        go_wp2
        go_roundw
        case rel => exact ⟨k + 1, z2, by omega, by go_num, o2, HL2, HC2, b2⟩
        case measure => simp [intOf]; omega
    · have hkn : k = n := by omega
      subst hkn
      go_wp2
      go_ret
      exact ⟨_, zs, rfl, HC.out, ho, hbl⟩

end Go.Proofs.Ytggakcalcmjolab
