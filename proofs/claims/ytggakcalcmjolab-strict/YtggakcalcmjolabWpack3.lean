import Derived.Test.YtggakcalcmjolabWpack2
namespace Go.Proofs.Ytggakcalcmjolab
open Go.RowKit

/-- A part of a list of bytes. -/
theorem Bts.sub {w : World} {b off : Nat} {xs : List UInt8} (h : Bts w (some ⟨b, off, none⟩) xs) (k n : Nat) : Bts w (some ⟨b, off + k, none⟩) ((xs.drop k).take n) := by
  intro i hi
  have hl : k + i < xs.length ∧ i < n := by simp at hi; omega
  obtain ⟨b', off', e, hc⟩ := h (k + i) hl.1
  simp at e
  obtain ⟨rfl, rfl⟩ := e
  refine ⟨b, off + k, rfl, ?_⟩
  have e2 : ((xs.drop k).take n).getD i 0 = xs.getD (k + i) 0 := by
    rw [List.getD_eq_getElem?_getD, List.getD_eq_getElem?_getD, List.getElem?_take, if_pos hl.2, List.getElem?_drop]
  rw [e2, Nat.add_assoc]
  exact hc

theorem Bts.from {w : World} {b off : Nat} {xs : List UInt8} (h : Bts w (some ⟨b, off, none⟩) xs) (k : Nat) : Bts w (some ⟨b, off + k, none⟩) (xs.drop k) := by
  have := h.sub k (xs.drop k).length
  rw [List.take_of_length_le (Nat.le_refl _)] at this
  exact this

theorem byte_val {z : Int} (h0 : 0 ≤ z) (h1 : z ≤ 255) : ((UInt8.ofNat z.toNat).toNat : Int) = z := by
  rw [UInt8.toNat_ofNat']
  omega

/-- One byte more: a block of its own. -/
theorem src_one (w : World) {z : Int} (h0 : 0 ≤ z) (h1 : z ≤ 255) :
    Src Try.prog 1 25 (.slice (some ⟨w.heap.size, 0, none⟩) 1 1) 1 (cells [UInt8.ofNat z.toNat]) (w.alloc (.cells #[.int .u8 z] 5)) := by
  have e : cells [UInt8.ofNat z.toNat] = [.int .u8 z] := by
    simp only [cells, cell, List.map_cons, List.map_nil]
    rw [byte_val h0 h1]
  rw [e]
  refine Src.ofSlice _ Try.underlying25 ⟨w.heap.size, 0, none⟩ 1 1 _ (by simp) (cell_one_new _ _ _) ?_
  intro u hu
  simp at hu
  subst hu
  rfl

theorem Own.alloc {B : Nat} {w : World} {v : Value} {xs : List UInt8} (h : Own B w v xs) (o : Obj) : Own B (w.alloc o) v xs := World.ownsRow.alloc h o

set_option maxRecDepth 100000 in
set_option maxHeartbeats 1000000 in
theorem literalPieces_any (a : Option Addr) (xs : List UInt8) (cap : Nat) (w : World) (hm : xs.length ≤ 1000000) (hcap : xs.length ≤ cap) (hcm : cap ≤ maxLen) (hb : Bts w a xs) :
    Calls Try.prog 51 #[.slice a xs.length cap] w fun e w' => ∃ v, e = .returned v ∧ Own w.heap.size w' v (runOf xs) ∧ Below w.heap.size w w' := by
  unfold maxLen at hcm
  go_enter Try.func51, Try.ntmps51
  go_wp2
  go_loopw [3, 4, 5] (fun v f _ wr => ∃ (k : Nat) (zs : List UInt8), k ≤ xs.length + 127 ∧ f = .int .i64 k ∧ Own w.heap.size wr v zs ∧ Hid (zs ++ runOf (xs.drop k) = runOf xs) ∧ Hid (zs.length ≤ 2 * xs.length) ∧ Below w.heap.size w wr) (fun _ f _ _ => xs.length + 127 - (intOf f).toNat)
  case atStart => exact ⟨0, [], by omega, rfl, Own.nil _ _, by simp [Hid], by simp [Hid], Below.refl _ _⟩
  case round =>
    obtain ⟨k, zs, hk, rfl, ho, HR, HL, hbl⟩ := hrel
    by_cases hlt : k < xs.length
    · obtain ⟨b, off, rfl, hc⟩ := hb k hlt
      clear hc
      have hstep : Hid (runOf (xs.drop k) = UInt8.ofNat (min (xs.length - k) 128 - 1) :: ((xs.drop k).take 128 ++ runOf (xs.drop (k + 128)))) := by
        have := runOf_step (l := xs.drop k) (by simp; omega)
        rw [List.length_drop, List.drop_drop] at this
        exact this
      have HM : Hid (zs.length + (runOf (xs.drop k)).length ≤ 2 * xs.length) := by
        have h1 := congrArg List.length HR.out
        rw [List.length_append] at h1
        have h2 := runOf_length xs
        show _ ≤ _
        omega
      by_cases hn : 128 < xs.length - k
      · have hs1 := src_one wr (z := 127) (by omega) (by omega)
        have hn' : (128 : Int) < (xs.length : Int) - k := by omega
        have ho1 := ho.alloc (.cells #[.int .u8 127] 5)
        have hbl1 := hbl.alloc hbl.size (.cells #[.int .u8 127] 5)
        go_wp2_with (at_builtin; refine wpApp rfl (.tmp 18) (.tmp 22) 25 rfl w.heap.size _ zs rfl ho1 _ _ rfl 1 hs1 (by have := HL.out; simp; omega) hbl1.size ?_)
        intro v2 w2 z2 e2 o2 g2
        have b2 := below_own hbl1 ho1 g2 (Nat.le_refl _)
        have hb2 := (hb.carry b2).sub k 128
        have L2 : Hid (z2.length = zs.length + 1) := by show _ = _; rw [e2.out]; simp
        have hs2 : ∀ n c, n = 128 → Src Try.prog 1 25 (.slice (some ⟨b, off + k, none⟩) n c) n (cells ((xs.drop k).take 128)) w2 := fun n c hn => src_bts Try.underlying25 hb2 (by simp; omega)
        clear g2 ho1 hbl1 hs1 ho hb2
        go_wp2_with (at_builtin; refine wpApp rfl (.tmp 24) (.tmp 30) 25 rfl w.heap.size _ z2 rfl o2 _ ((xs.drop k).take 128) rfl _ (hs2 _ _ (by omega)) (by have := HL.out; have := L2.out; simp; omega) b2.size ?_)
        intro v3 w3 z3 e3 o3 g3
        have b3 := below_own b2 o2 g3 (Nat.le_refl _)
        have HR2 : Hid (z3 ++ runOf (xs.drop (k + 128)) = runOf xs) := by
          rw [e3.out, e2.out, ← HR.out, hstep.out, show min (xs.length - k) 128 - 1 = 127 from by omega]
          simp [Hid]
        have HL2 : Hid (z3.length ≤ 2 * xs.length) := by
          have h1 := congrArg List.length HR2.out
          rw [List.length_append] at h1
          have h2 := runOf_length xs
          show _ ≤ _
          omega
        clear g3 o2 b2 hs2
        go_wp2
        go_roundw
        case rel => exact ⟨k + 128, z3, by omega, by go_num, o3, HR2, HL2, b3⟩
        case measure => simp [intOf]; omega
      · have hn' : ¬ (128 : Int) < (xs.length : Int) - k := by omega
        have hs1 := src_one wr (z := (xs.length : Int) - k - 1) (by omega) (by omega)
        have ho1 := ho.alloc (.cells #[.int .u8 ((xs.length : Int) - k - 1)] 5)
        have hbl1 := hbl.alloc hbl.size (.cells #[.int .u8 ((xs.length : Int) - k - 1)] 5)
        go_wp2_with (at_builtin; refine wpApp rfl (.tmp 18) (.tmp 22) 25 rfl w.heap.size _ zs rfl ho1 _ _ rfl 1 hs1 (by have := HL.out; simp; omega) hbl1.size ?_)
        intro v2 w2 z2 e2 o2 g2
        have b2 := below_own hbl1 ho1 g2 (Nat.le_refl _)
        have hb2 := (hb.carry b2).from k
        have L2 : Hid (z2.length = zs.length + 1) := by show _ = _; rw [e2.out]; simp
        have hs2 : ∀ n c, n = xs.length - k → Src Try.prog 1 25 (.slice (some ⟨b, off + k, none⟩) n c) n (cells (xs.drop k)) w2 := fun n c hn => src_bts Try.underlying25 hb2 (by simp; omega)
        clear g2 ho1 hbl1 hs1 ho hb2
        go_wp2_with (at_builtin; go_must (refine wpApp rfl (.tmp 24) (.tmp 30) 25 rfl w.heap.size _ z2 rfl o2 _ (xs.drop k) rfl _ (hs2 _ _ (by omega)) (by have := HL.out; have := L2.out; simp; omega) b2.size ?_))
        intro v3 w3 z3 e3 o3 g3
        have b3 := below_own b2 o2 g3 (Nat.le_refl _)
        have HR2 : Hid (z3 ++ runOf (xs.drop (k + 128)) = runOf xs) := by
          rw [e3.out, e2.out, ← HR.out, hstep.out, show min (xs.length - k) 128 - 1 = ((xs.length : Int) - k - 1).toNat from by omega, List.take_of_length_le (by simp; omega)]
          simp [Hid]
        have HL2 : Hid (z3.length ≤ 2 * xs.length) := by
          have h1 := congrArg List.length HR2.out
          rw [List.length_append] at h1
          have h2 := runOf_length xs
          show _ ≤ _
          omega
        clear g3 o2 b2 hs2
        go_wp2
        go_roundw
        case rel => exact ⟨k + 128, z3, by omega, by go_num, o3, HR2, HL2, b3⟩
        case measure => simp [intOf]; omega
    · have : xs.drop k = [] := List.drop_of_length_le (by omega)
      have HE : Hid (zs = runOf xs) := by
        have h := HR.out
        rw [this, runOf_nil, List.append_nil] at h
        exact h
      obtain rfl := HE.out
      clear HR HL HE this
      go_wp2
      go_ret
      exact ⟨_, rfl, ho, hbl⟩

end Go.Proofs.Ytggakcalcmjolab
