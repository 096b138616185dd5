import Derived.Test.YtgncohclofdhmaaGreatMread
import Derived.Test.YtgncohclofdhmaaGreatWbd
import Derived.Test.YtgncohclofdhmaaGreatWuna
import Derived.Test.YtgncohclofdhmaaGreatWstr
import Derived.Test.YtgncohclofdhmaaGreatWans
import Derived.Test.YtgncohclofdhmaaGreatWbox
import Derived.Test.YtgncohclofdhmaaGreatWsame
import Derived.Test.YtgncohclofdhmaaGreatWva
import Derived.Test.YtgncohclofdhmaaGreatWbuild2
import Derived.Test.YtgncohclofdhmaaGreatWsma
namespace Go.Proofs.YtgncohclofdhmaaGreat
open Go.RowKit

/-- Of what was there, nothing but the block g has turned. -/
structure Aside (g : Nat) (w w' : World) : Prop where
  low : Below g w w'
  high : ∀ k, g < k → k < w.heap.size → w'.heap[k]? = w.heap[k]?

theorem Aside.refl (g : Nat) (w : World) : Aside g w w := ⟨Below.refl _ _, fun _ _ _ => rfl⟩

theorem Aside.size {g : Nat} {w w' : World} (h : Aside g w w') : w.heap.size ≤ w'.heap.size := h.low.size

theorem Aside.trans {g : Nat} {w w1 w2 : World} (h : Aside g w w1) (k : Aside g w1 w2) : Aside g w w2 :=
  ⟨h.low.trans k.low, fun i h1 h2 => (k.high i h1 (Nat.lt_of_lt_of_le h2 h.size)).trans (h.high i h1 h2)⟩

theorem Aside.set (g : Nat) (w : World) (j : Nat) (u : Value) : Aside g w (w.setCell ⟨g, j, none⟩ u) :=
  ⟨(Below.refl g w).setCell (p := ⟨g, j, none⟩) (Nat.le_refl _) u, fun k h1 _ => heap_setCell_other w ⟨g, j, none⟩ k u (by simp; omega)⟩

theorem Aside.of {g : Nat} {w w' : World} (h : Below w.heap.size w w') (hg : g ≤ w.heap.size) : Aside g w w' := ⟨h.mono hg, fun k _ hk => h.block k hk⟩

theorem Aside.blk {g k : Nat} {w w' : World} (h : Aside g w w') (hk : k ≠ g) (hl : k < w.heap.size) : w'.heap[k]? = w.heap[k]? := by
  by_cases e : k < g
  · exact h.low.block k e
  · exact h.high k (by omega) hl

theorem Aside.cell {g : Nat} {w w' : World} {x : Addr} {u : Value} (h : Aside g w w') (hc : w.cell? x = some u) (hx : x.block ≠ g) : w'.cell? x = some u :=
  (World.cell?_of_block (h.blk hx (World.block_lt_of_cell? w _ hc))).trans hc

/-- All in one block. -/
def InBlk (a : Option Addr) (b0 : Nat) : Prop := ∀ ad, a = some ad → ad.block = b0

theorem Aside.bts {g b0 : Nat} {w w' : World} {a : Option Addr} {xs : List UInt8} (h : Aside g w w') (hb : Bts w a xs) (hi : InBlk a b0) (hne : b0 ≠ g) : Bts w' a xs := by
  intro i hi2
  obtain ⟨b, off, e, hc⟩ := hb i hi2
  refine ⟨b, off, e, h.cell hc ?_⟩
  have := hi _ e
  simp only at this ⊢
  omega

theorem Aside.below {g B : Nat} {w0 w w' : World} (h : Aside g w w') (hb : Below B w0 w) (hB : B ≤ g) : Below B w0 w' := hb.trans (h.low.mono hB)

/-- A cursor in memory: its bytes lie in block b0. -/
def CurAt (w : World) (g b0 : Nat) (c : Cur) : Prop :=
  ∃ off cap, w.heap[g]? = some (.cells #[.slice (some ⟨b0, off, none⟩) c.1.length cap, .bool c.2] 117 (0, 0)) ∧ Bts w (some ⟨b0, off, none⟩) c.1 ∧ c.1.length ≤ cap ∧ cap ≤ maxLen

theorem cur_c0 {w : World} {g n cap : Nat} {a : Option Addr} {bad : Bool} (h : w.heap[g]? = some (.cells #[.slice a n cap, .bool bad] 117 (0, 0))) : w.cell? ⟨g, 0, none⟩ = some (.slice a n cap) := cell_of_row _ g 0 _ _ _ h
theorem cur_c1 {w : World} {g n cap : Nat} {a : Option Addr} {bad : Bool} (h : w.heap[g]? = some (.cells #[.slice a n cap, .bool bad] 117 (0, 0))) : w.cell? ⟨g, 1, none⟩ = some (.bool bad) := cell_of_row _ g 1 _ _ _ h
theorem cur_fr {w : World} {g n cap : Nat} {a : Option Addr} {bad : Bool} (h : w.heap[g]? = some (.cells #[.slice a n cap, .bool bad] 117 (0, 0))) (j : Nat) : w.frozen? ⟨g, j, none⟩ = false := by simp [World.frozen?, h]
theorem cur_lt {w : World} {g n cap : Nat} {a : Option Addr} {bad : Bool} (h : w.heap[g]? = some (.cells #[.slice a n cap, .bool bad] 117 (0, 0))) : g < w.heap.size := World.block_lt_of_cell? w _ (cur_c0 h)

theorem cur_set0 {w : World} {g n cap : Nat} {a : Option Addr} {bad : Bool} (h : w.heap[g]? = some (.cells #[.slice a n cap, .bool bad] 117 (0, 0))) (v : Value) : (w.setCell ⟨g, 0, none⟩ v).heap[g]? = some (.cells #[v, .bool bad] 117 (0, 0)) := by
  have hl := cur_lt h
  rw [Array.getElem?_eq_getElem hl, Option.some.injEq] at h
  simp only [World.setCell]
  rw [Array.getElem?_eq_getElem (by simpa using hl), Array.getElem_modify_self, h]
  rfl

theorem cur_set1 {w : World} {g n cap : Nat} {a : Option Addr} {bad : Bool} (h : w.heap[g]? = some (.cells #[.slice a n cap, .bool bad] 117 (0, 0))) (b : Bool) : (w.setCell ⟨g, 1, none⟩ (.bool b)).heap[g]? = some (.cells #[.slice a n cap, .bool b] 117 (0, 0)) := by
  have hl := cur_lt h
  rw [Array.getElem?_eq_getElem hl, Option.some.injEq] at h
  simp only [World.setCell]
  rw [Array.getElem?_eq_getElem (by simpa using hl), Array.getElem_modify_self, h]
  rfl

theorem CurAt.keep {w w' : World} {g b0 : Nat} {c : Cur} (h : CurAt w g b0 c) (hb : Below w.heap.size w w') : CurAt w' g b0 c := by
  obtain ⟨off, cap, h1, h2, h4, h5⟩ := h
  exact ⟨off, cap, (hb.block g (cur_lt h1)).trans h1, h2.carry hb, h4, h5⟩

/-- What came out of a cursor: bytes in its block. -/
def CurGot (w : World) (b0 : Nat) (v : Value) (l : List UInt8) : Prop := ∃ a cap, v = .slice a l.length cap ∧ Bts w a l ∧ InBlk a b0 ∧ l.length ≤ cap ∧ cap ≤ maxLen

set_option maxRecDepth 100000 in
set_option maxHeartbeats 1000000 in
theorem take_any (w : World) (g b0 : Nat) (c : Cur) (n : Nat) (hne : b0 ≠ g) (hn : n ≤ 1000000) (hl : c.1.length ≤ 1000000) (h : CurAt w g b0 c) :
    Calls Tryz.prog 94 #[.pointer (some ⟨g, 0, none⟩), .int .i64 n] w fun e w' => ∃ v, e = .returned v ∧ CurGot w' b0 v (curTake c n).1 ∧ CurAt w' g b0 (curTake c n).2 ∧ Aside g w w' := by
  obtain ⟨rest, bad⟩ := c
  obtain ⟨off, cap, h1, h2, h4, h5⟩ := h
  simp only at h1 h2 h4 hl
  have h3 : InBlk (some ⟨b0, off, none⟩) b0 := fun ad e => by cases e; rfl
  unfold maxLen at h5
  have c0 := cur_c0 h1
  have c1 := cur_c1 h1
  have f0 := cur_fr h1 0
  have f1 := cur_fr h1 1
  have HNil : Hid (∀ w', CurGot w' b0 (.slice none 0 0) []) := fun w' => ⟨none, 0, rfl, Bts.nil _ _, (fun ad e => by cases e), Nat.le_refl _, by simp [maxLen]⟩
  cases bad
  · by_cases hlt : rest.length < n
    · have HT : Hid (curTake (rest, false) n = ([], (rest, true))) := by show _ = _; unfold curTake; rw [if_pos (.inr hlt)]
      have HR : Hid (CurAt (w.setCell ⟨g, 1, none⟩ (.bool true)) g b0 (rest, true)) := ⟨off, cap, cur_set1 h1 true, (Aside.set g w 1 (.bool true)).bts h2 h3 hne, h4, by unfold maxLen; omega⟩
      rw [HT.out]
      have hd : decide ((rest.length : Int) < (n : Int)) = true := decide_eq_true (by omega)
      have hd2 : decide (rest.length < n) = true := decide_eq_true hlt
      go_enter Tryz.func94, Tryz.ntmps94
      go_wp2
      go_ret
      exact ⟨_, rfl, HNil.out _, HR.out, Aside.set g w 1 _⟩
    · have HT : Hid (curTake (rest, false) n = (rest.take n, (rest.drop n, false))) := by show _ = _; unfold curTake; rw [if_neg (by simp; omega)]
      rw [HT.out]
      have hd : decide ((rest.length : Int) < (n : Int)) = false := decide_eq_false (by omega)
      have hd2 : decide (rest.length < n) = false := decide_eq_false hlt
      have e1 : (n : Int) ≤ (cap : Int) := by omega
      have e2 : (n : Int) ≤ (rest.length : Int) := by omega
      have htl : (rest.take n).length = n := by rw [List.length_take]; omega
      have hdl : (rest.drop n).length = rest.length - n := by rw [List.length_drop]
      have hgot : ∀ w', Bts w' (some ⟨b0, off, none⟩) rest → CurGot w' b0 (.slice (some ⟨b0, off, none⟩) n cap) (rest.take n) := by
        intro w' hb
        refine ⟨some ⟨b0, off, none⟩, cap, by rw [htl], ?_, h3, by omega, by unfold maxLen; omega⟩
        have := hb.sub 0 n
        simpa using this
      have HG := hide hgot
      clear hgot
      by_cases hc : n < cap
      · have HS : Hid (CurAt (w.setCell ⟨g, 0, none⟩ (.slice (some ⟨b0, off + n, none⟩) (rest.length - n) (cap - n))) g b0 (rest.drop n, false)) := by
          refine ⟨off + n, cap - n, ?_, ?_, ?_, by unfold maxLen; omega⟩
          · rw [hdl]
            exact cur_set0 h1 _
          · exact (Aside.set g w 0 _).bts (h2.from n) (b0 := b0) (fun ad e => by cases e; rfl) hne
          · simp only [hdl]; omega
        have e3 : ¬ cap = n := by omega
        have e4 : ¬ cap = 0 := by omega
        clear htl hdl
        go_enter Tryz.func94, Tryz.ntmps94
        go_wp2
        go_ret
        exact ⟨_, rfl, HG.out _ ((Aside.set g w 0 _).bts h2 h3 hne), HS.out, Aside.set g w 0 _⟩
      · have hcn : cap = n := by omega
        subst hcn
        have HS : Hid (CurAt (w.setCell ⟨g, 0, none⟩ (.slice (some ⟨b0, off, none⟩) 0 0)) g b0 (rest.drop cap, false)) := by
          have hz : rest.drop cap = [] := List.drop_of_length_le (by omega)
          refine ⟨off, 0, ?_, ?_, ?_, by simp [maxLen]⟩
          · rw [hz]
            exact cur_set0 h1 _
          · rw [hz]; exact Bts.nil _ _
          · rw [hz]; simp
        clear htl hdl
        go_enter Tryz.func94, Tryz.ntmps94
        go_wp2
        go_ret
        exact ⟨_, rfl, HG.out _ ((Aside.set g w 0 _).bts h2 h3 hne), HS.out, Aside.set g w 0 _⟩
  · have HT : Hid (curTake (rest, true) n = ([], (rest, true))) := by show _ = _; unfold curTake; rw [if_pos (.inl rfl)]
    have HR : Hid (CurAt (w.setCell ⟨g, 1, none⟩ (.bool true)) g b0 (rest, true)) := ⟨off, cap, cur_set1 h1 true, (Aside.set g w 1 (.bool true)).bts h2 h3 hne, h4, by unfold maxLen; omega⟩
    rw [HT.out]
    go_enter Tryz.func94, Tryz.ntmps94
    go_wp2
    go_ret
    exact ⟨_, rfl, HNil.out _, HR.out, Aside.set g w 1 _⟩

set_option maxRecDepth 100000 in
set_option maxHeartbeats 1000000 in
theorem curnum_any (w : World) (g b0 : Nat) (c : Cur) (n : Nat) (hne : b0 ≠ g) (hn : n ≤ 4) (hl : c.1.length ≤ 1000000) (h : CurAt w g b0 c) :
    Calls Tryz.prog 93 #[.pointer (some ⟨g, 0, none⟩), .int .i64 n] w fun e w' => e = .returned (.int .i64 ((curNum c n).1 : Nat)) ∧ CurAt w' g b0 (curNum c n).2 ∧ Aside g w w' := by
  have HT := hide (take_any w g b0 c n hne (by omega) hl h)
  have hln : (curTake c n).1.length ≤ 4 := by
    unfold curTake
    split
    · simp
    · rw [List.length_take]; omega
  unfold curNum
  generalize curTake c n = t at *
  obtain ⟨l, c'⟩ := t
  simp only at hln HT ⊢
  go_enter Tryz.func93, Tryz.ntmps93
  go_wp2_with fail
  refine HT.out.mono ?_
  rintro e w1 ⟨v1, rfl, ⟨a1, cap1, rfl, hb1, _, _, _⟩, hc1, as1⟩
  go_wp2
  go_loop [6, 7] (fun v i => ∃ j : Nat, j ≤ l.length ∧ i = .int .i64 j ∧ v = .int .i64 (numAt l 0 j : Nat)) (fun _ i => l.length - (intOf i).toNat)
  case atStart => exact ⟨0, by omega, rfl, rfl⟩
  case round =>
    obtain ⟨j, hj, rfl, rfl⟩ := hrel
    by_cases hjn : j < l.length
    · obtain ⟨b, off, rfl, hc⟩ := hb1 j hjn
      have HNu : Hid (numAt l 0 (j + 1) = 256 * numAt l 0 j + (l.getD j 0).toNat) := by show _ = _; rw [numAt, Nat.zero_add]
      have hlt : numAt l 0 j < 4294967296 := by
        have h1 := numAt_lt l 0 j
        have h2 : 256 ^ j ≤ 256 ^ 4 := Nat.pow_le_pow_right (by omega) (by omega)
        omega
      have hlt2 := (l.getD j 0).toNat_lt
      generalize numAt l 0 j = m at *
      generalize (l.getD j 0).toNat = d at *
      go_wp2
      go_round
      case rel => exact ⟨j + 1, by omega, by go_num, by rw [HNu.out]; go_num⟩
      case measure => simp [intOf]; omega
    · obtain rfl : j = l.length := by omega
      go_wp2
      go_ret
      exact ⟨rfl, hc1, as1⟩

end Go.Proofs.YtgncohclofdhmaaGreat

namespace Go.Proofs.YtgncohclofdhmaaGreat
open Go.RowKit

theorem CurAt.setOther {w : World} {g b0 : Nat} {c : Cur} (h : CurAt w g b0 c) {k j : Nat} (u : Value) (hg : k ≠ g) (hb : k ≠ b0) : CurAt (w.setCell ⟨k, j, none⟩ u) g b0 c := by
  obtain ⟨off, cap, h1, h2, h4, h5⟩ := h
  exact ⟨off, cap, (heap_setCell_other w ⟨k, j, none⟩ g u (fun e => hg e.symm)).trans h1, (Aside.set k w j u).bts h2 (b0 := b0) (fun ad e => by cases e; rfl) (fun e => hb e.symm), h4, h5⟩

theorem CurAt.bad {w : World} {g b0 : Nat} {c : Cur} (h : CurAt w g b0 c) (hne : b0 ≠ g) : CurAt (w.setCell ⟨g, 1, none⟩ (.bool true)) g b0 (c.1, true) := by
  obtain ⟨off, cap, h1, h2, h4, h5⟩ := h
  exact ⟨off, cap, cur_set1 h1 true, (Aside.set g w 1 _).bts h2 (b0 := b0) (fun ad e => by cases e; rfl) hne, h4, h5⟩

theorem Aside.setNew {g : Nat} {w w' : World} (h : Aside g w w') {k j : Nat} (u : Value) (hk : w.heap.size ≤ k) (hg : g < w.heap.size) : Aside g w (w'.setCell ⟨k, j, none⟩ u) :=
  ⟨h.low.setCell (p := ⟨k, j, none⟩) (by show g ≤ k; omega) u, fun i h1 h2 => (heap_setCell_other w' ⟨k, j, none⟩ i u (by show i ≠ k; omega)).trans (h.high i h1 h2)⟩

theorem Aside.alloc {g : Nat} {w w' : World} (h : Aside g w w') (hg : g < w.heap.size) (o : Obj) : Aside g w (w'.alloc o) :=
  h.trans (Aside.of ((Below.refl _ _).alloc (Nat.le_refl _) o) (Nat.le_trans (Nat.le_of_lt hg) h.size))

set_option maxRecDepth 100000 in
set_option maxHeartbeats 2000000 in
theorem next_any (w : World) (g b0 : Nat) (c : Cur) (hne : b0 ≠ g) (hbl : b0 < w.heap.size) (hl : c.1.length ≤ 100000) (h : CurAt w g b0 c) :
    Calls Tryz.prog 95 #[.pointer (some ⟨g, 0, none⟩)] w fun e w' => ∃ v, e = .returned (.agg #[.string (strOf (curNext c).1.1), v]) ∧ Own w.heap.size w' v (curNext c).1.2 ∧ CurAt w' g b0 (curNext c).2 ∧ Aside g w w' := by
  have hgl : g < w.heap.size := by obtain ⟨_, _, h1, _⟩ := h; exact cur_lt h1
  have A0 := (Aside.refl g w).alloc hgl (.cells #[.string ⟨#[]⟩, .slice none 0 0] 46)
  have C0 := h.keep ((Below.refl _ _).alloc (Nat.le_refl _) (.cells #[.string ⟨#[]⟩, .slice none 0 0] 46))
  have r0 : (w.alloc (.cells #[.string ⟨#[]⟩, .slice none 0 0] 46)).heap[w.heap.size]? = some (.cells #[.string ⟨#[]⟩, .slice none 0 0] 46 (0, 0)) := heap_alloc_new w _
  have s0 : w.heap.size < (w.alloc (.cells #[.string ⟨#[]⟩, .slice none 0 0] 46)).heap.size := by simp
  unfold curNext
  obtain ⟨t1, H1⟩ : ∃ t1, Hid (t1 = curNum c 1) := ⟨_, rfl⟩
  have l1 := curNum_lt c 1
  rw [← H1.out] at l1 ⊢
  obtain ⟨t2, H2⟩ : ∃ t2, Hid (t2 = curTake t1.2 t1.1) := ⟨_, rfl⟩
  have l2 := curTake_len t1.2 t1.1
  rw [← H2.out] at l2
  obtain ⟨t3, H3⟩ : ∃ t3, Hid (t3 = curNum t2.2 1) := ⟨_, rfl⟩
  have l3 := curNum_lt t2.2 1
  rw [← H3.out] at l3
  obtain ⟨t4, H4⟩ : ∃ t4, Hid (t4 = curNum t3.2 2) := ⟨_, rfl⟩
  have l4 := curNum_lt t3.2 2
  rw [← H4.out] at l4
  obtain ⟨t5, H5⟩ : ∃ t5, Hid (t5 = curNum t4.2 2) := ⟨_, rfl⟩
  have l5 := curNum_lt t4.2 2
  rw [← H5.out] at l5
  obtain ⟨t6, H6⟩ : ∃ t6, Hid (t6 = curNum t5.2 1) := ⟨_, rfl⟩
  have l6 := curNum_lt t5.2 1
  rw [← H6.out] at l6
  obtain ⟨t7, H7⟩ : ∃ t7, Hid (t7 = curTake t6.2 t6.1) := ⟨_, rfl⟩
  have l7 := curTake_len t6.2 t6.1
  rw [← H7.out] at l7
  obtain ⟨t8, H8⟩ : ∃ t8, Hid (t8 = curTake t7.2 t5.1) := ⟨_, rfl⟩
  have l8 := curTake_len t7.2 t5.1
  rw [← H8.out] at l8
  have HE : Hid (curBody t2.1 t3.1 t8.1 t8.2 = (let n := t1; let path := curTake n.2 n.1; let m := curNum path.2 1; let size := curNum m.2 2; let laid := curNum size.2 2; let noughts := curNum laid.2 1; let pad := curTake noughts.2 noughts.1; let l := curTake pad.2 laid.1; curBody path.1 m.1 l.1 l.2)) := by
    show _ = _
    simp only [← H2.out, ← H3.out, ← H4.out, ← H5.out, ← H6.out, ← H7.out, ← H8.out]
  rw [← HE.out]
  have K1 := hide (fun W hW => curnum_any W g b0 c 1 hne (by omega) (by omega) hW)
  have K2 := hide (fun W hW => take_any W g b0 t1.2 t1.1 hne (by omega) (by omega) hW)
  have K3 := hide (fun W hW => curnum_any W g b0 t2.2 1 hne (by omega) (by omega) hW)
  have K4 := hide (fun W hW => curnum_any W g b0 t3.2 2 hne (by omega) (by omega) hW)
  have K5 := hide (fun W hW => curnum_any W g b0 t4.2 2 hne (by omega) (by omega) hW)
  have K6 := hide (fun W hW => curnum_any W g b0 t5.2 1 hne (by omega) (by omega) hW)
  have K7 := hide (fun W hW => take_any W g b0 t6.2 t6.1 hne (by omega) (by omega) hW)
  have K8 := hide (fun W hW => take_any W g b0 t7.2 t5.1 hne (by omega) (by omega) hW)
  rw [← H1.out] at K1
  rw [← H2.out] at K2
  rw [← H3.out] at K3
  rw [← H4.out] at K4
  rw [← H5.out] at K5
  rw [← H6.out] at K6
  rw [← H7.out] at K7
  rw [← H8.out] at K8
  clear H1 H2 H3 H4 H5 H6 H7 H8 HE
  go_enter Tryz.func95, Tryz.ntmps95
  go_wp2_with fail
  generalize w.alloc (.cells #[.string ⟨#[]⟩, .slice none 0 0] 46) = W0 at *
  refine (K1.out _ C0).mono ?_
  rintro e W1 ⟨rfl, C1, A1⟩
  go_wp2_with fail
  refine (K2.out _ C1).mono ?_
  rintro e W2 ⟨v2, rfl, ⟨a2, k2, rfl, hb2, i2, _, _⟩, C2, A2⟩
  go_wp2_with fail
  refine (K3.out _ C2).mono ?_
  rintro e W3 ⟨rfl, C3, A3⟩
  go_wp2_with fail
  refine (K4.out _ C3).mono ?_
  rintro e W4 ⟨rfl, C4, A4⟩
  go_wp2_with fail
  refine (K5.out _ C4).mono ?_
  rintro e W5 ⟨rfl, C5, A5⟩
  go_wp2_with fail
  refine (K6.out _ C5).mono ?_
  rintro e W6 ⟨rfl, C6, A6⟩
  go_wp2_with fail
  refine (K7.out _ C6).mono ?_
  rintro e W7 ⟨v7, rfl, _, C7, A7⟩
  go_wp2_with fail
  refine (K8.out _ C7).mono ?_
  rintro e W8 ⟨v8, rfl, ⟨a8, k8, rfl, hb8, i8, k81, k82⟩, C8, A8⟩
  have A28 := A3.trans (A4.trans (A5.trans (A6.trans (A7.trans A8))))
  have AW := A0.trans (A1.trans (A2.trans A28))
  have hb2' := A28.bts hb2 i2 hne
  have r8 := ((A1.trans (A2.trans A28)).blk (by omega) s0).trans r0
  clear K1 K2 K3 K4 K5 K6 K7 K8 C0 C1 C2 C3 C4 C5 C6 C7 A0 A1 A2 A3 A4 A5 A6 A7 A8 A28 r0 hb2
  have hcv := run_back t2.1 a2 k2 W8 hb2'
  have hr8 : EBox W8 w.heap.size ⟨#[]⟩ (.slice none 0 0) := r8
  obtain ⟨P, HP⟩ : ∃ P, Hid (P = strOf t2.1) := ⟨_, rfl⟩
  rw [← HP.out] at hcv
  have hs8 : w.heap.size < W8.heap.size := hr8.lt
  have B9 : Below W8.heap.size W8 (W8.alloc (.cells #[.string P, .slice none 0 0] 46)) := (Below.refl _ _).alloc (Nat.le_refl _) _
  have e9 : EBox (W8.alloc (.cells #[.string P, .slice none 0 0] 46)) W8.heap.size P (.slice none 0 0) := heap_alloc_new W8 _
  have r9 := hr8.carry B9
  have C9 := C8.keep B9
  have hb9 := hb8.carry B9
  have AW9 := AW.alloc hgl (.cells #[.string P, .slice none 0 0] 46)
  have sz9 : (W8.alloc (.cells #[.string P, .slice none 0 0] 46)).heap.size = W8.heap.size + 1 := by simp
  have n1 : ¬ W8.heap.size = w.heap.size := by omega
  have n2 : ¬ w.heap.size = W8.heap.size := by omega
  have n3 : w.heap.size ≠ g := by omega
  have n4 : W8.heap.size ≠ g := by omega
  have n5 : w.heap.size ≠ b0 := by omega
  have n6 : W8.heap.size ≠ b0 := by omega
  clear hr8 r8 C8 hb8 AW hb2' i2
  by_cases hm : t3.1 = 0
  · have HB : Hid (curBody t2.1 t3.1 t8.1 t8.2 = ((t2.1, t8.1), t8.2)) := by show _ = _; unfold curBody; rw [if_pos hm]
    have hmb : ((t3.1 : Int) == 0) = true := by simp [hm]
    clear hm
    have o9 := Own.nil (W8.heap.size + 1) (W8.alloc (.cells #[.string P, .slice none 0 0] 46))
    have c90 := e9.c0
    have c91 := e9.c1
    go_wp2_with (at_builtin; go_must (refine wpAppG rfl (.tmp 37) (.tmp 38) 29 rfl (W8.heap.size + 1) _ [] rfl o9 _ t8.1 rfl _ (src_bts Tryz.underlying29 hb9 rfl) (by simp; omega) (by omega) ?_))
    intro v10 w10 z10 e10 o10 g10
    obtain rfl : z10 = t8.1 := e10.out
    obtain ⟨a10, c10, rfl, -, -, -⟩ := o10.shape
    have b10 : Below (W8.alloc (.cells #[.string P, .slice none 0 0] 46)).heap.size (W8.alloc (.cells #[.string P, .slice none 0 0] 46)) w10 := (Below.refl _ _).grown g10.by_ (Nat.le_refl _) (fun k hk => by simp [Value.ownBlock] at hk)
    have x10 := e9.carry b10
    have r10 := r9.carry b10
    have C10 := C9.keep b10
    have A10 := AW9.trans (Aside.of b10 (by omega))
    have c0 := x10.c0
    have c1 := x10.c1
    have f1 := x10.fr 1
    have d0 := r10.c0
    have d1 := r10.c1
    have f2 := r10.fr 0
    have f3 := r10.fr 1
    have X := (r10.other (k := W8.heap.size) (j := 1) (u := (.slice a10 t8.1.length c10)) (fun e => n2 e)).set P (.slice a10 t8.1.length c10)
    have O := ((o10.setOther (k := W8.heap.size) (j := 1) (.slice a10 t8.1.length c10) (by omega)).setOther (k := w.heap.size) (j := 0) (.string P) (by omega)).setOther (k := w.heap.size) (j := 1) (.slice a10 t8.1.length c10) (by omega)
    have CC := ((C10.setOther (k := W8.heap.size) (j := 1) (.slice a10 t8.1.length c10) n4 n6).setOther (k := w.heap.size) (j := 0) (.string P) n3 n5).setOther (k := w.heap.size) (j := 1) (.slice a10 t8.1.length c10) n3 n5
    have AA := ((A10.setNew (k := W8.heap.size) (j := 1) (.slice a10 t8.1.length c10) (by omega) hgl).setNew (k := w.heap.size) (j := 0) (.string P) (Nat.le_refl _) hgl).setNew (k := w.heap.size) (j := 1) (.slice a10 t8.1.length c10) (Nat.le_refl _) hgl
    clear e10 g10 o9 b10 e9 r9 C9 AW9 hb9 o10 C10 A10
    go_wp2
    (try simp only [Exit.inBlock, Exit.then])
    refine bodyPost_ret (v := .agg #[.string P, (.slice a10 t8.1.length c10)]) ?_ rfl ⟨(.slice a10 t8.1.length c10), by rw [HB.out, HP.out], by rw [HB.out]; exact O.mono (by omega), by rw [HB.out]; exact CC, AA⟩
    have k0 := X.c0
    have k1 := X.c1
    rw [results_cell1 rfl]
    go_simp
  · obtain ⟨ub, HUb⟩ : ∃ ub, Hid (ub = (unOf t8.1).1) := ⟨_, rfl⟩
    obtain ⟨ue, HUe⟩ : ∃ ue, Hid (ue = (unOf t8.1).2) := ⟨_, rfl⟩
    have HB : Hid (curBody t2.1 t3.1 t8.1 t8.2 = ((t2.1, ub), if ue = 0 then t8.2 else (t8.2.1, true))) := by show _ = _; unfold curBody; rw [if_neg hm, ← HUb.out, ← HUe.out]
    have hmb : ((t3.1 : Int) == 0) = false := by rw [beq_eq_false_iff_ne]; omega
    clear hm
    have KU := hide (refUnpack_any a8 t8.1 k8 _ (by omega) k81 k82 hb9)
    unfold Answers at KU
    rw [← HUb.out, ← HUe.out] at KU
    go_wp2_with fail
    refine KU.out.mono ?_
    rintro e w10 ⟨v10, rfl, o10', b10⟩
    have o10 : Own (W8.heap.size + 1) w10 v10 ub := o10'.mono (by omega)
    obtain ⟨a10, c10, rfl, -, -, -⟩ := o10.shape
    have x10 := e9.carry b10
    have r10 := r9.carry b10
    have C10 := C9.keep b10
    have A10 := AW9.trans (Aside.of b10 (by omega))
    clear KU o10' e9 r9 C9 AW9 hb9 b10
    by_cases hue : ue = 0
    · have hub : ((ue : Int) != 0) = false := by simp [hue]
      have HB2 : Hid (curBody t2.1 t3.1 t8.1 t8.2 = ((t2.1, ub), t8.2)) := by show _ = _; rw [HB.out, if_pos hue]
      clear hue
      have c0 := x10.c0
      have c1 := x10.c1
      have f1 := x10.fr 1
      have d0 := r10.c0
      have d1 := r10.c1
      have f2 := r10.fr 0
      have f3 := r10.fr 1
      have X := (r10.other (k := W8.heap.size) (j := 1) (u := (.slice a10 ub.length c10)) (fun e => n2 e)).set P (.slice a10 ub.length c10)
      have O := ((o10.setOther (k := W8.heap.size) (j := 1) (.slice a10 ub.length c10) (by omega)).setOther (k := w.heap.size) (j := 0) (.string P) (by omega)).setOther (k := w.heap.size) (j := 1) (.slice a10 ub.length c10) (by omega)
      have CC := ((C10.setOther (k := W8.heap.size) (j := 1) (.slice a10 ub.length c10) n4 n6).setOther (k := w.heap.size) (j := 0) (.string P) n3 n5).setOther (k := w.heap.size) (j := 1) (.slice a10 ub.length c10) n3 n5
      have AA := ((A10.setNew (k := W8.heap.size) (j := 1) (.slice a10 ub.length c10) (by omega) hgl).setNew (k := w.heap.size) (j := 0) (.string P) (Nat.le_refl _) hgl).setNew (k := w.heap.size) (j := 1) (.slice a10 ub.length c10) (Nat.le_refl _) hgl
      clear o10 C10 A10
      go_wp2
      (try simp only [Exit.inBlock, Exit.then])
      refine bodyPost_ret (v := .agg #[.string P, (.slice a10 ub.length c10)]) ?_ rfl ⟨(.slice a10 ub.length c10), by rw [HB2.out, HP.out], by rw [HB2.out]; exact O.mono (by omega), by rw [HB2.out]; exact CC, AA⟩
      have k0 := X.c0
      have k1 := X.c1
      rw [results_cell1 rfl]
      go_simp
    · have hub : ((ue : Int) != 0) = true := by simp; omega
      have HB2 : Hid (curBody t2.1 t3.1 t8.1 t8.2 = ((t2.1, ub), (t8.2.1, true))) := by show _ = _; rw [HB.out, if_neg hue]
      clear hue
      have C11 := C10.bad hne
      have x11 := x10.other (k := g) (j := 1) (u := .bool true) n4
      have r11 := r10.other (k := g) (j := 1) (u := .bool true) n3
      have o11 := o10.setOther (k := g) (j := 1) (.bool true) (by omega)
      have A11 := A10.trans (Aside.set g w10 1 (.bool true))
      obtain ⟨off, cap, h1, -, -, -⟩ := C10
      have g1 := cur_c1 h1
      have g2 := cur_fr h1 1
      clear h1
      have c0 := x11.c0
      have c1 := x11.c1
      have f1 := x11.fr 1
      have d0 := r11.c0
      have d1 := r11.c1
      have f2 := r11.fr 0
      have f3 := r11.fr 1
      have X := (r11.other (k := W8.heap.size) (j := 1) (u := (.slice a10 ub.length c10)) (fun e => n2 e)).set P (.slice a10 ub.length c10)
      have O := ((o11.setOther (k := W8.heap.size) (j := 1) (.slice a10 ub.length c10) (by omega)).setOther (k := w.heap.size) (j := 0) (.string P) (by omega)).setOther (k := w.heap.size) (j := 1) (.slice a10 ub.length c10) (by omega)
      have CC := ((C11.setOther (k := W8.heap.size) (j := 1) (.slice a10 ub.length c10) n4 n6).setOther (k := w.heap.size) (j := 0) (.string P) n3 n5).setOther (k := w.heap.size) (j := 1) (.slice a10 ub.length c10) n3 n5
      have AA := ((A11.setNew (k := W8.heap.size) (j := 1) (.slice a10 ub.length c10) (by omega) hgl).setNew (k := w.heap.size) (j := 0) (.string P) (Nat.le_refl _) hgl).setNew (k := w.heap.size) (j := 1) (.slice a10 ub.length c10) (Nat.le_refl _) hgl
      clear o10 o11 C11 A10 A11 x10 r10
      go_wp2
      (try simp only [Exit.inBlock, Exit.then])
      refine bodyPost_ret (v := .agg #[.string P, (.slice a10 ub.length c10)]) ?_ rfl ⟨(.slice a10 ub.length c10), by rw [HB2.out, HP.out], by rw [HB2.out]; exact O.mono (by omega), by rw [HB2.out]; exact CC, AA⟩
      have k0 := X.c0
      have k1 := X.c1
      rw [results_cell1 rfl]
      go_simp

end Go.Proofs.YtgncohclofdhmaaGreat

namespace Go.Proofs.YtgncohclofdhmaaGreat
open Go.RowKit

theorem SBox.aside {w w' : World} {g k : Nat} {key : ByteArray} {al : Int} {pk : Bool} (h : SBox w g key al pk) (ha : Aside k w w') (hk : g ≠ k) : SBox w' g key al pk := (ha.blk hk h.lt).trans h

theorem OwnE.aside {B k : Nat} {w w' : World} {v : Value} {es : List Ent} (h : OwnE B w v es) (ha : Aside k w w') (hk : k < B) : OwnE B w' v es := by
  refine ⟨h.1, ?_⟩
  rcases h.2 with ⟨rfl, hn⟩ | ⟨g, cap, cur, rfl, hbg, hg, hr⟩
  · exact .inl ⟨rfl, hn⟩
  · have hlt : g < w.heap.size := by
      by_cases hh : g < w.heap.size
      · exact hh
      · rw [Array.getElem?_eq_none (by omega)] at hg; simp at hg
    exact .inr ⟨g, cap, cur, rfl, hbg, (ha.blk (by omega) hlt).trans hg, hr⟩

theorem Own.aside {B k : Nat} {w w' : World} {v : Value} {xs : List UInt8} (h : Own B w v xs) (ha : Aside k w w') (hk : k < B) : Own B w' v xs := by
  refine ⟨h.1, ?_⟩
  rcases h.2 with ⟨rfl, hn⟩ | ⟨g, cap, cur, rfl, hbg, hg, hr⟩
  · exact .inl ⟨rfl, hn⟩
  · have hlt : g < w.heap.size := by
      by_cases hh : g < w.heap.size
      · exact hh
      · rw [Array.getElem?_eq_none (by omega)] at hg; simp at hg
    exact .inr ⟨g, cap, cur, rfl, hbg, (ha.blk (by omega) hlt).trans hg, hr⟩

theorem EntOwn.aside {B k : Nat} {w w' : World} {es : List Ent} (h : EntOwn B w es) (ha : Aside k w w') (hk : k < B) : EntOwn B w' es := fun e he => ⟨(h e he).1.aside ha hk, (h e he).2⟩

theorem CurAt.below {B : Nat} {w w' : World} {g b0 : Nat} {c : Cur} (h : CurAt w g b0 c) (hb : Below B w w') (hg : g < B) (h0 : b0 < B) : CurAt w' g b0 c := by
  obtain ⟨off, cap, h1, h2, h4, h5⟩ := h
  refine ⟨off, cap, (hb.block g hg).trans h1, ?_, h4, h5⟩
  intro i hi
  obtain ⟨b, off', e, hc⟩ := h2 i hi
  refine ⟨b, off', e, ?_⟩
  cases e
  exact (hb.cell (p := ⟨b0, off + i, none⟩) h0).trans hc

set_option maxRecDepth 100000 in
set_option maxHeartbeats 2000000 in
theorem guess_any (w : World) (b0 off cap : Nat) (p : List UInt8) (key : ByteArray) (hbl : b0 < w.heap.size) (hl : p.length ≤ 4000) (hcap : p.length ≤ cap) (hcm : cap ≤ maxLen) (hb : Bts w (some ⟨b0, off, none⟩) p) :
    Calls Tryz.prog 67 #[.slice (some ⟨b0, off, none⟩) p.length cap, .string key] w fun e w' => ∃ v es, e = .returned (.tuple #[v, .agg #[.string key, .int .i64 ((guessOf p).2.1 : Nat), .bool (guessOf p).2.2.1], .bool (guessOf p).2.2.2]) ∧ OwnE w.heap.size w' v es ∧ EntOwn w.heap.size w' es ∧ pairsOf es = (guessOf p).1 ∧ Below w.heap.size w w' := by
  have sr : SBox ((w.alloc (.cells #[.string ⟨#[]⟩, .int .i64 0, .bool false] 49)).alloc (.cells #[.slice (some ⟨b0, off, none⟩) p.length cap, .bool false] 117)) w.heap.size ⟨#[]⟩ 0 false := by
    have h : SBox (w.alloc (.cells #[.string ⟨#[]⟩, .int .i64 0, .bool false] 49)) w.heap.size ⟨#[]⟩ 0 false := heap_alloc_new w _
    exact h.carry ((Below.refl _ _).alloc (Nat.le_refl _) _)
  have s1 : (w.alloc (.cells #[.string ⟨#[]⟩, .int .i64 0, .bool false] 49)).heap.size = w.heap.size + 1 := by simp
  have B1 := ((Below.refl w.heap.size w).alloc (Nat.le_refl _) (.cells #[.string ⟨#[]⟩, .int .i64 0, .bool false] 49)).alloc (by omega) (.cells #[.slice (some ⟨b0, off, none⟩) p.length cap, .bool false] 117)
  have C1 : CurAt ((w.alloc (.cells #[.string ⟨#[]⟩, .int .i64 0, .bool false] 49)).alloc (.cells #[.slice (some ⟨b0, off, none⟩) p.length cap, .bool false] 117)) (w.heap.size + 1) b0 (p, false) := by
    refine ⟨off, cap, ?_, hb.carry B1, hcap, hcm⟩
    have h := heap_alloc_new (w.alloc (.cells #[.string ⟨#[]⟩, .int .i64 0, .bool false] 49)) (.cells #[.slice (some ⟨b0, off, none⟩) p.length cap, .bool false] 117)
    rw [s1] at h
    exact h
  have hne : b0 ≠ w.heap.size + 1 := by omega
  obtain ⟨t1, H1⟩ : ∃ t1, Hid (t1 = curTake (p, false) 2) := ⟨_, rfl⟩
  have l1 := curTake_len (p, false) 2
  rw [← H1.out] at l1
  obtain ⟨t2, H2⟩ : ∃ t2, Hid (t2 = curNum t1.2 1) := ⟨_, rfl⟩
  have l2 := curNum_lt t1.2 1
  rw [← H2.out] at l2
  obtain ⟨t3, H3⟩ : ∃ t3, Hid (t3 = curNum t2.2 1) := ⟨_, rfl⟩
  have l3 := curNum_lt t2.2 1
  rw [← H3.out] at l3
  obtain ⟨t4, H4⟩ : ∃ t4, Hid (t4 = curNum t3.2 1) := ⟨_, rfl⟩
  have l4 := curNum_lt t3.2 1
  rw [← H4.out] at l4
  obtain ⟨R, HR⟩ : ∃ R, Hid (R = curLoop t4.1 t4.2 []) := ⟨_, rfl⟩
  obtain ⟨pb, HPb⟩ : ∃ pb, Hid (pb = (t3.1 == 1)) := ⟨_, rfl⟩
  have HE : Hid (guessOf p = (R.1, t2.1, pb, !R.2.2)) := by
    show _ = _
    unfold guessOf
    simp only [← H1.out, ← H2.out, ← H3.out, ← H4.out, ← HR.out, ← HPb.out]
  rw [HE.out]
  simp only at l1
  have K1 := hide (fun W hW => take_any W (w.heap.size + 1) b0 (p, false) 2 hne (by omega) (by simp only; omega) hW)
  have K2 := hide (fun W hW => curnum_any W (w.heap.size + 1) b0 t1.2 1 hne (by omega) (by omega) hW)
  have K3 := hide (fun W hW => curnum_any W (w.heap.size + 1) b0 t2.2 1 hne (by omega) (by omega) hW)
  have K4 := hide (fun W hW => curnum_any W (w.heap.size + 1) b0 t3.2 1 hne (by omega) (by omega) hW)
  rw [← H1.out] at K1
  rw [← H2.out] at K2
  rw [← H3.out] at K3
  rw [← H4.out] at K4
  clear H1 H2 H3 H4 HE
  go_enter Tryz.func67, Tryz.ntmps67
  go_wp2_with fail
  generalize (w.alloc (.cells #[.string ⟨#[]⟩, .int .i64 0, .bool false] 49)).alloc (.cells #[.slice (some ⟨b0, off, none⟩) p.length cap, .bool false] 117) = W1 at *
  refine (K1.out _ C1).mono ?_
  rintro e W2 ⟨v2, rfl, _, C2, A2⟩
  have sr2 := sr.aside A2 (by omega)
  have B2 := A2.below B1 (by omega)
  have gl2 : w.heap.size + 1 < W2.heap.size := by obtain ⟨_, _, h1, _⟩ := C2; exact cur_lt h1
  have SB : Below W2.heap.size W2 (W2.alloc (.cells #[.string key, .int .i64 0, .bool false] 49)) := (Below.refl _ _).alloc (Nat.le_refl _) _
  have ss3 : SBox (W2.alloc (.cells #[.string key, .int .i64 0, .bool false] 49)) W2.heap.size key 0 false := heap_alloc_new W2 _
  have C3 := C2.keep SB
  have sr3 := sr2.carry SB
  have B3 := B2.trans (SB.mono (by omega))
  clear C1 sr B1 K1 C2 A2 sr2 B2 SB s1
  go_wp2_with fail
  obtain ⟨s, HSs⟩ : ∃ s, Hid (s = W2.heap.size) := ⟨_, rfl⟩
  rw [← HSs.out] at ss3 gl2 ⊢
  generalize W2.alloc (.cells #[.string key, .int .i64 0, .bool false] 49) = W3 at *
  refine (K2.out _ C3).mono ?_
  rintro e W4 ⟨rfl, C4, A4⟩
  have ng : s ≠ w.heap.size + 1 := by omega
  have nb : s ≠ b0 := by omega
  have nr : w.heap.size ≠ s := by omega
  have nr' : ¬ s = w.heap.size := by omega
  have nrg : w.heap.size ≠ w.heap.size + 1 := by omega
  have ss4 := ss3.aside A4 ng
  have sr4 := sr3.aside A4 nrg
  have B4 := A4.below B3 (by omega)
  have q40 := ss4.c1
  have q41 := ss4.fr 1
  have ss5 := ss4.set1 (t2.1 : Int)
  have C5 := C4.setOther (k := s) (j := 1) (.int .i64 (t2.1 : Int)) ng nb
  have sr5 : SBox (W4.setCell ⟨s, 1, none⟩ (.int .i64 (t2.1 : Int))) w.heap.size ⟨#[]⟩ 0 false := sr4.aside (Aside.set s W4 1 (.int .i64 (t2.1 : Int))) nr
  have B5 := B4.setCell (p := ⟨s, 1, none⟩) (by show w.heap.size ≤ s; omega) (.int .i64 (t2.1 : Int))
  clear ss3 sr3 B3 C3 K2 C4 A4 sr4 B4 ss4
  go_wp2_with fail
  generalize W4.setCell ⟨s, 1, none⟩ (.int .i64 (t2.1 : Int)) = W5 at *
  clear q40 q41
  refine (K3.out _ C5).mono ?_
  rintro e W6 ⟨rfl, C6, A6⟩
  have ss6 := ss5.aside A6 ng
  have sr6 := sr5.aside A6 nrg
  have B6 := A6.below B5 (by omega)
  have q60 := ss6.c2
  have q61 := ss6.fr 2
  have hpb : ((t3.1 : Int) == 1) = pb := by rw [HPb.out, Bool.eq_iff_iff]; simp; omega
  have ss7 := ss6.set2 pb
  have C7 := C6.setOther (k := s) (j := 2) (.bool pb) ng nb
  have sr7 : SBox (W6.setCell ⟨s, 2, none⟩ (.bool pb)) w.heap.size ⟨#[]⟩ 0 false := sr6.aside (Aside.set s W6 2 (.bool pb)) nr
  have B7 := B6.setCell (p := ⟨s, 2, none⟩) (by show w.heap.size ≤ s; omega) (.bool pb)
  clear ss5 sr5 B5 C5 K3 C6 A6 sr6 B6 ss6
  go_wp2_with fail
  generalize W6.setCell ⟨s, 2, none⟩ (.bool pb) = W7 at *
  clear q60 q61 hpb HPb
  refine (K4.out _ C7).mono ?_
  rintro e W8 ⟨rfl, C8, A8⟩
  have ss8 := ss7.aside A8 ng
  have sr8 := sr7.aside A8 nrg
  have B8 := A8.below B7 (by omega)
  clear ss7 sr7 B7 C7 K4 A8
  have hln : t4.1 ≤ 255 := by omega
  have hlc : t4.2.1.length ≤ 4000 := by omega
  go_wp2
  go_loopw [10, 11, 12] (fun v i _ wr => ∃ (k : Nat) (rest : List UInt8) (bad : Bool) (es : List Ent), k ≤ t4.1 ∧ i = .int .i64 k ∧ CurAt wr (w.heap.size + 1) b0 (rest, bad) ∧ rest.length ≤ 4000 ∧ OwnE (s + 1) wr v es ∧ Hid (EntOwn (s + 1) wr es) ∧ Hid (es.length ≤ k) ∧ SBox wr s key (t2.1 : Int) pb ∧ SBox wr w.heap.size ⟨#[]⟩ 0 false ∧ Hid (curLoop (t4.1 - k) (rest, bad) (pairsOf es) = R) ∧ Below w.heap.size w wr) (fun _ i _ _ => t4.1 - (intOf i).toNat)
  case atStart => exact ⟨0, t4.2.1, t4.2.2, [], by omega, rfl, C8, hlc, OwnE.nil _ _, EntOwn.nil _ _, Nat.le_refl _, ss8, sr8, HR.out.symm, B8⟩
  clear C8 ss8 sr8 B8 l1 l2 l3 l4 HR
  case round =>
    obtain ⟨k, rest, bad, es, hk, rfl, hC, hlr, ho, HG, HL, hss, hsr, HLo, hbw⟩ := hrel
    have hc1 : wr.cell? ⟨w.heap.size + 1, 1, none⟩ = some (.bool bad) := by obtain ⟨_, _, h1, _⟩ := hC; exact cur_c1 h1
    by_cases hgo : k < t4.1 ∧ bad = false
    · obtain ⟨hkn, rfl⟩ := hgo
      have hki : (k : Int) < (t4.1 : Int) := by omega
      have KN := hide (next_any wr (w.heap.size + 1) b0 (rest, false) hne (by have := hss.lt; omega) (by simp only; omega) hC)
      have hnl := curNext_len (rest, false)
      have HStep : Hid (curLoop (t4.1 - (k + 1)) (curNext (rest, false)).2 (pairsOf es ++ [(curNext (rest, false)).1]) = R) := by
        have h := HLo.out
        rw [show t4.1 - k = (t4.1 - (k + 1)) + 1 from by omega, curLoop, if_neg (by simp)] at h
        exact h
      obtain ⟨nx, HNx⟩ : ∃ nx, Hid (nx = curNext (rest, false)) := ⟨_, rfl⟩
      rw [← HNx.out] at KN hnl HStep
      obtain ⟨⟨pth, bdy⟩, rest', bad'⟩ := nx
      simp only at KN hnl HStep
      obtain ⟨P, HP⟩ : ∃ P, Hid (P = strOf pth) := ⟨_, rfl⟩
      rw [← HP.out] at KN
      have hPs : P.size ≤ maxLen := by rw [HP.out, strOf_size]; unfold maxLen; omega
      have HPd : Hid (P.data.toList = pth) := by show _ = _; rw [HP.out, strOf_list]
      clear HNx
      go_wp2_with fail
      refine KN.out.mono ?_
      rintro e w1 ⟨v1, rfl, o1, C1, A1⟩
      obtain ⟨a1, k1, rfl, -, -, -⟩ := o1.shape
      have hsw : s < wr.heap.size := hss.lt
      have o1' : Own (s + 1) w1 (.slice a1 bdy.length k1) bdy := o1.mono (by omega)
      have ho1 := ho.aside A1 (by omega)
      have HG1 := hide (HG.out.aside A1 (by omega))
      have ss1 := hss.aside A1 ng
      have sr1 := hsr.aside A1 nrg
      have bw1 := A1.below hbw (by omega)
      have sw1 : s < w1.heap.size := ss1.lt
      have Ba : Below w1.heap.size w1 (w1.alloc (.cells #[.string P, .slice a1 bdy.length k1] 46)) := (Below.refl _ _).alloc (Nat.le_refl _) _
      have Bb := Ba.alloc Ba.size (.cells #[.string P, .slice a1 bdy.length k1] 46)
      have eb : EBox (w1.alloc (.cells #[.string P, .slice a1 bdy.length k1] 46)) w1.heap.size P (.slice a1 bdy.length k1) := heap_alloc_new w1 _
      have m0 := eb.c0
      have m1 := eb.c1
      have hs1 := src_ent (w1.alloc (.cells #[.string P, .slice a1 bdy.length k1] 46)) ⟨P, a1, bdy, k1⟩
      unfold Ent.val at hs1
      rw [show (w1.alloc (.cells #[.string P, .slice a1 bdy.length k1] 46)).heap.size = w1.heap.size + 1 from by simp] at hs1
      have ho3 := ho1.carry Bb
      have HG3 := hide (HG1.out.carry Bb)
      have o3 := o1'.carry Bb
      have C3 := C1.keep Bb
      have ss3 := ss1.carry Bb
      have sr3 := sr1.carry Bb
      have bw3 := bw1.trans (Bb.mono bw1.size)
      clear KN o1 o1' ho HG hss hsr hbw hc1 hC ho1 HG1 ss1 sr1 bw1 C1 A1 Ba eb
      go_wp2_with (at_builtin; go_must (refine wpAppE rfl (.tmp 43) (.tmp 45) rfl (s + 1) _ es rfl ho3 _ [⟨P, a1, bdy, k1⟩] rfl 1 hs1 (by have := HL.out; simp; omega) (by simp; omega) ?_))
      intro v4 w4 f4 e4 o4 gr
      have hW : s + 1 ≤ ((w1.alloc (.cells #[.string P, .slice a1 bdy.length k1] 46)).alloc (.cells #[.string P, .slice a1 bdy.length k1] 46)).heap.size := by simp; omega
      have b4 := below_ownE (Below.refl (s + 1) _) ho3 gr.by_ hW
      have C4 := C3.below b4 (by omega) (by omega)
      have ss4 := ss3.below b4 (by omega)
      have sr4 := sr3.below b4 (by omega)
      have bw4 := bw3.trans (b4.mono (by omega))
      have HG4 : Hid (EntOwn (s + 1) w4 f4) := by
        rw [e4.out]
        exact (HG3.out.grown ho3 gr.by_).more (e := ⟨P, a1, bdy, k1⟩) (o3.kept gr.by_ (own_ne o3 ho3)) hPs
      have HL4 : Hid (f4.length ≤ k + 1) := by have := HL.out; show _ ≤ _; rw [e4.out]; simp; omega
      have HLo4 : Hid (curLoop (t4.1 - (k + 1)) (rest', bad') (pairsOf f4) = R) := by
        show _ = _
        rw [e4.out, pairsOf, List.map_append, ← pairsOf]
        simp only [List.map_cons, List.map_nil, pairOf, HPd.out]
        exact HStep.out
      clear gr b4 hW C3 ss3 sr3 bw3 HG3 o3 ho3 hs1 m0 m1 Bb e4
      go_wp2
      go_roundw
      case rel => first | exact ⟨k + 1, rest', bad', f4, by omega, by go_num, C4, by omega, o4, HG4, HL4, ss4, sr4, HLo4, bw4⟩ | ((repeat apply Exists.intro); exact ⟨⟨k + 1, rest', bad', f4, by omega, by go_num, C4, by omega, o4, HG4, HL4, ss4, sr4, HLo4, bw4⟩, rfl⟩)
      case measure => simp [intOf]; omega
    · have HRe : Hid (R = (pairsOf es, (rest, bad))) := by
        have h := HLo.out
        show _ = _
        by_cases hkn : k < t4.1
        · have hbd : bad = true := by
            cases bad
            · exact absurd ⟨hkn, rfl⟩ hgo
            · rfl
          rw [show t4.1 - k = (t4.1 - (k + 1)) + 1 from by omega, curLoop, if_pos (by simp [hbd])] at h
          exact h.symm
        · rw [show t4.1 - k = 0 from by omega, curLoop] at h
          exact h.symm
      have hcase : (¬ k < t4.1) ∨ (k < t4.1 ∧ bad = true) := by
        by_cases hkn : k < t4.1
        · cases bad
          · exact absurd ⟨hkn, rfl⟩ hgo
          · exact .inr ⟨hkn, rfl⟩
        · exact .inl hkn
      have n0 := hss.c0
      have n1 := hss.c1
      have n2 := hss.c2
      have d0 := hsr.c0
      have d1 := hsr.c1
      have d2 := hsr.c2
      have f0 := hsr.fr 0
      have f1 := hsr.fr 1
      have f2 := hsr.fr 2
      have X := hsr.set key (t2.1 : Int) pb
      have AS := (((Aside.set w.heap.size wr 0 (.string key)).trans (Aside.set w.heap.size _ 1 (.int .i64 (t2.1 : Int)))).trans (Aside.set w.heap.size _ 2 (.bool pb)))
      have OO := ho.aside AS (by omega)
      have GG := hide (HG.out.aside AS (by omega))
      have BB := ((hbw.setCell (p := ⟨w.heap.size, 0, none⟩) (Nat.le_refl _) (.string key)).setCell (p := ⟨w.heap.size, 1, none⟩) (Nat.le_refl _) (.int .i64 (t2.1 : Int))).setCell (p := ⟨w.heap.size, 2, none⟩) (Nat.le_refl _) (.bool pb)
      have hsw : w.heap.size ≤ s + 1 := by omega
      clear hgo HG hbw AS
      rcases hcase with hkn | ⟨hkn, rfl⟩
      · have hki : ¬ (k : Int) < (t4.1 : Int) := by omega
        go_wp2
        go_region
        go_wp2
        refine bodyPost_ret (v := .tuple #[_, .agg #[.string key, .int .i64 (t2.1 : Int), .bool pb], .bool (!bad)]) ?_ rfl ⟨_, es, by rw [HRe.out], OO.low hsw, GG.out.low hsw, by rw [HRe.out], BB.drew⟩
        have k0 := X.c0
        have k1 := X.c1
        have k2 := X.c2
        rw [results_mid rfl]
        go_simp
      · have hki : (k : Int) < (t4.1 : Int) := by omega
        go_wp2
        go_region
        go_wp2
        refine bodyPost_ret (v := .tuple #[_, .agg #[.string key, .int .i64 (t2.1 : Int), .bool pb], .bool (!true)]) ?_ rfl ⟨_, es, by rw [HRe.out], OO.low hsw, GG.out.low hsw, by rw [HRe.out], BB.drew⟩
        have k0 := X.c0
        have k1 := X.c1
        have k2 := X.c2
        rw [results_mid rfl]
        go_simp

end Go.Proofs.YtgncohclofdhmaaGreat

namespace Go.Proofs.YtgncohclofdhmaaGreat
open Go.RowKit

set_option maxRecDepth 100000 in
set_option maxHeartbeats 1000000 in
theorem refsame_any (a c : Option Addr) (xs ys : List UInt8) (cap cap2 : Nat) (w : World) (hm : xs.length ≤ 140737488355328) (hm2 : ys.length ≤ 140737488355328) (hb : Bts w a xs) (hb2 : Bts w c ys) :
    Calls Tryz.prog 68 #[.slice a xs.length cap, .slice c ys.length cap2] w fun e w' => e = .returned (.bool (eqB xs ys)) ∧ Below w.heap.size w w' := by
  by_cases hl : xs.length = ys.length
  · have hlb : ((xs.length : Int) != (ys.length : Int)) = false := by simp; omega
    have HL := hide hl
    have hl1 : xs.length ≤ ys.length := by omega
    clear hl
    go_enter Tryz.func68, Tryz.ntmps68
    go_wp2
    go_loopw [5] (fun i wr => ∃ k : Nat, k ≤ xs.length ∧ i = .int .i64 k ∧ Hid (∀ j, j < k → xs.getD j 0 = ys.getD j 0) ∧ Below w.heap.size w wr) (fun i _ => xs.length - (intOf i).toNat)
    case atStart => exact ⟨0, by omega, rfl, fun j hj => absurd hj (Nat.not_lt_zero j), Below.refl _ _⟩
    case round =>
      obtain ⟨k, hk, rfl, HA, hbl⟩ := hrel
      by_cases hlt : k < xs.length
      · obtain ⟨b, off, rfl, hc1⟩ := (hb.carry hbl) k hlt
        obtain ⟨b2, off2, rfl, hc2⟩ := (hb2.carry hbl) k (by omega)
        have HQ : Hid ((((xs.getD k 0).toNat : Int) == ((ys.getD k 0).toNat : Int)) = true → ∀ j, j < k + 1 → xs.getD j 0 = ys.getD j 0) := by
          intro h j hj
          by_cases e : j = k
          · subst e; exact byte_eq h
          · exact HA.out j (by omega)
        have HQ2 : Hid ((((xs.getD k 0).toNat : Int) == ((ys.getD k 0).toNat : Int)) = false → eqB xs ys = false) := by
          intro h
          simp only [eqB, decide_eq_false_iff_not]
          intro e
          exact byte_ne h (by rw [e])
        generalize xs.getD k 0 = x at *
        generalize ys.getD k 0 = y at *
        go_wp2
        go_quiet (fail)
        go_wp2
        · have h : ((x.toNat : Int) != (y.toNat : Int)) = true := by assumption
          have hn := hide (HQ2.out (by simpa [bne] using h))
          have hb3 := below_drewN hbl nq
          go_ret
          exact ⟨ret_bool hn.out.symm, hb3⟩
        · have h : ((x.toNat : Int) != (y.toNat : Int)) = false := by assumption
          have hn := hide (HQ.out (by simpa [bne] using h))
          have hb3 := below_drewN hbl nq
          go_roundw
          case rel => exact ⟨k + 1, by omega, by go_num, hn, hb3⟩
          case measure => simp [intOf]; omega
      · have hn : Hid (eqB xs ys = true) := by
          show _ = _
          simp only [eqB, decide_eq_true_eq]
          exact eq_of_all xs ys HL.out fun i hi => HA.out i (by omega)
        go_wp2
        go_ret
        exact ⟨ret_bool hn.out.symm, hbl⟩
  · have hlb : ((xs.length : Int) != (ys.length : Int)) = true := by simp; omega
    have hn : Hid (eqB xs ys = false) := by
      show _ = _
      simp only [eqB, decide_eq_false_iff_not]
      rintro rfl
      exact hl rfl
    clear hl
    go_enter Tryz.func68, Tryz.ntmps68
    go_wp2
    go_ret
    exact ⟨ret_bool hn.out.symm, Below.refl _ _⟩

end Go.Proofs.YtgncohclofdhmaaGreat

namespace Go.Proofs.YtgncohclofdhmaaGreat
open Go.RowKit

theorem numAt_take (p : List UInt8) (k : Nat) (h : k + 4 ≤ p.length) : (curNum (p.drop k, false) 4).1 = numAt p k 4 := by
  have h4 : ((p.drop k).take 4).length = 4 := by rw [List.length_take, List.length_drop]; omega
  have e : curTake (p.drop k, false) 4 = ((p.drop k).take 4, ((p.drop k).drop 4, false)) := by
    unfold curTake
    rw [if_neg (by simp; omega)]
  unfold curNum
  rw [e]
  simp only
  rw [h4]
  refine (numAt_at (pre := p.take k) (ys := (p.drop k).take 4) (post := (p.drop k).drop 4) ?_ (by rw [List.length_take]; omega) (by omega) rfl).symm
  rw [List.take_append_drop, List.take_append_drop]

set_option maxRecDepth 100000 in
set_option maxHeartbeats 1000000 in
theorem refnumber_any (w : World) (b0 off cap : Nat) (p : List UInt8) (t : Int) (k : Nat) (ht : t = k) (hbl : b0 < w.heap.size) (hl : p.length ≤ 4000) (hk : k + 4 ≤ p.length) (hcap : p.length ≤ cap) (hcm : cap ≤ maxLen) (hb : Bts w (some ⟨b0, off, none⟩) p) :
    Calls Tryz.prog 66 #[.slice (some ⟨b0, off, none⟩) p.length cap, .int .i64 t] w fun e w' => e = .returned (.int .i64 (numAt p k 4 : Nat)) ∧ Below w.heap.size w w' := by
  subst ht
  unfold maxLen at hcm
  have B1 := (Below.refl w.heap.size w).alloc (Nat.le_refl _) (.cells #[.slice (some ⟨b0, off + k, none⟩) (p.length - k) (cap - k), .bool false] 117)
  have C1 : CurAt (w.alloc (.cells #[.slice (some ⟨b0, off + k, none⟩) (p.length - k) (cap - k), .bool false] 117)) w.heap.size b0 (p.drop k, false) := by
    refine ⟨off + k, cap - k, ?_, (hb.from k).carry B1, by simp only [List.length_drop]; omega, by unfold maxLen; omega⟩
    have h := heap_alloc_new w (.cells #[.slice (some ⟨b0, off + k, none⟩) (p.length - k) (cap - k), .bool false] 117)
    simp only [List.length_drop]
    exact h
  have K := hide (curnum_any _ w.heap.size b0 (p.drop k, false) 4 (by omega) (by omega) (by simp only [List.length_drop]; omega) C1)
  rw [numAt_take p k hk] at K
  have e1 : (k : Int) ≤ (p.length : Int) := by omega
  have e2 : ¬ cap = k := by omega
  clear C1
  go_enter Tryz.func66, Tryz.ntmps66
  go_wp2_with fail
  refine K.out.mono ?_
  rintro e w1 ⟨rfl, _, A1⟩
  have B2 := A1.below B1 (Nat.le_refl _)
  go_wp2
  go_ret
  exact ⟨rfl, B2⟩

/-- What is built is a package, and of what was guessed of it. -/
theorem ver_forth {es : List Ent} {key : ByteArray} {al : Nat} {pk : Bool} {B : Nat} {w : World} {v : Value} {q : ByteArray} {p : List UInt8} {a : Option Addr} {c : Nat} {fine : Bool} (hg : guessOf p = (pairsOf es, al, pk, fine))
    (h : BuildAns es key (al : Int) pk B w v 0 q) (hv : v = .slice a p.length c) (hb : Bts w a p) : IsPack key.data.toList p (pairsOf es) al pk := by
  rcases h with ⟨h1, _, h3, _⟩ | ⟨h1, ix, hC, hl, ⟨_, _, h3, _⟩ | ⟨h2, h3, _, _⟩⟩
  · exact absurd h3.symm (faultsLeast_ne h1)
  · omega
  · rw [Int.toNat_natCast] at h2 h3
    obtain ⟨hG, _, _, _⟩ := good_of_nil h1 hC hl
    rw [Int.toNat_natCast] at hG
    obtain ⟨a', c', e1, e2, _, _⟩ := h3.shape
    rw [hv] at e1
    simp only [Value.slice.injEq] at e1
    obtain ⟨rfl, e4, _⟩ := e1
    have e := hb.only e2 e4
    have hI : IsPack key.data.toList p (pairsOf (ix.map fun i => es.getD i noEnt)) al pk := ⟨hG, e, by rw [e]; exact h2⟩
    have h5 := guess_made hI
    rw [hg] at h5
    simp only [Prod.mk.injEq] at h5
    rw [h5.1]
    exact hI

theorem curLoop_len : ∀ (n : Nat) (c : Cur) (acc : List (List UInt8 × List UInt8)), (curLoop n c acc).1.length ≤ acc.length + n
  | 0, c, acc => by simp [curLoop]
  | n + 1, c, acc => by
    rw [curLoop]
    split
    · simp
    · have := curLoop_len n (curNext c).2 (acc ++ [(curNext c).1])
      simp at this
      omega

theorem guess_len {p : List UInt8} {es : List Ent} {al : Nat} {pk fine : Bool} (h : (pairsOf es, al, pk, fine) = guessOf p) : es.length ≤ 1000000 := by
  have h1 := congrArg (fun x => x.1.length) h
  simp only [pairs_size] at h1
  rw [h1]
  unfold guessOf
  simp only
  refine Nat.le_trans (curLoop_len _ _ _) ?_
  have := (curNum_lt (curNum (curNum (curTake (p, false) 2).2 1).2 1).2 1).1
  simp at this ⊢
  omega

set_option maxRecDepth 100000 in
set_option maxHeartbeats 2000000 in
theorem refVerify_any (a : Option Addr) (p : List UInt8) (cap : Nat) (w : World) (key : ByteArray) (hm : p.length ≤ 140737488355328) (hks : key.size ≤ maxLen) (hcap : p.length ≤ cap) (hcm : cap ≤ maxLen) (hb : Bts w a p) :
    Calls Tryz.prog 36 #[.slice a p.length cap, .string key] w fun e w' => ∃ v cfg E, e = .returned (.tuple #[v, cfg, .int .i64 (E : Nat)]) ∧ VerAns key p w.heap.size w' v cfg E ∧ Below w.heap.size w w' := by
  have sr : SBox ((w.alloc (.cells #[.string ⟨#[]⟩, .int .i64 0, .bool false] 49)).alloc (.cells #[.string ⟨#[]⟩, .int .i64 0, .bool false] 49)) w.heap.size ⟨#[]⟩ 0 false := by
    have h : SBox (w.alloc (.cells #[.string ⟨#[]⟩, .int .i64 0, .bool false] 49)) w.heap.size ⟨#[]⟩ 0 false := heap_alloc_new w _
    exact h.carry ((Below.refl _ _).alloc (Nat.le_refl _) _)
  have s1 : (w.alloc (.cells #[.string ⟨#[]⟩, .int .i64 0, .bool false] 49)).heap.size = w.heap.size + 1 := by simp
  have sq : SBox ((w.alloc (.cells #[.string ⟨#[]⟩, .int .i64 0, .bool false] 49)).alloc (.cells #[.string ⟨#[]⟩, .int .i64 0, .bool false] 49)) (w.heap.size + 1) ⟨#[]⟩ 0 false := by
    have h := heap_alloc_new (w.alloc (.cells #[.string ⟨#[]⟩, .int .i64 0, .bool false] 49)) (.cells #[.string ⟨#[]⟩, .int .i64 0, .bool false] 49)
    rw [s1] at h
    exact h
  have B1 := ((Below.refl w.heap.size w).alloc (Nat.le_refl _) (.cells #[.string ⟨#[]⟩, .int .i64 0, .bool false] 49)).alloc (by omega) (.cells #[.string ⟨#[]⟩, .int .i64 0, .bool false] 49)
  have HKl := hide (strLen key)
  have HK := keyFits_any key
  have HFin : Hid (∀ W : World, SBox W w.heap.size ⟨#[]⟩ 0 false → Below w.heap.size w W → SBox (((W.setCell ⟨w.heap.size, 0, none⟩ (.string ⟨#[]⟩)).setCell ⟨w.heap.size, 1, none⟩ (.int .i64 0)).setCell ⟨w.heap.size, 2, none⟩ (.bool false)) w.heap.size ⟨#[]⟩ 0 false ∧ Below w.heap.size w (((W.setCell ⟨w.heap.size, 0, none⟩ (.string ⟨#[]⟩)).setCell ⟨w.heap.size, 1, none⟩ (.int .i64 0)).setCell ⟨w.heap.size, 2, none⟩ (.bool false))) := by
    intro W h1 h2
    exact ⟨h1.set ⟨#[]⟩ 0 false, ((h2.setCell (p := ⟨w.heap.size, 0, none⟩) (Nat.le_refl _) _).setCell (p := ⟨w.heap.size, 1, none⟩) (Nat.le_refl _) _).setCell (p := ⟨w.heap.size, 2, none⟩) (Nat.le_refl _) _⟩
  cases hkb : keyB key.size
  · rw [hkb] at HK
    have HA := hide (fun B W => ver_head (B := B) (w := W) (verHead_key (key := key.data.toList) (p := p) (by rw [HKl.out]; exact hkb)) (by omega))
    clear hkb HFin
    have d0 := sr.c0
    have d1 := sr.c1
    have d2 := sr.c2
    go_enter Tryz.func36, Tryz.ntmps36
    go_wp2_with fail
    refine (HK _ hks).mono ?_
    rintro e w' ⟨rfl, rfl⟩
    go_wp2
    go_region
    go_wp2
    refine bodyPost_ret (v := .tuple #[.slice none 0 0, noCfg, .int .i64 1]) ?_ rfl ⟨_, _, 1, rfl, HA.out _ _, B1.drew⟩
    rw [results_mid rfl]
    unfold noCfg
    go_simp
  · rw [hkb] at HK
    have hkl : keyB key.data.toList.length = true := by rw [HKl.out]; exact hkb
    have HKL := hide hkl
    have HKB := hide hkb
    clear hkl hkb
    by_cases hlong : 4000 < p.length
    · have HA := hide (fun B W => ver_head (B := B) (w := W) (verHead_long (p := p) HKL.out hlong) (by omega))
      have hli : (4000 : Int) < (p.length : Int) := by omega
      clear HFin
      have d0 := sr.c0
      have d1 := sr.c1
      have d2 := sr.c2
      go_enter Tryz.func36, Tryz.ntmps36
      go_wp2_with fail
      refine (HK _ hks).mono ?_
      rintro e w' ⟨rfl, rfl⟩
      go_wp2
      go_region
      go_wp2
      refine bodyPost_ret (v := .tuple #[.slice none 0 0, noCfg, .int .i64 8]) ?_ rfl ⟨_, _, 8, rfl, HA.out _ _, B1.drew⟩
      rw [results_mid rfl]
      unfold noCfg
      go_simp
    · have hli : ¬ (4000 : Int) < (p.length : Int) := by omega
      by_cases hshort : p.length < 13
      · have HA := hide (fun B W => ver_head (B := B) (w := W) (verHead_short (p := p) HKL.out hshort) (by omega))
        have hsi : (p.length : Int) < 13 := by omega
        clear HFin
        have d0 := sr.c0
        have d1 := sr.c1
        have d2 := sr.c2
        go_enter Tryz.func36, Tryz.ntmps36
        go_wp2_with fail
        refine (HK _ hks).mono ?_
        rintro e w' ⟨rfl, rfl⟩
        go_wp2
        go_region
        go_wp2
        refine bodyPost_ret (v := .tuple #[.slice none 0 0, noCfg, .int .i64 9]) ?_ rfl ⟨_, _, 9, rfl, HA.out _ _, B1.drew⟩
        rw [results_mid rfl]
        unfold noCfg
        go_simp
      · have hsi : ¬ (p.length : Int) < 13 := by omega
        obtain ⟨b0, off, rfl, hc0⟩ := hb 0 (by omega)
        have hb0 : b0 < w.heap.size := World.block_lt_of_cell? w _ hc0
        clear hc0
        unfold maxLen at hcm
        have hb1 := hb.carry B1
        have hs1 := hide (fun W (hW : Bts W (some ⟨b0, off, none⟩) p) (n' c' : Nat) (hn : n' = p.length - 8) => show Calls Tryz.prog 27 #[.slice (some ⟨b0, off, none⟩) n' c'] W (fun e w' => e = .returned (.int .i64 (sumOf (p.take (p.length - 8)) : Nat)) ∧ Below W.heap.size W w') by
          have h := refSum_any (some ⟨b0, off, none⟩) (p.take (p.length - 8)) c' W (by rw [List.length_take]; omega) (by have := hW.sub 0 (p.length - 8); simpa using this)
          rw [List.length_take, show min (p.length - 8) p.length = p.length - 8 from by omega] at h
          rw [hn]
          exact h)
        have hs2 := hide (fun W (hW : Bts W (some ⟨b0, off, none⟩) p) (n' c' : Nat) (hn : n' = p.length - 4) => show Calls Tryz.prog 29 #[.string key, .slice (some ⟨b0, off, none⟩) n' c'] W (fun e w' => e = .returned (.tuple #[.int .i64 (tagVal key.data.toList (p.take (p.length - 4)) : Nat), .int .i64 0]) ∧ Below W.heap.size W w') by
          have h := refTag_any key (some ⟨b0, off, none⟩) (p.take (p.length - 4)) c' W hks (by rw [List.length_take]; omega) (by have := hW.sub 0 (p.length - 4); simpa using this)
          rw [List.length_take, show min (p.length - 4) p.length = p.length - 4 from by omega] at h
          have h1 : tagNum key (p.take (p.length - 4)) = tagVal key.data.toList (p.take (p.length - 4)) := by rw [tagNum, if_pos HKB.out]
          have h2 : tagErr key = 0 := by rw [tagErr, if_pos HKB.out]
          rw [h1, h2] at h
          rw [hn]
          exact h)
        have e1 : (0 : Int) ≤ (p.length : Int) - 8 := by omega
        have e2 : (p.length : Int) - 8 ≤ (cap : Int) := by omega
        have e3 : ¬ cap = 0 := by omega
        have e4 : (p.length : Int) - 4 ≤ (cap : Int) := by omega
        have e5 : (0 : Int) ≤ (p.length : Int) - 4 := by omega
        have e6 : ((p.length : Int) - 8).toNat = p.length - 8 := by omega
        have e7 : ((p.length : Int) - 4).toNat = p.length - 4 := by omega
        obtain ⟨sm, HSm⟩ : ∃ sm, Hid (sm = sumOf (p.take (p.length - 8))) := ⟨_, rfl⟩
        obtain ⟨tg, HTg⟩ : ∃ tg, Hid (tg = tagVal key.data.toList (p.take (p.length - 4))) := ⟨_, rfl⟩
        obtain ⟨n8, HN8⟩ : ∃ n8, Hid (n8 = numAt p (p.length - 8) 4) := ⟨_, rfl⟩
        obtain ⟨n4, HN4⟩ : ∃ n4, Hid (n4 = numAt p (p.length - 4) 4) := ⟨_, rfl⟩
        rw [← HSm.out] at hs1
        rw [← HTg.out] at hs2
        go_enter Tryz.func36, Tryz.ntmps36
        go_wp2_with fail
        refine (HK _ hks).mono ?_
        rintro e w' ⟨rfl, rfl⟩
        go_wp2_with fail
        generalize (w.alloc (.cells #[.string ⟨#[]⟩, .int .i64 0, .bool false] 49)).alloc (.cells #[.string ⟨#[]⟩, .int .i64 0, .bool false] 49) = W1 at *
        refine (hs1.out _ hb1 _ _ (by omega)).mono ?_
        rintro e W2 ⟨rfl, b2⟩
        have sr2 := sr.carry b2
        have sq2 := sq.carry b2
        have B2 := B1.trans (b2.mono B1.size)
        have hb2 := hb1.carry b2
        have hw2 : b0 < W2.heap.size := by have := sr2.lt; omega
        clear sr sq B1 hb1 b2 hs1
        go_wp2_with fail
        refine (refnumber_any W2 b0 off cap p _ (p.length - 8) (by omega) hw2 (by omega) (by omega) hcap (by unfold maxLen; omega) hb2).mono ?_
        rintro e W3 ⟨rfl, b3⟩
        rw [← HN8.out]
        have sr3 := sr2.carry b3
        have sq3 := sq2.carry b3
        have B3 := B2.trans (b3.mono B2.size)
        have hb3 := hb2.carry b3
        clear sr2 sq2 B2 hb2 b3 hw2
        by_cases h8 : sm = n8
        · have h8b : ((sm : Int) != (n8 : Int)) = false := by rw [bne_eq_false_iff_eq]; omega
          have HS8 : Hid (numAt p (p.length - 8) 4 = sumOf (p.take (p.length - 8))) := by show _ = _; rw [← HN8.out, ← HSm.out]; exact h8.symm
          clear h8
          go_wp2_with fail
          refine (hs2.out _ hb3 _ _ (by omega)).mono ?_
          rintro e W4 ⟨rfl, b4⟩
          have sr4 := sr3.carry b4
          have sq4 := sq3.carry b4
          have B4 := B3.trans (b4.mono B3.size)
          have hb4 := hb3.carry b4
          have hw4 : b0 < W4.heap.size := by have := sr4.lt; omega
          clear sr3 sq3 B3 hb3 b4 hs2
          go_wp2_with fail
          refine (refnumber_any W4 b0 off cap p _ (p.length - 4) (by omega) hw4 (by omega) (by omega) hcap (by unfold maxLen; omega) hb4).mono ?_
          rintro e W5 ⟨rfl, b5⟩
          rw [← HN4.out]
          have sr5 := sr4.carry b5
          have sq5 := sq4.carry b5
          have B5 := B4.trans (b5.mono B4.size)
          have hb5 := hb4.carry b5
          have hw5 : b0 < W5.heap.size := by have := sr5.lt; omega
          clear sr4 sq4 B4 hb4 b5 hw4
          by_cases h4 : tg = n4
          · have h4b : ((tg : Int) != (n4 : Int)) = false := by rw [bne_eq_false_iff_eq]; omega
            have HZ : Hid (verHead key.data.toList p = 0) := verHead_ok HKL.out (by omega) (by omega) HS8.out (by rw [← HN4.out, ← HTg.out]; exact h4.symm)
            clear h4
            obtain ⟨G, HG⟩ : ∃ G, Hid (G = guessOf p) := ⟨_, rfl⟩
            have KG := hide (guess_any W5 b0 off cap p key hw5 (by omega) hcap (by unfold maxLen; omega) hb5)
            rw [← HG.out] at KG
            obtain ⟨l, al, pk, fine⟩ := G
            simp only at KG
            go_wp2_with fail
            refine KG.out.mono ?_
            rintro e W6 ⟨v6, es, rfl, o6, g6, hes, b6⟩
            subst hes
            have sr6 := sr5.carry b6
            have sq6 := sq5.carry b6
            have B6 := B5.trans (b6.mono B5.size)
            have hb6 := hb5.carry b6
            obtain ⟨a6, c6, rfl, hat6, -, -⟩ := o6.shape
            have Ba : Below W6.heap.size W6 (W6.alloc (.cells #[.string key, .int .i64 (al : Nat), .bool pk] 49)) := (Below.refl _ _).alloc (Nat.le_refl _) _
            have sc7 : SBox (W6.alloc (.cells #[.string key, .int .i64 (al : Nat), .bool pk] 49)) W6.heap.size key (al : Nat) pk := heap_alloc_new W6 _
            have sr7 := sr6.carry Ba
            have sq7 := sq6.carry Ba
            have B7 := B6.trans (Ba.mono B6.size)
            have hb7 := hb6.carry Ba
            have o7 := o6.carry Ba
            have g7 := hide (g6.carry Ba)
            have hat7 := hat6.carry Ba
            have hrw : w.heap.size < W5.heap.size := sr5.lt
            clear KG sr5 sq5 B5 hb5 sr6 sq6 B6 hb6 o6 g6 hat6 Ba b6
            cases fine
            · have HA : Hid (∀ B W, VerAns key p B W (.slice none 0 0) noCfg 12) := by
                intro B W
                refine .inr (.inl ⟨HZ.out, ?_, rfl, rfl, rfl⟩)
                rintro ⟨l', al', pk', hI⟩
                have h := guess_made hI
                rw [← HG.out] at h
                simp at h
              have w70 := sc7.c0
              go_upto_region 20 with fail
              generalize W6.alloc (.cells #[.string key, .int .i64 (al : Nat), .bool pk] 49) = W7 at *
              have d0 := sr7.c0
              have d1 := sr7.c1
              have d2 := sr7.c2
              have f0 := sr7.fr 0
              have f1 := sr7.fr 1
              have f2 := sr7.fr 2
              have q0 := sq7.c0
              have q1 := sq7.c1
              have q2 := sq7.c2
              obtain ⟨X, BB⟩ := HFin.out _ sr7 B7
              clear HFin
              go_wp2
              go_region
              go_wp2
              refine bodyPost_ret (v := .tuple #[.slice none 0 0, noCfg, .int .i64 12]) ?_ rfl ⟨_, _, 12, rfl, HA.out _ _, BB.drew⟩
              have k0 := X.c0
              have k1 := X.c1
              have k2 := X.c2
              rw [results_mid rfl]
              unfold noCfg
              go_simp
            · have n0 := sc7.c0
              have n1 := sc7.c1
              have n2 := sc7.c2
              have hel : es.length ≤ 1000000 := guess_len HG.out
              go_wp2_with fail
              generalize W6.alloc (.cells #[.string key, .int .i64 (al : Nat), .bool pk] 49) = W7 at *
              refine (refBuild_any a6 es c6 W7 key (al : Nat) pk hel hks hat7 g7.out.good).mono ?_
              rintro e W8 ⟨v8, E8, p8, rfl, A8, b8⟩
              obtain ⟨xs, a8, c8, hv8, hx8, hxl⟩ := ans_bytes A8
              have HA8 := hide A8
              subst hv8
              have sr8 := sr7.carry b8
              have sq8 := sq7.carry b8
              have sc8 := sc7.carry b8
              have B8 := B7.trans (b8.mono B7.size)
              have hb8 := hb7.carry b8
              have o8 := o7.carry b8
              have g8 := hide (g7.out.carry b8)
              clear A8 sr7 sq7 sc7 B7 hb7 o7 g7 hat7 n0 n1 n2
              go_wp2_with fail
              refine (refsame_any a8 (some ⟨b0, off, none⟩) xs p c8 cap W8 (by omega) hm hx8 hb8).mono ?_
              rintro e W9 ⟨rfl, b9⟩
              have hx9 := hx8
              have sr9 := sr8.carry b9
              have sq9 := sq8.carry b9
              have sc9 := sc8.carry b9
              have B9 := B8.trans (b9.mono B8.size)
              have o9 := o8.carry b9
              have g9 := hide (g8.out.carry b9)
              clear sr8 sq8 sc8 B8 o8 g8
              by_cases hok : E8 = 0 ∧ xs = p
              · obtain ⟨rfl, rfl⟩ := hok
                have HI : Hid (IsPack key.data.toList xs (pairsOf es) al pk) := ver_forth HG.out.symm HA8.out rfl hx8
                rw [eqB_true]
                have d0 := sr9.c0
                have d1 := sr9.c1
                have d2 := sr9.c2
                have f0 := sr9.fr 0
                have f1 := sr9.fr 1
                have f2 := sr9.fr 2
                have q0 := sc9.c0
                have q1 := sc9.c1
                have q2 := sc9.c2
                have X := sr9.set key (al : Nat) pk
                have AS := (((Aside.set w.heap.size W9 0 (.string key)).trans (Aside.set w.heap.size _ 1 (.int .i64 (al : Nat)))).trans (Aside.set w.heap.size _ 2 (.bool pk)))
                have OO := o9.aside AS hrw
                have GG := hide (g9.out.aside AS hrw)
                have BB := ((B9.setCell (p := ⟨w.heap.size, 0, none⟩) (Nat.le_refl _) (.string key)).setCell (p := ⟨w.heap.size, 1, none⟩) (Nat.le_refl _) (.int .i64 (al : Nat))).setCell (p := ⟨w.heap.size, 2, none⟩) (Nat.le_refl _) (.bool pk)
                clear HFin AS o9 g9 B9 HA8
                go_wp2
                go_region
                go_wp2
                refine bodyPost_ret (v := .tuple #[.slice a6 es.length c6, .agg #[.string key, .int .i64 (al : Nat), .bool pk], .int .i64 0]) ?_ rfl ⟨_, _, 0, rfl, .inr (.inr ⟨HZ.out, es, al, pk, HI.out, OO.low (Nat.le_of_lt hrw), GG.out.low (Nat.le_of_lt hrw), rfl, rfl⟩), BB.drew⟩
                have k0 := X.c0
                have k1 := X.c1
                have k2 := X.c2
                rw [results_mid rfl]
                go_simp
              · have HA : Hid (∀ B W, VerAns key p B W (.slice none 0 0) noCfg 12) := by
                  intro B W
                  refine .inr (.inl ⟨HZ.out, ?_, rfl, rfl, rfl⟩)
                  rintro ⟨l', al', pk', hI⟩
                  have h := guess_made hI
                  rw [← HG.out] at h
                  simp only [Prod.mk.injEq] at h
                  obtain ⟨h1, h2, h3, _⟩ := h
                  rw [← h1, ← h2, ← h3] at hI
                  exact hok (ver_back hI HKB.out HA8.out rfl hx8)
                have hcase : (((E8 : Int) != 0) = true) ∨ (((E8 : Int) != 0) = false ∧ eqB xs p = false) := by
                  by_cases hE : E8 = 0
                  · right
                    refine ⟨by simp [hE], ?_⟩
                    simp only [eqB, decide_eq_false_iff_not]
                    exact fun e => hok ⟨hE, e⟩
                  · left
                    simp
                    omega
                clear hok HA8
                generalize eqB xs p = eb at *
                rcases hcase with hc | ⟨hc, rfl⟩
                · have d0 := sr9.c0
                  have d1 := sr9.c1
                  have d2 := sr9.c2
                  have f0 := sr9.fr 0
                  have f1 := sr9.fr 1
                  have f2 := sr9.fr 2
                  have q0 := sq9.c0
                  have q1 := sq9.c1
                  have q2 := sq9.c2
                  obtain ⟨X, BB⟩ := HFin.out _ sr9 B9
                  clear HFin
                  go_wp2
                  go_region
                  go_wp2
                  refine bodyPost_ret (v := .tuple #[.slice none 0 0, noCfg, .int .i64 12]) ?_ rfl ⟨_, _, 12, rfl, HA.out _ _, BB.drew⟩
                  have k0 := X.c0
                  have k1 := X.c1
                  have k2 := X.c2
                  rw [results_mid rfl]
                  unfold noCfg
                  go_simp
                · have d0 := sr9.c0
                  have d1 := sr9.c1
                  have d2 := sr9.c2
                  have f0 := sr9.fr 0
                  have f1 := sr9.fr 1
                  have f2 := sr9.fr 2
                  have q0 := sq9.c0
                  have q1 := sq9.c1
                  have q2 := sq9.c2
                  obtain ⟨X, BB⟩ := HFin.out _ sr9 B9
                  clear HFin
                  go_wp2
                  go_region
                  go_wp2
                  refine bodyPost_ret (v := .tuple #[.slice none 0 0, noCfg, .int .i64 12]) ?_ rfl ⟨_, _, 12, rfl, HA.out _ _, BB.drew⟩
                  have k0 := X.c0
                  have k1 := X.c1
                  have k2 := X.c2
                  rw [results_mid rfl]
                  unfold noCfg
                  go_simp
          · have h4b : ((tg : Int) != (n4 : Int)) = true := by simp; omega
            have HA := hide (fun B W => ver_head (B := B) (w := W) (verHead_tag (p := p) HKL.out (by omega) (by omega) HS8.out (by rw [← HN4.out, ← HTg.out]; exact fun e => h4 e.symm)) (by omega))
            clear h4
            have d0 := sr5.c0
            have d1 := sr5.c1
            have d2 := sr5.c2
            have f0 := sr5.fr 0
            have f1 := sr5.fr 1
            have f2 := sr5.fr 2
            have q0 := sq5.c0
            have q1 := sq5.c1
            have q2 := sq5.c2
            obtain ⟨X, BB⟩ := HFin.out _ sr5 B5
            clear HFin
            go_wp2
            go_region
            go_wp2
            refine bodyPost_ret (v := .tuple #[.slice none 0 0, noCfg, .int .i64 11]) ?_ rfl ⟨_, _, 11, rfl, HA.out _ _, BB.drew⟩
            have k0 := X.c0
            have k1 := X.c1
            have k2 := X.c2
            rw [results_mid rfl]
            unfold noCfg
            go_simp
        · have h8b : ((sm : Int) != (n8 : Int)) = true := by simp; omega
          have HA := hide (fun B W => ver_head (B := B) (w := W) (verHead_sum (p := p) HKL.out (by omega) (by omega) (by rw [← HN8.out, ← HSm.out]; exact fun e => h8 e.symm)) (by omega))
          clear h8 hs2
          have d0 := sr3.c0
          have d1 := sr3.c1
          have d2 := sr3.c2
          have f0 := sr3.fr 0
          have f1 := sr3.fr 1
          have f2 := sr3.fr 2
          have q0 := sq3.c0
          have q1 := sq3.c1
          have q2 := sq3.c2
          obtain ⟨X, BB⟩ := HFin.out _ sr3 B3
          clear HFin
          go_wp2
          go_region
          go_wp2
          refine bodyPost_ret (v := .tuple #[.slice none 0 0, noCfg, .int .i64 10]) ?_ rfl ⟨_, _, 10, rfl, HA.out _ _, BB.drew⟩
          have k0 := X.c0
          have k1 := X.c1
          have k2 := X.c2
          rw [results_mid rfl]
          unfold noCfg
          go_simp

end Go.Proofs.YtgncohclofdhmaaGreat
