import Derived.Test.YtggakcalcmjolaaWflt3
namespace Go.Proofs.Ytggakcalcmjolaa
open Go.RowKit


/-- A fault in a block of its own. -/
def FltBox (w : World) (g : Nat) (f : Flt) : Prop := w.heap[g]? = some (.cells #[.int .i64 (f.1 : Int), .string f.2] 66 (0, 0))

theorem FltBox.c0 {w : World} {g : Nat} {f : Flt} (h : FltBox w g f) : w.cell? ⟨g, 0, none⟩ = some (.int .i64 (f.1 : Int)) := cell_of_row _ g 0 _ _ _ h
theorem FltBox.c1 {w : World} {g : Nat} {f : Flt} (h : FltBox w g f) : w.cell? ⟨g, 1, none⟩ = some (.string f.2) := cell_of_row _ g 1 _ _ _ h
theorem FltBox.fr {w : World} {g : Nat} {f : Flt} (h : FltBox w g f) (j : Nat) : w.frozen? ⟨g, j, none⟩ = false := by
  have h' : w.heap[g]? = _ := h
  simp [World.frozen?, h']
theorem FltBox.lt {w : World} {g : Nat} {f : Flt} (h : FltBox w g f) : g < w.heap.size := World.block_lt_of_cell? w _ h.c0

theorem FltBox.set {w : World} {g : Nat} {f : Flt} (h : FltBox w g f) (x : Flt) : FltBox ((w.setCell ⟨g, 0, none⟩ (.int .i64 (x.1 : Int))).setCell ⟨g, 1, none⟩ (.string x.2)) g x := by
  have hl := h.lt
  have h' : w.heap[g]? = _ := h
  rw [Array.getElem?_eq_getElem hl, Option.some.injEq] at h'
  unfold FltBox
  simp only [World.setCell]
  rw [Array.getElem?_eq_getElem (by simpa using hl), Array.getElem_modify_self, Array.getElem_modify_self, h']
  rfl

theorem FltBox.keep {w : World} {g g' j : Nat} {f : Flt} {u : Value} (h : FltBox w g f) (hne : g ≠ g') : FltBox (w.setCell ⟨g', j, none⟩ u) g f := (Below.heap_setCell w ⟨g', j, none⟩ u g hne).trans h

theorem FltBox.carry {w w' : World} {g : Nat} {f : Flt} (h : FltBox w g f) (hb : Below w.heap.size w w') : FltBox w' g f := (hb.block g h.lt).trans h

theorem leastStep_size (c x : Flt) (hc : c.2.size ≤ maxLen) (hx : x.2.size ≤ maxLen) : (leastStep c x).2.size ≤ maxLen := by
  unfold leastStep
  split
  · exact hx
  · exact hc

set_option maxRecDepth 100000 in
set_option maxHeartbeats 2000000 in
theorem least_any (a : Option Addr) (fs : List Flt) (cap : Nat) (w : World) (hm : fs.length ≤ maxLen) (hp : ∀ f, f ∈ fs → f.2.size ≤ maxLen) (ha : FltAt w a fs) :
    Calls Try.prog 54 #[.slice a fs.length cap] w fun e w' => e = .returned (.agg #[.int .i64 ((leastOf fs).1 : Int), .string (leastOf fs).2]) ∧ Below w.heap.size w w' := by
  unfold maxLen at hm
  obtain ⟨n, HN⟩ : ∃ n, Hid (n = fs.length) := ⟨_, rfl⟩
  rw [← HN.out] at hm ⊢
  have hbA : FltBox (w.alloc (.cells #[.int .i64 0, .string ByteArray.empty] 66)) w.heap.size noFlt := heap_alloc_new w _
  go_enter Try.func54, Try.ntmps54
  go_wp2
  go_loopw [4, 5] (fun i _ wr => ∃ (k : Nat) (c : Flt), k ≤ n ∧ i = .int .i64 k ∧ Hid (c = leastOf (fs.take k)) ∧ c.2.size ≤ maxLen ∧ FltBox wr (w.heap.size + 1) c ∧ FltBox wr w.heap.size noFlt ∧ Below w.heap.size w wr) (fun i _ _ => n - (intOf i).toNat)
  case atStart =>
    refine ⟨0, noFlt, by omega, rfl, rfl, by simp [noFlt, maxLen], ?_, ?_, ?_⟩
    · have h2 : FltBox ((w.alloc (.cells #[.int .i64 0, .string ByteArray.empty] 66)).alloc (.cells #[.int .i64 0, .string ByteArray.empty] 66)) (w.alloc (.cells #[.int .i64 0, .string ByteArray.empty] 66)).heap.size noFlt := heap_alloc_new _ _
      have e : (w.alloc (.cells #[.int .i64 0, .string ByteArray.empty] 66)).heap.size = w.heap.size + 1 := by simp
      rw [e] at h2
      exact h2
    · exact hbA.carry ((Below.refl _ _).alloc (Nat.le_refl _) _)
    · exact ((Below.refl _ _).alloc (Nat.le_refl _) _).alloc (by simp) _
  case round =>
    obtain ⟨k, c, hk, rfl, HC, hcp, hbx, hb0, hbl⟩ := hrel
    have hx0 := hbx.c0
    have hx1 := hbx.c1
    have hxf0 := hbx.fr 0
    have hxf1 := hbx.fr 1
    by_cases hlt : k < n
    · have hkn : (k : Int) < (n : Int) := by omega
      obtain ⟨b, off, rfl, hc1, hc2⟩ := (ha.carry hbl) k (by have := HN.out; omega)
      have HT : Hid (fs.take (k + 1) = fs.take k ++ [fs.getD k noFlt]) := take_snoc fs noFlt k (by have := HN.out; omega)
      have hxp : (fs.getD k noFlt).2.size ≤ maxLen := by
        apply hp
        rw [List.getD_eq_getElem?_getD, List.getElem?_eq_getElem (by have := HN.out; omega)]
        exact List.getElem_mem _
      generalize fs.getD k noFlt = x at *
      have HBF : Hid (∀ W, Calls Try.prog 77 #[.string x.2, .string c.2] W fun e w' => e = .returned (.bool (lexB x.2.data.toList c.2.data.toList)) ∧ ∃ n, w' = W.drewN n) := fun W => before_any _ _ W hxp hcp
      generalize hlb : lexB x.2.data.toList c.2.data.toList = lb at *
      have HLB := hide hlb
      clear hlb
      go_wp2
      go_quiet ((go_at_call 77; exact Calls.quiet_of (unhide HBF _)))
      by_cases h0 : c.1 = 0
      · have h0b : ((c.1 : Int) == 0) = true := by simp [h0]
        have HCond : Hid (c.1 = 0 ∨ x.1 < c.1 ∨ (x.1 = c.1 ∧ lexB x.2.data.toList c.2.data.toList = true)) := .inl h0
        clear h0
        have HC2 : Hid (x = leastOf (fs.take (k + 1))) := by
          show _ = _
          rw [HT.out, leastOf, List.foldl_append, ← leastOf, ← HC.out]
          simp only [List.foldl_cons, List.foldl_nil]
          rw [leastStep, if_pos HCond.out]
        go_wp2
        go_quiet (fail)
        go_wp2
        go_roundw
        case rel => exact ⟨k + 1, x, by omega, by go_num, HC2, hxp, (hbx.set x), (hb0.keep (by omega)).keep (by omega), ((below_drewN hbl _).setCell (by show w.heap.size ≤ w.heap.size + 1; omega) _).setCell (by show w.heap.size ≤ w.heap.size + 1; omega) _⟩
        case measure => simp [intOf]; omega
      · have h0b : ((c.1 : Int) == 0) = false := by simp; omega
        by_cases h1 : x.1 < c.1
        · have h1b : decide (x.1 < c.1) = true := by simp; omega
          have HCond : Hid (c.1 = 0 ∨ x.1 < c.1 ∨ (x.1 = c.1 ∧ lexB x.2.data.toList c.2.data.toList = true)) := .inr (.inl h1)
          clear h0 h1
          have HC2 : Hid (x = leastOf (fs.take (k + 1))) := by
            show _ = _
            rw [HT.out, leastOf, List.foldl_append, ← leastOf, ← HC.out]
            simp only [List.foldl_cons, List.foldl_nil]
            rw [leastStep, if_pos HCond.out]
          go_wp2
          go_quiet (fail)
          go_wp2
          go_roundw
          case rel => exact ⟨k + 1, x, by omega, by go_num, HC2, hxp, (hbx.set x), (hb0.keep (by omega)).keep (by omega), ((below_drewN hbl _).setCell (by show w.heap.size ≤ w.heap.size + 1; omega) _).setCell (by show w.heap.size ≤ w.heap.size + 1; omega) _⟩
          case measure => simp [intOf]; omega
        · have h1b : decide (x.1 < c.1) = false := by simp; omega
          by_cases h2 : x.1 = c.1
          · have h2b : ((x.1 : Int) == (c.1 : Int)) = true := by simp [h2]
            have h2c : (x.1 == c.1) = true := by simp [h2]
            cases lb
            · have HCond : Hid (¬ (c.1 = 0 ∨ x.1 < c.1 ∨ (x.1 = c.1 ∧ lexB x.2.data.toList c.2.data.toList = true))) := by
                rw [HLB.out]
                simp [Hid, h0, h1]
              clear h0 h1 h2
              have HC2 : Hid (c = leastOf (fs.take (k + 1))) := by
                show _ = _
                rw [HT.out, leastOf, List.foldl_append, ← leastOf, ← HC.out]
                simp only [List.foldl_cons, List.foldl_nil]
                rw [leastStep, if_neg HCond.out]
              go_wp2
              go_quiet (fail)
              go_wp2
              go_roundw
              case rel => exact ⟨k + 1, c, by omega, by go_num, HC2, hcp, hbx, hb0, below_drewN hbl _⟩
              case measure => simp [intOf]; omega
            · have HCond : Hid (c.1 = 0 ∨ x.1 < c.1 ∨ (x.1 = c.1 ∧ lexB x.2.data.toList c.2.data.toList = true)) := .inr (.inr ⟨h2, HLB.out⟩)
              clear h0 h1 h2
              have HC2 : Hid (x = leastOf (fs.take (k + 1))) := by
                show _ = _
                rw [HT.out, leastOf, List.foldl_append, ← leastOf, ← HC.out]
                simp only [List.foldl_cons, List.foldl_nil]
                rw [leastStep, if_pos HCond.out]
              go_wp2
              go_quiet (fail)
              go_wp2
              go_roundw
              case rel => exact ⟨k + 1, x, by omega, by go_num, HC2, hxp, (hbx.set x), (hb0.keep (by omega)).keep (by omega), ((below_drewN hbl _).setCell (by show w.heap.size ≤ w.heap.size + 1; omega) _).setCell (by show w.heap.size ≤ w.heap.size + 1; omega) _⟩
              case measure => simp [intOf]; omega
          · have h2b : ((x.1 : Int) == (c.1 : Int)) = false := by simp; omega
            have h2c : (x.1 == c.1) = false := by simp; omega
            have HCond : Hid (¬ (c.1 = 0 ∨ x.1 < c.1 ∨ (x.1 = c.1 ∧ lexB x.2.data.toList c.2.data.toList = true))) := by simp [Hid, h0, h1, h2]
            clear h0 h1 h2
            have HC2 : Hid (c = leastOf (fs.take (k + 1))) := by
              show _ = _
              rw [HT.out, leastOf, List.foldl_append, ← leastOf, ← HC.out]
              simp only [List.foldl_cons, List.foldl_nil]
              rw [leastStep, if_neg HCond.out]
            go_wp2
            go_quiet (fail)
            go_wp2
            go_roundw
            case rel => exact ⟨k + 1, c, by omega, by go_num, HC2, hcp, hbx, hb0, below_drewN hbl _⟩
            case measure => simp [intOf]; omega
    · have HE : Hid (c = leastOf fs) := by
        have := HC.out
        rw [List.take_of_length_le (by have := HN.out; omega)] at this
        exact this
      have h00 := hb0.c0
      have h01 := hb0.c1
      have h0f0 := hb0.fr 0
      have h0f1 := hb0.fr 1
      go_wp2
      (try simp only [Exit.inBlock, Exit.then])
      refine bodyPost_ret (v := .agg #[.int .i64 (c.1 : Int), .string c.2]) ?_ rfl ⟨by rw [HE.out], ?_⟩
      · have k0 := (hb0.set c).c0
        have k1 := (hb0.set c).c1
        rw [results_cell1 rfl]
        go_simp
      · exact (hbl.setCell (Nat.le_refl _) _).setCell (Nat.le_refl _) _

end Go.Proofs.Ytggakcalcmjolaa
