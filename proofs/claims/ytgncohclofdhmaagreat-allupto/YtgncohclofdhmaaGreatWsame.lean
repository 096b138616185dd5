import Derived.Test.YtgncohclofdhmaaGreatWpk
namespace Go.Proofs.YtgncohclofdhmaaGreat
open Go.RowKit

def eqB (xs ys : List UInt8) : Bool := decide (xs = ys)

theorem eqB_true (xs : List UInt8) : eqB xs xs = true := by simp [eqB]

theorem eq_of_all (xs ys : List UInt8) (hl : xs.length = ys.length) (h : ∀ i, i < xs.length → xs.getD i 0 = ys.getD i 0) : xs = ys := by
  apply List.ext_getElem hl
  intro i h1 h2
  have := h i h1
  simpa [List.getD_eq_getElem?_getD, h1, h2] using this

set_option maxRecDepth 100000 in
set_option maxHeartbeats 1000000 in
theorem sameBytes_any (a c : Option Addr) (xs ys : List UInt8) (cap cap2 : Nat) (w : World) (hm : xs.length ≤ 140737488355328) (hm2 : ys.length ≤ 140737488355328) (hb : Bts w a xs) (hb2 : Bts w c ys) :
    Calls Tryz.prog 21 #[.slice a xs.length cap, .slice c ys.length cap2] w fun e w' => e = .returned (.bool (eqB xs ys)) ∧ Below w.heap.size w w' := by
  by_cases hl : xs.length = ys.length
  · have hlb : ((xs.length : Int) != (ys.length : Int)) = false := by simp; omega
    have HL := hide hl
    have hl1 : xs.length ≤ ys.length := by omega
    clear hl
    go_enter Tryz.func21, Tryz.ntmps21
    go_wp2
    go_loopw [5] (fun i wr => ∃ k : Nat, k ≤ xs.length ∧ i = .int .i64 k ∧ Hid (∀ j, j < k → xs.getD j 0 = ys.getD j 0) ∧ Below w.heap.size w wr) (fun i _ => xs.length - (intOf i).toNat)
    case atStart => exact ⟨0, by omega, rfl, fun j hj => absurd hj (Nat.not_lt_zero j), Below.refl _ _⟩
    case round =>
      obtain ⟨k, hk, rfl, HA, hbl⟩ := hrel
      by_cases hlt : k < xs.length
      · obtain ⟨b, off, rfl, hc1⟩ := (hb.carry hbl) k hlt
        obtain ⟨b2, off2, rfl, hc2⟩ := (hb2.carry hbl) k (by omega)
        have HQ : Hid ((((xs.getD k 0).toNat : Int) == ((ys.getD k 0).toNat : Int)) = true → ∀ j, j < k + 1 → xs.getD j 0 = ys.getD j 0) := by
          intro h j hj
          by_cases e : j = k
          · subst e; exact byte_eq h
          · exact HA.out j (by omega)
        have HQ2 : Hid ((((xs.getD k 0).toNat : Int) == ((ys.getD k 0).toNat : Int)) = false → eqB xs ys = false) := by
          intro h
          simp only [eqB, decide_eq_false_iff_not]
          intro e
          exact byte_ne h (by rw [e])
        generalize xs.getD k 0 = x at *
        generalize ys.getD k 0 = y at *
        go_wp2
        go_quiet (fail)
        go_wp2
        · have h : ((x.toNat : Int) != (y.toNat : Int)) = true := by assumption
          have hn := hide (HQ2.out (by simpa [bne] using h))
          have hb3 := below_drewN hbl nq
          go_ret
          exact ⟨ret_bool hn.out.symm, hb3⟩
        · have h : ((x.toNat : Int) != (y.toNat : Int)) = false := by assumption
          have hn := hide (HQ.out (by simpa [bne] using h))
          have hb3 := below_drewN hbl nq
          go_roundw
          case rel => exact ⟨k + 1, by omega, by go_num, hn, hb3⟩
          case measure => simp [intOf]; omega
      · have hn : Hid (eqB xs ys = true) := by
          show _ = _
          simp only [eqB, decide_eq_true_eq]
          exact eq_of_all xs ys HL.out fun i hi => HA.out i (by omega)
        go_wp2
        go_ret
        exact ⟨ret_bool hn.out.symm, hbl⟩
  · have hlb : ((xs.length : Int) != (ys.length : Int)) = true := by simp; omega
    have hn : Hid (eqB xs ys = false) := by
      show _ = _
      simp only [eqB, decide_eq_false_iff_not]
      rintro rfl
      exact hl rfl
    clear hl
    go_enter Tryz.func21, Tryz.ntmps21
    go_wp2
    go_ret
    exact ⟨ret_bool hn.out.symm, Below.refl _ _⟩

end Go.Proofs.YtgncohclofdhmaaGreat
