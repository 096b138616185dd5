import Derived.Test.YtggakcalcmjolabWsum
import Derived.Test.YtggakcalcmjolabMall
import Derived.Deep.QuietTactic
import Derived.BigQuiet
namespace Go.Proofs.Ytggakcalcmjolab
open Go.RowKit

/-- Two bytes of a list, in the world of a round. -/
theorem Bts.two {w wr : World} {a : Option Addr} {xs : List UInt8} (hb : Bts w a xs) (hbl : Below w.heap.size w wr) (i j : Nat) (hi : i < xs.length) (hj : j < xs.length) :
    ∃ b off, a = some ⟨b, off, none⟩ ∧ wr.cell? ⟨b, off + i, none⟩ = some (.int .u8 ((xs.getD i 0).toNat : Int)) ∧ wr.cell? ⟨b, off + j, none⟩ = some (.int .u8 ((xs.getD j 0).toNat : Int)) := by
  obtain ⟨b, off, e1, h1⟩ := (hb.carry hbl) i hi
  obtain ⟨b', off', e2, h2⟩ := (hb.carry hbl) j hj
  rw [e1] at e2
  simp at e2
  obtain ⟨rfl, rfl⟩ := e2
  exact ⟨b, off, e1, h1, h2⟩

theorem fits_more {xs : List UInt8} {i d k : Nat} (h : Fits xs i d k) (hl : i + k < xs.length) (e : xs.getD (i + k) 0 = xs.getD (i + k - d) 0) : Fits xs i d (k + 1) := by
  refine ⟨h.1, by omega, ?_⟩
  intro j hj
  by_cases hjk : j = k
  · subst hjk; exact e
  · exact h.2.2 j (by omega)

theorem byte_eq {x y : UInt8} (h : ((x.toNat : Int) == (y.toNat : Int)) = true) : x = y := by
  have : x.toNat = y.toNat := by have := beq_iff_eq.1 h; omega
  exact UInt8.toNat_inj.1 this

theorem byte_ne {x y : UInt8} (h : ((x.toNat : Int) == (y.toNat : Int)) = false) : x ≠ y := by
  rintro rfl
  simp at h

set_option maxHeartbeats 1000000 in
theorem fitLength_any (a : Option Addr) (xs : List UInt8) (cap : Nat) (i d : Nat) (w : World) (hm : xs.length ≤ 140737488355328) (hb : Bts w a xs) (h1 : 1 ≤ d) (h2 : d ≤ i) (h3 : i ≤ xs.length) :
    Calls Try.prog 60 #[.slice a xs.length cap, .int .i64 i, .int .i64 d] w fun e w' => ∃ n : Nat, e = .returned (.int .i64 n) ∧ n ≤ 66 ∧ Fits xs i d n ∧ (n = 66 ∨ ¬ Fits xs i d (n + 1)) ∧ Below w.heap.size w w' := by
  go_enter Try.func60, Try.ntmps60
  go_wp2
  go_loopw [7] (fun n wr => ∃ k : Nat, k ≤ 66 ∧ n = .int .i64 k ∧ Fits xs i d k ∧ Below w.heap.size w wr) (fun n _ => 66 - (intOf n).toNat)
  case atStart => exact ⟨0, by omega, rfl, ⟨h2, by omega, fun k hk => absurd hk (Nat.not_lt_zero k)⟩, Below.refl _ _⟩
  case round =>
    obtain ⟨k, hk, rfl, HF, hbl⟩ := hrel
    have hlen := HF.2.1
    have HF' : Hid (Fits xs i d k) := HF
    clear HF
    by_cases hk66 : k < 66
    · by_cases hl : i + k < xs.length
      · obtain ⟨b, off, rfl, hc1, hc2⟩ := hb.two hbl (i + k) (i + k - d) hl (by omega)
        have hd1 : decide ((k : Int) < 66) = true := by simp; omega
        have hd2 : decide ((i : Int) + k < xs.length) = true := by simp; omega
        have HQ : Hid ((((xs.getD (i + k) 0).toNat : Int) == ((xs.getD (i + k - d) 0).toNat : Int)) = true → Fits xs i d (k + 1)) := by
          intro h
          exact fits_more HF'.out hl (byte_eq h)
        have HQ2 : Hid ((((xs.getD (i + k) 0).toNat : Int) == ((xs.getD (i + k - d) 0).toNat : Int)) = false → ¬ Fits xs i d (k + 1)) := by
          intro h hf
          exact byte_ne h (hf.2.2 k (by omega))
        generalize xs.getD (i + k) 0 = x at *
        generalize xs.getD (i + k - d) 0 = y at *
        go_wp2
        go_quiet (fail)
        go_wp2
        · have h : ((x.toNat : Int) == (y.toNat : Int)) = true := by assumption
          have hn := HQ.out h
          have hb2 := below_drewN hbl nq
          go_roundw
          case rel => exact ⟨k + 1, by omega, by go_num, hn, hb2⟩
          case measure => simp [intOf]; omega
        · have h : ((x.toNat : Int) == (y.toNat : Int)) = false := by assumption
          have hn := HQ2.out h
          have hb2 := below_drewN hbl nq
          go_ret
          exact ⟨k, rfl, hk, HF'.out, .inr hn, hb2⟩
      · have hd1 : decide ((k : Int) < 66) = true := by simp; omega
        have hd2 : decide ((i : Int) + k < xs.length) = false := by simp; omega
        have HN : ¬ Fits xs i d (k + 1) := fun h => by have := h.2.1; omega
        have HN' : Hid (¬ Fits xs i d (k + 1)) := HN
        clear HN
        go_wp2
        go_quiet (fail)
        go_wp2
        have hb2 := below_drewN hbl nq
        go_ret
        exact ⟨k, rfl, hk, HF'.out, .inr HN'.out, hb2⟩
    · have hd1 : decide ((k : Int) < 66) = false := by simp; omega
      go_wp2
      go_quiet (fail)
      go_wp2
      have hb2 := below_drewN hbl nq
      go_ret
      exact ⟨k, rfl, hk, HF'.out, .inl (by omega), hb2⟩

end Go.Proofs.Ytggakcalcmjolab
