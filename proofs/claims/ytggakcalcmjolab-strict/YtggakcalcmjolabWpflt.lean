import Derived.Test.YtggakcalcmjolabWlay1
import Derived.Test.YtggakcalcmjolabMall
import Derived.Test.YtggakcalcmjolabWpath2
import Derived.Deep.DeepCutAuto
namespace Go.Proofs.Ytggakcalcmjolab
open Go.RowKit

set_option maxRecDepth 100000 in
set_option maxHeartbeats 4000000 in
theorem entryFault_any (a : Option Addr) (es : List Ent) (cap : Nat) (w : World) (p : ByteArray) (ab : Option Addr) (b : List UInt8) (bc : Nat) (hm : es.length ≤ 1000) (ha : EntAt w a es) (hg : ∀ i, i < es.length → (es.getD i noEnt).path.size ≤ maxLen) (hp : p.size ≤ maxLen) :
    Calls Try.prog 40 #[.slice a es.length cap, .agg #[.string p, .slice ab b.length bc]] w fun e w' => e = .returned (.int .i64 (entF (fun k => (es.getD k noEnt).path) p b.length es.length : Nat)) ∧ Below w.heap.size w w' := by
  have b0 := (Below.refl w.heap.size w).alloc (Nat.le_refl _) (.cells #[.string p, .slice ab b.length bc] 30)
  have c00 := cell_new w #[.string p, .slice ab b.length bc] 30 0
  have c01 := cell_new w #[.string p, .slice ab b.length bc] 30 1
  obtain ⟨n, HN⟩ : ∃ n, Hid (n = es.length) := ⟨_, rfl⟩
  rw [← HN.out] at hm ⊢
  obtain ⟨F, HFF⟩ : ∃ F, Hid (F = entF (fun k => (es.getD k noEnt).path) p b.length n) := ⟨_, rfl⟩
  rw [← HFF.out]
  cases hpb : pathB p.data.toList
  · have HF : Hid (F = 4) := by show _ = _; rw [HFF.out, entF, if_pos hpb]
    have HP := hide (fun W => isPath_any p W hp)
    rw [hpb] at HP
    clear hpb
    go_enter Try.func40, Try.ntmps40
    go_wp2_with fail
    refine (HP.out _).mono ?_
    rintro e w1 ⟨rfl, rfl⟩
    go_wp2
    go_ret
    rw [HF.out]
    exact ⟨rfl, b0⟩
  · have HP := hide (fun W => isPath_any p W hp)
    rw [hpb] at HP
    have HPB := hide hpb
    clear hpb
    go_enter Try.func40, Try.ntmps40
    go_wp2_with fail
    refine (HP.out _).mono ?_
    rintro e w1 ⟨rfl, rfl⟩
    clear HP
    go_wp2
    go_loopw [5] (fun i wr => ∃ k : Nat, k ≤ n ∧ i = .int .i64 k ∧ Hid (∀ j, j < k → decide ((es.getD j noEnt).path = p) = false) ∧ ∃ m, wr = (w.alloc (.cells #[.string p, .slice ab b.length bc] 30)).drewN m) (fun i _ => n - (intOf i).toNat)
    case atStart => exact ⟨0, by omega, rfl, fun j hj => absurd hj (Nat.not_lt_zero j), 0, rfl⟩
    case round =>
      obtain ⟨k, hk, rfl, HK, m, rfl⟩ := hrel
      by_cases hlt : k < n
      · obtain ⟨bb, off, rfl, hc1, -⟩ := (ha.carry b0) k (by have := HN.out; omega)
        have hki : (k : Int) < (n : Int) := by omega
        obtain ⟨q, HQ⟩ : ∃ q, Hid (q = (es.getD k noEnt).path) := ⟨_, rfl⟩
        rw [← HQ.out] at hc1
        by_cases hqp : q = p
        · have hqb : (q.toList == p.toList) = true := by simp [hqp]
          have HF : Hid (F = 5) := by
            have h := (anyB_iff (fun k => decide ((es.getD k noEnt).path = p)) n).2 ⟨k, hlt, by simp only [decide_eq_true_eq]; rw [← HQ.out]; exact hqp⟩
            show _ = _
            rw [HFF.out, entF, if_neg (by rw [HPB.out]; simp), if_pos h]
          clear hqp
          go_wp2
          go_quiet (fail)
          go_wp2
          go_ret
          rw [HF.out]
          exact ⟨rfl, below_drewN (below_drewN b0 _) _⟩
        · have hqb : (q.toList == p.toList) = false := by
            rw [beq_eq_false_iff_ne, ByteArray.toList_eq, ByteArray.toList_eq]
            intro e
            exact hqp (ByteArray.ext (Array.toList_inj.1 e))
          have HK2 : Hid (∀ j, j < k + 1 → decide ((es.getD j noEnt).path = p) = false) := by
            intro j hj
            by_cases e : j = k
            · subst e
              rw [← HQ.out]
              simpa using hqp
            · exact HK.out j (by omega)
          clear hqp
          go_wp2
          go_quiet (fail)
          go_wp2
          go_roundw
          case rel => first | exact ⟨k + 1, by omega, by go_num, HK2, _, rfl⟩ | exact ⟨k + 1, by omega, by go_num, HK2, _, World.drewN_drewN _ _ _⟩
          case measure => simp [intOf]; omega
      · have HT : Hid (anyB (fun k => decide ((es.getD k noEnt).path = p)) n = false) := anyB_none _ _ (fun j hj => HK.out j (by omega))
        go_wp2
        go_loopw [6] (fun i wr => ∃ k : Nat, k ≤ n ∧ i = .int .i64 k ∧ Hid (∀ j, j < k → underB p.data.toList (es.getD j noEnt).path.data.toList = false) ∧ ∃ m, wr = (w.alloc (.cells #[.string p, .slice ab b.length bc] 30)).drewN m) (fun i _ => n - (intOf i).toNat)
        case atStart => exact ⟨0, by omega, rfl, fun j hj => absurd hj (Nat.not_lt_zero j), _, rfl⟩
        case round =>
          obtain ⟨k2, hk2, rfl, HK2, m2, hwr⟩ := hrel
          have e00 : wr.cell? ⟨w.heap.size, 0, none⟩ = some (.string p) := by rw [hwr]; exact c00
          have e01 : wr.cell? ⟨w.heap.size, 1, none⟩ = some (.slice ab b.length bc) := by rw [hwr]; exact c01
          have hbw : Below w.heap.size w wr := by rw [hwr]; exact below_drewN b0 _
          have HW := hide hwr
          clear hwr
          by_cases hlt2 : k2 < n
          · obtain ⟨bb, off, rfl, hc1, -⟩ := (ha.carry hbw) k2 (by have := HN.out; omega)
            have hki : (k2 : Int) < (n : Int) := by omega
            have hq := hg k2 (by have := HN.out; omega)
            obtain ⟨q, HQ⟩ : ∃ q, Hid (q = (es.getD k2 noEnt).path) := ⟨_, rfl⟩
            rw [← HQ.out] at hc1 hq
            have HU : Hid (∀ W, Calls Try.prog 53 #[.string p, .string q] W fun e w' => e = .returned (.bool (underB p.data.toList q.data.toList)) ∧ ∃ n, w' = W.drewN n) := fun W => (liesUnder_any p q W hp hq).mono (by rintro e w' ⟨rfl, rfl⟩; exact ⟨rfl, 0, rfl⟩)
            cases hu : underB p.data.toList q.data.toList
            · rw [hu] at HU
              have HK3 : Hid (∀ j, j < k2 + 1 → underB p.data.toList (es.getD j noEnt).path.data.toList = false) := by
                intro j hj
                by_cases e : j = k2
                · subst e
                  rw [← HQ.out]
                  exact hu
                · exact HK2.out j (by omega)
              clear hu
              go_wp2
              go_quiet ((go_at_call 53; exact Calls.quiet_of (unhide HU _)))
              go_wp2
              go_roundw
              case rel => exact ⟨k2 + 1, by omega, by go_num, HK3, _, by rw [HW.out, World.drewN_drewN]⟩
              case measure => simp [intOf]; omega
            · rw [hu] at HU
              have HF : Hid (F = 6) := by
                have h := (anyB_iff (fun k => underB p.data.toList (es.getD k noEnt).path.data.toList) n).2 ⟨k2, hlt2, by rw [← HQ.out]; exact hu⟩
                show _ = _
                rw [HFF.out, entF, if_neg (by rw [HPB.out]; simp), if_neg (by rw [HT.out]; simp), if_pos h]
              clear hu
              go_wp2
              go_quiet ((go_at_call 53; exact Calls.quiet_of (unhide HU _)))
              go_wp2
              go_ret
              rw [HF.out]
              exact ⟨rfl, below_drewN hbw _⟩
          · have HT2 : Hid (anyB (fun k => underB p.data.toList (es.getD k noEnt).path.data.toList) n = false) := anyB_none _ _ (fun j hj => HK2.out j (by omega))
            by_cases hbig : 600 < b.length
            · have HF : Hid (F = 7) := by
                show _ = _
                rw [HFF.out, entF, if_neg (by rw [HPB.out]; simp), if_neg (by rw [HT.out]; simp), if_neg (by rw [HT2.out]; simp), if_pos hbig]
              have hbi : (600 : Int) < (b.length : Int) := by omega
              go_wp2
              go_ret
              rw [HF.out]
              exact ⟨rfl, hbw⟩
            · have HF : Hid (F = 0) := by
                show _ = _
                rw [HFF.out, entF, if_neg (by rw [HPB.out]; simp), if_neg (by rw [HT.out]; simp), if_neg (by rw [HT2.out]; simp), if_neg hbig]
              have hbi : ¬ (600 : Int) < (b.length : Int) := by omega
              go_wp2
              go_ret
              rw [HF.out]
              exact ⟨rfl, hbw⟩

end Go.Proofs.Ytggakcalcmjolab
