import Derived.Test.YtggakcalcmjolabWpsort
import Derived.LoopTactic
import Derived.Deep.QuietTactic
import Derived.BigQuiet
namespace Go.Proofs.Ytggakcalcmjolab
open Go.RowKit

set_option maxRecDepth 100000 in
set_option maxHeartbeats 4000000 in
theorem sortedEntries_any (a : Option Addr) (es : List Ent) (cap : Nat) (w : World) (hm : es.length ≤ 1000) (ha : EntAt w a es) :
    Calls Try.prog 26 #[.slice a es.length cap] w fun e w' => ∃ v ix, e = .returned v ∧ OwnE w.heap.size w' v (ix.map fun i => es.getD i noEnt) ∧ Chosen (fun i => (es.getD i noEnt).path.data.toList) es.length ix ∧ ix.length = es.length ∧ Below w.heap.size w w' := by
  obtain ⟨n, HN⟩ : ∃ n, Hid (n = es.length) := ⟨_, rfl⟩
  rw [← HN.out] at hm ⊢
  go_enter Try.func26, Try.ntmps26
  go_wp2
  go_loopw [3, 4, 5] (fun v i _ wr => ∃ (k : Nat) (ix : List Nat), k ≤ n ∧ i = .int .i64 k ∧ Hid (Ins (fun i => (es.getD i noEnt).path.data.toList) k ix) ∧ OwnE w.heap.size wr v (ix.map fun i => es.getD i noEnt) ∧ Below w.heap.size w wr) (fun _ i _ _ => n - (intOf i).toNat)
  case atStart => exact ⟨0, [], by omega, rfl, Ins.nil _, OwnE.nil _ _, Below.refl _ _⟩
  case round =>
    obtain ⟨k, ix, hk, rfl, HI, ho, hbl⟩ := hrel
    by_cases hlt : k < n
    · have hlt2 : k < es.length := by have := HN.out; omega
      obtain ⟨b, off, rfl, hc1, hc2⟩ := (ha.carry hbl) k hlt2
      have hck := ha k hlt2
      have hki : (k : Int) < (n : Int) := by omega
      unfold Ent.val at hc2
      obtain ⟨A, HA⟩ : ∃ A, Hid (A = ix.map fun i => es.getD i noEnt) := ⟨_, rfl⟩
      rw [← HA.out] at ho
      have HAl : Hid (A.length = k) := by show _ = _; rw [HA.out, List.length_map]; exact HI.out.len
      have HAg : Hid (∀ j, j < k → (A.getD j noEnt).path.data.toList = (es.getD (ix.getD j 0) noEnt).path.data.toList) := by
        intro j hj
        have hjl : j < ix.length := by rw [HI.out.len]; exact hj
        rw [HA.out, List.getD_eq_getElem?_getD, List.getElem?_map, List.getD_eq_getElem?_getD (l := ix), List.getElem?_eq_getElem hjl]
        rfl
      obtain ⟨x, HX⟩ : ∃ x, Hid (x = es.getD k noEnt) := ⟨_, rfl⟩
      rw [← HX.out] at hc1 hc2 hck
      have hs1 := src_ent wr x
      unfold Ent.val at hs1
      have ho1 := ho.alloc (.cells #[.string x.path, .slice x.adr x.body.length x.cap] 30)
      have hbl1 := hbl.alloc hbl.size (.cells #[.string x.path, .slice x.adr x.body.length x.cap] 30)
      go_wp2_with (at_builtin; go_must (refine wpAppE rfl (.tmp 12) (.tmp 17) rfl w.heap.size _ A rfl ho1 _ [x] rfl 1 hs1 (by have := HAl.out; simp; omega) hbl1.size ?_))
      intro v3 w3 f3 e3 o3 gr
      have b3 := below_ownE hbl1 ho1 gr.by_ (Nat.le_refl _)
      have HF3 : Hid (f3 = A.take k ++ x :: A.drop k) := by
        have h := HAl.out
        show _ = _
        rw [e3.out, List.take_of_length_le (by omega), List.drop_of_length_le (by omega)]
      obtain ⟨g, c3, rfl, hBg, hc3, hc3m⟩ := o3.row (k + 1) (by rw [e3.out]; have := HAl.out; simp; omega) (by omega)
      rw [HF3.out] at o3
      clear gr ho1 hbl1 hs1 hc1 hc2 e3 HF3 ho
      go_wp2
      go_loopw [5] (fun i wq => ∃ (t : Nat) (y : Ent), t ≤ k ∧ i = .int .i64 t ∧ OwnE w.heap.size wq (.slice (some ⟨g, 0, none⟩) (k + 1) c3) (A.take t ++ y :: A.drop t) ∧ Hid (∀ j, t ≤ j → j < k → lexB x.path.data.toList (A.getD j noEnt).path.data.toList = true) ∧ Below w.heap.size w wq) (fun i _ => (intOf i).toNat)
      case atStart => exact ⟨k, x, by omega, rfl, o3, fun j h1 h2 => by omega, b3⟩
      clear o3 b3 hbl
      case round =>
        obtain ⟨t, y, ht, rfl, oq, HQ, bq⟩ := hrel
        have HLq : Hid (k + 1 = (A.take t ++ y :: A.drop t).length) := by have := HAl.out; show _ = _; simp; omega
        obtain ⟨b', off', e', hc1w, hc2w⟩ := hck
        simp only [Option.some.injEq, Addr.mk.injEq, and_true] at e'
        obtain ⟨rfl, rfl⟩ := e'
        have hc1 := (bq.cell (p := ⟨b, off + k * 2, none⟩) (World.block_lt_of_cell? _ _ hc1w)).trans hc1w
        have hc2 := (bq.cell (p := ⟨b, off + k * 2 + 1, none⟩) (World.block_lt_of_cell? _ _ hc2w)).trans hc2w
        unfold Ent.val at hc2
        by_cases hgo : 0 < t ∧ lexB x.path.data.toList (A.getD (t - 1) noEnt).path.data.toList = true
        · obtain ⟨s, rfl⟩ : ∃ s, t = s + 1 := ⟨t - 1, by omega⟩
          have HG := hide hgo.2
          rw [Nat.add_sub_cancel] at HG
          clear hgo
          obtain ⟨d1, d2⟩ := oq.at_ HLq.out s (by omega)
          obtain ⟨d3, d4⟩ := oq.at_ HLq.out (s + 1) (by omega)
          rw [open_get A y noEnt (s + 1) s (by omega) (by have := HAl.out; omega)] at d1 d2
          have f1 := oq.fr HLq.out ((s + 1) * 2)
          have f2 := oq.fr HLq.out ((s + 1) * 2 + 1)
          have os := oq.stored HLq.out (s + 1) (A.getD s noEnt)
          rw [open_step A y noEnt s (by have := HAl.out; omega)] at os
          have bs := (bq.setCell (p := ⟨g, (s + 1) * 2, none⟩) (by exact hBg) (.string (A.getD s noEnt).path)).setCell (p := ⟨g, (s + 1) * 2 + 1, none⟩) (by exact hBg) (A.getD s noEnt).val
          have HQ2 : Hid (∀ j, s ≤ j → j < k → lexB x.path.data.toList (A.getD j noEnt).path.data.toList = true) := by
            intro j h1 h2
            by_cases e : j = s
            · subst e; exact HG.out
            · exact HQ.out j (by omega) h2
          obtain ⟨q1, q2⟩ := path_gt HG.out
          generalize A.getD s noEnt = z at *
          unfold Ent.val at d2 os bs
          clear HG oq HQ
          go_wp2
          go_quiet (fail)
          go_wp2
          go_roundw
          case rel => exact ⟨s, z, by omega, by go_num, os, HQ2, ((below_drewN bq _).setCell hBg _).setCell hBg _⟩
          case measure => simp [intOf]
        · have HLo : Hid (t = 0 ∨ lexB x.path.data.toList (A.getD (t - 1) noEnt).path.data.toList = false) := by
            by_cases h0 : t = 0
            · exact .inl h0
            · right
              cases e : lexB x.path.data.toList (A.getD (t - 1) noEnt).path.data.toList
              · rfl
              · exact absurd ⟨by omega, e⟩ hgo
          have HI2 : Hid (Ins (fun i => (es.getD i noEnt).path.data.toList) (k + 1) (ix.take t ++ k :: ix.drop t)) := by
            refine HI.out.put ht ?_ ?_
            · intro j h1 h2
              show lexB (es.getD k noEnt).path.data.toList (es.getD (ix.getD j 0) noEnt).path.data.toList = true
              rw [← HX.out, ← HAg.out j h2]
              exact HQ.out j h1 h2
            · rcases HLo.out with h0 | h0
              · exact .inl h0
              · by_cases e : t = 0
                · exact .inl e
                · right
                  show lexB (es.getD k noEnt).path.data.toList (es.getD (ix.getD (t - 1) 0) noEnt).path.data.toList = false
                  rw [← HX.out, ← HAg.out (t - 1) (by omega)]
                  exact h0
          have HE : Hid ((A.take t ++ x :: A.drop t) = (ix.take t ++ k :: ix.drop t).map fun i => es.getD i noEnt) := by
            show _ = _
            rw [HA.out, HX.out, List.map_append, List.map_cons, List.map_take, List.map_drop]
          obtain ⟨d3, d4⟩ := oq.at_ HLq.out t (by omega)
          have f1 := oq.fr HLq.out (t * 2)
          have f2 := oq.fr HLq.out (t * 2 + 1)
          have os := oq.stored HLq.out t x
          rw [open_end A y x t (by have := HAl.out; omega), HE.out] at os
          unfold Ent.val at os
          have HS3 : (t = 0) ∨ (∃ s, t = s + 1 ∧ wr.cell? ⟨g, s * 2, none⟩ = some (.string (A.getD s noEnt).path) ∧ (Op.bytesLess (A.getD s noEnt).path.toList x.path.toList = true)) ∨ (∃ s, t = s + 1 ∧ wr.cell? ⟨g, s * 2, none⟩ = some (.string (A.getD s noEnt).path) ∧ (Op.bytesLess (A.getD s noEnt).path.toList x.path.toList = false) ∧ ((A.getD s noEnt).path.toList == x.path.toList) = true) := by
            by_cases h0 : t = 0
            · exact .inl h0
            · right
              have hd := (oq.at_ HLq.out (t - 1) (by omega)).1
              rw [open_get A y noEnt t (t - 1) (by omega) (by have := HAl.out; omega)] at hd
              rcases HLo.out with h1 | h1
              · exact absurd h1 h0
              · rcases path_le h1 with h2 | ⟨h2, h3⟩
                · exact .inl ⟨t - 1, by omega, hd, h2⟩
                · exact .inr ⟨t - 1, by omega, hd, h2, h3⟩
          generalize (ix.take t ++ k :: ix.drop t) = ix2 at *
          clear HQ HLo hgo oq HLq HE
          rcases HS3 with rfl | ⟨s, rfl, q0, q1⟩ | ⟨s, rfl, q0, q1, q2⟩
          · go_wp2
            go_quiet (fail)
            go_wp2
            go_roundw
            case rel => exact ⟨k + 1, ix2, by omega, by go_num, HI2, os, ((below_drewN bq _).setCell hBg _).setCell hBg _⟩
            case measure => simp [intOf]; omega
          · generalize (A.getD s noEnt).path = zp at *
            go_wp2
            go_quiet (fail)
            go_wp2
            go_roundw
            case rel => exact ⟨k + 1, ix2, by omega, by go_num, HI2, os, ((below_drewN bq _).setCell hBg _).setCell hBg _⟩
            case measure => simp [intOf]; omega
          · generalize (A.getD s noEnt).path = zp at *
            go_wp2
            go_quiet (fail)
            go_wp2
            go_roundw
            case rel => exact ⟨k + 1, ix2, by omega, by go_num, HI2, os, ((below_drewN bq _).setCell hBg _).setCell hBg _⟩
            case measure => simp [intOf]; omega
    · have HC : Hid (Chosen (fun i => (es.getD i noEnt).path.data.toList) n ix ∧ ix.length = n) := by
        obtain rfl : k = n := by omega
        exact ⟨HI.out.done, HI.out.len⟩
      go_wp2
      go_ret
      exact ⟨_, ix, rfl, ho, HC.out.1, HC.out.2, hbl⟩

end Go.Proofs.Ytggakcalcmjolab
