import Derived.Test.YtgncohclofdhmaaGreatWans
import Derived.Test.YtgncohclofdhmaaGreatWbd
import Derived.Laws.Cover1
import Derived.LoopTactic
import Derived.Deep.QuietTactic
import Derived.BigQuiet
import Derived.Test.YtgncohclofdhmaaGreatWly
import Derived.Test.YtgncohclofdhmaaGreatMall
import Derived.Test.YtgncohclofdhmaaGreatWpath2
import Derived.Deep.DeepCutAuto
import Derived.Deep.RegionWith
import Derived.BigRegion
namespace Go.Proofs.YtgncohclofdhmaaGreat
open Go.RowKit

theorem bytesLess_lexB : ∀ a b : List UInt8, Op.bytesLess a b = lexB a b
  | [], [] => rfl
  | _ :: _, [] => by simp [Op.bytesLess, lexB]
  | [], _ :: _ => by simp [Op.bytesLess, lexB]
  | x :: r, y :: s => by
    rw [Op.bytesLess, lexB, bytesLess_lexB r s]
    by_cases e : x = y
    · subst e
      simp
    · rw [if_neg e]
      simp [e, UInt8.lt_iff_toNat_lt]

/-- What the comparison of two paths says. -/
theorem path_gt {p q : ByteArray} (h : lexB p.data.toList q.data.toList = true) : Op.bytesLess q.toList p.toList = false ∧ (q.toList == p.toList) = false := by
  rw [ByteArray.toList_eq, ByteArray.toList_eq, bytesLess_lexB]
  refine ⟨lexB_asymm _ _ h, ?_⟩
  rw [beq_eq_false_iff_ne]
  intro e
  rw [e, lexB_irrefl] at h
  cases h

theorem path_le {p q : ByteArray} (h : lexB p.data.toList q.data.toList = false) : (Op.bytesLess q.toList p.toList = true) ∨ (Op.bytesLess q.toList p.toList = false ∧ (q.toList == p.toList) = true) := by
  rw [ByteArray.toList_eq, ByteArray.toList_eq, bytesLess_lexB]
  cases e : lexB q.data.toList p.data.toList
  · right
    exact ⟨rfl, by rw [lexB_total _ _ h e]; simp⟩
  · exact .inl rfl

theorem entCells_set : ∀ (es : List Ent) (j : Nat) (x : Ent), entCells (es.set j x) = ((entCells es).set (j * 2) (.string x.path)).set (j * 2 + 1) x.val
  | [], _, _ => by simp [entCells]
  | _ :: _, 0, _ => rfl
  | e :: r, j + 1, x => by
    rw [List.set_cons_succ, entCells, entCells, entCells_set r j x, show (j + 1) * 2 = j * 2 + 1 + 1 from by omega, List.set_cons_succ, List.set_cons_succ, List.set_cons_succ, List.set_cons_succ]

theorem OwnE.row {B : Nat} {w : World} {v : Value} {es : List Ent} (h : OwnE B w v es) (n : Nat) (hn : n = es.length) (hp : 0 < n) : ∃ g cap, v = .slice (some ⟨g, 0, none⟩) n cap ∧ B ≤ g ∧ n ≤ cap ∧ cap ≤ maxLen := by
  subst hn
  rcases h.2 with ⟨_, hz⟩ | ⟨g, cap, cur, rfl, hbg, hg, hnc, hcm, _, _⟩
  · omega
  · exact ⟨g, cap, rfl, hbg, hnc, hcm⟩

theorem OwnE.at_ {B : Nat} {w : World} {es : List Ent} {g n cap : Nat} (h : OwnE B w (.slice (some ⟨g, 0, none⟩) n cap) es) (hn : n = es.length) (j : Nat) (hj : j < n) :
    w.cell? ⟨g, j * 2, none⟩ = some (.string (es.getD j noEnt).path) ∧ w.cell? ⟨g, j * 2 + 1, none⟩ = some (es.getD j noEnt).val := by
  subst hn
  have hc := World.ownsRow.cellAt (g := g) (cap := cap) h (j * 2) (by omega)
  have hc2 := World.ownsRow.cellAt (g := g) (cap := cap) h (j * 2 + 1) (by omega)
  obtain ⟨e1, e2⟩ := entCells_get es j hj
  exact ⟨hc.trans e1, hc2.trans e2⟩

theorem OwnE.fr {B : Nat} {w : World} {es : List Ent} {g n cap : Nat} (h : OwnE B w (.slice (some ⟨g, 0, none⟩) n cap) es) (hn : n = es.length) (j : Nat) : w.frozen? ⟨g, j, none⟩ = false := by
  subst hn
  exact World.ownsRow.frozenAt h j

theorem OwnE.stored {B : Nat} {w : World} {es : List Ent} {g n cap : Nat} (h : OwnE B w (.slice (some ⟨g, 0, none⟩) n cap) es) (hn : n = es.length) (j : Nat) (x : Ent) :
    OwnE B ((w.setCell ⟨g, j * 2, none⟩ (.string x.path)).setCell ⟨g, j * 2 + 1, none⟩ x.val) (.slice (some ⟨g, 0, none⟩) n cap) (es.set j x) := by
  subst hn
  have h1 := (World.ownsRow.stored h (j * 2) (.string x.path)).1
  have h2 := (World.ownsRow.stored h1 (j * 2 + 1) x.val).1
  unfold OwnE
  rw [entCells_set, List.length_set]
  exact h2

/-- Sorted so far: the first k, in the order of their paths. -/
structure Ins (P : Nat → List UInt8) (k : Nat) (ix : List Nat) : Prop where
  nodup : ix.Nodup
  lt : ∀ j, j ∈ ix → j < k
  len : ix.length = k
  sorted : ix.Pairwise fun i j => lexB (P j) (P i) = false

theorem Ins.nil (P : Nat → List UInt8) : Ins P 0 [] := ⟨List.nodup_nil, (fun _ h => by cases h), rfl, List.Pairwise.nil⟩

theorem Ins.done {P : Nat → List UInt8} {n : Nat} {ix : List Nat} (h : Ins P n ix) : Chosen P n ix :=
  ⟨h.nodup, h.lt, h.sorted, fun _ _ j hj hm => absurd (all_there n ix h.nodup h.lt h.len j hj) hm⟩

theorem Ins.put {P : Nat → List UInt8} {k t : Nat} {ix : List Nat} (h : Ins P k ix) (ht : t ≤ k) (hi : ∀ j, t ≤ j → j < k → lexB (P k) (P (ix.getD j 0)) = true) (hlo : t = 0 ∨ lexB (P k) (P (ix.getD (t - 1) 0)) = false) : Ins P (k + 1) (ix.take t ++ k :: ix.drop t) := by
  have hl := h.len
  have hkn : k ∉ ix := fun e => by have := h.lt k e; omega
  have hs := h.sorted
  have hd := h.nodup
  have hsp : ix = ix.take t ++ ix.drop t := (List.take_append_drop t ix).symm
  have hget : ∀ j (hj : j < ix.length), ix.getD j 0 = ix[j] := by
    intro j hj
    rw [List.getD_eq_getElem?_getD, List.getElem?_eq_getElem hj, Option.getD_some]
  have hA : ∀ i, i ∈ ix.take t → lexB (P k) (P i) = false := by
    intro i hi2
    rcases hlo with h0 | h0
    · subst h0; simp at hi2
    · obtain ⟨j, hj, e⟩ := List.mem_iff_getElem.1 hi2
      have hj2 : j < t := by rw [List.length_take] at hj; omega
      rw [List.getElem_take] at e
      rw [hget (t - 1) (by omega)] at h0
      by_cases e2 : j = t - 1
      · subst e2; rw [← e]; exact h0
      · have h1 := List.pairwise_iff_getElem.1 hs j (t - 1) (by omega) (by omega) (by omega)
        rw [e] at h1
        cases h2 : lexB (P k) (P i)
        · rfl
        · have h3 := lexB_le _ _ _ h2 h1
          have h4 := lexB_total _ _ h0 h3
          rw [h4, h1] at h2
          cases h2
  have hB : ∀ j, j ∈ ix.drop t → lexB (P j) (P k) = false := by
    intro i hi2
    obtain ⟨j, hj, e⟩ := List.mem_iff_getElem.1 hi2
    rw [List.length_drop] at hj
    rw [List.getElem_drop] at e
    have h1 := hi (t + j) (by omega) (by omega)
    rw [hget (t + j) (by omega), e] at h1
    exact lexB_asymm _ _ h1
  rw [hsp, List.pairwise_append] at hs
  rw [hsp, List.nodup_append] at hd
  refine ⟨?_, ?_, ?_, ?_⟩
  · rw [List.nodup_append]
    refine ⟨hd.1, ?_, ?_⟩
    · rw [List.nodup_cons]
      exact ⟨fun e => hkn (List.mem_of_mem_drop e), hd.2.1⟩
    · intro x hx y hy
      rcases List.mem_cons.1 hy with e | e
      · subst e
        intro e2
        subst e2
        exact hkn (List.mem_of_mem_take hx)
      · exact hd.2.2 x hx y e
  · intro j hj
    rcases List.mem_append.1 hj with e | e
    · have := h.lt j (List.mem_of_mem_take e); omega
    · rcases List.mem_cons.1 e with e | e
      · omega
      · have := h.lt j (List.mem_of_mem_drop e); omega
  · simp
    omega
  · rw [List.pairwise_append]
    refine ⟨hs.1, ?_, ?_⟩
    · rw [List.pairwise_cons]
      exact ⟨hB, hs.2.1⟩
    · intro x hx y hy
      rcases List.mem_cons.1 hy with e | e
      · subst e; exact hA x hx
      · exact hs.2.2 x hx y e

/-- One place is open: what stands at it is about to be written over. -/
theorem open_step {α : Type} (A : List α) (y d : α) (s : Nat) (hs : s < A.length) : (A.take (s + 1) ++ y :: A.drop (s + 1)).set (s + 1) (A.getD s d) = A.take s ++ A.getD s d :: A.drop s := by
  have h1 : A.take (s + 1) = A.take s ++ [A.getD s d] := take_snoc A d s hs
  have h2 : A.drop s = A.getD s d :: A.drop (s + 1) := by
    rw [List.getD_eq_getElem?_getD, List.getElem?_eq_getElem hs, Option.getD_some]
    exact List.drop_eq_getElem_cons hs
  rw [List.set_append_right _ _ (by rw [List.length_take]; omega), List.length_take, show s + 1 - min (s + 1) A.length = 0 from by omega, h1, h2]
  simp

theorem open_end {α : Type} (A : List α) (y x : α) (t : Nat) (ht : t ≤ A.length) : (A.take t ++ y :: A.drop t).set t x = A.take t ++ x :: A.drop t := by
  rw [List.set_append_right _ _ (by rw [List.length_take]; omega), List.length_take, show t - min t A.length = 0 from by omega]
  rfl

theorem open_get {α : Type} (A : List α) (y d : α) (t s : Nat) (hs : s < t) (ht : t ≤ A.length) : (A.take t ++ y :: A.drop t).getD s d = A.getD s d := by
  rw [List.getD_eq_getElem?_getD, List.getD_eq_getElem?_getD, List.getElem?_append_left (by simp; omega), List.getElem?_take_of_lt hs]

end Go.Proofs.YtgncohclofdhmaaGreat

namespace Go.Proofs.YtgncohclofdhmaaGreat
open Go.RowKit

set_option maxRecDepth 100000 in
set_option maxHeartbeats 4000000 in
theorem sortedEntries_any (a : Option Addr) (es : List Ent) (cap : Nat) (w : World) (hm : es.length ≤ 1000) (ha : EntAt w a es) :
    Calls Tryz.prog 50 #[.slice a es.length cap] w fun e w' => ∃ v ix, e = .returned v ∧ OwnE w.heap.size w' v (ix.map fun i => es.getD i noEnt) ∧ Chosen (fun i => (es.getD i noEnt).path.data.toList) es.length ix ∧ ix.length = es.length ∧ Below w.heap.size w w' := by
  obtain ⟨n, HN⟩ : ∃ n, Hid (n = es.length) := ⟨_, rfl⟩
  rw [← HN.out] at hm ⊢
  go_enter Tryz.func50, Tryz.ntmps50
  go_wp2
  go_loopw [3, 4, 5] (fun v i _ wr => ∃ (k : Nat) (ix : List Nat), k ≤ n ∧ i = .int .i64 k ∧ Hid (Ins (fun i => (es.getD i noEnt).path.data.toList) k ix) ∧ OwnE w.heap.size wr v (ix.map fun i => es.getD i noEnt) ∧ Below w.heap.size w wr) (fun _ i _ _ => n - (intOf i).toNat)
  case atStart => exact ⟨0, [], by omega, rfl, Ins.nil _, OwnE.nil _ _, Below.refl _ _⟩
  case round =>
    obtain ⟨k, ix, hk, rfl, HI, ho, hbl⟩ := hrel
    by_cases hlt : k < n
    · have hlt2 : k < es.length := by have := HN.out; omega
      obtain ⟨b, off, rfl, hc1, hc2⟩ := (ha.carry hbl) k hlt2
      have hck := ha k hlt2
      have hki : (k : Int) < (n : Int) := by omega
      unfold Ent.val at hc2
      obtain ⟨A, HA⟩ : ∃ A, Hid (A = ix.map fun i => es.getD i noEnt) := ⟨_, rfl⟩
      rw [← HA.out] at ho
      have HAl : Hid (A.length = k) := by show _ = _; rw [HA.out, List.length_map]; exact HI.out.len
      have HAg : Hid (∀ j, j < k → (A.getD j noEnt).path.data.toList = (es.getD (ix.getD j 0) noEnt).path.data.toList) := by
        intro j hj
        have hjl : j < ix.length := by rw [HI.out.len]; exact hj
        rw [HA.out, List.getD_eq_getElem?_getD, List.getElem?_map, List.getD_eq_getElem?_getD (l := ix), List.getElem?_eq_getElem hjl]
        rfl
      obtain ⟨x, HX⟩ : ∃ x, Hid (x = es.getD k noEnt) := ⟨_, rfl⟩
      rw [← HX.out] at hc1 hc2 hck
      have hs1 := src_ent wr x
      unfold Ent.val at hs1
      have ho1 := ho.alloc (.cells #[.string x.path, .slice x.adr x.body.length x.cap] 46)
      have hbl1 := hbl.alloc hbl.size (.cells #[.string x.path, .slice x.adr x.body.length x.cap] 46)
      go_wp2_with (at_builtin; go_must (refine wpAppE rfl (.tmp 12) (.tmp 17) rfl w.heap.size _ A rfl ho1 _ [x] rfl 1 hs1 (by have := HAl.out; simp; omega) hbl1.size ?_))
      intro v3 w3 f3 e3 o3 gr
      have b3 := below_ownE hbl1 ho1 gr.by_ (Nat.le_refl _)
      have HF3 : Hid (f3 = A.take k ++ x :: A.drop k) := by
        have h := HAl.out
        show _ = _
        rw [e3.out, List.take_of_length_le (by omega), List.drop_of_length_le (by omega)]
      obtain ⟨g, c3, rfl, hBg, hc3, hc3m⟩ := o3.row (k + 1) (by rw [e3.out]; have := HAl.out; simp; omega) (by omega)
      rw [HF3.out] at o3
      clear gr ho1 hbl1 hs1 hc1 hc2 e3 HF3 ho
      go_wp2
      go_loopw [5] (fun i wq => ∃ (t : Nat) (y : Ent), t ≤ k ∧ i = .int .i64 t ∧ OwnE w.heap.size wq (.slice (some ⟨g, 0, none⟩) (k + 1) c3) (A.take t ++ y :: A.drop t) ∧ Hid (∀ j, t ≤ j → j < k → lexB x.path.data.toList (A.getD j noEnt).path.data.toList = true) ∧ Below w.heap.size w wq) (fun i _ => (intOf i).toNat)
      case atStart => exact ⟨k, x, by omega, rfl, o3, fun j h1 h2 => by omega, b3⟩
      clear o3 b3 hbl
      case round =>
        obtain ⟨t, y, ht, rfl, oq, HQ, bq⟩ := hrel
        have HLq : Hid (k + 1 = (A.take t ++ y :: A.drop t).length) := by have := HAl.out; show _ = _; simp; omega
        obtain ⟨b', off', e', hc1w, hc2w⟩ := hck
        simp only [Option.some.injEq, Addr.mk.injEq, and_true] at e'
        obtain ⟨rfl, rfl⟩ := e'
        have hc1 := (bq.cell (p := ⟨b, off + k * 2, none⟩) (World.block_lt_of_cell? _ _ hc1w)).trans hc1w
        have hc2 := (bq.cell (p := ⟨b, off + k * 2 + 1, none⟩) (World.block_lt_of_cell? _ _ hc2w)).trans hc2w
        unfold Ent.val at hc2
        by_cases hgo : 0 < t ∧ lexB x.path.data.toList (A.getD (t - 1) noEnt).path.data.toList = true
        · obtain ⟨s, rfl⟩ : ∃ s, t = s + 1 := ⟨t - 1, by omega⟩
          have HG := hide hgo.2
          rw [Nat.add_sub_cancel] at HG
          clear hgo
          obtain ⟨d1, d2⟩ := oq.at_ HLq.out s (by omega)
          obtain ⟨d3, d4⟩ := oq.at_ HLq.out (s + 1) (by omega)
          rw [open_get A y noEnt (s + 1) s (by omega) (by have := HAl.out; omega)] at d1 d2
          have f1 := oq.fr HLq.out ((s + 1) * 2)
          have f2 := oq.fr HLq.out ((s + 1) * 2 + 1)
          have os := oq.stored HLq.out (s + 1) (A.getD s noEnt)
          rw [open_step A y noEnt s (by have := HAl.out; omega)] at os
          have bs := (bq.setCell (p := ⟨g, (s + 1) * 2, none⟩) (by exact hBg) (.string (A.getD s noEnt).path)).setCell (p := ⟨g, (s + 1) * 2 + 1, none⟩) (by exact hBg) (A.getD s noEnt).val
          have HQ2 : Hid (∀ j, s ≤ j → j < k → lexB x.path.data.toList (A.getD j noEnt).path.data.toList = true) := by
            intro j h1 h2
            by_cases e : j = s
            · subst e; exact HG.out
            · exact HQ.out j (by omega) h2
          obtain ⟨q1, q2⟩ := path_gt HG.out
          generalize A.getD s noEnt = z at *
          unfold Ent.val at d2 os bs
          clear HG oq HQ
          go_wp2
          go_quiet (fail)
          go_wp2
          go_roundw
          case rel => exact ⟨s, z, by omega, by go_num, os, HQ2, ((below_drewN bq _).setCell hBg _).setCell hBg _⟩
          case measure => simp [intOf]
        · have HLo : Hid (t = 0 ∨ lexB x.path.data.toList (A.getD (t - 1) noEnt).path.data.toList = false) := by
            by_cases h0 : t = 0
            · exact .inl h0
            · right
              cases e : lexB x.path.data.toList (A.getD (t - 1) noEnt).path.data.toList
              · rfl
              · exact absurd ⟨by omega, e⟩ hgo
          have HI2 : Hid (Ins (fun i => (es.getD i noEnt).path.data.toList) (k + 1) (ix.take t ++ k :: ix.drop t)) := by
            refine HI.out.put ht ?_ ?_
            · intro j h1 h2
              show lexB (es.getD k noEnt).path.data.toList (es.getD (ix.getD j 0) noEnt).path.data.toList = true
              rw [← HX.out, ← HAg.out j h2]
              exact HQ.out j h1 h2
            · rcases HLo.out with h0 | h0
              · exact .inl h0
              · by_cases e : t = 0
                · exact .inl e
                · right
                  show lexB (es.getD k noEnt).path.data.toList (es.getD (ix.getD (t - 1) 0) noEnt).path.data.toList = false
                  rw [← HX.out, ← HAg.out (t - 1) (by omega)]
                  exact h0
          have HE : Hid ((A.take t ++ x :: A.drop t) = (ix.take t ++ k :: ix.drop t).map fun i => es.getD i noEnt) := by
            show _ = _
            rw [HA.out, HX.out, List.map_append, List.map_cons, List.map_take, List.map_drop]
          obtain ⟨d3, d4⟩ := oq.at_ HLq.out t (by omega)
          have f1 := oq.fr HLq.out (t * 2)
          have f2 := oq.fr HLq.out (t * 2 + 1)
          have os := oq.stored HLq.out t x
          rw [open_end A y x t (by have := HAl.out; omega), HE.out] at os
          unfold Ent.val at os
          have HS3 : (t = 0) ∨ (∃ s, t = s + 1 ∧ wr.cell? ⟨g, s * 2, none⟩ = some (.string (A.getD s noEnt).path) ∧ (Op.bytesLess (A.getD s noEnt).path.toList x.path.toList = true)) ∨ (∃ s, t = s + 1 ∧ wr.cell? ⟨g, s * 2, none⟩ = some (.string (A.getD s noEnt).path) ∧ (Op.bytesLess (A.getD s noEnt).path.toList x.path.toList = false) ∧ ((A.getD s noEnt).path.toList == x.path.toList) = true) := by
            by_cases h0 : t = 0
            · exact .inl h0
            · right
              have hd := (oq.at_ HLq.out (t - 1) (by omega)).1
              rw [open_get A y noEnt t (t - 1) (by omega) (by have := HAl.out; omega)] at hd
              rcases HLo.out with h1 | h1
              · exact absurd h1 h0
              · rcases path_le h1 with h2 | ⟨h2, h3⟩
                · exact .inl ⟨t - 1, by omega, hd, h2⟩
                · exact .inr ⟨t - 1, by omega, hd, h2, h3⟩
          generalize (ix.take t ++ k :: ix.drop t) = ix2 at *
          clear HQ HLo hgo oq HLq HE
          rcases HS3 with rfl | ⟨s, rfl, q0, q1⟩ | ⟨s, rfl, q0, q1, q2⟩
          · go_wp2
            go_quiet (fail)
            go_wp2
            go_roundw
            case rel => exact ⟨k + 1, ix2, by omega, by go_num, HI2, os, ((below_drewN bq _).setCell hBg _).setCell hBg _⟩
            case measure => simp [intOf]; omega
          · generalize (A.getD s noEnt).path = zp at *
            go_wp2
            go_quiet (fail)
            go_wp2
            go_roundw
            case rel => exact ⟨k + 1, ix2, by omega, by go_num, HI2, os, ((below_drewN bq _).setCell hBg _).setCell hBg _⟩
            case measure => simp [intOf]; omega
          · generalize (A.getD s noEnt).path = zp at *
            go_wp2
            go_quiet (fail)
            go_wp2
            go_roundw
            case rel => exact ⟨k + 1, ix2, by omega, by go_num, HI2, os, ((below_drewN bq _).setCell hBg _).setCell hBg _⟩
            case measure => simp [intOf]; omega
    · have HC : Hid (Chosen (fun i => (es.getD i noEnt).path.data.toList) n ix ∧ ix.length = n) := by
        obtain rfl : k = n := by omega
        exact ⟨HI.out.done, HI.out.len⟩
      go_wp2
      go_ret
      exact ⟨_, ix, rfl, ho, HC.out.1, HC.out.2, hbl⟩

end Go.Proofs.YtgncohclofdhmaaGreat

namespace Go.Proofs.YtgncohclofdhmaaGreat
open Go.RowKit

set_option maxRecDepth 100000 in
set_option maxHeartbeats 4000000 in
theorem entryFault_any (a : Option Addr) (es : List Ent) (cap : Nat) (w : World) (p : ByteArray) (ab : Option Addr) (b : List UInt8) (bc : Nat) (hm : es.length ≤ 1000) (ha : EntAt w a es) (hg : ∀ i, i < es.length → (es.getD i noEnt).path.size ≤ maxLen) (hp : p.size ≤ maxLen) :
    Calls Tryz.prog 74 #[.slice a es.length cap, .agg #[.string p, .slice ab b.length bc]] w fun e w' => e = .returned (.int .i64 (entF (fun k => (es.getD k noEnt).path) p b.length es.length : Nat)) ∧ Below w.heap.size w w' := by
  have b0 := (Below.refl w.heap.size w).alloc (Nat.le_refl _) (.cells #[.string p, .slice ab b.length bc] 46)
  have c00 := cell_new w #[.string p, .slice ab b.length bc] 46 0
  have c01 := cell_new w #[.string p, .slice ab b.length bc] 46 1
  obtain ⟨n, HN⟩ : ∃ n, Hid (n = es.length) := ⟨_, rfl⟩
  rw [← HN.out] at hm ⊢
  obtain ⟨F, HFF⟩ : ∃ F, Hid (F = entF (fun k => (es.getD k noEnt).path) p b.length n) := ⟨_, rfl⟩
  rw [← HFF.out]
  cases hpb : pathB p.data.toList
  · have HF : Hid (F = 4) := by show _ = _; rw [HFF.out, entF, if_pos hpb]
    have HP := hide (fun W => isPath_any p W hp)
    rw [hpb] at HP
    clear hpb
    go_enter Tryz.func74, Tryz.ntmps74
    go_wp2_with fail
    refine (HP.out _).mono ?_
    rintro e w1 ⟨rfl, rfl⟩
    go_wp2
    go_ret
    rw [HF.out]
    exact ⟨rfl, b0⟩
  · have HP := hide (fun W => isPath_any p W hp)
    rw [hpb] at HP
    have HPB := hide hpb
    clear hpb
    go_enter Tryz.func74, Tryz.ntmps74
    go_wp2_with fail
    refine (HP.out _).mono ?_
    rintro e w1 ⟨rfl, rfl⟩
    clear HP
    go_wp2
    go_loopw [5] (fun i wr => ∃ k : Nat, k ≤ n ∧ i = .int .i64 k ∧ Hid (∀ j, j < k → decide ((es.getD j noEnt).path = p) = false) ∧ ∃ m, wr = (w.alloc (.cells #[.string p, .slice ab b.length bc] 46)).drewN m) (fun i _ => n - (intOf i).toNat)
    case atStart => exact ⟨0, by omega, rfl, fun j hj => absurd hj (Nat.not_lt_zero j), 0, rfl⟩
    case round =>
      obtain ⟨k, hk, rfl, HK, m, rfl⟩ := hrel
      by_cases hlt : k < n
      · obtain ⟨bb, off, rfl, hc1, -⟩ := (ha.carry b0) k (by have := HN.out; omega)
        have hki : (k : Int) < (n : Int) := by omega
        obtain ⟨q, HQ⟩ : ∃ q, Hid (q = (es.getD k noEnt).path) := ⟨_, rfl⟩
        rw [← HQ.out] at hc1
        by_cases hqp : q = p
        · have hqb : (q.toList == p.toList) = true := by simp [hqp]
          have HF : Hid (F = 5) := by
            have h := (anyB_iff (fun k => decide ((es.getD k noEnt).path = p)) n).2 ⟨k, hlt, by simp only [decide_eq_true_eq]; rw [← HQ.out]; exact hqp⟩
            show _ = _
            rw [HFF.out, entF, if_neg (by rw [HPB.out]; simp), if_pos h]
          clear hqp
          go_wp2
          go_quiet (fail)
          go_wp2
          go_ret
          rw [HF.out]
          exact ⟨rfl, below_drewN (below_drewN b0 _) _⟩
        · have hqb : (q.toList == p.toList) = false := by
            rw [beq_eq_false_iff_ne, ByteArray.toList_eq, ByteArray.toList_eq]
            intro e
            exact hqp (ByteArray.ext (Array.toList_inj.1 e))
          have HK2 : Hid (∀ j, j < k + 1 → decide ((es.getD j noEnt).path = p) = false) := by
            intro j hj
            by_cases e : j = k
            · subst e
              rw [← HQ.out]
              simpa using hqp
            · exact HK.out j (by omega)
          clear hqp
          go_wp2
          go_quiet (fail)
          go_wp2
          go_roundw
          case rel => first | exact ⟨k + 1, by omega, by go_num, HK2, _, rfl⟩ | exact ⟨k + 1, by omega, by go_num, HK2, _, World.drewN_drewN _ _ _⟩
          case measure => simp [intOf]; omega
      · have HT : Hid (anyB (fun k => decide ((es.getD k noEnt).path = p)) n = false) := anyB_none _ _ (fun j hj => HK.out j (by omega))
        go_wp2
        go_loopw [6] (fun i wr => ∃ k : Nat, k ≤ n ∧ i = .int .i64 k ∧ Hid (∀ j, j < k → underB p.data.toList (es.getD j noEnt).path.data.toList = false) ∧ ∃ m, wr = (w.alloc (.cells #[.string p, .slice ab b.length bc] 46)).drewN m) (fun i _ => n - (intOf i).toNat)
        case atStart => exact ⟨0, by omega, rfl, fun j hj => absurd hj (Nat.not_lt_zero j), _, rfl⟩
        case round =>
          obtain ⟨k2, hk2, rfl, HK2, m2, hwr⟩ := hrel
          have e00 : wr.cell? ⟨w.heap.size, 0, none⟩ = some (.string p) := by rw [hwr]; exact c00
          have e01 : wr.cell? ⟨w.heap.size, 1, none⟩ = some (.slice ab b.length bc) := by rw [hwr]; exact c01
          have hbw : Below w.heap.size w wr := by rw [hwr]; exact below_drewN b0 _
          have HW := hide hwr
          clear hwr
          by_cases hlt2 : k2 < n
          · obtain ⟨bb, off, rfl, hc1, -⟩ := (ha.carry hbw) k2 (by have := HN.out; omega)
            have hki : (k2 : Int) < (n : Int) := by omega
            have hq := hg k2 (by have := HN.out; omega)
            obtain ⟨q, HQ⟩ : ∃ q, Hid (q = (es.getD k2 noEnt).path) := ⟨_, rfl⟩
            rw [← HQ.out] at hc1 hq
            have HU : Hid (∀ W, Calls Tryz.prog 96 #[.string p, .string q] W fun e w' => e = .returned (.bool (underB p.data.toList q.data.toList)) ∧ ∃ n, w' = W.drewN n) := fun W => (liesUnder_any p q W hp hq).mono (by rintro e w' ⟨rfl, rfl⟩; exact ⟨rfl, 0, rfl⟩)
            cases hu : underB p.data.toList q.data.toList
            · rw [hu] at HU
              have HK3 : Hid (∀ j, j < k2 + 1 → underB p.data.toList (es.getD j noEnt).path.data.toList = false) := by
                intro j hj
                by_cases e : j = k2
                · subst e
                  rw [← HQ.out]
                  exact hu
                · exact HK2.out j (by omega)
              clear hu
              go_wp2
              go_quiet ((go_at_call 96; exact Calls.quiet_of (unhide HU _)))
              go_wp2
              go_roundw
              case rel => exact ⟨k2 + 1, by omega, by go_num, HK3, _, by rw [HW.out, World.drewN_drewN]⟩
              case measure => simp [intOf]; omega
            · rw [hu] at HU
              have HF : Hid (F = 6) := by
                have h := (anyB_iff (fun k => underB p.data.toList (es.getD k noEnt).path.data.toList) n).2 ⟨k2, hlt2, by rw [← HQ.out]; exact hu⟩
                show _ = _
                rw [HFF.out, entF, if_neg (by rw [HPB.out]; simp), if_neg (by rw [HT.out]; simp), if_pos h]
              clear hu
              go_wp2
              go_quiet ((go_at_call 96; exact Calls.quiet_of (unhide HU _)))
              go_wp2
              go_ret
              rw [HF.out]
              exact ⟨rfl, below_drewN hbw _⟩
          · have HT2 : Hid (anyB (fun k => underB p.data.toList (es.getD k noEnt).path.data.toList) n = false) := anyB_none _ _ (fun j hj => HK2.out j (by omega))
            by_cases hbig : 600 < b.length
            · have HF : Hid (F = 7) := by
                show _ = _
                rw [HFF.out, entF, if_neg (by rw [HPB.out]; simp), if_neg (by rw [HT.out]; simp), if_neg (by rw [HT2.out]; simp), if_pos hbig]
              have hbi : (600 : Int) < (b.length : Int) := by omega
              go_wp2
              go_ret
              rw [HF.out]
              exact ⟨rfl, hbw⟩
            · have HF : Hid (F = 0) := by
                show _ = _
                rw [HFF.out, entF, if_neg (by rw [HPB.out]; simp), if_neg (by rw [HT.out]; simp), if_neg (by rw [HT2.out]; simp), if_neg hbig]
              have hbi : ¬ (600 : Int) < (b.length : Int) := by omega
              go_wp2
              go_ret
              rw [HF.out]
              exact ⟨rfl, hbw⟩

end Go.Proofs.YtgncohclofdhmaaGreat

namespace Go.Proofs.YtgncohclofdhmaaGreat
open Go.RowKit

theorem anyB_congr {f g : Nat → Bool} {n : Nat} (h : ∀ k, k < n → f k = g k) : anyB f n = anyB g n := by
  induction n with
  | zero => rfl
  | succ n ih => rw [anyB, anyB, ih (fun k hk => h k (by omega)), h n (by omega)]

theorem entF_congr {f g : Nat → ByteArray} {p : ByteArray} {l n : Nat} (h : ∀ k, k < n → f k = g k) : entF f p l n = entF g p l n := by
  unfold entF
  rw [anyB_congr (f := fun k => decide (f k = p)) (g := fun k => decide (g k = p)) (fun k hk => by rw [h k hk]), anyB_congr (f := fun k => underB p.data.toList (f k).data.toList) (g := fun k => underB p.data.toList (g k).data.toList) (fun k hk => by rw [h k hk])]

theorem getD_take {α : Type} (xs : List α) (d : α) (i k : Nat) (h : k < i) : (xs.take i).getD k d = xs.getD k d := by
  rw [List.getD_eq_getElem?_getD, List.getD_eq_getElem?_getD, List.getElem?_take_of_lt h]

theorem EntAt.take {w : World} {a : Option Addr} {es : List Ent} (h : EntAt w a es) (i : Nat) : EntAt w a (es.take i) := by
  intro k hk
  rw [List.length_take] at hk
  rw [getD_take es noEnt i k (by omega)]
  exact h k (by omega)

/-- The fault of the entry at a place, by those ahead of it. -/
def fltAt (es : List Ent) (j : Nat) : Nat := entF (fun k => (es.getD k noEnt).path) (es.getD j noEnt).path (es.getD j noEnt).body.length j

set_option maxRecDepth 100000 in
set_option maxHeartbeats 4000000 in
theorem entriesFault_any (a : Option Addr) (es : List Ent) (cap : Nat) (w : World) (hm : es.length ≤ 1000) (hcap : es.length ≤ cap) (ha : EntAt w a es) (hg : ∀ i, i < es.length → (es.getD i noEnt).path.size ≤ maxLen) :
    Calls Tryz.prog 51 #[.slice a es.length cap] w fun e w' => ∃ (E i0 : Nat) (p : ByteArray), e = .returned (.tuple #[.int .i64 (E : Nat), .string p]) ∧ LeastAt (fltAt es) es.length E i0 ∧ (E ≠ 0 → p = (es.getD i0 noEnt).path) ∧ Below w.heap.size w w' := by
  obtain ⟨n, HN⟩ : ∃ n, Hid (n = es.length) := ⟨_, rfl⟩
  rw [← HN.out] at hm hcap ⊢
  go_enter Tryz.func51, Tryz.ntmps51
  go_wp2
  go_loopw [4, 5, 6, 7] (fun l s i _ wr => ∃ (k E i0 : Nat) (p : ByteArray), k ≤ n ∧ i = .int .i64 k ∧ l = .int .i64 (E : Nat) ∧ s = .string p ∧ Hid (LeastAt (fltAt es) k E i0) ∧ Hid (E ≠ 0 → p = (es.getD i0 noEnt).path) ∧ Below w.heap.size w wr) (fun _ _ i _ _ => n - (intOf i).toNat)
  case atStart => exact ⟨0, 0, 0, _, by omega, rfl, rfl, rfl, LeastAt.start _ _, fun h => absurd rfl h, Below.refl _ _⟩
  case round =>
    obtain ⟨k, E, i0, p, hk, rfl, rfl, rfl, HL, HP, hbl⟩ := hrel
    by_cases hlt : k < n
    · have hlt2 : k < es.length := by have := HN.out; omega
      obtain ⟨b, off, rfl, hc1, hc2⟩ := (ha.carry hbl) k hlt2
      have hki : (k : Int) < (n : Int) := by omega
      have hkc : (k : Int) ≤ (cap : Int) := by omega
      unfold Ent.val at hc2
      have hpk := hg k hlt2
      obtain ⟨f, HF⟩ : ∃ f, Hid (f = fltAt es k) := ⟨_, rfl⟩
      have HPk : Hid ((es.getD k noEnt).path = (es.getD k noEnt).path) := rfl
      have HEF : Hid (∀ W c, Below w.heap.size w W → Calls Tryz.prog 74 #[.slice (some ⟨b, off, none⟩) k c, .agg #[.string (es.getD k noEnt).path, .slice (es.getD k noEnt).adr (es.getD k noEnt).body.length (es.getD k noEnt).cap]] W fun e w' => e = .returned (.int .i64 (f : Nat)) ∧ Below W.heap.size W w') := by
        intro W c hW
        have h := entryFault_any (some ⟨b, off, none⟩) (es.take k) c W (es.getD k noEnt).path (es.getD k noEnt).adr (es.getD k noEnt).body (es.getD k noEnt).cap (by rw [List.length_take]; omega) ((ha.carry hW).take k) (fun i hi => by rw [List.length_take] at hi; rw [getD_take es noEnt k i (by omega)]; exact hg i (by omega)) hpk
        rw [List.length_take, show min k es.length = k from by omega, entF_congr (g := fun j => (es.getD j noEnt).path) (fun j hj => by rw [getD_take es noEnt k j hj])] at h
        rw [HF.out]
        exact h
      obtain ⟨x, HX⟩ : ∃ x, Hid (x = es.getD k noEnt) := ⟨_, rfl⟩
      rw [← HX.out] at hc1 hc2 HEF
      clear HPk
      by_cases hf0 : f = 0
      · have hfb : ((f : Int) != 0) = false := by simp [hf0]
        have HL2 : Hid (LeastAt (fltAt es) (k + 1) E i0) := HL.out.stay (.inl (by rw [← HF.out]; exact hf0))
        clear hf0
        go_wp2
        go_region_with (go_at_call 74; refine (unhide HEF _ _ (by first | exact hbl | exact hbl.drew | exact below_drewN hbl _)).mono ?_; rintro e w2 ⟨rfl, b2⟩)
        all_goals
          have b2' : Below wr.heap.size wr w2 := by first | exact b2 | exact (Below.refl _ _).drew.trans b2
          have hbl2 := hbl.trans (b2'.mono hbl.size)
          clear b2 b2' hc1 hc2
          go_wp2
          go_roundw
          case rel => first | exact ⟨k + 1, E, i0, p, by omega, by go_num, rfl, rfl, HL2, HP, hbl2⟩ | ((repeat apply Exists.intro); exact ⟨⟨k + 1, E, i0, p, by omega, by go_num, rfl, rfl, HL2, HP, hbl2⟩, rfl⟩)
          case measure => simp [intOf]; omega
      · have hfb : ((f : Int) != 0) = true := by simp; omega
        by_cases hE0 : E = 0
        · have hEb : ((E : Int) == 0) = true := by simp [hE0]
          have HL2 : Hid (LeastAt (fltAt es) (k + 1) f k) := by
            have := HL.out.take (by rw [← HF.out]; exact hf0) (.inl hE0)
            rw [← HF.out] at this
            exact this
          have HP2 : Hid (f ≠ 0 → x.path = (es.getD k noEnt).path) := fun _ => by rw [HX.out]
          clear hf0 hE0
          go_wp2
          go_region_with (go_at_call 74; refine (unhide HEF _ _ (by first | exact hbl | exact hbl.drew | exact below_drewN hbl _)).mono ?_; rintro e w2 ⟨rfl, b2⟩)
          all_goals
            have b2' : Below wr.heap.size wr w2 := by first | exact b2 | exact (Below.refl _ _).drew.trans b2
            have hbl2 := hbl.trans (b2'.mono hbl.size)
            have hd1 := (b2'.cell (p := ⟨b, off + k * 2, none⟩) (World.block_lt_of_cell? _ _ hc1)).trans hc1
            clear b2 b2' hc1 hc2
            go_wp2
            go_roundw
            case rel => first | exact ⟨k + 1, f, k, x.path, by omega, by go_num, rfl, rfl, HL2, HP2, hbl2⟩ | ((repeat apply Exists.intro); exact ⟨⟨k + 1, f, k, x.path, by omega, by go_num, rfl, rfl, HL2, HP2, hbl2⟩, rfl⟩)
            case measure => simp [intOf]; omega
        · have hEb : ((E : Int) == 0) = false := by rw [beq_eq_false_iff_ne]; omega
          by_cases hlt3 : f < E
          · have hfe : decide (f < E) = true := by simp; exact hlt3
            have HL2 : Hid (LeastAt (fltAt es) (k + 1) f k) := by
              have := HL.out.take (by rw [← HF.out]; exact hf0) (.inr (by rw [← HF.out]; exact hlt3))
              rw [← HF.out] at this
              exact this
            have HP2 : Hid (f ≠ 0 → x.path = (es.getD k noEnt).path) := fun _ => by rw [HX.out]
            clear hf0 hE0
            go_wp2
            go_region_with (go_at_call 74; refine (unhide HEF _ _ (by first | exact hbl | exact hbl.drew | exact below_drewN hbl _)).mono ?_; rintro e w2 ⟨rfl, b2⟩)
            all_goals
              have b2' : Below wr.heap.size wr w2 := by first | exact b2 | exact (Below.refl _ _).drew.trans b2
              have hbl2 := hbl.trans (b2'.mono hbl.size)
              have hd1 := (b2'.cell (p := ⟨b, off + k * 2, none⟩) (World.block_lt_of_cell? _ _ hc1)).trans hc1
              clear b2 b2' hc1 hc2
              go_wp2
              go_roundw
              case rel => first | exact ⟨k + 1, f, k, x.path, by omega, by go_num, rfl, rfl, HL2, HP2, hbl2⟩ | ((repeat apply Exists.intro); exact ⟨⟨k + 1, f, k, x.path, by omega, by go_num, rfl, rfl, HL2, HP2, hbl2⟩, rfl⟩)
              case measure => simp [intOf]; omega
          · have hfe : decide (f < E) = false := by simp; omega
            have HL2 : Hid (LeastAt (fltAt es) (k + 1) E i0) := HL.out.stay (.inr ⟨hE0, by rw [← HF.out]; omega⟩)
            clear hf0 hE0
            go_wp2
            go_region_with (go_at_call 74; refine (unhide HEF _ _ (by first | exact hbl | exact hbl.drew | exact below_drewN hbl _)).mono ?_; rintro e w2 ⟨rfl, b2⟩)
            all_goals
              have b2' : Below wr.heap.size wr w2 := by first | exact b2 | exact (Below.refl _ _).drew.trans b2
              have hbl2 := hbl.trans (b2'.mono hbl.size)
              clear b2 b2' hc1 hc2
              go_wp2
              go_roundw
              case rel => first | exact ⟨k + 1, E, i0, p, by omega, by go_num, rfl, rfl, HL2, HP, hbl2⟩ | ((repeat apply Exists.intro); exact ⟨⟨k + 1, E, i0, p, by omega, by go_num, rfl, rfl, HL2, HP, hbl2⟩, rfl⟩)
              case measure => simp [intOf]; omega
    · obtain rfl : k = n := by omega
      go_wp2
      go_ret2
      exact ⟨E, i0, p, rfl, HL.out, HP.out, hbl⟩

end Go.Proofs.YtgncohclofdhmaaGreat
