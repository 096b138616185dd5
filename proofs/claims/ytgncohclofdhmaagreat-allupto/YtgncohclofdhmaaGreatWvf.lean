import Derived.Test.YtgncohclofdhmaaGreatWva
import Derived.Test.YtgncohclofdhmaaGreatWsame
import Derived.Test.YtgncohclofdhmaaGreatWbd
import Derived.Deep.RegionWith
import Derived.BigRegion
import Derived.Deep.DeepCutAuto
import Derived.Test.YtgncohclofdhmaaGreatWrv
import Derived.Test.YtgncohclofdhmaaGreatWvb
namespace Go.Proofs.YtgncohclofdhmaaGreat
open Go.RowKit

set_option maxRecDepth 100000 in
set_option maxHeartbeats 1000000 in
theorem sameConfig_any (w : World) (k : ByteArray) (z : Int) (b : Bool) :
    Calls Tryz.prog 38 #[.agg #[.string k, .int .i64 z, .bool b], .agg #[.string k, .int .i64 z, .bool b]] w fun e w' => e = .returned (.bool true) ∧ Below w.heap.size w w' := by
  have B1 := ((Below.refl w.heap.size w).alloc (Nat.le_refl _) (.cells #[.string k, .int .i64 z, .bool b] 49)).alloc (by simp) (.cells #[.string k, .int .i64 z, .bool b] 49)
  go_enter Tryz.func38, Tryz.ntmps38
  go_wp2
  go_ret
  exact ⟨rfl, B1⟩

set_option maxRecDepth 100000 in
set_option maxHeartbeats 2000000 in
theorem sameEntries_any (a a' : Option Addr) (es fs : List Ent) (c c' : Nat) (w : World) (hn : es.length ≤ 1000) (hal : Alike es fs) (hb : ∀ e, e ∈ es → e.body.length ≤ 140737488355328) (ha : EntAt w a es) (ha' : EntAt w a' fs) (hg : EntGood w es) (hg' : EntGood w fs) :
    Calls Tryz.prog 37 #[.slice a es.length c, .slice a' fs.length c'] w fun e w' => e = .returned (.bool true) ∧ Below w.heap.size w w' := by
  obtain ⟨n, HN⟩ : ∃ n, Hid (n = es.length) := ⟨_, rfl⟩
  have hl := hal.len
  rw [← hl, ← HN.out]
  have HL := hide hl
  have HAl := hide hal
  rw [← HN.out] at hn
  clear hl hal
  have hnb : ((n : Int) != (n : Int)) = false := by simp
  go_enter Tryz.func37, Tryz.ntmps37
  go_wp2
  go_loopw [5, 6] (fun i _ wr => ∃ k : Nat, k ≤ n ∧ i = .int .i64 k ∧ Below w.heap.size w wr) (fun i _ _ => n - (intOf i).toNat)
  case atStart => exact ⟨0, by omega, rfl, Below.refl _ _⟩
  case round =>
    obtain ⟨k, hk, rfl, hbl⟩ := hrel
    by_cases hlt : k < n
    · have hk1 : k < es.length := by have := HN.out; omega
      have hk2 : k < fs.length := by have := HN.out; have := HL.out; omega
      obtain ⟨b, off, rfl, c1, c2⟩ := (ha.carry hbl) k hk1
      obtain ⟨b', off', rfl, c1', c2'⟩ := (ha'.carry hbl) k hk2
      obtain ⟨g1, _, _, _⟩ := (hg.carry hbl).get k hk1
      obtain ⟨g1', _, _, _⟩ := (hg'.carry hbl).get k hk2
      have hbl1 : (es.getD k noEnt).body.length ≤ 140737488355328 := by
        apply hb
        rw [List.getD_eq_getElem?_getD, List.getElem?_eq_getElem hk1]
        exact List.getElem_mem hk1
      obtain ⟨e1, e2⟩ := HAl.out.get k
      unfold Ent.val at c2 c2'
      rw [← e1] at c1'
      rw [← e2] at c2' g1'
      generalize es.getD k noEnt = x at *
      generalize (fs.getD k noEnt).adr = xa at *
      generalize (fs.getD k noEnt).cap = xc at *
      clear e1 e2
      have hki : (k : Int) < (n : Int) := by omega
      have HSm : Hid (∀ W, Below wr.heap.size wr W → Calls Tryz.prog 21 #[.slice x.adr x.body.length x.cap, .slice xa x.body.length xc] W fun e w' => e = .returned (.bool true) ∧ Below W.heap.size W w') := by
        intro W hW
        have h := sameBytes_any x.adr xa x.body x.body x.cap xc W hbl1 hbl1 (g1.carry hW) (g1'.carry hW)
        rw [eqB_true] at h
        exact h
      go_upto_region 6 with fail
      go_cut [6] (fun s6 wx => s6 = .bool true ∧ Below wr.heap.size wr wx)
      case first =>
        go_region_with (go_at_call 21; refine (unhide HSm _ (by first | exact Below.refl _ _ | exact (Below.refl _ _).drew | exact (Below.refl _ _).drew.drew | exact below_drewN (Below.refl _ _) _)).mono ?_; rintro e w5 ⟨rfl, b5⟩)
        all_goals (go_wp2_with fail; go_meet)
        all_goals exact ⟨rfl, by first | exact b5 | exact (Below.refl _ _).drew.trans b5 | exact (Below.refl _ _).drew.drew.trans b5⟩
      case rest =>
        obtain ⟨rfl, b6⟩ := hcut
        have d1 := (b6.cell (p := ⟨b, off + k * 2, none⟩) (World.block_lt_of_cell? _ _ c1)).trans c1
        have d2 := (b6.cell (p := ⟨b', off' + k * 2, none⟩) (World.block_lt_of_cell? _ _ c1')).trans c1'
        have hbl6 := hbl.trans (b6.mono hbl.size)
        clear c1 c1' c2 c2' b6 HSm g1 g1' hbl
        go_wp2
        go_quiet (fail)
        go_wp2
        go_roundw
        case rel => first | exact ⟨k + 1, by omega, by go_num, below_drewN hbl6 _⟩ | ((repeat apply Exists.intro); exact ⟨⟨k + 1, by omega, by go_num, below_drewN hbl6 _⟩, rfl⟩)
        case measure => simp [intOf]; omega
    · go_wp2
      go_ret
      exact ⟨rfl, hbl⟩

end Go.Proofs.YtgncohclofdhmaaGreat

namespace Go.Proofs.YtgncohclofdhmaaGreat
open Go.RowKit

theorem Rows2.carry {w w' w2 w2' : World} {v v' : Value} (h : Rows2 w w' v v') (b : Below w.heap.size w w2) (b' : Below w'.heap.size w' w2') : Rows2 w2 w2' v v' := by
  obtain ⟨es, fs, a, a', c, c', h1, h2, h3, h4, h5, h6, h7⟩ := h.of
  exact ⟨es, fs, a, a', c, c', h1, h2, h3.carry b, h4.carry b', h5.carry b, h6.carry b', h7⟩

end Go.Proofs.YtgncohclofdhmaaGreat

namespace Go.Proofs.YtgncohclofdhmaaGreat
open Go.RowKit

set_option maxRecDepth 100000 in
set_option maxHeartbeats 2000000 in
theorem refFind_any (a : Option Addr) (p : List UInt8) (cap : Nat) (w : World) (key path : ByteArray) (hm : p.length ≤ 140737488355328) (hks : key.size ≤ maxLen) (hcap : p.length ≤ cap) (hcm : cap ≤ maxLen) (hb : Bts w a p) :
    Calls Tryz.prog 41 #[.slice a p.length cap, .string path, .string key] w fun e w' => ∃ v E, e = .returned (.tuple #[v, .int .i64 (E : Nat)]) ∧ FindAns key path p w.heap.size w' v E ∧ Below w.heap.size w w' := by
  have K := hide (refVerify_any a p cap w key hm hks hcap hcm hb)
  obtain ⟨n, HN⟩ : ∃ n, Hid (n = p.length) := ⟨_, rfl⟩
  rw [← HN.out] at K ⊢
  go_enter Tryz.func41, Tryz.ntmps41
  go_wp2_with fail
  refine K.out.mono ?_
  rintro e w2 ⟨v2, cfg2, E2, rfl, A2, b2⟩
  obtain ⟨ck, cz, cb, rfl⟩ := ver_cfg A2
  have Ba : Below w2.heap.size w2 (w2.alloc (.cells #[.string ck, .int .i64 cz, .bool cb] 49)) := (Below.refl _ _).alloc (Nat.le_refl _) _
  have B3 := b2.trans (Ba.mono b2.size)
  by_cases hE : E2 = 0
  · subst hE
    have A2' : verHead key.data.toList p = 0 ∧ ∃ (es : List Ent) (al : Nat) (pk : Bool), IsPack key.data.toList p (pairsOf es) al pk ∧ OwnE w.heap.size w2 v2 es ∧ EntOwn w.heap.size w2 es := by
      rcases A2 with ⟨h1, h2, _⟩ | ⟨_, _, h3, _⟩ | ⟨h1, es, al, pk, h2, h3, h4, _⟩
      · exact absurd h2.symm h1
      · omega
      · exact ⟨h1, es, al, pk, h2, h3, h4⟩
    obtain ⟨hz, es, al, pk, hI, o2, g2⟩ := A2'
    have HI := hide hI
    have HZ := hide hz
    have hel : es.length ≤ 20 := by have := hI.good.len; simpa [pairsOf] using this
    obtain ⟨x, k, rfl, hat, -, -⟩ := o2.shape
    have hat3 := hat.carry Ba
    have g3 := hide (g2.carry Ba)
    clear K A2 hI hz o2 g2 hat Ba b2
    go_wp2
    generalize w2.alloc (.cells #[.string ck, .int .i64 cz, .bool cb] 49) = W3 at *
    go_loop [11] (fun i => ∃ j : Nat, j ≤ es.length ∧ i = .int .i64 j ∧ Hid (∀ m, m < j → (es.getD m noEnt).path ≠ path)) (fun i => es.length - (intOf i).toNat)
    case atStart => exact ⟨0, by omega, rfl, fun m hm => absurd hm (Nat.not_lt_zero m)⟩
    case round =>
      obtain ⟨j, hj, rfl, HJ⟩ := hrel
      by_cases hlt : j < es.length
      · obtain ⟨b, off, rfl, c1, c2⟩ := hat3 j hlt
        have hmem : es.getD j noEnt ∈ es := by
          rw [List.getD_eq_getElem?_getD, List.getElem?_eq_getElem hlt]
          exact List.getElem_mem hlt
        obtain ⟨oo, _⟩ := g3.out _ hmem
        have HMem : Hid (((es.getD j noEnt).path.data.toList, (es.getD j noEnt).body) ∈ pairsOf es) := List.mem_map.2 ⟨_, hmem, rfl⟩
        have HJ2 : Hid ((es.getD j noEnt).path ≠ path → ∀ m, m < j + 1 → (es.getD m noEnt).path ≠ path) := by
          intro h m hm
          by_cases e : m = j
          · subst e; exact h
          · exact HJ.out m (by omega)
        unfold Ent.val at c2 oo
        generalize es.getD j noEnt = y at *
        by_cases hq : y.path = path
        · have hqb : (y.path.toList == path.toList) = true := by simp [hq]
          have HF : Hid (FindAns key path p w.heap.size W3 (.slice y.adr y.body.length y.cap) 0) := .inr (.inr ⟨HZ.out, _, _, _, HI.out, .inr ⟨y.body, by rw [← hq]; exact HMem.out, oo, rfl⟩⟩)
          clear hq oo HJ2
          go_wp2
          go_ret2
          exact ⟨_, 0, rfl, HF.out, B3⟩
        · have hqb : (y.path.toList == path.toList) = false := by
            rw [beq_eq_false_iff_ne, ByteArray.toList_eq, ByteArray.toList_eq]
            intro e
            exact hq (ByteArray.ext (Array.toList_inj.1 e))
          have HJ3 := hide (HJ2.out hq)
          clear hq oo HJ2
          go_wp2
          go_round
          case rel => exact ⟨j + 1, by omega, by go_num, HJ3⟩
          case measure => simp [intOf]; omega
      · have HF : Hid (FindAns key path p w.heap.size W3 (.slice none 0 0) 13) := by
          refine .inr (.inr ⟨HZ.out, _, _, _, HI.out, .inl ⟨?_, rfl, rfl⟩⟩)
          intro q hq
          obtain ⟨e, he, rfl⟩ := List.mem_map.1 hq
          obtain ⟨m, hm, rfl⟩ := List.mem_iff_getElem.1 he
          have h := HJ.out m (by omega)
          rw [List.getD_eq_getElem?_getD, List.getElem?_eq_getElem hm, Option.getD_some] at h
          intro e
          exact h (ByteArray.ext (Array.toList_inj.1 e))
        go_wp2
        go_ret2
        exact ⟨_, 13, rfl, HF.out, B3⟩
  · have hEb : ((E2 : Int) != 0) = true := by simp; omega
    have HF : Hid (∀ W, FindAns key path p w.heap.size W (.slice none 0 0) E2) := by
      intro W
      rcases A2 with ⟨h1, h2, _⟩ | ⟨h1, h2, h3, _⟩ | ⟨_, _, _, _, _, _, _, h5, _⟩
      · exact .inl ⟨h1, h2, rfl⟩
      · exact .inr (.inl ⟨h1, h2, h3, rfl⟩)
      · exact absurd h5 hE
    clear hE A2 K
    go_wp2
    go_ret2
    exact ⟨_, E2, rfl, HF.out _, B3⟩

end Go.Proofs.YtgncohclofdhmaaGreat
