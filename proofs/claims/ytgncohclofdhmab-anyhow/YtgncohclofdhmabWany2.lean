import Derived.Test.YtgncohclofdhmabWany
namespace Go.Proofs.Ytgncohclofdhmab
open Go.RowKit

theorem EntOwn.of_mem {B : Nat} {w : World} {es fs : List Ent} (h : EntOwn B w es) (hm : ∀ e, e ∈ fs → e ∈ es) : EntOwn B w fs := fun e he => h e (hm e he)

/-- An append onto nothing leaves all that was there. -/
theorem Grows.fresh {w w' : World} {v' : Value} (h : Grows w w' (.slice none 0 0) v') : Below w.heap.size w w' := (Below.refl _ _).grown h.by_ (Nat.le_refl _) (fun k hk => by simp [Value.ownBlock] at hk)

set_option maxRecDepth 100000 in
set_option maxHeartbeats 4000000 in
theorem Anyhow_walk (a : Option Addr) (es : List Ent) (cap : Nat) (w : World) (z : Int) (key : ByteArray) (al : Int) (pk : Bool) (hm : es.length * 40 ≤ 140737488351232) (hl : ∀ e, e ∈ es → e.body.length ≤ 140737488351232) (hk : key.size ≤ maxLen) (hz : -9223372036854775808 ≤ z) (hz2 : z ≤ 9223372036854775807) (ha : EntAt w a es) (hg : EntGood w es) :
    Calls Try.prog 3 #[.slice a es.length cap, .int .i64 z, .agg #[.string key, .int .i64 al, .bool pk]] w fun e w' => e = .returned (.bool true) ∧ Below w.heap.size w w' := by
  have b0 := (Below.refl w.heap.size w).alloc (Nat.le_refl _) (.cells #[.string key, .int .i64 al, .bool pk] 24)
  have c00 := cell_new w #[.string key, .int .i64 al, .bool pk] 24 0
  have c01 := cell_new w #[.string key, .int .i64 al, .bool pk] 24 1
  have c02 := cell_new w #[.string key, .int .i64 al, .bool pk] 24 2
  have esz : (w.alloc (.cells #[.string key, .int .i64 al, .bool pk] 24)).heap.size = w.heap.size + 1 := by simp
  obtain ⟨n, HN⟩ : ∃ n, Hid (n = es.length) := ⟨_, rfl⟩
  rw [← HN.out] at hm ⊢
  go_enter Try.func3, Try.ntmps3
  go_wp2_with fail
  refine (Build_keeps none [] 0 _ ⟨#[107]⟩ 1 false (by simp [maxLen]) (by show (1 : Nat) ≤ maxLen; simp [maxLen]) (EntAt.nil _ _) (EntGood.nil _)).mono ?_
  rintro e w1 ⟨v1, E1, p1, rfl, A1, b1⟩
  obtain ⟨hE1, a1, k1, rfl⟩ := ans_none (by rfl) A1
  subst hE1
  have hb1 := b0.trans (b1.mono b0.size)
  have d0 := (b1.cell (p := ⟨w.heap.size, 0, none⟩) (by rw [esz]; simp)).trans c00
  have d1 := (b1.cell (p := ⟨w.heap.size, 1, none⟩) (by rw [esz]; simp)).trans c01
  have d2 := (b1.cell (p := ⟨w.heap.size, 2, none⟩) (by rw [esz]; simp)).trans c02
  simp at d0 d1 d2
  have sz1 : w.heap.size < w1.heap.size := by have := b1.size; rw [esz] at this; omega
  have ha1 := ha.carry hb1
  have hg1 := hg.carry hb1
  clear b0 b1 c00 c01 c02 esz A1
  by_cases hn0 : n = 0
  · have hnb : ((n : Int) == 0) = true := by simp [hn0]
    clear hn0
    go_wp2
    go_ret
    exact ⟨rfl, hb1⟩
  · have hnb : ((n : Int) == 0) = false := by rw [beq_eq_false_iff_ne]; omega
    go_wp2
    go_loopw [10, 11, 12] (fun v i _ wr => ∃ (k : Nat) (fs : List Ent), k ≤ n ∧ i = .int .i64 k ∧ OwnE w1.heap.size wr v fs ∧ Hid (EntOwn w1.heap.size wr fs) ∧ Hid ((fs.map fun f => (f.path, f.body)) = ((es.take k).map fun f => (f.path, f.body))) ∧ Below w1.heap.size w1 wr) (fun _ i _ _ => n - (intOf i).toNat)
    case atStart => exact ⟨0, [], by omega, rfl, OwnE.nil _ _, EntOwn.nil _ _, rfl, Below.refl _ _⟩
    case round =>
      obtain ⟨k, fs, hk2, rfl, ho, HG, HM, hbl⟩ := hrel
      have HL : Hid (fs.length = k) := by
        have h := congrArg List.length HM.out
        have := HN.out
        simp at h
        show _ = _
        omega
      by_cases hlt : k < n
      · have hlt2 : k < es.length := by have := HN.out; omega
        obtain ⟨b, off, rfl, hc1, hc2⟩ := (ha1.carry hbl) k hlt2
        obtain ⟨g1, g2, g3, g4⟩ := (hg1.carry hbl).get k hlt2
        have HT : Hid ((es.take (k + 1)) = es.take k ++ [es.getD k noEnt]) := take_snoc es noEnt k hlt2
        have hbm : (es.getD k noEnt).body.length ≤ 140737488351232 := by
          apply hl
          rw [List.getD_eq_getElem?_getD, List.getElem?_eq_getElem hlt2]
          exact List.getElem_mem hlt2
        generalize es.getD k noEnt = x at *
        unfold Ent.val at hc2
        have o0 : Own w1.heap.size wr (.slice none 0 0) [] := Own.nil _ _
        have hs0 := src_bts (c := x.cap) (n := x.body.length) Try.underlying25 g1 rfl
        go_wp2_with (at_builtin; go_must (refine wpAppG rfl (.tmp 46) (.tmp 51) 25 rfl w1.heap.size _ [] rfl o0 _ x.body rfl _ hs0 (by simp; omega) hbl.size ?_))
        intro v2 w2 z2 e2 o2 gr2
        have b2 := gr2.fresh
        obtain rfl : z2 = x.body := e2.out
        have hbl2 := hbl.trans (b2.mono hbl.size)
        have ho2 := ho.carry b2
        have HG2 := hide (HG.out.carry b2)
        have hd1 := (b2.cell (p := ⟨b, off + k * 2, none⟩) (World.block_lt_of_cell? _ _ hc1)).trans hc1
        obtain ⟨a2, k2, rfl, -, -, -⟩ := o2.shape
        have hs1 := src_ent w2 ⟨x.path, a2, x.body, k2⟩
        unfold Ent.val at hs1
        have ho3 := ho2.alloc (.cells #[.string x.path, .slice a2 x.body.length k2] 30)
        have hbl3 := hbl2.alloc hbl2.size (.cells #[.string x.path, .slice a2 x.body.length k2] 30)
        have HG3 := hide (HG2.out.carry ((Below.refl w2.heap.size w2).alloc (Nat.le_refl _) (.cells #[.string x.path, .slice a2 x.body.length k2] 30)))
        have o3' := o2.alloc (.cells #[.string x.path, .slice a2 x.body.length k2] 30)
        clear b2 gr2 o0 hs0 hbl ho HG HG2 g1 hc1 hc2 ho2 o2 e2
        go_wp2_with (at_builtin; go_must (refine wpAppE rfl (.tmp 53) (.tmp 61) rfl w1.heap.size _ fs rfl ho3 _ [⟨x.path, a2, x.body, k2⟩] rfl 1 hs1 (by have := HL.out; simp; omega) hbl3.size ?_))
        intro v4 w4 f4 e4 o4 gr
        have b4 := below_ownE hbl3 ho3 gr.by_ (Nat.le_refl _)
        have HG4 : Hid (EntOwn w1.heap.size w4 f4) := by
          rw [e4.out]
          exact (HG3.out.grown ho3 gr.by_).more (e := ⟨x.path, a2, x.body, k2⟩) (o3'.kept gr.by_ (own_ne o3' ho3)) g4
        have HM4 : Hid ((f4.map fun f => (f.path, f.body)) = ((es.take (k + 1)).map fun f => (f.path, f.body))) := by
          show _ = _
          rw [e4.out, HT.out, List.map_append, List.map_append, HM.out]
          rfl
        clear gr hs1 ho3 hbl3 HG3 o3' hd1
        go_wp2
        go_roundw
        case rel => first | exact ⟨k + 1, f4, by omega, by go_num, o4, HG4, HM4, b4⟩ | ((repeat apply Exists.intro); exact ⟨⟨k + 1, f4, by omega, by go_num, o4, HG4, HM4, b4⟩, rfl⟩)
        case measure => simp [intOf]; omega
      · have HFl : Hid (fs.length = n) := by have := HL.out; show _ = _; omega
        obtain ⟨oa, oc, rfl, hoat, -, -⟩ := ho.shape
        have hB : w1.heap.size ≤ wr.heap.size := hbl.size
        obtain ⟨s, HS⟩ : ∃ s, Hid (s = pickN z n) := ⟨_, rfl⟩
        have hs : s < n := by rw [HS.out]; exact pickN_lt z (by omega)
        obtain ⟨back, HBk⟩ : ∃ back, Hid ((Int.tmod z 2 != 0) = back) := ⟨_, rfl⟩
        have HTn := hide (turnTo_turn (n := n) (s := s) back hs)
        have HP : Hid (∀ W, Calls Try.prog 11 #[.int .i64 z, .int .i64 n] W fun e w' => e = .returned (.int .i64 (s : Nat)) ∧ w' = W) := by
          intro W
          rw [HS.out]
          exact pick_is z n W hz hz2 (by omega) (by unfold maxLen; omega)
        have hfl := HFl.out
        rw [hfl]
        clear hfl
        go_wp2
        go_loopw [14, 15, 16] (fun v i _ wq => ∃ k : Nat, k ≤ n ∧ i = .int .i64 k ∧ OwnE wr.heap.size wq v ((List.range k).map fun j => fs.getD (turnTo n s back j) noEnt) ∧ Below wr.heap.size wr wq) (fun _ i _ _ => n - (intOf i).toNat)
        case atStart => exact ⟨0, by omega, rfl, OwnE.nil _ _, Below.refl _ _⟩
        case round =>
          obtain ⟨k, hk3, rfl, ho2, hbl2⟩ := hrel
          by_cases hkn : k < n
          · obtain ⟨r, HR⟩ : ∃ r, Hid (r = (k + s) % n) := ⟨_, rfl⟩
            have hr : r < n := by rw [HR.out]; exact Nat.mod_lt _ (by omega)
            have hcast : ((k : Int) + (s : Int)) % (n : Int) = (r : Int) := by rw [HR.out]; simp
            have hsn : (s : Int) < (n : Int) := by omega
            have hkn' : (k : Int) < (n : Int) := by omega
            obtain ⟨t, HTt⟩ : ∃ t, Hid (t = turnTo n s back k) := ⟨_, rfl⟩
            have htn : t < n := by rw [HTt.out]; exact HTn.out.lt k hkn
            go_wp2_with fail
            refine (HP.out _).mono ?_
            rintro e w5 ⟨rfl, rfl⟩
            go_upto_if 79 with fail
            go_cut [16, 79] (fun s16 _ wx => s16 = .int .i64 (t : Nat) ∧ wx = w5)
            case first =>
              cases back
              · have hzb : (Int.tmod z 2 != 0) = false := HBk.out
                go_wp2
                go_meet
                have ht : t = r := by rw [HTt.out, HR.out]; rfl
                exact ⟨by rw [ht, hcast], rfl⟩
              · have hzb : (Int.tmod z 2 != 0) = true := HBk.out
                go_wp2
                go_meet
                have ht : t = n - 1 - r := by rw [HTt.out, HR.out]; rfl
                exact ⟨by rw [ht]; congr 1; omega, rfl⟩
            case rest =>
              obtain ⟨rfl, rfl⟩ := hcut
              obtain ⟨b, off, rfl, hc1, hc2⟩ := (hoat.carry hbl2) t (by have := HFl.out; omega)
              have htn' : (t : Int) < (n : Int) := by omega
              have HX : Hid (fs.getD t noEnt = fs.getD (turnTo n s back k) noEnt) := by show _ = _; rw [HTt.out]
              obtain ⟨x, HXx⟩ : ∃ x, Hid (x = fs.getD t noEnt) := ⟨_, rfl⟩
              rw [← HXx.out] at hc1 hc2
              unfold Ent.val at hc2
              obtain ⟨os, HOs⟩ : ∃ os, Hid (os = (List.range k).map fun j => fs.getD (turnTo n s back j) noEnt) := ⟨_, rfl⟩
              rw [← HOs.out] at ho2
              have HOl : Hid (os.length = k) := by show _ = _; rw [HOs.out]; simp
              have hs1 := src_ent wc x
              unfold Ent.val at hs1
              have ho3 := ho2.alloc (.cells #[.string x.path, .slice x.adr x.body.length x.cap] 30)
              have hbl3 := hbl2.alloc hbl2.size (.cells #[.string x.path, .slice x.adr x.body.length x.cap] 30)
              clear ho2 hcast
              go_wp2_with (at_builtin; go_must (refine wpAppE rfl (.tmp 84) (.tmp 89) rfl wr.heap.size _ os rfl ho3 _ [x] rfl 1 hs1 (by have := HOl.out; simp; omega) hbl3.size ?_))
              intro v6 w6 f6 e6 o6 gr
              have b6 := below_ownE hbl3 ho3 gr.by_ (Nat.le_refl _)
              have HF6 : Hid (f6 = (List.range (k + 1)).map fun j => fs.getD (turnTo n s back j) noEnt) := by
                show _ = _
                rw [e6.out, HOs.out, List.range_succ, List.map_append, HXx.out, HX.out]
                rfl
              rw [HF6.out] at o6
              clear gr hs1 ho3 hbl3 hc1 hc2 e6 HF6
              go_wp2
              go_roundw
              case rel => first | exact ⟨k + 1, by omega, by go_num, o6, b6⟩ | ((repeat apply Exists.intro); exact ⟨⟨k + 1, by omega, by go_num, o6, b6⟩, rfl⟩)
              case measure => simp [intOf]; omega
          · obtain rfl : k = n := by omega
            obtain ⟨os, HOs⟩ : ∃ os, Hid (os = (List.range k).map fun j => fs.getD (turnTo k s back j) noEnt) := ⟨_, rfl⟩
            rw [← HOs.out] at ho2
            have HOl : Hid (os.length = k) := by show _ = _; rw [HOs.out]; simp
            have HOm : Hid (∀ e, e ∈ os → e ∈ fs) := by
              intro e he
              rw [HOs.out] at he
              obtain ⟨j, hj, rfl⟩ := List.mem_map.1 he
              have hj2 := HTn.out.lt j (List.mem_range.1 hj)
              have hj3 : turnTo k s back j < fs.length := by rw [HFl.out]; exact hj2
              rw [List.getD_eq_getElem?_getD, List.getElem?_eq_getElem hj3]
              exact List.getElem_mem hj3
            have HTd : Hid (Turned (turnTo k s back) fs os) := by
              refine ⟨by rw [HOl.out, HFl.out], ?_⟩
              intro j hj
              rw [HFl.out] at hj
              have : os.getD j noEnt = fs.getD (turnTo k s back j) noEnt := by
                rw [HOs.out, List.getD_eq_getElem?_getD, List.getElem?_map, List.getElem?_range hj]
                rfl
              rw [this]
              exact ⟨rfl, rfl⟩
            obtain ⟨ta, tc, rfl, htat, -, -⟩ := ho2.shape
            have HGq := hide (HG.out.carry hbl2)
            have hoatq := hoat.carry hbl2
            have hbq := hbl.trans (hbl2.mono hB)
            have q0 := (hbq.cell (p := ⟨w.heap.size, 0, none⟩) sz1).trans d0
            have q1 := (hbq.cell (p := ⟨w.heap.size, 1, none⟩) sz1).trans d1
            have q2 := (hbq.cell (p := ⟨w.heap.size, 2, none⟩) sz1).trans d2
            have hol := HOl.out
            rw [hol]
            clear hol
            go_wp2_with fail
            have H1 := Build_keeps oa fs oc wr key al pk (by rw [HFl.out]; unfold maxLen; omega) hk hoatq HGq.out.good
            rw [HFl.out] at H1
            refine H1.mono ?_
            rintro e w5 ⟨v5, E5, p5, rfl, A5, b5⟩
            have hb5 := hbq.trans (b5.mono hbq.size)
            have r0 := (b5.cell (p := ⟨w.heap.size, 0, none⟩) (World.block_lt_of_cell? _ _ q0)).trans q0
            have r1 := (b5.cell (p := ⟨w.heap.size, 1, none⟩) (World.block_lt_of_cell? _ _ q1)).trans q1
            have r2 := (b5.cell (p := ⟨w.heap.size, 2, none⟩) (World.block_lt_of_cell? _ _ q2)).trans q2
            have htat5 := htat.carry b5
            have HG5 := hide (HGq.out.carry b5)
            have HA5 := hide A5
            clear A5 b5 q0 q1 q2 htat hoatq HGq ho2 H1 hbq
            go_wp2_with fail
            have H2 := Build_keeps ta os tc w5 key al pk (by rw [HOl.out]; unfold maxLen; omega) hk htat5 (HG5.out.of_mem HOm.out).good
            rw [HOl.out] at H2
            refine H2.mono ?_
            rintro e w6 ⟨v6, E6, p6, rfl, A6, b6⟩
            have hb6 := hb5.trans (b6.mono hb5.size)
            have HTn' : Turn (turnTo k s back) fs.length := by rw [HFl.out]; exact HTn.out
            obtain ⟨rfl, rfl, xs, x5, x6, k5, k6, rfl, rfl, t5, t6, hxl, hE⟩ := ans_turn HTn' HTd.out HA5.out A6
            have t5' := t5.carry b6
            have hbw := hb1.trans (hb6.mono hb1.size)
            clear A6 HA5 H2 b6 t5 r0 r1 r2 hb5 hb6 htat5
            go_wp2_with fail
            refine (same_any x5 x6 xs xs k5 k6 w6 (by omega) (by omega) t5' t6).mono ?_
            rintro e w7 ⟨rfl, b7⟩
            have hb7 := hbw.trans (b7.mono hbw.size)
            rw [eqB_true]
            by_cases hE0 : E5 = 0
            · have hEb : ((E5 : Int) == 0) = true := by simp [hE0]
              have hxp : decide (0 < xs.length) = true := decide_eq_true (hE.1 hE0)
              clear hE hE0
              go_wp2
              go_ret
              exact ⟨rfl, hb7⟩
            · have hEb : ((E5 : Int) == 0) = false := by rw [beq_eq_false_iff_ne]; omega
              have hxp : decide (0 < xs.length) = false := decide_eq_false fun h => hE0 (hE.2 h)
              clear hE hE0
              go_wp2
              go_ret
              exact ⟨rfl, hb7⟩

end Go.Proofs.Ytgncohclofdhmab
