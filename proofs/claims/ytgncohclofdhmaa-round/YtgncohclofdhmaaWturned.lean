import Derived.Test.YtgncohclofdhmaaWkp2
namespace Go.Proofs.Ytgncohclofdhmaa
open Go.RowKit

theorem turn_none (g : Nat → Nat) : Turn g 0 := ⟨fun j h => absurd h (Nat.not_lt_zero j), fun j h => absurd h (Nat.not_lt_zero j), fun j _ h => absurd h (Nat.not_lt_zero j)⟩

set_option maxRecDepth 100000 in
set_option maxHeartbeats 4000000 in
theorem turned_any (a : Option Addr) (fs : List Ent) (cap : Nat) (w : World) (z : Int) (hm : fs.length ≤ 1000) (hl : ∀ e, e ∈ fs → e.body.length ≤ 600) (hz : -9223372036854775808 ≤ z) (hz2 : z ≤ 9223372036854775807) (ha : EntAt w a fs) (hg : EntGood w fs) :
    Calls Try.prog 43 #[.slice a fs.length cap, .int .i64 z] w fun e w' => ∃ v os g, e = .returned v ∧ OwnE w.heap.size w' v os ∧ EntOwn w.heap.size w' os ∧ Turn g fs.length ∧ Turned g fs os ∧ Below w.heap.size w w' := by
  obtain ⟨n, HN⟩ : ∃ n, Hid (n = fs.length) := ⟨_, rfl⟩
  rw [← HN.out] at hm ⊢
  obtain ⟨s, HS⟩ : ∃ s, Hid (s = pickN z n) := ⟨_, rfl⟩
  obtain ⟨back, HBk⟩ : ∃ back, Hid ((Int.tmod z 2 != 0) = back) := ⟨_, rfl⟩
  have HTn : Hid (Turn (turnTo n s back) n) := by
    by_cases h0 : n = 0
    · subst h0; exact turn_none _
    · refine turnTo_turn back ?_
      rw [HS.out]
      exact pickN_lt z (by omega)
  go_enter Try.func43, Try.ntmps43
  go_wp2
  go_loopw [5, 7, 8, 9] (fun v i _ _ wr => ∃ (k : Nat) (os : List Ent), k ≤ n ∧ i = .int .i64 k ∧ OwnE w.heap.size wr v os ∧ Hid (EntOwn w.heap.size wr os) ∧ Hid ((os.map fun f => (f.path, f.body)) = (List.range k).map fun j => ((fs.getD (turnTo n s back j) noEnt).path, (fs.getD (turnTo n s back j) noEnt).body)) ∧ Below w.heap.size w wr) (fun _ i _ _ _ => n - (intOf i).toNat)
  case atStart => exact ⟨0, [], by omega, rfl, OwnE.nil _ _, EntOwn.nil _ _, rfl, Below.refl _ _⟩
  case round =>
    obtain ⟨k, os, hk, rfl, ho, HG, HM, hbl⟩ := hrel
    have HL : Hid (os.length = k) := by
      have h := congrArg List.length HM.out
      simp at h
      exact h
    by_cases hkn : k < n
    · have hs : s < n := by rw [HS.out]; exact pickN_lt z (by omega)
      have HP : Hid (∀ W, Calls Try.prog 70 #[.int .i64 z, .int .i64 n] W fun e w' => e = .returned (.int .i64 (s : Nat)) ∧ w' = W) := by
        intro W
        rw [HS.out]
        exact pick_is z n W hz hz2 (by omega) (by unfold maxLen; omega)
      obtain ⟨r, HR⟩ : ∃ r, Hid (r = (k + s) % n) := ⟨_, rfl⟩
      have hr : r < n := by rw [HR.out]; exact Nat.mod_lt _ (by omega)
      have hcast : ((k : Int) + (s : Int)) % (n : Int) = (r : Int) := by rw [HR.out]; simp
      have hsn : (s : Int) < (n : Int) := by omega
      have hkn' : (k : Int) < (n : Int) := by omega
      obtain ⟨t, HTt⟩ : ∃ t, Hid (t = turnTo n s back k) := ⟨_, rfl⟩
      have htn : t < n := by rw [HTt.out]; exact HTn.out.lt k hkn
      go_wp2_with fail
      refine (HP.out _).mono ?_
      rintro e w5 ⟨rfl, rfl⟩
      go_upto_if 26 with fail
      go_cut [8, 26] (fun s8 _ wx => s8 = .int .i64 (t : Nat) ∧ wx = w5)
      case first =>
        cases back
        · have hzb : (Int.tmod z 2 != 0) = false := HBk.out
          go_wp2
          go_meet
          have ht : t = r := by rw [HTt.out, HR.out]; rfl
          exact ⟨by rw [ht, hcast], rfl⟩
        · have hzb : (Int.tmod z 2 != 0) = true := HBk.out
          go_wp2
          go_meet
          have ht : t = n - 1 - r := by rw [HTt.out, HR.out]; rfl
          exact ⟨by rw [ht]; congr 1; omega, rfl⟩
      case rest =>
        obtain ⟨rfl, rfl⟩ := hcut
        have htl : t < fs.length := by have := HN.out; omega
        obtain ⟨b, off, rfl, hc1, hc2⟩ := (ha.carry hbl) t htl
        obtain ⟨g1, g2, g3, g4⟩ := (hg.carry hbl).get t htl
        have hbm : (fs.getD t noEnt).body.length ≤ 600 := hl _ (getD_mem htl)
        have htn' : (t : Int) < (n : Int) := by omega
        have HMk : Hid ((List.range (k + 1)).map (fun j => ((fs.getD (turnTo n s back j) noEnt).path, (fs.getD (turnTo n s back j) noEnt).body)) = (List.range k).map (fun j => ((fs.getD (turnTo n s back j) noEnt).path, (fs.getD (turnTo n s back j) noEnt).body)) ++ [((fs.getD t noEnt).path, (fs.getD t noEnt).body)]) := by
          show _ = _
          rw [List.range_succ, List.map_append, HTt.out]
          rfl
        generalize fs.getD t noEnt = x at *
        unfold Ent.val at hc2
        clear hcast
        go_wp2_with fail
        refine (cut_any x.adr x.body x.cap _ (by omega) g2 g3 g1).mono ?_
        rintro e w4 ⟨v4, rfl, o4, b4⟩
        rw [List.take_of_length_le hbm] at o4
        have hbl4 := hbl.trans (b4.mono hbl.size)
        have ho4 := ho.carry b4
        have HG4 := hide (HG.out.carry b4)
        have hd1 := (b4.cell (p := ⟨b, off + t * 2, none⟩) (World.block_lt_of_cell? _ _ hc1)).trans hc1
        have o4' : Own w.heap.size w4 v4 x.body := o4.mono hbl.size
        obtain ⟨a4, k4, rfl, -, -, -⟩ := o4'.shape
        have hs1 := src_ent w4 ⟨x.path, a4, x.body, k4⟩
        unfold Ent.val at hs1
        have ho5 := ho4.alloc (.cells #[.string x.path, .slice a4 x.body.length k4] 50)
        have hbl5 := hbl4.alloc hbl4.size (.cells #[.string x.path, .slice a4 x.body.length k4] 50)
        have HG5 := hide (HG4.out.carry ((Below.refl w4.heap.size w4).alloc (Nat.le_refl _) (.cells #[.string x.path, .slice a4 x.body.length k4] 50)))
        have o5' := o4'.alloc (.cells #[.string x.path, .slice a4 x.body.length k4] 50)
        clear b4 o4 hbl ho HG HG4 g1 hc1 hc2 ho4 o4'
        go_wp2_with (at_builtin; go_must (refine wpAppE rfl (.tmp 37) (.tmp 45) rfl w.heap.size _ os rfl ho5 _ [⟨x.path, a4, x.body, k4⟩] rfl 1 hs1 (by have := HL.out; simp; omega) hbl5.size ?_))
        intro v6 w6 f6 e6 o6 gr
        have b6 := below_ownE hbl5 ho5 gr.by_ (Nat.le_refl _)
        have HG6 : Hid (EntOwn w.heap.size w6 f6) := by
          rw [e6.out]
          exact (HG5.out.grown ho5 gr.by_).more (e := ⟨x.path, a4, x.body, k4⟩) (o5'.kept gr.by_ (own_ne o5' ho5)) g4
        have HM6 : Hid ((f6.map fun f => (f.path, f.body)) = (List.range (k + 1)).map fun j => ((fs.getD (turnTo n s back j) noEnt).path, (fs.getD (turnTo n s back j) noEnt).body)) := by
          show _ = _
          rw [e6.out, HMk.out, List.map_append, HM.out]
          rfl
        clear gr hs1 ho5 hbl5 HG5 o5' hd1
        go_wp2
        go_roundw
        case rel => first | exact ⟨k + 1, f6, by omega, by go_num, o6, HG6, HM6, b6⟩ | ((repeat apply Exists.intro); exact ⟨⟨k + 1, f6, by omega, by go_num, o6, HG6, HM6, b6⟩, rfl⟩)
        case measure => simp [intOf]; omega
    · obtain rfl : k = n := by omega
      have HTd : Hid (Turned (turnTo k s back) fs os) := by
        refine ⟨by rw [HL.out, HN.out], ?_⟩
        intro j hj
        rw [← HN.out] at hj
        have h := congrArg (fun l => l[j]?) HM.out
        simp only [List.getElem?_map, List.getElem?_range hj, Option.map_some] at h
        have hjo : j < os.length := by rw [HL.out]; exact hj
        rw [List.getElem?_eq_getElem hjo, Option.map_some, Option.some.injEq, Prod.mk.injEq] at h
        rw [List.getD_eq_getElem?_getD (l := os), List.getElem?_eq_getElem hjo, Option.getD_some]
        exact h
      go_wp2
      go_ret
      exact ⟨_, os, _, rfl, ho, HG.out, HTn.out, HTd.out, hbl⟩

end Go.Proofs.Ytgncohclofdhmaa
