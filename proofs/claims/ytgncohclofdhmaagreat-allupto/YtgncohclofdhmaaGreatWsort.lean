import Derived.Test.YtgncohclofdhmaaGreatWent1
import Derived.Test.YtgncohclofdhmaaGreatWsma
import Derived.Test.YtgncohclofdhmaaGreatWbld1
import Derived.Test.YtgncohclofdhmaaGreatMall
namespace Go.Proofs.YtgncohclofdhmaaGreat
open Go.RowKit

theorem ownE_ne {B B' : Nat} {w : World} {v u : Value} {bs : List Bool} {es : List Ent} (h : OwnB B w v bs) (k : OwnE B' w u es) : v.ownBlock = none ∨ v.ownBlock ≠ u.ownBlock := by
  rcases h.2 with ⟨rfl, _⟩ | ⟨g, cap, cur, rfl, _, hg, _⟩
  · exact .inl rfl
  · right
    rcases k.2 with ⟨rfl, _⟩ | ⟨g', cap', cur', rfl, _, hg', _⟩
    · simp [Value.ownBlock]
    · intro e
      simp [Value.ownBlock] at e
      subst e
      rw [hg] at hg'
      simp at hg'

theorem OwnB.kept {B : Nat} {w w' : World} {v : Value} {bs : List Bool} {row : Option Nat} (h : OwnB B w v bs) (hg : w.grownBy w' row) (hne : v.ownBlock = none ∨ v.ownBlock ≠ row) : OwnB B w' v bs := World.ownsRow.kept h hg hne

theorem OwnE.kept {B : Nat} {w w' : World} {v : Value} {es : List Ent} {row : Option Nat} (h : OwnE B w v es) (hg : w.grownBy w' row) (hne : v.ownBlock = none ∨ v.ownBlock ≠ row) : OwnE B w' v es := World.ownsRow.kept h hg hne

theorem OwnB.carry {B : Nat} {w w' : World} {v : Value} {bs : List Bool} (h : OwnB B w v bs) (hb : Below w.heap.size w w') : OwnB B w' v bs := by
  refine ⟨h.1, ?_⟩
  rcases h.2 with ⟨rfl, hn⟩ | ⟨g, cap, cur, rfl, hbg, hg, hnc, hcm, hcs, htake⟩
  · exact .inl ⟨rfl, hn⟩
  · have hlt : g < w.heap.size := by
      by_cases hh : g < w.heap.size
      · exact hh
      · rw [Array.getElem?_eq_none (by omega)] at hg; simp at hg
    exact .inr ⟨g, cap, cur, rfl, hbg, (hb.block g hlt).trans hg, hnc, hcm, hcs, htake⟩

/-- A mark is set: the entries stay. -/
theorem ownE_set {B B' : Nat} {w : World} {bs : List Bool} {es : List Ent} {u : Value} {g n cap j : Nat} {x : Bool} (k : OwnE B' w u es) (h : OwnB B w (.slice (some ⟨g, 0, none⟩) n cap) bs) (hn : n = bs.length) : OwnE B' (w.setCell ⟨g, j, none⟩ (.bool x)) u es := by
  subst hn
  have hg := (World.ownsRow.stored h j (.bool x)).2
  refine k.kept hg ?_
  rcases ownE_ne h k with e | e
  · simp [Value.ownBlock] at e
  · right
    intro e2
    exact e e2.symm

set_option maxRecDepth 100000 in
set_option maxHeartbeats 2000000 in
theorem sorted_any (a : Option Addr) (es : List Ent) (cap : Nat) (w : World) (hm : es.length ≤ 1000000) (ha : EntAt w a es) (hg : EntGood w es) :
    Calls Tryz.prog 80 #[.slice a es.length cap] w fun e w' => ∃ v ix, e = .returned v ∧ OwnE w.heap.size w' v (ix.map fun i => es.getD i noEnt) ∧ Chosen (fun i => (es.getD i noEnt).path.data.toList) es.length ix ∧ ix.length = es.length ∧ Below w.heap.size w w' := by
  obtain ⟨i0, hi, hz0, hz1, hz2⟩ := info_parts Tryz.info4
  obtain ⟨n, HN⟩ : ∃ n, Hid (n = es.length) := ⟨_, rfl⟩
  rw [← HN.out] at hm ⊢
  go_enter Tryz.func80, Tryz.ntmps80
  go_wp2_with (at_make; go_must (refine wpList_make_full _ rfl (.tmp 9) (.tmp 9) 82 rfl w.heap.size 4 i0 (.bool false) 1 Tryz.underlying82 hi hz0 hz1 .i64 .i64 n n n rfl rfl rfl rfl (by rw [hz2]; omega) (by unfold maxLen; omega) (Nat.le_refl _) ?_))
  intro w1 h1 g1
  have b1 : Below w.heap.size w w1 := (Below.refl _ _).grown g1 (Nat.le_refl _) (fun k hk => by cases hk)
  have o1 : OwnB w.heap.size w1 (.slice (some ⟨w.heap.size, 0, none⟩) n n) (List.replicate n false) := by
    have e : (madeCells #[Value.bool false] n).toList = (List.replicate n false).map Value.bool := by
      rw [List.map_replicate]
      exact toList_madeCells_one (.bool false) n
    unfold OwnB
    rw [← e, List.length_replicate]
    simpa using h1
  clear h1 g1 hi hz0 hz1 hz2
  go_wp2
  go_loopw [3, 5, 6, 7, 13] (fun v _ _ _ c wr => ∃ (t : Nat) (ix : List Nat) (bs : List Bool), t ≤ n ∧ c = .int .i64 t ∧ Hid (ix.length = t) ∧ Hid (Chosen (fun i => (es.getD i noEnt).path.data.toList) n ix) ∧ OwnE w.heap.size wr v (ix.map fun i => es.getD i noEnt) ∧
      OwnB w.heap.size wr (.slice (some ⟨w.heap.size, 0, none⟩) n n) bs ∧ Hid (bs.length = n) ∧ Hid (∀ j, j < n → (bs.getD j false = true ↔ j ∈ ix)) ∧ Below w.heap.size w wr) (fun _ _ _ _ c _ => n - (intOf c).toNat)
  case atStart => exact ⟨0, [], List.replicate n false, by omega, rfl, rfl, Chosen.nil _ _, OwnE.nil _ _, o1, by simp [Hid], by intro j hj; simp [hj], b1⟩
  clear o1 b1
  case round =>
    obtain ⟨t, ix, bs, ht, rfl, HL, HC, ho, hob, HBl, HB, hbl⟩ := hrel
    by_cases htn : t < n
    · go_wp2
      go_loopw [5, 6, 7] (fun b i _ wq => ∃ (k : Nat) (z : Int), k ≤ n ∧ i = .int .i64 k ∧ b = .int .i64 z ∧ -1 ≤ z ∧ z < k ∧ Hid (z < 0 → ∀ j, j < k → j ∈ ix) ∧ Hid (0 ≤ z → z.toNat ∉ ix ∧ ∀ j, j < k → j ∉ ix → lexB (es.getD j noEnt).path.data.toList (es.getD z.toNat noEnt).path.data.toList = false) ∧ Below wr.heap.size wr wq) (fun _ i _ _ => n - (intOf i).toNat)
      case atStart => exact ⟨0, -1, by omega, rfl, rfl, by omega, by omega, fun _ j hj => absurd hj (Nat.not_lt_zero j), fun h => by omega, Below.refl _ _⟩
      case round =>
        obtain ⟨k, z, hk, rfl, rfl, hz1, hz2, HZ1, HZ2, hbq⟩ := hrel
        have hblq := hbl.trans (hbq.mono hbl.size)
        have hobq := hob.carry hbq
        by_cases hkn : k < n
        · have hck := hobq.cellAt HBl.out.symm k (by have := HBl.out; omega)
          have HBk := hide (HB.out k hkn)
          cases hbk : bs.getD k false
          · rw [hbk] at hck HBk
            have HNk : Hid (k ∉ ix) := by intro h; have := HBk.out.2 h; simp at this
            by_cases hz0 : z < 0
            · have HZ3 : Hid ((0 : Int) ≤ (k : Int) → (k : Int).toNat ∉ ix ∧ ∀ j, j < k + 1 → j ∉ ix → lexB (es.getD j noEnt).path.data.toList (es.getD (k : Int).toNat noEnt).path.data.toList = false) := by
                intro _
                refine ⟨by simpa using HNk.out, ?_⟩
                intro j hj hm
                by_cases e : j = k
                · subst e; simp only [Int.toNat_natCast]; exact lexB_irrefl _
                · exact absurd (HZ1.out hz0 j (by omega)) hm
              clear hbk
              go_wp2
              go_roundw
              case rel => first | exact ⟨k + 1, k, by omega, by go_num, rfl, by omega, by omega, fun h => by omega, HZ3, hbq⟩ | ((repeat apply Exists.intro); exact ⟨⟨k + 1, k, by omega, by go_num, rfl, by omega, by omega, fun h => by omega, HZ3, hbq⟩, rfl⟩)
              case measure => simp [intOf]; omega
            · obtain ⟨zn, rfl⟩ : ∃ zn : Nat, z = zn := ⟨z.toNat, by omega⟩
              obtain ⟨hz3, HZ4⟩ := HZ2.out (by omega)
              rw [Int.toNat_natCast] at hz3 HZ4
              have HZ5 := hide HZ4
              clear HZ4
              obtain ⟨b, off, rfl, hc1, -⟩ := (ha.carry hblq) k (by have := HN.out; omega)
              obtain ⟨b', off', e', hc2, -⟩ := (ha.carry hblq) zn (by have := HN.out; omega)
              simp only [Option.some.injEq, Addr.mk.injEq, and_true] at e'
              obtain ⟨rfl, rfl⟩ := e'
              obtain ⟨_, _, _, hp1⟩ := hg.get k (by have := HN.out; omega)
              obtain ⟨_, _, _, hp2⟩ := hg.get zn (by have := HN.out; omega)
              have hzn : (zn : Int) < (n : Int) := by omega
              have hkn' : (k : Int) < (n : Int) := by omega
              have HBF : Hid (∀ W, Calls Tryz.prog 78 #[.string (es.getD k noEnt).path, .string (es.getD zn noEnt).path] W fun e w' => e = .returned (.bool (lexB (es.getD k noEnt).path.data.toList (es.getD zn noEnt).path.data.toList)) ∧ ∃ n, w' = W.drewN n) := fun W => before_any _ _ W hp1 hp2
              generalize hx : (es.getD k noEnt).path = px at *
              generalize hy : (es.getD zn noEnt).path = py at *
              generalize hl : lexB px.data.toList py.data.toList = lb at *
              have HX := hide hx
              have HY := hide hy
              have HLb := hide hl
              clear hx hy hl
              go_wp2
              go_quiet ((go_at_call 78; exact Calls.quiet_of (unhide HBF _)))
              cases lb
              · have HZ6 : Hid ((0 : Int) ≤ (zn : Int) → (zn : Int).toNat ∉ ix ∧ ∀ j, j < k + 1 → j ∉ ix → lexB (es.getD j noEnt).path.data.toList (es.getD (zn : Int).toNat noEnt).path.data.toList = false) := by
                  intro _
                  rw [Int.toNat_natCast]
                  refine ⟨hz3, ?_⟩
                  intro j hj hm
                  by_cases e : j = k
                  · subst e; rw [HX.out, HY.out]; exact HLb.out
                  · rw [HY.out]; exact HZ5.out j (by omega) hm
                go_wp2
                go_roundw
                case rel => first | exact ⟨k + 1, zn, by omega, by go_num, rfl, by omega, by omega, fun h => by omega, HZ6, below_drewN hbq nq⟩ | ((repeat apply Exists.intro); exact ⟨⟨k + 1, zn, by omega, by go_num, rfl, by omega, by omega, fun h => by omega, HZ6, below_drewN hbq nq⟩, rfl⟩)
                case measure => simp [intOf]; omega
              · have HZ6 : Hid ((0 : Int) ≤ (k : Int) → (k : Int).toNat ∉ ix ∧ ∀ j, j < k + 1 → j ∉ ix → lexB (es.getD j noEnt).path.data.toList (es.getD (k : Int).toNat noEnt).path.data.toList = false) := by
                  intro _
                  rw [Int.toNat_natCast]
                  refine ⟨HNk.out, ?_⟩
                  intro j hj hm
                  by_cases e : j = k
                  · subst e; exact lexB_irrefl _
                  · have h := HZ5.out j (by omega) hm
                    rw [HX.out]
                    exact lexB_le _ _ _ HLb.out h
                go_wp2
                go_roundw
                case rel => first | exact ⟨k + 1, k, by omega, by go_num, rfl, by omega, by omega, fun h => by omega, HZ6, below_drewN hbq nq⟩ | ((repeat apply Exists.intro); exact ⟨⟨k + 1, k, by omega, by go_num, rfl, by omega, by omega, fun h => by omega, HZ6, below_drewN hbq nq⟩, rfl⟩)
                case measure => simp [intOf]; omega
          · rw [hbk] at hck HBk
            have HNk : Hid (k ∈ ix) := HBk.out.1 rfl
            have HZ3 : Hid (z < 0 → ∀ j, j < k + 1 → j ∈ ix) := by
              intro h j hj
              by_cases e : j = k
              · subst e; exact HNk.out
              · exact HZ1.out h j (by omega)
            have HZ4 : Hid (0 ≤ z → z.toNat ∉ ix ∧ ∀ j, j < k + 1 → j ∉ ix → lexB (es.getD j noEnt).path.data.toList (es.getD z.toNat noEnt).path.data.toList = false) := by
              intro h
              refine ⟨(HZ2.out h).1, ?_⟩
              intro j hj hm
              by_cases e : j = k
              · subst e; exact absurd HNk.out hm
              · exact (HZ2.out h).2 j (by omega) hm
            clear hbk
            go_wp2
            go_roundw
            case rel => first | exact ⟨k + 1, z, by omega, by go_num, rfl, by omega, by omega, HZ3, HZ4, hbq⟩ | ((repeat apply Exists.intro); exact ⟨⟨k + 1, z, by omega, by go_num, rfl, by omega, by omega, HZ3, HZ4, hbq⟩, rfl⟩)
            case measure => simp [intOf]; omega
        · have hz0 : 0 ≤ z := by
            obtain ⟨j, hj, hm⟩ := free_one n ix (by have := HL.out; omega)
            by_cases h : z < 0
            · exact absurd (HZ1.out h j (by omega)) hm
            · omega
          obtain ⟨zn, rfl⟩ : ∃ zn : Nat, z = zn := ⟨z.toNat, by omega⟩
          obtain ⟨hz3, HZ4⟩ := HZ2.out (by omega)
          rw [Int.toNat_natCast] at hz3 HZ4
          have hzn : zn < n := by omega
          have HC2 := hide (HC.out.more hzn hz3 (fun j hj hm => HZ4 j (by omega) hm))
          have hce := hobq.cellAt HBl.out.symm zn (by have := HBl.out; omega)
          have hfr := hobq.frozenAt HBl.out.symm zn
          have hst := hobq.stored HBl.out.symm zn true
          have hoq := ho.carry hbq
          have hos := ownE_set (j := zn) (x := true) hoq hobq HBl.out.symm
          have hbs : Below w.heap.size w (wr.setCell ⟨w.heap.size, zn, none⟩ (.bool true)) := hblq.setCell (Nat.le_refl _) _
          have HB2 : Hid (∀ j, j < n → ((bs.set zn true).getD j false = true ↔ j ∈ ix ++ [zn])) := by
            intro j hj
            have h := HB.out j hj
            rw [List.getD_eq_getElem?_getD, List.getElem?_set]
            by_cases e : zn = j
            · subst e
              have : zn < bs.length := by rw [HBl.out]; exact hj
              simp [this]
            · rw [if_neg e, ← List.getD_eq_getElem?_getD, h]
              simp
              intro e2
              exact absurd e2.symm e
          have HBl2 : Hid ((bs.set zn true).length = n) := by show _ = _; rw [List.length_set]; exact HBl.out
          obtain ⟨b, off, rfl, hc1, hc2⟩ := (ha.carry hbs) zn (by have := HN.out; omega)
          unfold Ent.val at hc2
          have hs1 := src_ent (wr.setCell ⟨w.heap.size, zn, none⟩ (.bool true)) (es.getD zn noEnt)
          unfold Ent.val at hs1
          have HE : Hid ((ix ++ [zn]).map (fun i => es.getD i noEnt) = (ix.map fun i => es.getD i noEnt) ++ [es.getD zn noEnt]) := by simp [Hid]
          generalize es.getD zn noEnt = x at *
          generalize bs.set zn true = bs2 at *
          generalize hfs : (ix.map fun i => es.getD i noEnt) = fs at *
          have HFS := hide hfs
          clear hfs HZ1 HZ2 HZ4 HB ho hob hobq hoq
          have HFl : Hid (fs.length ≤ n) := by
            have := HL.out
            show _ ≤ _
            rw [← HFS.out, List.length_map]
            omega
          have hzi : (zn : Int) < (n : Int) := by omega
          have esz : (wr.setCell ⟨w.heap.size, zn, none⟩ (.bool true)).heap.size = wr.heap.size := by simp
          rw [esz] at hs1
          clear esz
          have hoa := hos.alloc (.cells #[.string x.path, .slice x.adr x.body.length x.cap] 46)
          have hsa : OwnB w.heap.size ((wr.setCell ⟨w.heap.size, zn, none⟩ (.bool true)).alloc (.cells #[.string x.path, .slice x.adr x.body.length x.cap] 46)) (.slice (some ⟨w.heap.size, 0, none⟩) n n) bs2 := World.ownsRow.alloc hst _
          have hba := hbs.alloc hbs.size (.cells #[.string x.path, .slice x.adr x.body.length x.cap] 46)
          clear hos hst hbs
          go_wp2_with (at_builtin; go_must (refine wpAppE rfl (.tmp 44) (.tmp 49) rfl w.heap.size _ fs rfl hoa _ [x] rfl 1 hs1 (by have := HFl.out; simp; omega) hba.size ?_))
          intro v3 w3 f3 e3 o3 gr
          have b3 := below_ownE hba hoa gr.by_ (Nat.le_refl _)
          have ob3 := hsa.kept gr.by_ (ownE_ne hsa hoa)
          have HL2 : Hid ((ix ++ [zn]).length = t + 1) := by have := HL.out; show _ = _; simp; omega
          have o3' : OwnE w.heap.size w3 v3 ((ix ++ [zn]).map fun i => es.getD i noEnt) := by rw [HE.out, ← e3.out]; exact o3
          generalize ix ++ [zn] = ix2 at *
          clear gr hoa hsa hba hs1 o3 e3 hc1 hc2 hce hfr
          go_wp2
          go_roundw
          case rel => first | exact ⟨t + 1, ix2, bs2, by omega, by go_num, HL2, HC2, o3', ob3, HBl2, HB2, b3⟩ | ((repeat apply Exists.intro); exact ⟨⟨t + 1, ix2, bs2, by omega, by go_num, HL2, HC2, o3', ob3, HBl2, HB2, b3⟩, rfl⟩)
          case measure => simp [intOf]; omega
    · have HE : Hid (ix.length = n) := by have := HL.out; show _ = _; omega
      go_wp2
      go_ret
      refine ⟨_, ix, rfl, ho, HC.out, HE.out, hbl⟩

end Go.Proofs.YtgncohclofdhmaaGreat
