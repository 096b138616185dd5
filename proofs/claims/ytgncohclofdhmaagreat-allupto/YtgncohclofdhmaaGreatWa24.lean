import Derived.Test.YtgncohclofdhmaaGreatWgd
namespace Go.Proofs.YtgncohclofdhmaaGreat
open Go.RowKit
set_option linter.unusedVariables false

/-- What the document's Replace answers. -/
def RefReplKeeps : Prop := ∀ (a : Option Addr) (p : List UInt8) (cap : Nat) (w : World) (key xp : ByteArray) (xa : Option Addr) (xb : List UInt8) (xc : Nat), p.length ≤ 140737488355328 → key.size ≤ maxLen → p.length ≤ cap → cap ≤ maxLen → Bts w a p → xp.size ≤ maxLen → Bts w xa xb → xb.length ≤ xc → xc ≤ maxLen →
    Calls Tryz.prog 70 #[.slice a p.length cap, .agg #[.string xp, .slice xa xb.length xc], .string key] w fun e w' => ∃ v E q, e = .returned (.tuple #[v, .int .i64 (E : Nat), .string q]) ∧ ReplAns key p xp xb w.heap.size w' v E q ∧ Below w.heap.size w w'

/-- What 'replaced' leaves behind. -/
def ReplLeft (B gw : Nat) (dv sv bv ev : Value) (ds : List Value) (ls : List Nat) (w w' : World) : Prop :=
  ∃ (w5 w6 : World) (S : Nat) (p : Value) (ps : List UInt8) (bv' : Value) (lb : Nat) (ss : List Value) (qs : List UInt8) (E2 : Nat), Below w.heap.size w w5 ∧ Own S w5 p ps ∧ w.heap.size ≤ S ∧ S ≤ w5.heap.size ∧ WBox w6 gw dv sv bv' ev ∧ OwnL B w6 bv' (ls ++ [lb]) ∧ w6.heap[lb]? = some (.cells ss.toArray 29 (0, 0)) ∧ ss.length = 4 ∧ w5.heap.size ≤ lb ∧
    (∀ s, s ∈ ss → Out (fun k => some k = p.ownBlock ∨ (w5.heap.size ≤ k ∧ k < w6.heap.size)) w6 s ∧ Full w6 s (digN ls.length 0)) ∧ Save (fun k => k = gw ∨ some k = bv.ownBlock ∨ some k = p.ownBlock) w5 w6 ∧ (bv'.ownBlock = bv.ownBlock ∨ ∀ k, some k = bv'.ownBlock → w5.heap.size ≤ k) ∧ MoreAt B gw dv sv bv' ev ds qs E2 w6 w' ∧ qs.length ≤ 2000000

theorem ent_set1 {w : World} {g : Nat} {s : ByteArray} {v : Value} (h : w.heap[g]? = some (.cells #[.string s, v] 46 (0, 0))) (u : Value) : (w.setCell ⟨g, 1, none⟩ u).heap[g]? = some (.cells #[.string s, u] 46 (0, 0)) := set_heap h

set_option maxRecDepth 100000 in
set_option maxHeartbeats 1000000 in
theorem replaced_any (B gw n0 t : Nat) (w0 w : World) (role : Nat → Nat) (dv bv ev : Value) (ds : List Value) (ls : List Nat) (es : List Value) (sa : Option Addr) (sn sc : Nat) (E : Nat → List Ent) (ki ai bi al : Int) (s key : ByteArray) (pk : Bool) (ya : Option Addr) (xs : List UInt8) (yc g c : Nat)
    (hn0 : n0 ≤ 2000000) (ht : t < 2000000) (hB : B = w0.heap.size) (hsn : sn ≤ sc) (hscm : sc ≤ maxLen) (hS : SetsAt w0 sa sn E) (HP : ReplKeeps) (HR : RefReplKeeps) (hs : s.size ≤ maxLen) (hkey : key.size ≤ maxLen) (hbi1 : -9223372036854775808 ≤ bi) (hbi2 : bi ≤ 9223372036854775807)
    (h : AllInv B gw n0 t w0 w role dv (.slice sa sn sc) bv ev ds ls es) (hxl : xs.length ≤ 2000000) (hyb : Bts w ya xs) (hyc : xs.length ≤ yc) (hycm : yc ≤ maxLen) (hcb : Bts w (some ⟨g, 0, none⟩) xs) (hcc : xs.length ≤ c) (hccm : c ≤ maxLen) :
    Calls Tryz.prog 42 #[.pointer (some ⟨gw, 0, none⟩), .agg #[.int .i64 ki, .int .i64 ai, .int .i64 bi, .string s, .string key, .int .i64 al, .bool pk], .slice ya xs.length yc, .slice (some ⟨g, 0, none⟩) xs.length c] w fun e w' => e = .returned (.bool true) ∧ ReplLeft B gw dv (.slice sa sn sc) bv ev ds ls w w' := by
  have Ba := below_alloc w (.cells #[.int .i64 ki, .int .i64 ai, .int .i64 bi, .string s, .string key, .int .i64 al, .bool pk] 33)
  have hbx : (w.alloc (.cells #[.int .i64 ki, .int .i64 ai, .int .i64 bi, .string s, .string key, .int .i64 al, .bool pk] 33)).heap[w.heap.size]? = some (.cells #[.int .i64 ki, .int .i64 ai, .int .i64 bi, .string s, .string key, .int .i64 al, .bool pk] 33 (0, 0)) := heap_alloc_new w _
  have hsz : (w.alloc (.cells #[.int .i64 ki, .int .i64 ai, .int .i64 bi, .string s, .string key, .int .i64 al, .bool pk] 33)).heap.size = w.heap.size + 1 := by simp
  have hlt : w.heap.size < w.heap.size + 1 := Nat.lt_succ_self _
  have hll : ls.length ≤ 60000000 := by have := h.nl; omega
  have hdl : ds.length ≤ 4000000 := by have := h.nd; omega
  have c3 : (w.alloc (.cells #[.int .i64 ki, .int .i64 ai, .int .i64 bi, .string s, .string key, .int .i64 al, .bool pk] 33)).cell? ⟨w.heap.size, 3, none⟩ = some (.string s) := cell_of_row _ _ 3 _ _ _ hbx
  have Bx := below_alloc (w.alloc (.cells #[.int .i64 ki, .int .i64 ai, .int .i64 bi, .string s, .string key, .int .i64 al, .bool pk] 33)) (.cells #[.string s, .slice none 0 0] 46)
  have X2 : ((w.alloc (.cells #[.int .i64 ki, .int .i64 ai, .int .i64 bi, .string s, .string key, .int .i64 al, .bool pk] 33)).alloc (.cells #[.string s, .slice none 0 0] 46)).heap[w.heap.size + 1]? = some (.cells #[.string s, .slice none 0 0] 46 (0, 0)) := by rw [← hsz]; exact heap_alloc_new _ _
  have hbx2 := (Bx.block w.heap.size (by rw [hsz]; exact hlt)).trans hbx
  have c2 : ((w.alloc (.cells #[.int .i64 ki, .int .i64 ai, .int .i64 bi, .string s, .string key, .int .i64 al, .bool pk] 33)).alloc (.cells #[.string s, .slice none 0 0] 46)).cell? ⟨w.heap.size, 2, none⟩ = some (.int .i64 bi) := cell_of_row _ _ 2 _ _ _ hbx2
  have c4 : ((w.alloc (.cells #[.int .i64 ki, .int .i64 ai, .int .i64 bi, .string s, .string key, .int .i64 al, .bool pk] 33)).alloc (.cells #[.string s, .slice none 0 0] 46)).cell? ⟨w.heap.size, 4, none⟩ = some (.string key) := cell_of_row _ _ 4 _ _ _ hbx2
  have hxg : w.heap.size + 1 < ((w.alloc (.cells #[.int .i64 ki, .int .i64 ai, .int .i64 bi, .string s, .string key, .int .i64 al, .bool pk] 33)).alloc (.cells #[.string s, .slice none 0 0] 46)).heap.size := heap_lt X2
  have hlt2 : w.heap.size < ((w.alloc (.cells #[.int .i64 ki, .int .i64 ai, .int .i64 bi, .string s, .string key, .int .i64 al, .bool pk] 33)).alloc (.cells #[.string s, .slice none 0 0] 46)).heap.size := by omega
  have b02 : Below w.heap.size w ((w.alloc (.cells #[.int .i64 ki, .int .i64 ai, .int .i64 bi, .string s, .string key, .int .i64 al, .bool pk] 33)).alloc (.cells #[.string s, .slice none 0 0] 46)) := Ba.trans (Bx.mono Ba.size)
  have H2 := hide (h.below b02)
  have d1 := H2.out.box.c1
  have hyb2 := hyb.carry b02
  have hcb2 := hcb.carry b02
  have HS0 := hide hS
  have HP' := hide HP
  have HR' := hide HR
  have HB := hide hB
  have HW := hide h
  have HY0 := hide hyb
  have HC0 := hide hcb
  have HL0 := hide (show Below w0.heap.size w0 w from hB ▸ h.low)
  clear hbx hbx2 h Ba Bx hsz hS HP HR hyb hcb hB
  unfold maxLen at hscm
  by_cases h0 : sn = 0
  · have hsi : ¬ (0 : Int) < (sn : Int) := by omega
    go_enter Tryz.func42, Tryz.ntmps42
    go_upto_region 6 with fail
    generalize w.alloc (.cells #[.int .i64 ki, .int .i64 ai, .int .i64 bi, .string s, .string key, .int .i64 al, .bool pk] 33) = V1 at *
    generalize V1.alloc (.cells #[.string s, .slice none 0 0] 46) = W5 at *
    have b05 := b02
    have X5 := X2
    have H5 := H2
    have i4 := c4
    have hyb5 := hyb2
    have hcb5 := hcb2
    have hg5 := hxg
    obtain ⟨zs, HZ⟩ : ∃ zs : List UInt8, Hid (zs = []) := ⟨_, rfl⟩
    have HBn : Hid (zs.length = 0) := by show _ = _; rw [HZ.out]; rfl
    have hbz : Bts W5 none zs := by rw [HZ.out]; exact Bts.nil _ _
    have hzl : zs.length ≤ 2000000 := by have := HBn.out; omega
    have hzc : zs.length ≤ 0 := by have := HBn.out; omega
    have hzm : 0 ≤ maxLen := Nat.zero_le _
    clear b02 X2 H2 c4 hyb2 hcb2 hxg d1 c2 c3
    have x0 : W5.cell? ⟨(w.heap.size + 1), 0, none⟩ = some (.string s) := cell_of_row _ _ 0 _ _ _ X5
    have x1 : W5.cell? ⟨(w.heap.size + 1), 1, none⟩ = some (.slice none 0 0) := cell_of_row _ _ 1 _ _ _ X5
    have K6 := hide (roomy_any none zs 0 W5 (by omega) hbz)
    rw [HBn.out] at K6
    have hlt5 : w.heap.size < W5.heap.size := by omega
    go_wp2_with fail
    refine K6.out.mono ?_
    rintro e w6 ⟨gy, cy, rfl, hRy, b6⟩
    obtain ⟨hgl, hg2, hc1, hcm, hbz6, -, -⟩ := hRy.parts
    have X6 := (b6.block _ hg5).trans X5
    have y0 : w6.cell? ⟨(w.heap.size + 1), 0, none⟩ = some (.string s) := cell_of_row _ _ 0 _ _ _ X6
    have j4 := (b6.cell (p := ⟨w.heap.size, 4, none⟩) hlt5).trans i4
    have hg6 : (w.heap.size + 1) < w6.heap.size := Nat.lt_of_lt_of_le hg5 b6.size
    have hlt6 : w.heap.size < w6.heap.size := Nat.lt_of_lt_of_le hlt5 b6.size
    have KP := hide (HP'.out (some ⟨g, 0, none⟩) xs c w6 key s (some ⟨gy, 0, none⟩) zs cy (by omega) hkey hcc hccm (hcb5.carry b6) hs hbz6 (by omega) hcm)
    rw [HBn.out] at KP
    clear K6 x0 x1 i4 HP' hcb5
    go_wp2_with fail
    refine KP.out.mono ?_
    rintro e w7 ⟨p, E1, px, rfl, A7, b7⟩
    have X7 := (b7.block _ hg6).trans X6
    have z0 : w7.cell? ⟨(w.heap.size + 1), 0, none⟩ = some (.string s) := cell_of_row _ _ 0 _ _ _ X7
    have z1 : w7.cell? ⟨(w.heap.size + 1), 1, none⟩ = some (.slice none 0 0) := cell_of_row _ _ 1 _ _ _ X7
    have m4 := (b7.cell (p := ⟨w.heap.size, 4, none⟩) hlt6).trans j4
    have hg7 : (w.heap.size + 1) < w7.heap.size := Nat.lt_of_lt_of_le hg6 b7.size
    have HA7 := hide A7
    have b57 := b6.trans (b7.mono b6.size)
    have KR := hide (HR'.out ya xs yc w7 key s none zs 0 (by omega) hkey hyc hycm (hyb5.carry b57) hs (hbz.carry b57) hzc hzm)
    rw [HBn.out] at KR
    clear A7 KP y0 j4 HR' hyb5
    go_wp2_with fail
    refine KR.out.mono ?_
    rintro e w8 ⟨q, E2, qx, rfl, A8, b8⟩
    obtain ⟨hE12, hx12, bs, pa, qa, pc, qc, rfl, rfl, hbp, hbq, hbsl⟩ := repl_same HA7.out A8
    subst hE12 hx12
    obtain ⟨ps, o7, hpl⟩ := repl_own HA7.out
    obtain ⟨qs, o8, hql⟩ := repl_own A8
    have hbp8 := hbp.carry b8
    have X8 := (b8.block _ hg7).trans X7
    have hg8 : (w.heap.size + 1) < w8.heap.size := Nat.lt_of_lt_of_le hg7 b8.size
    clear A8 HA7 KR hbp z0 z1 m4 X7 X6 X5
    go_wp2_with fail
    refine (sameBytes_any pa qa bs bs pc qc _ (by omega) (by omega) hbp8 hbq).mono ?_
    rintro e w9 ⟨rfl, b9⟩
    rw [eqB_true]
    have X9 := (b9.block _ hg8).trans X8
    have b69 := (b7.trans (b8.mono b7.size)).trans (b9.mono (Nat.le_trans b7.size b8.size))
    have b59 := b6.trans (b69.mono b6.size)
    have o9 := (o7.carry b8).carry b9
    have q9 := o8.carry b9
    have p7 : Hid (∀ k, some k = (Value.slice pa bs.length pc).ownBlock → k < w7.heap.size) := fun k hk => (World.ownsRow.lt o7 k hk.symm).2
    have hRy9 := hRy.below b69
    have u1 : w9.cell? ⟨(w.heap.size + 1), 1, none⟩ = some (.slice none 0 0) := cell_of_row _ _ 1 _ _ _ X9
    have s56 := b6.size
    have s67 := b7.size
    have s69 := b69.size
    clear b7 b8 b9 o7 o8 hbp8 hbq b57 X8 X9
    have KS := hide (still_any W5.heap.size gy cy zs none 0 w9 (by omega) hRy9 (hbz.carry b59))
    rw [HBn.out] at KS
    go_wp2_with fail
    refine KS.out.mono ?_
    rintro e w10 ⟨rfl, S10⟩
    have b510 : Below W5.heap.size W5 w10 := b59.trans (S10.below (by omega) fun k hk e => by omega)
    have o10 := o9.saveK S10 fun k hk _ e => by
      have := (World.ownsRow.lt o9 k hk.symm).1
      omega
    have q10 := q9.saveK S10 fun k hk _ e => by
      have := (World.ownsRow.lt q9 k hk.symm).1
      omega
    have H10 := hide (H5.out.below b510)
    have b010 := b05.trans (b510.mono b05.size)
    have s10 := S10.size
    have hbs2 : Hid (bs.length = qs.length) := by
      show _ = _
      obtain ⟨_, _, e, -, -, -⟩ := q10.shape
      simp only [Value.slice.injEq] at e
      exact e.2.1
    clear KS u1 o9 q9 S10 hRy9 hRy b59 b69 hbz hbz6
    go_wp2_with fail
    refine (mine_any gw w10 dv _ bv ev w6.heap.size B _ ps ls H10.out.box H10.out.bytesR H10.out.bound o10 (by omega) (by omega)).mono ?_
    rintro e w11 ⟨⟨u, rfl⟩, bv', lb, ss, W11, L11, q1, q2, q3, q4, S11, hbv⟩
    have Q11 := q10.saveK S11 (by
      rintro k hk hu (e | e | e)
      · subst e; exact H10.out.box.not_u8 hu
      · exact H10.out.bytesR.not_u8 k e hu
      · have := p7.out k e
        have := (World.ownsRow.lt q10 k hk.symm).1
        omega)
    obtain ⟨_, _, e, hbq11, -, -⟩ := Q11.shape
    simp only [Value.slice.injEq] at e
    obtain ⟨rfl, -, rfl⟩ := e
    have D11 : OwnV 29 B w11 dv ds := H10.out.dataR.save S11 (by
      rintro k hk (e | e | e)
      · exact H10.out.dvFree k hk (.inl e)
      · exact H10.out.dvFree k hk (.inr e)
      · have := (World.ownsRow.lt o10 k e.symm).1
        have := (World.ownsRow.lt H5.out.dataR k hk.symm).2
        omega)
    have hB11 : B ≤ w11.heap.size := Nat.le_trans H10.out.bound S11.size
    have KM := hide (more_any gw w11 dv _ bv' ev B ds _ qs qc E1 W11 D11 hB11 (by omega) (by omega) hbq11)
    rw [← hbs2.out] at KM
    have HLf : Hid (∀ w12, MoreAt B gw dv (.slice sa sn sc) bv' ev ds qs E1 w11 w12 → ReplLeft B gw dv (.slice sa sn sc) bv ev ds ls w w12) := fun w12 hM =>
      ⟨w10, w11, w6.heap.size, _, ps, bv', lb, ss, qs, E1, b010, o10, Nat.le_of_lt hlt6, by omega, W11, L11, q1, q2, q3, q4, S11, hbv, hM, by omega⟩
    clear W11 L11 q1 q2 q3 q4 S11 hbv Q11 D11 o10 q10 H10
    go_wp2_with fail
    refine KM.out.mono ?_
    rintro e w12 ⟨⟨u12, rfl⟩, hM⟩
    have HE := hide (HLf.out w12 hM)
    clear hM KM HLf
    go_wp2
    go_ret
    exact ⟨rfl, HE.out⟩
  · have hsi : (0 : Int) < (sn : Int) := by omega
    have hpl := lpickN_lt bi (n := sn) (by omega)
    have HL2 := hide (show Below w0.heap.size w0 ((w.alloc (.cells #[.int .i64 ki, .int .i64 ai, .int .i64 bi, .string s, .string key, .int .i64 al, .bool pk] 33)).alloc (.cells #[.string s, .slice none 0 0] 46)) from HB.out ▸ H2.out.low)
    obtain ⟨sb, soff, ea, ec, rfl, cY0, hEA, hEG, hec, hecm, hel, hbl⟩ := HS0.out (lpickN bi sn) hpl
    have cY := (HL2.out.cell (p := ⟨sb, soff + lpickN bi sn, none⟩) (World.block_lt_of_cell? w0 _ cY0)).trans cY0
    clear cY0
    have HPk : Hid (∀ W, Calls Tryz.prog 10 #[.int .i64 bi, .int .i64 (sn : Nat)] W fun e w' => e = .returned (.int .i64 (lpickN bi sn : Nat)) ∧ w' = W) := fun W => lpick_is bi sn W hbi1 hbi2 (by omega) (by unfold maxLen; omega)
    obtain ⟨gs, Hgs⟩ : ∃ gs, Hid (gs = E (lpickN bi sn)) := ⟨_, rfl⟩
    rw [← Hgs.out] at cY hEA hEG hec hel hbl
    generalize lpickN bi sn = pn at *
    obtain ⟨gn, HGn⟩ : ∃ gn, Hid (gn = gs.length) := ⟨_, rfl⟩
    rw [← HGn.out] at cY hec hel
    have hpi : (pn : Int) < (sn : Int) := by omega
    have HEA := hide hEA
    have HEG := hide hEG
    have Hbl := hide hbl
    clear hEA hEG hbl HS0
    by_cases hg0 : gn = 0
    · have hgi : ¬ (0 : Int) < (gn : Int) := by omega
      go_enter Tryz.func42, Tryz.ntmps42
      go_upto_region 3 with fail
      generalize w.alloc (.cells #[.int .i64 ki, .int .i64 ai, .int .i64 bi, .string s, .string key, .int .i64 al, .bool pk] 33) = V1 at *
      generalize V1.alloc (.cells #[.string s, .slice none 0 0] 46) = V2 at *
      go_quiet ((go_at_call 10; exact Calls.quiet_of_same (unhide HPk _)))
      have bd := below_drewN (Below.refl V2.heap.size V2) nq
      have H3 := hide (H2.out.below bd)
      have HL3 := hide (HL2.out.trans (bd.mono HL2.out.size))
      have b03 := b02.trans (bd.mono b02.size)
      have X3 := (bd.block _ hxg).trans X2
      have k4 := (bd.cell (p := ⟨w.heap.size, 4, none⟩) hlt2).trans c4
      have hyb3 := hyb2.carry bd
      have hcb3 := hcb2.carry bd
      have hxg3 : (w.heap.size + 1) < (V2.drewN nq).heap.size := Nat.lt_of_lt_of_le hxg bd.size
      generalize V2.drewN nq = W5 at *
      clear c2 c3 c4 d1 cY HPk bd H2 HL2 X2 b02 hyb2 hcb2 hxg
      go_upto_region 6 with fail
      have X5 := X3
      have b05 := b03
      have H5 := H3
      have hyb5 := hyb3
      have hcb5 := hcb3
      have i4 := k4
      have hg5 := hxg3
      obtain ⟨zs, HZ⟩ : ∃ zs : List UInt8, Hid (zs = []) := ⟨_, rfl⟩
      have HBn : Hid (zs.length = 0) := by show _ = _; rw [HZ.out]; rfl
      have hbz : Bts W5 none zs := by rw [HZ.out]; exact Bts.nil _ _
      have hzl : zs.length ≤ 2000000 := by have := HBn.out; omega
      have hzc : zs.length ≤ 0 := by have := HBn.out; omega
      have hzm : 0 ≤ maxLen := Nat.zero_le _
      clear X3 b03 H3 hyb3 hcb3 k4 hxg3 HL3
      have x0 : W5.cell? ⟨(w.heap.size + 1), 0, none⟩ = some (.string s) := cell_of_row _ _ 0 _ _ _ X5
      have x1 : W5.cell? ⟨(w.heap.size + 1), 1, none⟩ = some (.slice none 0 0) := cell_of_row _ _ 1 _ _ _ X5
      have K6 := hide (roomy_any none zs 0 W5 (by omega) hbz)
      rw [HBn.out] at K6
      have hlt5 : w.heap.size < W5.heap.size := by omega
      go_wp2_with fail
      refine K6.out.mono ?_
      rintro e w6 ⟨gy, cy, rfl, hRy, b6⟩
      obtain ⟨hgl, hg2, hc1, hcm, hbz6, -, -⟩ := hRy.parts
      have X6 := (b6.block _ hg5).trans X5
      have y0 : w6.cell? ⟨(w.heap.size + 1), 0, none⟩ = some (.string s) := cell_of_row _ _ 0 _ _ _ X6
      have j4 := (b6.cell (p := ⟨w.heap.size, 4, none⟩) hlt5).trans i4
      have hg6 : (w.heap.size + 1) < w6.heap.size := Nat.lt_of_lt_of_le hg5 b6.size
      have hlt6 : w.heap.size < w6.heap.size := Nat.lt_of_lt_of_le hlt5 b6.size
      have KP := hide (HP'.out (some ⟨g, 0, none⟩) xs c w6 key s (some ⟨gy, 0, none⟩) zs cy (by omega) hkey hcc hccm (hcb5.carry b6) hs hbz6 (by omega) hcm)
      rw [HBn.out] at KP
      clear K6 x0 x1 i4 HP' hcb5
      go_wp2_with fail
      refine KP.out.mono ?_
      rintro e w7 ⟨p, E1, px, rfl, A7, b7⟩
      have X7 := (b7.block _ hg6).trans X6
      have z0 : w7.cell? ⟨(w.heap.size + 1), 0, none⟩ = some (.string s) := cell_of_row _ _ 0 _ _ _ X7
      have z1 : w7.cell? ⟨(w.heap.size + 1), 1, none⟩ = some (.slice none 0 0) := cell_of_row _ _ 1 _ _ _ X7
      have m4 := (b7.cell (p := ⟨w.heap.size, 4, none⟩) hlt6).trans j4
      have hg7 : (w.heap.size + 1) < w7.heap.size := Nat.lt_of_lt_of_le hg6 b7.size
      have HA7 := hide A7
      have b57 := b6.trans (b7.mono b6.size)
      have KR := hide (HR'.out ya xs yc w7 key s none zs 0 (by omega) hkey hyc hycm (hyb5.carry b57) hs (hbz.carry b57) hzc hzm)
      rw [HBn.out] at KR
      clear A7 KP y0 j4 HR' hyb5
      go_wp2_with fail
      refine KR.out.mono ?_
      rintro e w8 ⟨q, E2, qx, rfl, A8, b8⟩
      obtain ⟨hE12, hx12, bs, pa, qa, pc, qc, rfl, rfl, hbp, hbq, hbsl⟩ := repl_same HA7.out A8
      subst hE12 hx12
      obtain ⟨ps, o7, hpl⟩ := repl_own HA7.out
      obtain ⟨qs, o8, hql⟩ := repl_own A8
      have hbp8 := hbp.carry b8
      have X8 := (b8.block _ hg7).trans X7
      have hg8 : (w.heap.size + 1) < w8.heap.size := Nat.lt_of_lt_of_le hg7 b8.size
      clear A8 HA7 KR hbp z0 z1 m4 X7 X6 X5
      go_wp2_with fail
      refine (sameBytes_any pa qa bs bs pc qc _ (by omega) (by omega) hbp8 hbq).mono ?_
      rintro e w9 ⟨rfl, b9⟩
      rw [eqB_true]
      have X9 := (b9.block _ hg8).trans X8
      have b69 := (b7.trans (b8.mono b7.size)).trans (b9.mono (Nat.le_trans b7.size b8.size))
      have b59 := b6.trans (b69.mono b6.size)
      have o9 := (o7.carry b8).carry b9
      have q9 := o8.carry b9
      have p7 : Hid (∀ k, some k = (Value.slice pa bs.length pc).ownBlock → k < w7.heap.size) := fun k hk => (World.ownsRow.lt o7 k hk.symm).2
      have hRy9 := hRy.below b69
      have u1 : w9.cell? ⟨(w.heap.size + 1), 1, none⟩ = some (.slice none 0 0) := cell_of_row _ _ 1 _ _ _ X9
      have s56 := b6.size
      have s67 := b7.size
      have s69 := b69.size
      clear b7 b8 b9 o7 o8 hbp8 hbq b57 X8 X9
      have KS := hide (still_any W5.heap.size gy cy zs none 0 w9 (by omega) hRy9 (hbz.carry b59))
      rw [HBn.out] at KS
      go_wp2_with fail
      refine KS.out.mono ?_
      rintro e w10 ⟨rfl, S10⟩
      have b510 : Below W5.heap.size W5 w10 := b59.trans (S10.below (by omega) fun k hk e => by omega)
      have o10 := o9.saveK S10 fun k hk _ e => by
        have := (World.ownsRow.lt o9 k hk.symm).1
        omega
      have q10 := q9.saveK S10 fun k hk _ e => by
        have := (World.ownsRow.lt q9 k hk.symm).1
        omega
      have H10 := hide (H5.out.below b510)
      have b010 := b05.trans (b510.mono b05.size)
      have s10 := S10.size
      have hbs2 : Hid (bs.length = qs.length) := by
        show _ = _
        obtain ⟨_, _, e, -, -, -⟩ := q10.shape
        simp only [Value.slice.injEq] at e
        exact e.2.1
      clear KS u1 o9 q9 S10 hRy9 hRy b59 b69 hbz hbz6
      go_wp2_with fail
      refine (mine_any gw w10 dv _ bv ev w6.heap.size B _ ps ls H10.out.box H10.out.bytesR H10.out.bound o10 (by omega) (by omega)).mono ?_
      rintro e w11 ⟨⟨u, rfl⟩, bv', lb, ss, W11, L11, q1, q2, q3, q4, S11, hbv⟩
      have Q11 := q10.saveK S11 (by
        rintro k hk hu (e | e | e)
        · subst e; exact H10.out.box.not_u8 hu
        · exact H10.out.bytesR.not_u8 k e hu
        · have := p7.out k e
          have := (World.ownsRow.lt q10 k hk.symm).1
          omega)
      obtain ⟨_, _, e, hbq11, -, -⟩ := Q11.shape
      simp only [Value.slice.injEq] at e
      obtain ⟨rfl, -, rfl⟩ := e
      have D11 : OwnV 29 B w11 dv ds := H10.out.dataR.save S11 (by
        rintro k hk (e | e | e)
        · exact H10.out.dvFree k hk (.inl e)
        · exact H10.out.dvFree k hk (.inr e)
        · have := (World.ownsRow.lt o10 k e.symm).1
          have := (World.ownsRow.lt H5.out.dataR k hk.symm).2
          omega)
      have hB11 : B ≤ w11.heap.size := Nat.le_trans H10.out.bound S11.size
      have KM := hide (more_any gw w11 dv _ bv' ev B ds _ qs qc E1 W11 D11 hB11 (by omega) (by omega) hbq11)
      rw [← hbs2.out] at KM
      have HLf : Hid (∀ w12, MoreAt B gw dv (.slice (some ⟨sb, soff, none⟩) sn sc) bv' ev ds qs E1 w11 w12 → ReplLeft B gw dv (.slice (some ⟨sb, soff, none⟩) sn sc) bv ev ds ls w w12) := fun w12 hM =>
        ⟨w10, w11, w6.heap.size, _, ps, bv', lb, ss, qs, E1, b010, o10, Nat.le_of_lt hlt6, by omega, W11, L11, q1, q2, q3, q4, S11, hbv, hM, by omega⟩
      clear W11 L11 q1 q2 q3 q4 S11 hbv Q11 D11 o10 q10 H10
      go_wp2_with fail
      refine KM.out.mono ?_
      rintro e w12 ⟨⟨u12, rfl⟩, hM⟩
      have HE := hide (HLf.out w12 hM)
      clear hM KM HLf
      go_wp2
      go_ret
      exact ⟨rfl, HE.out⟩
    · have hgi : (0 : Int) < (gn : Int) := by omega
      have hgl0 : 0 < gs.length := by have := HGn.out; omega
      obtain ⟨eb, eo, rfl, e0, e1⟩ := HEA.out 0 hgl0
      have hmem : gs.getD 0 noEnt ∈ gs := by
        rw [List.getD_eq_getElem?_getD, List.getElem?_eq_getElem hgl0]
        exact List.getElem_mem hgl0
      obtain ⟨hg1, hg2, hg3, -⟩ := HEG.out _ hmem
      have hg4 := Hbl.out _ hmem
      generalize gs.getD 0 noEnt = xe at *
      unfold Ent.val at e1
      obtain ⟨xpath, xa, zs, xc⟩ := xe
      simp only at e0 e1 hg1 hg2 hg3 hg4
      obtain ⟨bn, HBn'⟩ : ∃ bn, Hid (bn = zs.length) := ⟨_, rfl⟩
      rw [← HBn'.out] at e1
      have HBn : Hid (zs.length = bn) := HBn'.out.symm
      clear HBn'
      have He1 := hide e1
      have Hg1 := hide hg1
      clear e0 e1 hg1 hmem
      go_enter Tryz.func42, Tryz.ntmps42
      go_upto_region 3 with fail
      generalize w.alloc (.cells #[.int .i64 ki, .int .i64 ai, .int .i64 bi, .string s, .string key, .int .i64 al, .bool pk] 33) = V1 at *
      generalize V1.alloc (.cells #[.string s, .slice none 0 0] 46) = V2 at *
      go_quiet ((go_at_call 10; exact Calls.quiet_of_same (unhide HPk _)))
      have bd := below_drewN (Below.refl V2.heap.size V2) nq
      have H3 := hide (H2.out.below bd)
      have HL3 := hide (HL2.out.trans (bd.mono HL2.out.size))
      have b03 := b02.trans (bd.mono b02.size)
      have X3 := (bd.block _ hxg).trans X2
      have k4 := (bd.cell (p := ⟨w.heap.size, 4, none⟩) hlt2).trans c4
      have hyb3 := hyb2.carry bd
      have hcb3 := hcb2.carry bd
      have hxg3 : (w.heap.size + 1) < (V2.drewN nq).heap.size := Nat.lt_of_lt_of_le hxg bd.size
      generalize V2.drewN nq = W3 at *
      clear c2 c3 c4 d1 cY HPk bd H2 HL2 X2 b02 hyb2 hcb2 hxg
      have e1 := (HL3.out.cell (p := ⟨eb, eo + 0 * 2 + 1, none⟩) (World.block_lt_of_cell? w0 _ He1.out)).trans He1.out
      simp only [Nat.zero_mul, Nat.add_zero] at e1
      have x1 : W3.cell? ⟨(w.heap.size + 1), 1, none⟩ = some (.slice none 0 0) := cell_of_row _ _ 1 _ _ _ X3
      have fx1 : W3.frozen? ⟨(w.heap.size + 1), 1, none⟩ = false := by simp [World.frozen?, X3]
      have X5 := ent_set1 X3 (.slice xa bn xc)
      have hwV : w.heap.size ≤ (w.heap.size + 1) := Nat.le_of_lt hlt
      have b35 : Below (w.heap.size + 1) W3 (W3.setCell ⟨(w.heap.size + 1), 1, none⟩ (.slice xa bn xc)) := (Below.refl _ _).setCell (p := ⟨(w.heap.size + 1), 1, none⟩) (Nat.le_refl _) (.slice xa bn xc)
      have b05 := b03.trans (b35.mono hwV)
      have H5 := hide (HW.out.below b05)
      have HL5 := hide (HL0.out.trans (b05.mono HL0.out.size))
      have hbz := Hg1.out.carry HL5.out
      have i4 := (b35.cell (p := ⟨w.heap.size, 4, none⟩) hlt).trans k4
      have hyb5 := HY0.out.carry b05
      have hcb5 := HC0.out.carry b05
      have hzl : zs.length ≤ 2000000 := hg4
      have hzc : zs.length ≤ xc := hg2
      have hzm : xc ≤ maxLen := hg3
      have hg5 : (w.heap.size + 1) < (W3.setCell ⟨(w.heap.size + 1), 1, none⟩ (.slice xa bn xc)).heap.size := Nat.lt_of_lt_of_le hxg3 b35.size
      clear b03 H3 hyb3 hcb3 hg2 hg3 hg4 HL5 He1 b35
      go_upto_region 6 with fail
      generalize W3.setCell ⟨(w.heap.size + 1), 1, none⟩ (.slice xa bn xc) = W5 at *
      clear X3 k4 e1 x1 fx1
      have x0 : W5.cell? ⟨(w.heap.size + 1), 0, none⟩ = some (.string s) := cell_of_row _ _ 0 _ _ _ X5
      have x1 : W5.cell? ⟨(w.heap.size + 1), 1, none⟩ = some (.slice xa bn xc) := cell_of_row _ _ 1 _ _ _ X5
      have K6 := hide (roomy_any xa zs xc W5 (by omega) hbz)
      rw [HBn.out] at K6
      have hlt5 : w.heap.size < W5.heap.size := by omega
      go_wp2_with fail
      refine K6.out.mono ?_
      rintro e w6 ⟨gy, cy, rfl, hRy, b6⟩
      obtain ⟨hgl, hg2, hc1, hcm, hbz6, -, -⟩ := hRy.parts
      have X6 := (b6.block _ hg5).trans X5
      have y0 : w6.cell? ⟨(w.heap.size + 1), 0, none⟩ = some (.string s) := cell_of_row _ _ 0 _ _ _ X6
      have j4 := (b6.cell (p := ⟨w.heap.size, 4, none⟩) hlt5).trans i4
      have hg6 : (w.heap.size + 1) < w6.heap.size := Nat.lt_of_lt_of_le hg5 b6.size
      have hlt6 : w.heap.size < w6.heap.size := Nat.lt_of_lt_of_le hlt5 b6.size
      have KP := hide (HP'.out (some ⟨g, 0, none⟩) xs c w6 key s (some ⟨gy, 0, none⟩) zs cy (by omega) hkey hcc hccm (hcb5.carry b6) hs hbz6 (by omega) hcm)
      rw [HBn.out] at KP
      clear K6 x0 x1 i4 HP' hcb5
      go_wp2_with fail
      refine KP.out.mono ?_
      rintro e w7 ⟨p, E1, px, rfl, A7, b7⟩
      have X7 := (b7.block _ hg6).trans X6
      have z0 : w7.cell? ⟨(w.heap.size + 1), 0, none⟩ = some (.string s) := cell_of_row _ _ 0 _ _ _ X7
      have z1 : w7.cell? ⟨(w.heap.size + 1), 1, none⟩ = some (.slice xa bn xc) := cell_of_row _ _ 1 _ _ _ X7
      have m4 := (b7.cell (p := ⟨w.heap.size, 4, none⟩) hlt6).trans j4
      have hg7 : (w.heap.size + 1) < w7.heap.size := Nat.lt_of_lt_of_le hg6 b7.size
      have HA7 := hide A7
      have b57 := b6.trans (b7.mono b6.size)
      have KR := hide (HR'.out ya xs yc w7 key s xa zs xc (by omega) hkey hyc hycm (hyb5.carry b57) hs (hbz.carry b57) hzc hzm)
      rw [HBn.out] at KR
      clear A7 KP y0 j4 HR' hyb5
      go_wp2_with fail
      refine KR.out.mono ?_
      rintro e w8 ⟨q, E2, qx, rfl, A8, b8⟩
      obtain ⟨hE12, hx12, bs, pa, qa, pc, qc, rfl, rfl, hbp, hbq, hbsl⟩ := repl_same HA7.out A8
      subst hE12 hx12
      obtain ⟨ps, o7, hpl⟩ := repl_own HA7.out
      obtain ⟨qs, o8, hql⟩ := repl_own A8
      have hbp8 := hbp.carry b8
      have X8 := (b8.block _ hg7).trans X7
      have hg8 : (w.heap.size + 1) < w8.heap.size := Nat.lt_of_lt_of_le hg7 b8.size
      clear A8 HA7 KR hbp z0 z1 m4 X7 X6 X5
      go_wp2_with fail
      refine (sameBytes_any pa qa bs bs pc qc _ (by omega) (by omega) hbp8 hbq).mono ?_
      rintro e w9 ⟨rfl, b9⟩
      rw [eqB_true]
      have X9 := (b9.block _ hg8).trans X8
      have b69 := (b7.trans (b8.mono b7.size)).trans (b9.mono (Nat.le_trans b7.size b8.size))
      have b59 := b6.trans (b69.mono b6.size)
      have o9 := (o7.carry b8).carry b9
      have q9 := o8.carry b9
      have p7 : Hid (∀ k, some k = (Value.slice pa bs.length pc).ownBlock → k < w7.heap.size) := fun k hk => (World.ownsRow.lt o7 k hk.symm).2
      have hRy9 := hRy.below b69
      have u1 : w9.cell? ⟨(w.heap.size + 1), 1, none⟩ = some (.slice xa bn xc) := cell_of_row _ _ 1 _ _ _ X9
      have s56 := b6.size
      have s67 := b7.size
      have s69 := b69.size
      clear b7 b8 b9 o7 o8 hbp8 hbq b57 X8 X9
      have KS := hide (still_any W5.heap.size gy cy zs xa xc w9 (by omega) hRy9 (hbz.carry b59))
      rw [HBn.out] at KS
      go_wp2_with fail
      refine KS.out.mono ?_
      rintro e w10 ⟨rfl, S10⟩
      have b510 : Below W5.heap.size W5 w10 := b59.trans (S10.below (by omega) fun k hk e => by omega)
      have o10 := o9.saveK S10 fun k hk _ e => by
        have := (World.ownsRow.lt o9 k hk.symm).1
        omega
      have q10 := q9.saveK S10 fun k hk _ e => by
        have := (World.ownsRow.lt q9 k hk.symm).1
        omega
      have H10 := hide (H5.out.below b510)
      have b010 := b05.trans (b510.mono b05.size)
      have s10 := S10.size
      have hbs2 : Hid (bs.length = qs.length) := by
        show _ = _
        obtain ⟨_, _, e, -, -, -⟩ := q10.shape
        simp only [Value.slice.injEq] at e
        exact e.2.1
      clear KS u1 o9 q9 S10 hRy9 hRy b59 b69 hbz hbz6
      go_wp2_with fail
      refine (mine_any gw w10 dv _ bv ev w6.heap.size B _ ps ls H10.out.box H10.out.bytesR H10.out.bound o10 (by omega) (by omega)).mono ?_
      rintro e w11 ⟨⟨u, rfl⟩, bv', lb, ss, W11, L11, q1, q2, q3, q4, S11, hbv⟩
      have Q11 := q10.saveK S11 (by
        rintro k hk hu (e | e | e)
        · subst e; exact H10.out.box.not_u8 hu
        · exact H10.out.bytesR.not_u8 k e hu
        · have := p7.out k e
          have := (World.ownsRow.lt q10 k hk.symm).1
          omega)
      obtain ⟨_, _, e, hbq11, -, -⟩ := Q11.shape
      simp only [Value.slice.injEq] at e
      obtain ⟨rfl, -, rfl⟩ := e
      have D11 : OwnV 29 B w11 dv ds := H10.out.dataR.save S11 (by
        rintro k hk (e | e | e)
        · exact H10.out.dvFree k hk (.inl e)
        · exact H10.out.dvFree k hk (.inr e)
        · have := (World.ownsRow.lt o10 k e.symm).1
          have := (World.ownsRow.lt H5.out.dataR k hk.symm).2
          omega)
      have hB11 : B ≤ w11.heap.size := Nat.le_trans H10.out.bound S11.size
      have KM := hide (more_any gw w11 dv _ bv' ev B ds _ qs qc E1 W11 D11 hB11 (by omega) (by omega) hbq11)
      rw [← hbs2.out] at KM
      have HLf : Hid (∀ w12, MoreAt B gw dv (.slice (some ⟨sb, soff, none⟩) sn sc) bv' ev ds qs E1 w11 w12 → ReplLeft B gw dv (.slice (some ⟨sb, soff, none⟩) sn sc) bv ev ds ls w w12) := fun w12 hM =>
        ⟨w10, w11, w6.heap.size, _, ps, bv', lb, ss, qs, E1, b010, o10, Nat.le_of_lt hlt6, by omega, W11, L11, q1, q2, q3, q4, S11, hbv, hM, by omega⟩
      clear W11 L11 q1 q2 q3 q4 S11 hbv Q11 D11 o10 q10 H10
      go_wp2_with fail
      refine KM.out.mono ?_
      rintro e w12 ⟨⟨u12, rfl⟩, hM⟩
      have HE := hide (HLf.out w12 hM)
      clear hM KM HLf
      go_wp2
      go_ret
      exact ⟨rfl, HE.out⟩

end Go.Proofs.YtgncohclofdhmaaGreat
