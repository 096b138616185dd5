import Derived.Test.YtgncohclofdhmabWund0
import Derived.Test.YtgncohclofdhmabWkp2
import Derived.Test.YtgncohclofdhmabWkp1
import Derived.Test.YtgncohclofdhmabWcut
import Derived.Test.YtgncohclofdhmabWrdb
import Derived.Test.YtgncohclofdhmabWsame2
import Derived.Test.YtgncohclofdhmabWkst
import Derived.Deep.DeepCutAuto
import Derived.Deep.QuietTactic
import Derived.BigQuiet
namespace Go.Proofs.Ytgncohclofdhmab
open Go.RowKit

/-- What is carried along. -/
structure Und (w : World) (C X : Nat) (x1 : ByteArray) (xa : Option Addr) (xb : List UInt8) (xc : Nat) (pa : Option Addr) (M : List UInt8) (sa : Option Addr) (fs : List Ent) : Prop where
  key : w.cell? ⟨C, 0, none⟩ = some (.string x1)
  box : EBox w X newP (.slice xa xb.length xc)
  body : Bts w xa xb
  pm : Bts w pa M
  at_ : EntAt w sa fs
  good : EntGood w fs

theorem Und.carry {w w' : World} {C X : Nat} {x1 : ByteArray} {xa : Option Addr} {xb : List UInt8} {xc : Nat} {pa : Option Addr} {M : List UInt8} {sa : Option Addr} {fs : List Ent} (h : Und w C X x1 xa xb xc pa M sa fs) (b : Below w.heap.size w w') : Und w' C X x1 xa xb xc pa M sa fs :=
  ⟨(b.cell (p := ⟨C, 0, none⟩) (World.block_lt_of_cell? w _ h.key)).trans h.key, h.box.carry b, h.body.carry b, h.pm.carry b, h.at_.carry b, h.good.carry b⟩

theorem Own.either {B : Nat} {w : World} {v : Value} {xs : List UInt8} (h : Own B w v xs) : (v = .slice none 0 0 ∧ xs = []) ∨ ∃ g c, v = .slice (some ⟨g, 0, none⟩) xs.length c ∧ xs.length ≤ c ∧ c ≤ maxLen := by
  rcases h.2 with ⟨rfl, hn⟩ | ⟨g, cap, cur, rfl, hbg, hg, hnc, hcm, hcs, htake⟩
  · exact .inl ⟨rfl, List.eq_nil_of_length_eq_zero hn⟩
  · exact .inr ⟨g, cap, rfl, hnc, hcm⟩

set_option maxRecDepth 100000 in
set_option maxHeartbeats 8000000 in
theorem Undone_walk (HR : ReplKeeps) (HD : DropKeeps) (a : Option Addr) (es : List Ent) (cap : Nat) (w : World) (z za zw : Int) (k1 : ByteArray) (pk : Bool) (ba : Option Addr) (bs : List UInt8) (bc : Nat) (hl : ∀ e, e ∈ es → e.body.length ≤ 140737488351232) (hk1 : k1.size ≤ maxLen) (hz : -9223372036854775808 ≤ z) (hz2 : z ≤ 9223372036854775807) (hza : -9223372036854775808 ≤ za) (hza2 : za ≤ 9223372036854775807) (hzw : -9223372036854775808 ≤ zw) (hzw2 : zw ≤ 9223372036854775807) (hbs : bs.length ≤ 140737488351232) (hbc : bs.length ≤ bc) (hbm : bc ≤ maxLen) (ha : BodAt w a es) (hg : EntGood w es) (hb : Bts w ba bs) :
    Calls Try.prog 8 #[.slice a es.length cap, .int .i64 z, .string k1, .int .i64 za, .bool pk, .slice ba bs.length bc, .int .i64 zw] w fun e w' => e = .returned (.bool true) ∧ Below w.heap.size w w' := by
  have HF := hide (files_any a es cap w z hl hz hz2 ha hg)
  have HCu := hide (fun W (hW : Bts W ba bs) => cut_any ba bs bc W (by omega) hbc hbm hW)
  obtain ⟨n', HN'⟩ : ∃ n', Hid (n' = es.length) := ⟨_, rfl⟩
  obtain ⟨nb, HNb⟩ : ∃ nb, Hid (nb = bs.length) := ⟨_, rfl⟩
  rw [← HN'.out] at HF ⊢
  rw [← HNb.out] at HCu ⊢
  have HC1 := hide (fun W => config_any k1 za pk W hk1 hza hza2)
  have hkk1 := hide (keyIs_key k1)
  generalize keyIs k1 = x1 at *
  have hp := pickN_lt za (n := 16) (by omega)
  obtain ⟨al, HAl⟩ : ∃ al, Hid (al = 1 + pickN za 16) := ⟨_, rfl⟩
  rw [← HAl.out] at HC1
  have hal1 : 1 ≤ al := by rw [HAl.out]; omega
  have hal2 : al ≤ 16 := by rw [HAl.out]; omega
  have hxs := keyB_le hkk1.out
  go_enter Try.func8, Try.ntmps8
  go_wp2_with fail
  refine HF.out.mono ?_
  rintro e w1 ⟨v1, fs, rfl, o1, HG, HM, b1⟩
  have HFd := hide (Filed.of HM)
  have hfl := HFd.out.len
  have HG' := hide HG
  obtain ⟨sa, sc, rfl, has, hsc, hscm⟩ := o1.shape
  clear HM HG HF o1
  obtain ⟨n, HN⟩ : ∃ n, Hid (n = fs.length) := ⟨_, rfl⟩
  rw [← HN.out] at hfl hsc ⊢
  go_wp2_with fail
  refine (HC1.out _).mono ?_
  rintro e w2 ⟨rfl, b2⟩
  have B2 := b2.alloc b2.size (.cells #[.string x1, .int .i64 (al : Int), .bool pk] 24)
  have c10 : (w2.alloc (.cells #[.string x1, .int .i64 (al : Int), .bool pk] 24)).cell? ⟨w2.heap.size, 0, none⟩ = some (.string x1) := cell_new w2 _ _ 0
  have has2 := has.carry B2
  have HG2 := hide (HG'.out.carry B2)
  have hbw2 := b1.trans (B2.mono b1.size)
  clear b2 B2 HG' HC1 b1
  have KB := hide (fun W h1 h2 => Build_keeps sa fs sc W x1 (al : Int) pk (by rw [← HN.out]; unfold maxLen; omega) hxs h1 h2)
  rw [← HN.out] at KB
  go_wp2_with fail
  generalize w2.alloc (.cells #[.string x1, .int .i64 (al : Int), .bool pk] 24) = W2 at *
  refine (KB.out _ has2 HG2.out.good).mono ?_
  rintro e w3 ⟨v3, E3, p3, rfl, A3, b3⟩
  obtain ⟨rfl, rfl, o3⟩ := ans_filed HFd.out (turn_id _) (turned_id fs) hkk1.out hal1 hal2 A3
  obtain ⟨M, HM⟩ : ∃ M, Hid (M = madeOf x1.data.toList pk al (pairsOf fs)) := ⟨_, rfl⟩
  rw [← HM.out] at o3
  have h13 : 13 ≤ M.length := by rw [HM.out]; exact made_ge _ _ _ _
  have hMl : M.length ≤ 4000 := by rw [HM.out]; exact HFd.out.short x1.data.toList pk al hal1 hal2
  have HPk : Hid (IsPack x1.data.toList M (pairsOf fs) al pk) := by rw [HM.out]; exact HFd.out.pack x1.data.toList pk hal1 hal2
  have HCl : Hid (verHead x1.data.toList M = 0) := by show _ = _; rw [HM.out]; exact HFd.out.clean x1 pk hal1 hal2 hkk1.out
  obtain ⟨pa, pc, rfl, hbM, hpc, hpcm⟩ := o3.shape
  have c30 := (b3.cell (p := ⟨w2.heap.size, 0, none⟩) (World.block_lt_of_cell? _ _ c10)).trans c10
  have has3 := has2.carry b3
  have HG3 := hide (HG2.out.carry b3)
  have hbw3 := hbw2.trans (b3.mono hbw2.size)
  have hb3 := hb.carry hbw3
  clear A3 KB has2 HG2 has c10 b3 hbw2 o3
  obtain ⟨cb, HCb⟩ : ∃ cb, Hid (cb = bs.take 600) := ⟨_, rfl⟩
  have hcbl : cb.length ≤ 600 := by rw [HCb.out, List.length_take]; omega
  rw [← HCb.out] at HCu
  obtain ⟨xb, HXb⟩ : ∃ xb, Hid (xb = cb.take (cb.length / 4)) := ⟨_, rfl⟩
  have HXl : Hid (xb.length = cb.length / 4) := by show _ = _; rw [HXb.out, List.length_take]; omega
  have hxl : xb.length ≤ 150 := by rw [HXl.out]; omega
  go_upto_region 6 with fail
  go_cut [20] (fun s20 wx => ∃ (X : Nat) (xa : Option Addr) (xc : Nat), s20 = .pointer (some ⟨X, 0, none⟩) ∧ xb.length ≤ xc ∧ xc ≤ maxLen ∧ Und wx w2.heap.size X x1 xa xb xc pa M sa fs ∧ Below w.heap.size w wx)
  case first =>
    go_wp2_with fail
    refine (HCu.out _ hb3).mono ?_
    rintro e w4 ⟨v4, rfl, o4, b4⟩
    have hb4 := hb3.carry b4
    rcases o4.either with ⟨rfl, hnil⟩ | ⟨g4, c4, rfl, hc4, hcm4⟩
    · go_wp2_with fail
      refine (HCu.out _ hb4).mono ?_
      rintro e w5 ⟨v5, rfl, o5, b5⟩
      obtain ⟨a5, c5, rfl, -, -, -⟩ := o5.shape
      have hx0 : xb = [] := by rw [HXb.out, hnil]; rfl
      have h45 := b4.trans (b5.mono b4.size)
      have Ba := h45.alloc h45.size (.cells #[.string newP, .slice none 0 0] 30)
      have hE : EBox (w5.alloc (.cells #[.string newP, .slice none 0 0] 30)) w5.heap.size newP (.slice none 0 0) := heap_alloc_new w5 _
      have hU : Und (w5.alloc (.cells #[.string newP, .slice none 0 0] 30)) w2.heap.size w5.heap.size x1 none xb 0 pa M sa fs := by
        refine ⟨(Ba.cell (p := ⟨w2.heap.size, 0, none⟩) (World.block_lt_of_cell? _ _ c30)).trans c30, by rw [hx0]; exact hE, by rw [hx0]; exact Bts.nil _ _, hbM.carry Ba, has3.carry Ba, (HG3.out.carry Ba).good⟩
      have hBw := hbw3.trans (Ba.mono hbw3.size)
      rw [hnil]
      clear hE
      go_wp2
      go_meet
      exact ⟨w5.heap.size, none, 0, rfl, by rw [hx0]; simp, by simp [maxLen], hU, hBw⟩
    · have hb4' := o4.bts
      go_wp2_with fail
      refine (HCu.out _ hb4).mono ?_
      rintro e w5 ⟨v5, rfl, o5, b5⟩
      obtain ⟨a5, c5, rfl, -, -, -⟩ := o5.shape
      have h45 := b4.trans (b5.mono b4.size)
      have Ba := h45.alloc h45.size (.cells #[.string newP, .slice (some ⟨g4, 0, none⟩) (cb.length / 4) c4] 30)
      have b5a := b5.alloc b5.size (.cells #[.string newP, .slice (some ⟨g4, 0, none⟩) (cb.length / 4) c4] 30)
      have hE : EBox (w5.alloc (.cells #[.string newP, .slice (some ⟨g4, 0, none⟩) (cb.length / 4) c4] 30)) w5.heap.size newP (.slice (some ⟨g4, 0, none⟩) (cb.length / 4) c4) := heap_alloc_new w5 _
      have hU : Und (w5.alloc (.cells #[.string newP, .slice (some ⟨g4, 0, none⟩) (cb.length / 4) c4] 30)) w2.heap.size w5.heap.size x1 (some ⟨g4, 0, none⟩) xb c4 pa M sa fs := by
        refine ⟨(Ba.cell (p := ⟨w2.heap.size, 0, none⟩) (World.block_lt_of_cell? _ _ c30)).trans c30, by rw [HXl.out]; exact hE, ?_, hbM.carry Ba, has3.carry Ba, (HG3.out.carry Ba).good⟩
        rw [HXb.out]
        have := (hb4'.carry b5a).sub 0 (cb.length / 4)
        simpa using this
      have hBw := hbw3.trans (Ba.mono hbw3.size)
      have i1 : (cb.length : Int) / 4 ≤ (c4 : Int) := by omega
      clear hE
      go_wp2
      go_meet
      exact ⟨w5.heap.size, some ⟨g4, 0, none⟩, c4, rfl, by rw [HXl.out]; omega, hcm4, hU, hBw⟩
  case rest =>
    obtain ⟨X, xa, xc, rfl, hxc, hxcm, hU, hBw⟩ := hcut
    clear hb3 hbM c30 has3 HG3 hbw3 HCu hb ha hg
    have hkl : Hid (keyB x1.data.toList.length = true) := by show _ = _; rw [show x1.data.toList.length = x1.size from by simp]; exact hkk1.out
    have hnp : newP.size ≤ maxLen := by simp [newP, ByteArray.size, maxLen]
    obtain ⟨L1, HL1⟩ : ∃ L1, Hid (L1 = withNew (pairsOf fs) xb) := ⟨_, rfl⟩
    have HG1 : Hid (GoodL L1 al) := by rw [HL1.out]; exact HFd.out.newGood hal1 hal2 (by omega)
    obtain ⟨M1, HM1⟩ : ∃ M1, Hid (M1 = madeOf x1.data.toList pk al L1) := ⟨_, rfl⟩
    have hM1l : M1.length ≤ 4000 := by rw [HM1.out, HL1.out]; exact HFd.out.newShort _ pk hal1 hal2 hxl
    have HP1 : Hid (IsPack x1.data.toList M1 L1 al pk) := ⟨HG1.out, HM1.out, hM1l⟩
    have HC1 : Hid (verHead x1.data.toList M1 = 0) := HP1.out.clean hkl.out (by rw [HM1.out]; exact made_ge _ _ _ _)
    have key0 := hU.key
    have xc0 := hU.box.c0
    have xc1 := hU.box.c1
    have KR := hide (HR pa M pc wc x1 newP xa xb xc (by omega) hxs hpc hpcm hU.pm hnp hU.body hxc hxcm)
    go_wp2_with fail
    refine KR.out.mono ?_
    rintro e w6 ⟨v6, E6, q6, rfl, A6, b6⟩
    obtain ⟨rfl, rfl, o6⟩ := repl_pack A6 HPk.out HCl.out hkk1.out (by rw [HL1.out]; exact HFd.out.newPerm xb) HG1.out (by rw [← HM1.out]; exact hM1l)
    rw [← HM1.out] at o6
    obtain ⟨qa, qc, rfl, hq6, hqc, hqcm⟩ := o6.shape
    have U6 := hU.carry b6
    have B6 := hBw.trans (b6.mono hBw.size)
    have key6 := U6.key
    have KF := hide (Find_keeps qa M1 qc w6 x1 newP (by omega) hxs hnp hqc hqcm hq6)
    clear KR A6 o6 hU hBw key0 xc0 xc1 b6
    go_wp2_with fail
    refine KF.out.mono ?_
    rintro e w7 ⟨v7, E7, rfl, A7, b7⟩
    obtain ⟨rfl, o7⟩ := find_packL A7 HP1.out HC1.out (by rw [HL1.out]; exact new_mem _ xb)
    obtain ⟨fa, fc, rfl, hf7, -, -⟩ := o7.shape
    have U7 := U6.carry b7
    have hq7 := hq6.carry b7
    have B7 := B6.trans (b7.mono B6.size)
    have key7 := U7.key
    have KD := hide (HD qa M1 qc w7 x1 newP (by omega) hxs hnp hqc hqcm hq7)
    clear KF A7 o7 U6 hq6 B6 key6 b7
    go_wp2_with fail
    refine KD.out.mono ?_
    rintro e w8 ⟨v8, E8, rfl, A8, b8⟩
    obtain ⟨rfl, o8⟩ := drop_pack A8 HP1.out HC1.out hkk1.out (by rw [HL1.out]; exact HFd.out.newLen xb) (by rw [HL1.out]; exact HFd.out.newKeep xb) (HFd.out.goodL hal1 hal2) (by rw [← HM.out]; exact hMl)
    rw [← HM.out] at o8
    obtain ⟨ra, rc, rfl, hr8, -, -⟩ := o8.shape
    have U8 := U7.carry b8
    have hf8 := hf7.carry b8
    have B8 := B7.trans (b8.mono B7.size)
    have x80 := U8.box.c0
    have x81 := U8.box.c1
    clear KD A8 o8 U7 hq7 hf7 B7 key7 b8 HL1 HG1 HM1 hM1l HP1 HC1
    go_wp2_with fail
    refine (same_any fa xa xb xb fc xc _ (by omega) (by omega) hf8 U8.body).mono ?_
    rintro e w9 ⟨rfl, b9⟩
    rw [eqB_true]
    have U9 := U8.carry b9
    have hr9 := hr8.carry b9
    have B9 := B8.trans (b9.mono B8.size)
    clear U8 hr8 hf8 B8 x80 x81 b9
    go_wp2_with fail
    refine (same_any ra pa M M rc pc _ (by omega) (by omega) hr9 U9.pm).mono ?_
    rintro e w10 ⟨rfl, b10⟩
    rw [eqB_true]
    have U10 := U9.carry b10
    have B10 := B9.trans (b10.mono B9.size)
    clear U9 hr9 B9 b10
    by_cases hn0 : n = 0
    · have hnb : ((n : Int) == 0) = true := by simp [hn0]
      clear hn0
      go_wp2
      go_ret
      exact ⟨rfl, B10⟩
    · have hnb : ((n : Int) == 0) = false := by rw [beq_eq_false_iff_ne]; omega
      have hpw := pickN_lt zw (n := n) (by omega)
      have HPw := hide (fun W => pick_is zw n W hzw hzw2 (by omega) (by unfold maxLen; omega))
      generalize pickN zw n = k at *
      have hk1 : k < fs.length := by have := HN.out; omega
      have hki : (k : Int) < (n : Int) := by omega
      clear hn0
      go_wp2_with fail
      refine (HPw.out _).mono ?_
      rintro e w11 ⟨rfl, rfl⟩
      obtain ⟨ob, ooff, hsa, c1, c2⟩ := U10.at_ k hk1
      subst hsa
      have hmem : fs.getD k noEnt ∈ fs := getD_mem hk1
      obtain ⟨og1, og2, og3, og4⟩ := U10.good _ hmem
      have hob := HFd.out.body _ hmem
      have HMo : Hid (((fs.getD k noEnt).path.data.toList, (fs.getD k noEnt).body) ∈ pairsOf fs) := List.mem_map.2 ⟨_, hmem, rfl⟩
      unfold Ent.val at c2
      generalize fs.getD k noEnt = o at *
      have hGL := HFd.out.goodL (al := al) hal1 hal2
      obtain ⟨L2, HL2⟩ : ∃ L2, Hid (L2 = withBody (pairsOf fs) o.path.data.toList xb) := ⟨_, rfl⟩
      have HG2 : Hid (GoodL L2 al) := by rw [HL2.out]; exact hGL.other _ (by omega)
      obtain ⟨M2, HM2⟩ : ∃ M2, Hid (M2 = madeOf x1.data.toList pk al L2) := ⟨_, rfl⟩
      have hM2l : M2.length ≤ 4000 := by rw [HM2.out, HL2.out]; exact HFd.out.otherShort _ pk hal1 hal2 _ (by omega)
      have HP2 : Hid (IsPack x1.data.toList M2 L2 al pk) := ⟨HG2.out, HM2.out, hM2l⟩
      have HC2 : Hid (verHead x1.data.toList M2 = 0) := HP2.out.clean hkl.out (by rw [HM2.out]; exact made_ge _ _ _ _)
      have HQ1 : Hid ((keepL o.path.data.toList (pairsOf fs) ++ [(o.path.data.toList, xb)]).Perm L2) := by rw [HL2.out]; exact withBody_perm hGL.firsts ⟨_, HMo.out, rfl⟩
      have HQ2 : Hid ((keepL o.path.data.toList L2 ++ [(o.path.data.toList, o.body)]).Perm (pairsOf fs)) := by
        show List.Perm _ _
        rw [HL2.out, withBody_keep]
        have h := withBody_perm (b := o.body) hGL.firsts ⟨_, HMo.out, rfl⟩
        rw [withBody_back hGL HMo.out] at h
        exact h
      have HQ3 : Hid ((o.path.data.toList, xb) ∈ L2) := by rw [HL2.out]; exact withBody_mem HMo.out
      have HGL := hide hGL
      have Ba1 : Below w11.heap.size w11 (w11.alloc (.cells #[.string o.path, .slice o.adr o.body.length o.cap] 30)) := (Below.refl _ _).alloc (Nat.le_refl _) _
      have hE1 : EBox (w11.alloc (.cells #[.string o.path, .slice o.adr o.body.length o.cap] 30)) w11.heap.size o.path (.slice o.adr o.body.length o.cap) := heap_alloc_new w11 _
      have sz1 : (w11.alloc (.cells #[.string o.path, .slice o.adr o.body.length o.cap] 30)).heap.size = w11.heap.size + 1 := by simp
      have Ba2 := Ba1.alloc Ba1.size (.cells #[.string o.path, .slice xa xb.length xc] 30)
      have hF1 : EBox ((w11.alloc (.cells #[.string o.path, .slice o.adr o.body.length o.cap] 30)).alloc (.cells #[.string o.path, .slice xa xb.length xc] 30)) w11.heap.size o.path (.slice o.adr o.body.length o.cap) := hE1.carry ((Below.refl _ _).alloc (Nat.le_refl _) _)
      have hF2 : EBox ((w11.alloc (.cells #[.string o.path, .slice o.adr o.body.length o.cap] 30)).alloc (.cells #[.string o.path, .slice xa xb.length xc] 30)) (w11.heap.size + 1) o.path (.slice xa xb.length xc) := by
        have h := heap_alloc_new (w11.alloc (.cells #[.string o.path, .slice o.adr o.body.length o.cap] 30)) (.cells #[.string o.path, .slice xa xb.length xc] 30)
        rw [sz1] at h
        exact h
      have U12 := U10.carry Ba2
      have og12 := og1.carry Ba2
      have B12 := B10.trans (Ba2.mono B10.size)
      have x91 := (U10.carry Ba1).box.c1
      have KR := hide (fun W (h1 : Bts W pa M) (h2 : Bts W xa xb) => HR pa M pc W x1 o.path xa xb xc (by omega) hxs hpc hpcm h1 og4 h2 hxc hxcm)
      have key12 := U12.key
      clear hmem og1 hGL Ba1 hE1 Ba2 B10 U10 HPw HL2 HM2 HFd
      go_wp2_with fail
      generalize (w11.alloc (.cells #[.string o.path, .slice o.adr o.body.length o.cap] 30)).alloc (.cells #[.string o.path, .slice xa xb.length xc] 30) = W12 at *
      refine (KR.out _ U12.pm U12.body).mono ?_
      rintro e w13 ⟨v13, E13, q13, rfl, A13, b13⟩
      obtain ⟨rfl, rfl, o13⟩ := repl_pack A13 HPk.out HCl.out hkk1.out HQ1.out HG2.out (by rw [← HP2.out.made]; exact hM2l)
      rw [← HP2.out.made] at o13
      obtain ⟨ra2, rc2, rfl, hr13, hrc2, hrcm2⟩ := o13.shape
      have U13 := U12.carry b13
      have og13 := og12.carry b13
      have B13 := B12.trans (b13.mono B12.size)
      have hE13 := hF1.carry b13
      have hY13 := hF2.carry b13
      have key13 := U13.key
      have o130 := hE13.c0
      have KF := hide (Find_keeps ra2 M2 rc2 w13 x1 o.path (by omega) hxs og4 hrc2 hrcm2 hr13)
      clear KR A13 o13 U12 og12 B12 hF1 hF2 key12 c1 c2 x91 b13
      go_wp2_with fail
      refine KF.out.mono ?_
      rintro e w14 ⟨v14, E14, rfl, A14, b14⟩
      obtain ⟨rfl, o14⟩ := find_packL A14 HP2.out HC2.out HQ3.out
      obtain ⟨fa2, fc2, rfl, hf14, -, -⟩ := o14.shape
      have U14 := U13.carry b14
      have og14 := og13.carry b14
      have hr14 := hr13.carry b14
      have B14 := B13.trans (b14.mono B13.size)
      have hE14 := hE13.carry b14
      have hY14 := hY13.carry b14
      have key14 := U14.key
      have o140 := hE14.c0
      have o141 := hE14.c1
      have KR2 := hide (HR ra2 M2 rc2 w14 x1 o.path o.adr o.body o.cap (by omega) hxs hrc2 hrcm2 hr14 og4 og14 og2 og3)
      clear KF A14 o14 U13 og13 hr13 B13 hE13 hY13 key13 o130 b14
      go_wp2_with fail
      refine KR2.out.mono ?_
      rintro e w15 ⟨v15, E15, q15, rfl, A15, b15⟩
      obtain ⟨rfl, rfl, o15⟩ := repl_pack A15 HP2.out HC2.out hkk1.out HQ2.out HGL.out (by rw [← HM.out]; exact hMl)
      rw [← HM.out] at o15
      obtain ⟨ta, tc, rfl, ht15, -, -⟩ := o15.shape
      have U15 := U14.carry b15
      have hf15 := hf14.carry b15
      have B15 := B14.trans (b15.mono B14.size)
      have hY15 := hY14.carry b15
      have y150 := hY15.c0
      have y151 := hY15.c1
      clear KR2 A15 o15 U14 og14 hr14 hf14 B14 hE14 hY14 key14 o140 o141 b15
      go_wp2_with fail
      refine (same_any fa2 xa xb xb fc2 xc _ (by omega) (by omega) hf15 U15.body).mono ?_
      rintro e w16 ⟨rfl, b16⟩
      rw [eqB_true]
      have U16 := U15.carry b16
      have ht16 := ht15.carry b16
      have B16 := B15.trans (b16.mono B15.size)
      clear U15 ht15 hf15 B15 hY15 y150 y151 b16
      go_wp2_with fail
      refine (same_any ta pa M M tc pc _ (by omega) (by omega) ht16 U16.pm).mono ?_
      rintro e w17 ⟨rfl, b17⟩
      rw [eqB_true]
      have B17 := B16.trans (b17.mono B16.size)
      go_wp2
      go_ret
      exact ⟨rfl, B17⟩

end Go.Proofs.Ytgncohclofdhmab
