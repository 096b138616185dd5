import Derived.Test.YtgncohclofdhmabWfour
import Derived.Test.YtgncohclofdhmabWkp2
import Derived.Test.YtgncohclofdhmabWkp1
import Derived.Test.YtgncohclofdhmabWrdb
import Derived.Test.YtgncohclofdhmabWsame2
import Derived.Test.YtgncohclofdhmabWsma
import Derived.Deep.DeepCutAuto
import Derived.Deep.RegionWith
import Derived.BigRegion
import Derived.Deep.QuietTactic
import Derived.BigQuiet
namespace Go.Proofs.Ytgncohclofdhmab
open Go.RowKit

theorem seal_back {key T1 T2 : List UInt8} {m s t : Nat} (h : T1.length = m + 8) (hk : keyB key.length = true) (h5 : 5 ≤ m) (h4 : m + 8 ≤ 4000) (hs : s = sumOf (T1.take m)) (h2 : T2 = putFour T1 m s) (ht : t = tagVal key (T2.take (m + 4))) :
    (putFour T2 (m + 4) t).length = m + 8 ∧ verHead key (putFour T2 (m + 4) t) = 0 := by
  have l2 : T2.length = m + 8 := by rw [h2, putFour_len T1 m s (by omega), h]
  have hm : (T1.take m).length = m := by rw [List.length_take]; omega
  have e1 : T2.take (m + 4) = summed (T1.take m) := by
    rw [h2]
    unfold putFour summed
    rw [← hs, ← List.append_assoc, List.take_append_of_le_length (by simp [fourOf]; omega), List.take_of_length_le (by simp [fourOf]; omega)]
  have e2 : putFour T2 (m + 4) t = tagged key (summed (T1.take m)) := by
    unfold putFour
    rw [e1, List.drop_of_length_le (by omega), List.append_nil, ht, e1]
    rfl
  refine ⟨by rw [putFour_len T2 (m + 4) t (by omega), l2], ?_⟩
  rw [e2]
  exact seal_head hk (by omega) (by omega)

set_option maxRecDepth 100000 in
set_option maxHeartbeats 8000000 in
theorem Strict_walk (a : Option Addr) (es : List Ent) (cap : Nat) (w : World) (z za zi zv : Int) (k1 : ByteArray) (pk : Bool) (hl : ∀ e, e ∈ es → e.body.length ≤ 140737488351232) (hk1 : k1.size ≤ maxLen) (hz : -9223372036854775808 ≤ z) (hz2 : z ≤ 9223372036854775807) (hza : -9223372036854775808 ≤ za) (hza2 : za ≤ 9223372036854775807) (hzi : -9223372036854775808 ≤ zi) (hzi2 : zi ≤ 9223372036854775807) (hzv : -9223372036854775808 ≤ zv) (hzv2 : zv ≤ 9223372036854775807) (ha : BodAt w a es) (hg : EntGood w es) :
    Calls Try.prog 4 #[.slice a es.length cap, .int .i64 z, .string k1, .int .i64 za, .bool pk, .int .i64 zi, .int .i64 zv] w fun e w' => e = .returned (.bool true) ∧ Below w.heap.size w w' := by
  have HF := hide (files_any a es cap w z hl hz hz2 ha hg)
  obtain ⟨n', HN'⟩ : ∃ n', Hid (n' = es.length) := ⟨_, rfl⟩
  rw [← HN'.out] at HF ⊢
  have HC1 := hide (fun W => config_any k1 za pk W hk1 hza hza2)
  have hkk1 := hide (keyIs_key k1)
  generalize keyIs k1 = x1 at *
  have hp := pickN_lt za (n := 16) (by omega)
  obtain ⟨al, HAl⟩ : ∃ al, Hid (al = 1 + pickN za 16) := ⟨_, rfl⟩
  rw [← HAl.out] at HC1
  have hal1 : 1 ≤ al := by rw [HAl.out]; omega
  have hal2 : al ≤ 16 := by rw [HAl.out]; omega
  have hxs := keyB_le hkk1.out
  have hkl : Hid (keyB x1.data.toList.length = true) := by show _ = _; rw [show x1.data.toList.length = x1.size from by simp]; exact hkk1.out
  go_enter Try.func4, Try.ntmps4
  go_wp2_with fail
  refine HF.out.mono ?_
  rintro e w1 ⟨v1, fs, rfl, o1, HG, HM, b1⟩
  have HFd := hide (Filed.of HM)
  have hfl := HFd.out.len
  have HG' := hide HG
  obtain ⟨sa, sc, rfl, has, -, -⟩ := o1.shape
  clear HM HG HF o1
  obtain ⟨n, HN⟩ : ∃ n, Hid (n = fs.length) := ⟨_, rfl⟩
  rw [← HN.out] at hfl ⊢
  go_wp2_with fail
  refine (HC1.out _).mono ?_
  rintro e w2 ⟨rfl, b2⟩
  have B2 := b2.alloc b2.size (.cells #[.string x1, .int .i64 (al : Int), .bool pk] 24)
  have c10 : (w2.alloc (.cells #[.string x1, .int .i64 (al : Int), .bool pk] 24)).cell? ⟨w2.heap.size, 0, none⟩ = some (.string x1) := cell_new w2 _ _ 0
  have has2 := has.carry B2
  have HG2 := hide (HG'.out.carry B2)
  have lt2 : w2.heap.size < (w2.alloc (.cells #[.string x1, .int .i64 (al : Int), .bool pk] 24)).heap.size := by simp
  have hbw2 := b1.trans (B2.mono b1.size)
  clear b2 B2 HG' HC1 b1
  have KB := hide (fun W h1 h2 => Build_keeps sa fs sc W x1 (al : Int) pk (by rw [← HN.out]; unfold maxLen; omega) hxs h1 h2)
  rw [← HN.out] at KB
  go_wp2_with fail
  generalize w2.alloc (.cells #[.string x1, .int .i64 (al : Int), .bool pk] 24) = W2 at *
  refine (KB.out _ has2 HG2.out.good).mono ?_
  rintro e w3 ⟨v3, E3, p3, rfl, A3, b3⟩
  obtain ⟨rfl, rfl, o3⟩ := ans_filed HFd.out (turn_id _) (turned_id fs) hkk1.out hal1 hal2 A3
  obtain ⟨M, HM⟩ : ∃ M, Hid (M = madeOf x1.data.toList pk al (pairsOf fs)) := ⟨_, rfl⟩
  rw [← HM.out] at o3
  have h13 : 13 ≤ M.length := by rw [HM.out]; exact made_ge _ _ _ _
  have hMl : M.length ≤ 4000 := by rw [HM.out]; exact HFd.out.short x1.data.toList pk al hal1 hal2
  have HPk : Hid (∃ l al pk, IsPack x1.data.toList M l al pk) := ⟨_, _, _, by rw [HM.out]; exact HFd.out.pack x1.data.toList pk hal1 hal2⟩
  have HCl : Hid (verHead x1.data.toList M = 0) := by show _ = _; rw [HM.out]; exact HFd.out.clean x1 pk hal1 hal2 hkk1.out
  obtain ⟨g, c, rfl, hWg, -, hc, hcm⟩ := o3.block (by omega)
  clear A3 KB has2 HG2 has HM HFd
  obtain ⟨m, HL⟩ : ∃ m, Hid (M.length = m + 8) := ⟨M.length - 8, by show _ = _; omega⟩
  have hm5 : 5 ≤ m := by have := HL.out; omega
  have hm4 : m + 8 ≤ 4000 := by have := HL.out; omega
  rw [HL.out] at o3 hc ⊢
  clear h13 hMl
  have h13b : ¬ (m : Int) + 8 < 13 := by omega
  have hpi := pickN_lt zi (n := m) (by omega)
  have HPi : Hid (∀ W (t : Int), t = (m : Int) → Calls Try.prog 11 #[.int .i64 zi, .int .i64 t] W fun e w' => e = .returned (.int .i64 (pickN zi m : Nat)) ∧ w' = W) := by
    intro W t ht
    subst ht
    exact pick_is zi m W hzi hzi2 (by omega) (by unfold maxLen; omega)
  have hpv := pickN_lt zv (n := 255) (by omega)
  have HPv := hide (fun W => pick_is zv 255 W hzv hzv2 (by omega) (by unfold maxLen; omega))
  generalize pickN zi m = i at *
  generalize pickN zv 255 = r at *
  go_wp2
  go_loopw [20, 21, 22, 23, 24, 25, 26, 27, 28, 29, 30] (fun s20 _ _ _ _ _ _ _ _ _ _ wr => ∃ (k : Nat) (T : List UInt8), k ≤ 2 ∧ s20 = .int .i64 k ∧ Hid (T.length = m + 8) ∧ Own W2.heap.size wr (.slice (some ⟨g, 0, none⟩) (m + 8) c) T ∧ Hid (verHead x1.data.toList T = 0) ∧ Hid (k = 0 → ∃ l al pk, IsPack x1.data.toList T l al pk) ∧ Below W2.heap.size W2 wr) (fun s20 _ _ _ _ _ _ _ _ _ _ _ => 2 - (intOf s20).toNat)
  case atStart => exact ⟨0, M, by omega, rfl, HL, o3, HCl, fun _ => HPk.out, b3⟩
  case round =>
    obtain ⟨k, T, hk, rfl, HTl, oT, HZ, HP0, hbl⟩ := hrel
    have d0 := (hbl.cell (p := ⟨w2.heap.size, 0, none⟩) lt2).trans c10
    have hbw := hbw2.trans (hbl.mono hbw2.size)
    by_cases hlt : k < 2
    · have hki : (k : Int) < 2 := by omega
      have KV := hide (Verify_keeps (some ⟨g, 0, none⟩) T c wr x1 (by rw [HTl.out]; omega) hxs (by rw [HTl.out]; exact hc) hcm oT.bts)
      rw [HTl.out] at KV
      go_wp2_with fail
      refine KV.out.mono ?_
      rintro e w4 ⟨v4, cfg4, E4, rfl, A4, b4⟩
      have hbl4 := hbl.trans (b4.mono hbl.size)
      have hbw4 := hbw.trans (b4.mono hbw.size)
      have oT4 := oT.carry b4
      clear KV
      rcases A4 with ⟨h1, _⟩ | ⟨_, h2, rfl, rfl, rfl⟩ | ⟨_, ms, al4, pk4, hI, o4, g4, rfl, rfl⟩
      · exact absurd HZ.out h1
      · have HK1 : Hid (k = 1) := by
          show _ = _
          by_cases hk0 : k = 0
          · exact absurd (HP0.out hk0) h2
          · omega
        have hk1b : ((k : Int) == 1) = true := by rw [HK1.out]; rfl
        have hbw5 := hbw4.alloc hbw4.size (.cells #[.string ⟨#[]⟩, .int .i64 0, .bool false] 24)
        unfold noCfg
        clear h2 HK1
        go_wp2
        go_ret
        exact ⟨rfl, hbw5⟩
      · have HI := hide hI
        have hml : ms.length ≤ 20 := by have := hI.good.len; rw [pairs_size] at this; exact this
        obtain ⟨ma, mc, rfl, hat4, -, -⟩ := o4.shape
        have Ba : Below w4.heap.size w4 (w4.alloc (.cells #[.string x1, .int .i64 (al4 : Nat), .bool pk4] 24)) := (Below.refl _ _).alloc (Nat.le_refl _) _
        have hat5 := hat4.carry Ba
        have g5 := hide (g4.carry Ba)
        have oT5 := oT4.carry Ba
        have hbl5 := hbl4.trans (Ba.mono hbl4.size)
        have KB := hide (fun W h1 h2 => Build_keeps ma ms mc W x1 (al4 : Nat) pk4 (by unfold maxLen; omega) hxs h1 h2)
        clear hI o4 g4 hat4 oT4 hbl4 hbw4 Ba oT hbl d0 hbw HZ HP0 o3 b3 b4 HCl HPk
        go_wp2_with fail
        generalize w4.alloc (.cells #[.string x1, .int .i64 (al4 : Nat), .bool pk4] 24) = W5 at *
        refine (KB.out _ hat5 g5.out.good).mono ?_
        rintro e w6 ⟨v6, E6, p6, rfl, A6, b6⟩
        obtain ⟨rfl, rfl, o6⟩ := ans_good HI.out.good hkk1.out (by rw [← HI.out.made]; exact HI.out.short) A6
        rw [← HI.out.made] at o6
        obtain ⟨qa, qc, rfl, hb6, -, -⟩ := o6.shape
        have oT6 := oT5.carry b6
        have hbl6 := hbl5.trans (b6.mono hbl5.size)
        have KS := hide (same_any (some ⟨g, 0, none⟩) qa T T c qc w6 (by rw [HTl.out]; omega) (by rw [HTl.out]; omega) oT6.bts hb6)
        rw [HTl.out] at KS ⊢
        clear A6 KB hat5 g5 oT5 hbl5 o6 hb6 b6 HI
        go_wp2_with fail
        refine KS.out.mono ?_
        rintro e w7 ⟨rfl, b7⟩
        rw [eqB_true]
        have oT7 := oT6.carry b7
        have hbl7 := hbl6.trans (b7.mono hbl6.size)
        clear KS oT6 hbl6 b7
        go_wp2_with fail
        refine (HPi.out _ _ (by omega)).mono ?_
        rintro e w8 ⟨rfl, rfl⟩
        have hiL : i < T.length := by rw [HTl.out]; omega
        have cI := oT7.cellAt HTl.out.symm i hiL
        have fI := oT7.frozenAt HTl.out.symm i
        have hx := (T.getD i 0).toNat_lt
        have OS := oT7.stored HTl.out.symm i (turnB (T.getD i 0) r)
        have BS := hbl7.setCell (p := ⟨g, i, none⟩) hWg (.int .u8 ((turnB (T.getD i 0) r).toNat : Int))
        have hy := turnB_nat (T.getD i 0) r hpv
        have qx : bits .xor .u8 ((T.getD i 0).toNat : Int) (1 + (r : Int)) = ((turnB (T.getD i 0) r).toNat : Int) := by
          rw [hy, ← xor8 _ _ hx (by omega)]
          simp
        clear hy hiL
        generalize turnB (T.getD i 0) r = y at *
        generalize (T.getD i 0).toNat = x at *
        obtain ⟨T1, HT1⟩ : ∃ T1, Hid (T1 = T.set i y) := ⟨_, rfl⟩
        have HL1 : Hid (T1.length = m + 8) := by show _ = _; rw [HT1.out, List.length_set]; exact HTl.out
        rw [← HT1.out] at OS
        clear HT1 oT7 hbl7 HTl
        have qa' : IntKind.i64.wrap (1 + (r : Int)) = 1 + (r : Int) := by rw [IntKind.wrap_i64]; omega
        have qb : IntKind.u8.wrap (1 + (r : Int)) = 1 + (r : Int) := by
          rw [show IntKind.u8.wrap (1 + (r : Int)) = (1 + (r : Int)) % 256 from by simp [IntKind.wrap, IntKind.bits, IntKind.signed]]
          omega
        have ii : (i : Int) < (m : Int) + 8 := by omega
        go_upto_region 17 with fail
        go_cut [28] (fun s28 wx => s28 = .int .i64 i ∧ Own W2.heap.size wx (.slice (some ⟨g, 0, none⟩) (m + 8) c) T1 ∧ Below W2.heap.size W2 wx)
        case first =>
          clear HPi hbw2 hml hm5 hkl HL hc hWg
          go_region_with (go_at_call 11; refine (unhide HPv _).mono ?_; rintro e w9 ⟨rfl, rfl⟩)
          all_goals (go_wp2_with fail; go_meet)
          all_goals first | exact ⟨rfl, OS, BS.drew⟩ | exact ⟨rfl, OS, BS⟩ | exact ⟨rfl, OS, BS.drew.drew⟩
        case rest =>
          obtain ⟨rfl, o1, hb1⟩ := hcut
          have d1 := (hb1.cell (p := ⟨w2.heap.size, 0, none⟩) lt2).trans c10
          clear OS BS cI fI qx qa' qb
          have HSum : Hid (∀ n' c', n' = m → Calls Try.prog 17 #[.slice (some ⟨g, 0, none⟩) n' c'] wc fun e w' => e = .returned (.int .i64 (sumOf (T1.take m) : Nat)) ∧ w' = wc) := by
            intro n' c' hn
            have h := Sum_any (some ⟨g, 0, none⟩) (T1.take m) c' wc (by rw [List.length_take]; omega) (by have := o1.bts.sub 0 m; simpa using this)
            rw [List.length_take, HL1.out, show min m (m + 8) = m from by omega] at h
            rw [hn]
            exact h
          have hs32 := sumOf_lt' (T1.take m)
          obtain ⟨s, HS⟩ : ∃ s, Hid (s = sumOf (T1.take m)) := ⟨_, rfl⟩
          rw [← HS.out] at HSum hs32
          have K4 : Hid (∀ t : Int, t = (m : Int) → Calls Try.prog 16 #[.slice (some ⟨g, 0, none⟩) (m + 8) c, .int .i64 t, .int .i64 s] wc fun e w' => (∃ u, e = .returned u) ∧ Own W2.heap.size w' (.slice (some ⟨g, 0, none⟩) (m + 8) c) (putFour T1 m s) ∧ Below g wc w') := by
            intro t ht
            subst ht
            exact four_any W2.heap.size g T1 (m + 8) c wc m s HL1.out.symm (by rw [HL1.out]; omega) (by rw [HL1.out]; omega) hs32 o1
          have e0 : (0 : Int) ≤ (m : Int) + 8 - 8 := by omega
          have e1 : (m : Int) + 8 - 8 ≤ (c : Int) := by unfold maxLen at hcm; omega
          have e2 : ¬ c = 0 := by omega
          have e3 : (m : Int) + 8 - 4 ≤ (c : Int) := by omega
          go_wp2_with fail
          refine (HSum.out _ _ (by omega)).mono ?_
          rintro e w9 ⟨rfl, rfl⟩
          go_wp2_with fail
          refine (K4.out _ (by omega)).mono ?_
          rintro e w10 ⟨⟨u, rfl⟩, o2, b2⟩
          have hb2 := hb1.trans (b2.mono hWg)
          have d2 := (hb2.cell (p := ⟨w2.heap.size, 0, none⟩) lt2).trans c10
          obtain ⟨T2, HT2⟩ : ∃ T2, Hid (T2 = putFour T1 m s) := ⟨_, rfl⟩
          rw [← HT2.out] at o2
          have HL2 : Hid (T2.length = m + 8) := by show _ = _; rw [HT2.out, putFour_len T1 m s (by rw [HL1.out]; omega)]; exact HL1.out
          obtain ⟨tg, HTg⟩ : ∃ tg, Hid (tg = tagVal x1.data.toList (T2.take (m + 4))) := ⟨_, rfl⟩
          have ht32 : tg < 4294967296 := by rw [HTg.out]; exact tagVal_lt _ _
          have HTag : Hid (∀ k n' c', n' = m + 4 → Calls Try.prog 18 #[.string x1, .slice (some ⟨g, 0, none⟩) n' c'] (w10.drewN k) fun e w' => e = .returned (.tuple #[.int .i64 (tg : Nat), .int .i64 0]) ∧ w' = w10.drewN k) := by
            intro k n' c' hn
            have h := Tag_any x1 (some ⟨g, 0, none⟩) (T2.take (m + 4)) c' (w10.drewN k) hxs (by rw [List.length_take]; omega) (by have := (o2.bts.carry (below_drewN (Below.refl _ _) k)).sub 0 (m + 4); simpa using this)
            rw [List.length_take, HL2.out, show min (m + 4) (m + 8) = m + 4 from by omega] at h
            have h1 : tagNum x1 (T2.take (m + 4)) = tg := by rw [HTg.out, tagNum, if_pos hkk1.out]
            have h2 : tagErr x1 = 0 := by rw [tagErr, if_pos hkk1.out]
            rw [h1, h2] at h
            rw [hn]
            exact h
          have qw1 : IntKind.i64.wrap ((m : Int) + 4) = (m : Int) + 4 := by rw [IntKind.wrap_i64]; omega
          have qw2 : IntKind.i64.wrap ((m : Int) + 8 - 4) = (m : Int) + 4 := by rw [IntKind.wrap_i64]; omega
          have e4 : (m : Int) + 4 ≤ (c : Int) := by omega
          clear HSum K4 o1 hb1 d1 b2
          go_upto_region 19 with fail
          go_quiet ((go_at_call 18; exact Calls.quiet_of_same (unhide HTag _ _ _ (by omega))))
          have o2' := o2.carry (below_drewN (Below.refl w10.heap.size w10) nq)
          have hb3 := below_drewN hb2 nq
          generalize w10.drewN nq = W11 at *
          have K5 : Hid (∀ t : Int, t = (m : Int) + 4 → Calls Try.prog 16 #[.slice (some ⟨g, 0, none⟩) (m + 8) c, .int .i64 t, .int .i64 tg] W11 fun e w' => (∃ u, e = .returned u) ∧ Own W2.heap.size w' (.slice (some ⟨g, 0, none⟩) (m + 8) c) (putFour T2 (m + 4) tg) ∧ Below g W11 w') := by
            intro t ht
            subst ht
            exact four_any W2.heap.size g T2 (m + 8) c W11 (m + 4) tg HL2.out.symm (by rw [HL2.out]; omega) (by rw [HL2.out]; omega) ht32 o2'
          obtain ⟨hE1, hE2⟩ := seal_back HL1.out hkl.out hm5 hm4 HS.out HT2.out HTg.out
          obtain ⟨T3, HT3⟩ : ∃ T3, Hid (T3 = putFour T2 (m + 4) tg) := ⟨_, rfl⟩
          rw [← HT3.out] at hE1 hE2 K5
          have HE1 := hide hE1
          have HE2 := hide hE2
          clear HTag o2 o2' hb2 d2 hE1 hE2 qw1 qw2 HT2 HTg HS
          go_wp2_with fail
          refine (K5.out _ (by omega)).mono ?_
          rintro e w12 ⟨⟨u, rfl⟩, o3, b3⟩
          have hb4 := hb3.trans (b3.mono hWg)
          clear K5 b3 hb3
          go_wp2
          go_roundw
          case rel => first | exact ⟨k + 1, T3, by omega, by go_num, HE1, o3, HE2, (fun h => by omega), hb4⟩ | ((repeat apply Exists.intro); exact ⟨⟨k + 1, T3, by omega, by go_num, HE1, o3, HE2, (fun h => by omega), hb4⟩, rfl⟩)
          case measure => simp [intOf]; omega
    · have hki : ¬ (k : Int) < 2 := by omega
      go_wp2
      go_ret
      exact ⟨rfl, hbw⟩

end Go.Proofs.Ytgncohclofdhmab
