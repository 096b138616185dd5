import Derived.Test.YtgncohclofdhmabWenat
import Derived.Test.YtgncohclofdhmabWturned
import Derived.Test.YtgncohclofdhmabWkeyed
import Derived.Deep.DeepCutAuto
import Derived.Deep.RegionWith
import Derived.BigRegion
namespace Go.Proofs.Ytgncohclofdhmab
open Go.RowKit

theorem pairs_get (fs : List Ent) (k : Nat) (h : k < fs.length) : (pairsOf fs).getD k ([], []) = ((fs.getD k noEnt).path.data.toList, (fs.getD k noEnt).body) := by
  unfold pairsOf
  rw [List.getD_eq_getElem?_getD, List.getElem?_map, List.getD_eq_getElem?_getD, List.getElem?_eq_getElem h]
  rfl

theorem pairs_len (fs : List Ent) : (pairsOf fs).length = fs.length := by simp [pairsOf]

set_option maxRecDepth 100000 in
set_option maxHeartbeats 8000000 in
theorem Laid_walk (a : Option Addr) (es : List Ent) (cap : Nat) (w : World) (z zb za : Int) (k1 : ByteArray) (pk : Bool) (hl : ∀ e, e ∈ es → e.body.length ≤ 140737488351232) (hk1 : k1.size ≤ maxLen) (hz : -9223372036854775808 ≤ z) (hz2 : z ≤ 9223372036854775807) (hzb : -9223372036854775808 ≤ zb) (hzb2 : zb ≤ 9223372036854775807) (hza : -9223372036854775808 ≤ za) (hza2 : za ≤ 9223372036854775807) (ha : BodAt w a es) (hg : EntGood w es) :
    Calls Try.prog 7 #[.slice a es.length cap, .int .i64 z, .int .i64 zb, .string k1, .int .i64 za, .bool pk] w fun e w' => e = .returned (.bool true) ∧ Below w.heap.size w w' := by
  have HF := hide (files_any a es cap w z hl hz hz2 ha hg)
  obtain ⟨n', HN'⟩ : ∃ n', Hid (n' = es.length) := ⟨_, rfl⟩
  rw [← HN'.out] at HF ⊢
  have HC1 := hide (fun W => config_any k1 za pk W hk1 hza hza2)
  have hkk1 := hide (keyIs_key k1)
  generalize keyIs k1 = x1 at *
  have hp := pickN_lt za (n := 16) (by omega)
  obtain ⟨al, HAl⟩ : ∃ al, Hid (al = 1 + pickN za 16) := ⟨_, rfl⟩
  rw [← HAl.out] at HC1
  have hal1 : 1 ≤ al := by rw [HAl.out]; omega
  have hal2 : al ≤ 16 := by rw [HAl.out]; omega
  go_enter Try.func7, Try.ntmps7
  go_wp2_with fail
  refine HF.out.mono ?_
  rintro e w1 ⟨v1, fs, rfl, o1, HG, HM, b1⟩
  have HFd := hide (Filed.of HM)
  have hfl := HFd.out.len
  have HG' := hide HG
  obtain ⟨sa, sc, rfl, has, -, -⟩ := o1.shape
  clear HM HG HF o1
  obtain ⟨n, HN⟩ : ∃ n, Hid (n = fs.length) := ⟨_, rfl⟩
  rw [← HN.out] at hfl ⊢
  go_wp2_with fail
  refine (HC1.out _).mono ?_
  rintro e w2 ⟨rfl, b2⟩
  have B2 := b2.alloc b2.size (.cells #[.string x1, .int .i64 (al : Int), .bool pk] 24)
  have c10 : (w2.alloc (.cells #[.string x1, .int .i64 (al : Int), .bool pk] 24)).cell? ⟨w2.heap.size, 0, none⟩ = some (.string x1) := cell_new w2 _ _ 0
  have c11 : (w2.alloc (.cells #[.string x1, .int .i64 (al : Int), .bool pk] 24)).cell? ⟨w2.heap.size, 1, none⟩ = some (.int .i64 (al : Int)) := cell_new w2 _ _ 1
  have c12 : (w2.alloc (.cells #[.string x1, .int .i64 (al : Int), .bool pk] 24)).cell? ⟨w2.heap.size, 2, none⟩ = some (.bool pk) := cell_new w2 _ _ 2
  have has2 := has.carry B2
  have HG2 := hide (HG'.out.carry B2)
  have lt2 : w2.heap.size < (w2.alloc (.cells #[.string x1, .int .i64 (al : Int), .bool pk] 24)).heap.size := by simp
  have hbw2 := b1.trans (B2.mono b1.size)
  clear b2 B2 HG'
  go_upto_region 3 with fail
  generalize w2.alloc (.cells #[.string x1, .int .i64 (al : Int), .bool pk] 24) = W2 at *
  have HTu : Hid (∀ W, Below W2.heap.size W2 W → Calls Try.prog 19 #[.slice sa n sc, .int .i64 zb] W fun e w' => ∃ v os g, e = .returned v ∧ OwnE W.heap.size w' v os ∧ EntOwn W.heap.size w' os ∧ Turn g fs.length ∧ Turned g fs os ∧ Below W.heap.size W w') := by
    intro W hW
    rw [HN.out]
    exact turned_any sa fs sc W zb (by rw [← HN.out]; omega) HFd.out.body hzb hzb2 (has2.carry hW) (HG2.out.carry hW).good
  obtain ⟨M, HM⟩ : ∃ M, Hid (M = madeOf x1.data.toList pk al (pairsOf fs)) := ⟨_, rfl⟩
  have hMl : M.length ≤ 4000 := by rw [HM.out]; exact HFd.out.short x1.data.toList pk al hal1 hal2
  go_cut [15, 16, 17] (fun s15 s16 s17 wx => ∃ (bk off c : Nat), s15 = .slice (some ⟨bk, off, none⟩) M.length c ∧ s16 = .int .i64 0 ∧ s17 = .string ByteArray.empty ∧ Bts wx (some ⟨bk, off, none⟩) M ∧ M.length ≤ c ∧ c ≤ maxLen ∧ Below W2.heap.size W2 wx)
  case first =>
    go_region_with (first
      | (go_at_call 19; refine (unhide HTu _ (by first | exact Below.refl _ _ | exact (Below.refl _ _).drew | exact (Below.refl _ _).drew.drew | exact below_drewN (Below.refl _ _) _)).mono ?_; rintro e w3 ⟨v3, os, g, rfl, o3, G3, T3, D3, b3⟩; obtain ⟨a3, c3, rfl, hat3, -, -⟩ := o3.shape; have hB3 : Below W2.heap.size W2 w3 := (by first | exact b3 | exact (Below.refl _ _).drew.trans b3 | exact (Below.refl _ _).drew.drew.trans b3); have d0 := (hB3.cell (p := ⟨w2.heap.size, 0, none⟩) lt2).trans c10; have d1 := (hB3.cell (p := ⟨w2.heap.size, 1, none⟩) lt2).trans c11; have d2 := (hB3.cell (p := ⟨w2.heap.size, 2, none⟩) lt2).trans c12; have hol : os.length ≤ 6 := (by rw [D3.1, ← HN.out]; exact hfl))
      | (go_at_call 10; refine (Build_keeps a3 os c3 _ x1 (al : Int) pk (by unfold maxLen; omega) (keyB_le hkk1.out) (by exact hat3) (by exact G3.good)).mono ?_; rintro e w4 ⟨v4, E4, p4, rfl, A4, b4⟩))
    all_goals (go_wp2_with fail; go_meet)
    all_goals
      obtain ⟨rfl, rfl, o4⟩ := ans_filed HFd.out T3 D3 hkk1.out hal1 hal2 A4
      rw [← HM.out] at o4
      obtain ⟨a4, c4, rfl, hb4, hc4, hcm4⟩ := o4.shape
      obtain ⟨b4', off4, rfl⟩ := hb4.first (by rw [HM.out, madeOf_split]; simp [fourOf])
      exact ⟨b4', off4, c4, rfl, rfl, rfl, hb4, hc4, hcm4, hB3.trans (by first | exact b4.mono hB3.size | exact (Below.refl _ _).drew.trans (b4.mono hB3.size))⟩
  case rest =>
    obtain ⟨bk, off, c, rfl, rfl, rfl, hb, hc, hcm, hbl⟩ := hcut
    unfold maxLen at hcm
    have hasc := has2.carry hbl
    have HGc := hide (HG2.out.carry hbl)
    have d0 := (hbl.cell (p := ⟨w2.heap.size, 0, none⟩) lt2).trans c10
    have d1 := (hbl.cell (p := ⟨w2.heap.size, 1, none⟩) lt2).trans c11
    have d2 := (hbl.cell (p := ⟨w2.heap.size, 2, none⟩) lt2).trans c12
    have hbw := hbw2.trans (hbl.mono hbw2.size)
    clear hbl c10 c11 c12 lt2 hbw2 has2 HG2 HTu
    obtain ⟨pn, HPn⟩ : ∃ pn : Nat, Hid (pn = if pk then 1 else 0) := ⟨_, rfl⟩
    obtain ⟨hr, hMh⟩ := made_head x1.data.toList pk al (pairsOf fs)
    rw [← HM.out, pairs_len, ← HN.out] at hMh
    have HNu := hide (head_nums pk al n hr hal2 (by omega))
    rw [← hMh, ← HPn.out] at HNu
    clear hMh
    have hM8 : 13 ≤ M.length := by
      have h := upto4_ge pk al (pairsOf fs)
      rw [HM.out, madeOf_split, List.length_append]
      simp [fourOf]
      omega
    go_upto_if 42 with fail
    go_cut [18, 42] (fun s18 _ wx => s18 = .int .i64 (pn : Nat) ∧ wx = wc)
    case first =>
      cases pk
      · go_wp2
        go_meet
        exact ⟨by rw [HPn.out]; rfl, rfl⟩
      · go_wp2
        go_meet
        exact ⟨by rw [HPn.out]; rfl, rfl⟩
    case rest =>
      obtain ⟨rfl, rfl⟩ := hcut
      have HNum : Hid (∀ k (t d : Int), 0 ≤ t → 0 ≤ d → t + d ≤ M.length → d ≤ 4 → Calls Try.prog 20 #[.slice (some ⟨bk, off, none⟩) M.length c, .int .i64 t, .int .i64 d] (wc.drewN k) fun e w' => e = .returned (.int .i64 (numAt M t.toNat d.toNat : Nat)) ∧ w' = wc.drewN k) := by
        intro k t d h1 h2 h3 h4
        exact number_int _ M c _ t d h1 h2 h3 h4 (by omega) (hb.carry (below_drewN (Below.refl _ _) k))
      have h02 : numAt M 0 2 = 20556 := HNu.out.1
      have h21 : numAt M 2 1 = al := HNu.out.2.1
      have h31 : numAt M 3 1 = pn := HNu.out.2.2.1
      have h41 : numAt M 4 1 = n := HNu.out.2.2.2
      go_upto_region 7 with fail
      go_quiet ((go_at_call 20; exact Calls.quiet_of_same (unhide HNum _ _ _ (by omega) (by omega) (by omega) (by omega))))
      have hb3 := hb.carry (below_drewN (Below.refl wc.heap.size wc) nq)
      have has3 := hasc.carry (below_drewN (Below.refl wc.heap.size wc) nq)
      have HG3 := hide (HGc.out.carry (below_drewN (Below.refl wc.heap.size wc) nq))
      have hbw3 := below_drewN hbw nq
      have q0 : (wc.drewN nq).cell? ⟨w2.heap.size, 0, none⟩ = some (.string x1) := d0
      have q1 : (wc.drewN nq).cell? ⟨w2.heap.size, 1, none⟩ = some (.int .i64 (al : Int)) := d1
      have q2 : (wc.drewN nq).cell? ⟨w2.heap.size, 2, none⟩ = some (.bool pk) := d2
      generalize wc.drewN nq = W3 at *
      clear HNum h02 h21 h31 h41 HNu hb hasc HGc hbw d0 d1 d2
      go_wp2
      go_loopw [19, 20] (fun t i wr => ∃ k : Nat, k ≤ n ∧ i = .int .i64 k ∧ t = .int .i64 ((bodyTo pk al (pairsOf fs) k).length : Nat) ∧ Below W3.heap.size W3 wr) (fun _ i _ => n - (intOf i).toNat)
      case atStart => exact ⟨0, by omega, rfl, rfl, Below.refl _ _⟩
      case round =>
        obtain ⟨k, hk, rfl, rfl, hbl⟩ := hrel
        by_cases hlt : k < n
        · have hlt2 : k < fs.length := by rw [← HN.out]; exact hlt
          obtain ⟨b, off', rfl, hc1, hc2⟩ := (has3.carry hbl) k hlt2
          have hmem := getD_mem hlt2
          have l1 := (HFd.out.path _ hmem).2
          have l2 := HFd.out.body _ hmem
          obtain ⟨g1, g2, g3, g4⟩ := ((HG3.out.carry hbl).good) _ hmem
          obtain ⟨post, hpo, hME, hnx⟩ := made_entry x1.data.toList pk al (pairsOf fs) k (by rw [pairs_len]; exact hlt2)
          rw [pairs_get fs k hlt2] at hME hnx
          dsimp only at hME hnx
          rw [← HM.out] at hME
          have HEf := hide (entry_facts hME (by rw [strLen]; omega) l2 hal1 hal2)
          have hnl : (bodyTo pk al (pairsOf fs) (k + 1)).length = (bodyTo pk al (pairsOf fs) k).length + 7 + (fs.getD k noEnt).path.size + entPad pk al (bodyTo pk al (pairsOf fs) k).length (fs.getD k noEnt).path.data.toList (fs.getD k noEnt).body + (laidOf pk (fs.getD k noEnt).body).length := by
            rw [hnx, List.length_append, entOf_len, strLen]
            omega
          have hpl : (bodyTo pk al (pairsOf fs) (k + 1)).length < M.length := by
            have h1 := congrArg List.length hME
            have h2 := congrArg List.length hnx
            simp only [List.length_append] at h1 h2
            omega
          clear hME hnx
          obtain ⟨n1, HN1⟩ : ∃ n1, Hid (n1 = (bodyTo pk al (pairsOf fs) (k + 1)).length) := ⟨_, rfl⟩
          rw [← HN1.out] at hnl hpl
          generalize (bodyTo pk al (pairsOf fs) k).length = n0 at *
          generalize fs.getD k noEnt = x at *
          generalize entPad pk al n0 x.path.data.toList x.body = pd at *
          generalize (laidOf pk x.body).length = L at *
          generalize methOf pk x.body = m at *
          unfold Ent.val at hc2
          have r0 := (hbl.cell (p := ⟨w2.heap.size, 0, none⟩) (World.block_lt_of_cell? _ _ q0)).trans q0
          have r1 := (hbl.cell (p := ⟨w2.heap.size, 1, none⟩) (World.block_lt_of_cell? _ _ q1)).trans q1
          have r2 := (hbl.cell (p := ⟨w2.heap.size, 2, none⟩) (World.block_lt_of_cell? _ _ q2)).trans q2
          have HEn : Hid (∀ W, Below wr.heap.size wr W → Calls Try.prog 21 #[.slice (some ⟨bk, off, none⟩) M.length c, .int .i64 n0, .agg #[.string x.path, .slice x.adr x.body.length x.cap], .agg #[.string x1, .int .i64 al, .bool pk]] W fun e w' => e = .returned (.int .i64 (n1 : Nat)) ∧ Below W.heap.size W w') := by
            intro W hW
            have h := entryAt_any bk off M c W x.path x1 x.adr x.body x.cap al n0 pd L m pk HEf.out (by omega) (by omega) hc (by unfold maxLen; omega) (by omega) l2 hal1 hal2 ((hb3.carry hbl).carry hW) (g1.carry hW)
            rw [hnl]
            exact h
          have hn1 : ¬ ((n1 : Int) < 0) := by omega
          clear hnl hpl g1
          go_wp2
          go_region_with (go_at_call 21; refine (unhide HEn _ (by first | exact Below.refl _ _ | exact (Below.refl _ _).drew | exact (Below.refl _ _).drew.drew | exact below_drewN (Below.refl _ _) _)).mono ?_; rintro e w5 ⟨rfl, b5⟩)
          all_goals
            have b5' : Below wr.heap.size wr w5 := by first | exact b5 | exact (Below.refl _ _).drew.trans b5 | exact (Below.refl _ _).drew.drew.trans b5
            have hbl5 := hbl.trans (b5'.mono hbl.size)
            clear b5 b5' hbl r0 r1 r2 HEn hc1 hc2
            go_wp2
            go_roundw
            case rel => (repeat apply Exists.intro); exact ⟨⟨k + 1, by omega, by go_num, by rw [HN1.out], hbl5⟩, rfl⟩
            case measure => simp [intOf]; omega
        · obtain rfl : k = n := by omega
          obtain ⟨bl, HBl⟩ : ∃ bl, Hid (bl = (bodyTo pk al (pairsOf fs) k).length) := ⟨_, rfl⟩
          rw [← HBl.out]
          obtain ⟨P, HPp⟩ : ∃ P, Hid (P = plainOf pk al (pairsOf fs)) := ⟨_, rfl⟩
          have HPl : Hid (P.length = bl + 4 * k) := by
            show _ = _
            rw [HPp.out, plain_len, pairs_len, HBl.out, HN.out]
          have HMe : Hid (M = P ++ (fourOf (sumOf P) ++ fourOf (tagVal x1.data.toList (summed P)))) := by
            show _ = _
            rw [HM.out, HPp.out]
            exact made_end _ _ _ _
          have HMl : Hid (M.length = bl + 4 * k + 8) := by
            have := HPl.out
            show _ = _
            rw [HMe.out]
            simp [fourOf]
            omega
          go_wp2
          go_loopw [19, 21, 22] (fun t i _ wq => ∃ j : Nat, j ≤ k ∧ i = .int .i64 j ∧ t = .int .i64 ((bl + 4 * j : Nat) : Int) ∧ Below W3.heap.size W3 wq) (fun _ i _ _ => k - (intOf i).toNat)
          case atStart => exact ⟨0, by omega, rfl, by simp, hbl⟩
          clear hbl
          case round =>
            obtain ⟨j, hj, rfl, rfl, hbl⟩ := hrel
            obtain ⟨at_, HAt⟩ : ∃ at_, Hid (at_ = bl + 4 * j) := ⟨_, rfl⟩
            rw [← HAt.out]
            by_cases hlt : j < k
            · have hlt2 : j < fs.length := by rw [← HN.out]; exact hlt
              obtain ⟨b, off', rfl, hc1, hc2⟩ := (has3.carry hbl) j hlt2
              have hmem := getD_mem hlt2
              have l2 := HFd.out.body _ hmem
              obtain ⟨g1, g2, g3, g4⟩ := ((HG3.out.carry hbl).good) _ hmem
              obtain ⟨post, hME⟩ := made_sum x1.data.toList pk al (pairsOf fs) j (by rw [pairs_len]; exact hlt2)
              rw [pairs_get fs j hlt2, ← HM.out, pairs_len, ← HN.out] at hME
              dsimp only at hME
              have hal4 : at_ = (bodyTo pk al (pairsOf fs) k ++ sumsOf ((pairsOf fs).take j)).length := by
                rw [HAt.out, HBl.out, List.length_append, sumsOf_length, List.length_take, pairs_len]
                omega
              have hnum := numAt_at hME hal4 (by simp [fourOf]) (numAt_four _ (sumOf_lt' (fs.getD j noEnt).body))
              have hatl : at_ + 4 ≤ M.length := by have := HAt.out; have := HMl.out; omega
              clear hME hal4
              generalize fs.getD j noEnt = x at *
              unfold Ent.val at hc2
              have hbM := hb3.carry hbl
              go_wp2_with fail
              refine (Sum_any x.adr x.body x.cap _ (by omega) g1).mono ?_
              rintro e w5 ⟨rfl, rfl⟩
              go_wp2_with fail
              refine (number_is _ M c _ _ _ at_ 4 (sumOf x.body) rfl rfl hnum hatl (by omega) (by omega) hbM).mono ?_
              rintro e w5 ⟨rfl, rfl⟩
              clear hnum
              go_wp2
              go_roundw
              case rel => first | exact ⟨j + 1, by omega, by go_num, by rw [HAt.out]; first | rfl | (congr 1; omega) | congr 1, hbl⟩ | ((repeat apply Exists.intro); exact ⟨⟨j + 1, by omega, by go_num, by rw [HAt.out]; first | rfl | (congr 1; omega) | congr 1, hbl⟩, rfl⟩)
              case measure => simp [intOf]; omega
            · obtain rfl : j = k := by omega
              have hbM := hb3.carry hbl
              have hAt := HAt.out
              have hPl := HPl.out
              have hMl8 : M.length = at_ + 8 := by have := HMl.out; omega
              have hbP : Bts wr (some ⟨bk, off, none⟩) P := by
                have h := hbM
                rw [HMe.out] at h
                exact h.left
              have hbS : Bts wr (some ⟨bk, off, none⟩) (summed P) := by
                have h := hbM
                rw [HMe.out, ← List.append_assoc] at h
                exact h.left
              have hSl : (summed P).length = at_ + 4 := by
                unfold summed
                simp [fourOf]
                omega
              obtain ⟨tg, HTg⟩ : ∃ tg, Hid (tg = tagVal x1.data.toList (summed P)) := ⟨_, rfl⟩
              have hn1 : numAt M at_ 4 = sumOf P := numAt_at (pre := P) HMe.out (by omega) (by simp [fourOf]) (numAt_four _ (sumOf_lt' P))
              have hn2 : numAt M (at_ + 4) 4 = tg := by
                refine numAt_at (pre := summed P) (ys := fourOf tg) (post := []) ?_ (by omega) (by simp [fourOf]) (numAt_four _ (by rw [HTg.out]; exact tagVal_lt _ _))
                rw [HMe.out, HTg.out]
                simp [summed]
              have HN1 := hide hn1
              have HN2 := hide hn2
              have HSum : Hid (∀ n' c', n' = at_ → Calls Try.prog 17 #[.slice (some ⟨bk, off, none⟩) n' c'] wr fun e w' => e = .returned (.int .i64 (sumOf P : Nat)) ∧ w' = wr) := by
                intro n' c' hn
                have h := Sum_any (some ⟨bk, off, none⟩) P c' wr (by omega) hbP
                rw [hn, show at_ = P.length from by omega]
                exact h
              have HTag : Hid (∀ k n' c', n' = at_ + 4 → Calls Try.prog 18 #[.string x1, .slice (some ⟨bk, off, none⟩) n' c'] (wr.drewN k) fun e w' => e = .returned (.tuple #[.int .i64 (tg : Nat), .int .i64 0]) ∧ w' = wr.drewN k) := by
                intro k n' c' hn
                have h := Tag_any x1 (some ⟨bk, off, none⟩) (summed P) c' (wr.drewN k) (keyB_le hkk1.out) (by omega) (hbS.carry (below_drewN (Below.refl _ _) k))
                rw [hSl] at h
                have h1 : tagNum x1 (summed P) = tg := by rw [HTg.out, tagNum, if_pos hkk1.out]
                have h2 : tagErr x1 = 0 := by rw [tagErr, if_pos hkk1.out]
                rw [h1, h2] at h
                rw [hn]
                exact h
              have r0 := (hbl.cell (p := ⟨w2.heap.size, 0, none⟩) (World.block_lt_of_cell? _ _ q0)).trans q0
              have e1 : ((at_ : Int) + 8 != (M.length : Int)) = false := by rw [bne_eq_false_iff_eq]; omega
              have e2 : (at_ : Int) ≤ (c : Int) := by omega
              have e3 : ¬ c = 0 := by omega
              have e4 : (at_ : Int) + 4 ≤ (c : Int) := by omega
              have e5 : at_ + 8 ≤ M.length := by omega
              have hbw5 := hbw3.trans (hbl.mono hbw3.size)
              clear hAt hPl hMl8 hSl hbP hbS hn1 hn2
              generalize sumOf P = sm at *
              go_wp2_with fail
              refine (HSum.out _ _ (by omega)).mono ?_
              rintro e w5 ⟨rfl, rfl⟩
              clear HSum
              go_upto_region 26 with fail
              go_quiet ((go_at_call 18; exact Calls.quiet_of_same (unhide HTag _ _ _ (by omega))))
              have hbM5 := hbM.carry (below_drewN (Below.refl w5.heap.size w5) nq)
              have hbw6 := below_drewN hbw5 nq
              generalize w5.drewN nq = W5 at *
              clear HTag r0 hbM hbw5
              go_wp2_with fail
              refine (number_is _ M c _ _ _ at_ 4 sm rfl rfl HN1.out (by omega) (by omega) (by omega) hbM5).mono ?_
              rintro e W5 ⟨rfl, rfl⟩
              go_wp2_with fail
              refine (number_is _ M c _ _ _ (at_ + 4) 4 tg (by omega) rfl HN2.out (by omega) (by omega) (by omega) hbM5).mono ?_
              rintro e W5 ⟨rfl, rfl⟩
              go_wp2
              go_ret
              exact ⟨rfl, hbw6⟩

end Go.Proofs.Ytgncohclofdhmab
