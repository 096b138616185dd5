import Derived.Test.YtgncohclofdhmaaWkv
import Derived.Test.YtgncohclofdhmaaWturned
import Derived.Test.YtgncohclofdhmaaWkeyed
import Derived.Test.YtgncohclofdhmaaWrdb
import Derived.Deep.DeepCutAuto
import Derived.Deep.RegionWith
import Derived.BigRegion
namespace Go.Proofs.Ytgncohclofdhmaa
open Go.RowKit

set_option maxRecDepth 100000 in
set_option maxHeartbeats 8000000 in
theorem Round_walk (a : Option Addr) (es : List Ent) (cap : Nat) (w : World) (z zb za : Int) (k1 : ByteArray) (pk : Bool) (hl : ∀ e, e ∈ es → e.body.length ≤ 140737488351232) (hk1 : k1.size ≤ maxLen) (hz : -9223372036854775808 ≤ z) (hz2 : z ≤ 9223372036854775807) (hzb : -9223372036854775808 ≤ zb) (hzb2 : zb ≤ 9223372036854775807) (hza : -9223372036854775808 ≤ za) (hza2 : za ≤ 9223372036854775807) (ha : BodAt w a es) (hg : EntGood w es) :
    Calls Try.prog 13 #[.slice a es.length cap, .int .i64 z, .int .i64 zb, .string k1, .int .i64 za, .bool pk] w fun e w' => e = .returned (.bool true) ∧ Below w.heap.size w w' := by
  have HF := hide (files_any a es cap w z hl hz hz2 ha hg)
  obtain ⟨n', HN'⟩ : ∃ n', Hid (n' = es.length) := ⟨_, rfl⟩
  rw [← HN'.out] at HF ⊢
  have HC1 := hide (fun W => config_any k1 za pk W hk1 hza hza2)
  have hkk1 := hide (keyIs_key k1)
  generalize keyIs k1 = x1 at *
  have hp := pickN_lt za (n := 16) (by omega)
  obtain ⟨al, HAl⟩ : ∃ al, Hid (al = 1 + pickN za 16) := ⟨_, rfl⟩
  rw [← HAl.out] at HC1
  have hal1 : 1 ≤ al := by rw [HAl.out]; omega
  have hal2 : al ≤ 16 := by rw [HAl.out]; omega
  go_enter Try.func13, Try.ntmps13
  go_wp2_with fail
  refine HF.out.mono ?_
  rintro e w1 ⟨v1, fs, rfl, o1, HG, HM, b1⟩
  have HFd := hide (Filed.of HM)
  have hfl := HFd.out.len
  have HG' := hide HG
  obtain ⟨sa, sc, rfl, has, -, -⟩ := o1.shape
  clear HM HG HF o1
  obtain ⟨n, HN⟩ : ∃ n, Hid (n = fs.length) := ⟨_, rfl⟩
  rw [← HN.out] at hfl ⊢
  go_wp2_with fail
  refine (HC1.out _).mono ?_
  rintro e w2 ⟨rfl, b2⟩
  have B2 := b2.alloc b2.size (.cells #[.string x1, .int .i64 (al : Int), .bool pk] 37)
  have c10 : (w2.alloc (.cells #[.string x1, .int .i64 (al : Int), .bool pk] 37)).cell? ⟨w2.heap.size, 0, none⟩ = some (.string x1) := cell_new w2 _ _ 0
  have c11 : (w2.alloc (.cells #[.string x1, .int .i64 (al : Int), .bool pk] 37)).cell? ⟨w2.heap.size, 1, none⟩ = some (.int .i64 (al : Int)) := cell_new w2 _ _ 1
  have c12 : (w2.alloc (.cells #[.string x1, .int .i64 (al : Int), .bool pk] 37)).cell? ⟨w2.heap.size, 2, none⟩ = some (.bool pk) := cell_new w2 _ _ 2
  have has2 := has.carry B2
  have HG2 := hide (HG'.out.carry B2)
  have lt2 : w2.heap.size < (w2.alloc (.cells #[.string x1, .int .i64 (al : Int), .bool pk] 37)).heap.size := by simp
  have hbw2 := b1.trans (B2.mono b1.size)
  clear b2 B2 HG'
  go_upto_region 3 with fail
  generalize w2.alloc (.cells #[.string x1, .int .i64 (al : Int), .bool pk] 37) = W2 at *
  have HTu : Hid (∀ W, Below W2.heap.size W2 W → Calls Try.prog 43 #[.slice sa n sc, .int .i64 zb] W fun e w' => ∃ v os g, e = .returned v ∧ OwnE W.heap.size w' v os ∧ EntOwn W.heap.size w' os ∧ Turn g fs.length ∧ Turned g fs os ∧ Below W.heap.size W w') := by
    intro W hW
    rw [HN.out]
    exact turned_any sa fs sc W zb (by rw [← HN.out]; omega) HFd.out.body hzb hzb2 (has2.carry hW) (HG2.out.carry hW).good
  obtain ⟨M, HM⟩ : ∃ M, Hid (M = madeOf x1.data.toList pk al (pairsOf fs)) := ⟨_, rfl⟩
  have hMl : M.length ≤ 4000 := by rw [HM.out]; exact HFd.out.short x1.data.toList pk al hal1 hal2
  go_cut [15, 16, 17] (fun s15 s16 s17 wx => ∃ (bk off c : Nat), s15 = .slice (some ⟨bk, off, none⟩) M.length c ∧ s16 = .int .i64 0 ∧ s17 = .string ⟨#[]⟩ ∧ Bts wx (some ⟨bk, off, none⟩) M ∧ M.length ≤ c ∧ c ≤ maxLen ∧ Below W2.heap.size W2 wx)
  case first =>
    go_region_with (first
      | (go_at_call 43; refine (unhide HTu _ (by first | exact Below.refl _ _ | exact (Below.refl _ _).drew | exact (Below.refl _ _).drew.drew | exact below_drewN (Below.refl _ _) _)).mono ?_; rintro e w3 ⟨v3, os, g, rfl, o3, G3, T3, D3, b3⟩; obtain ⟨a3, c3, rfl, hat3, -, -⟩ := o3.shape; have hB3 : Below W2.heap.size W2 w3 := (by first | exact b3 | exact (Below.refl _ _).drew.trans b3 | exact (Below.refl _ _).drew.drew.trans b3); have d0 := (hB3.cell (p := ⟨w2.heap.size, 0, none⟩) lt2).trans c10; have d1 := (hB3.cell (p := ⟨w2.heap.size, 1, none⟩) lt2).trans c11; have d2 := (hB3.cell (p := ⟨w2.heap.size, 2, none⟩) lt2).trans c12; have hol : os.length ≤ 6 := (by rw [D3.1, ← HN.out]; exact hfl))
      | (go_at_call 26; refine (Build_keeps a3 os c3 _ x1 (al : Int) pk (by unfold maxLen; omega) (keyB_le hkk1.out) (by exact hat3) (by exact G3.good)).mono ?_; rintro e w4 ⟨v4, E4, p4, rfl, A4, b4⟩))
    all_goals (go_wp2_with fail; go_meet)
    all_goals
      obtain ⟨rfl, rfl, o4⟩ := ans_filed HFd.out T3 D3 hkk1.out hal1 hal2 A4
      rw [← HM.out] at o4
      obtain ⟨a4, c4, rfl, hb4, hc4, hcm4⟩ := o4.shape
      obtain ⟨b4', off4, rfl⟩ := hb4.first (by rw [HM.out]; have := made_ge x1.data.toList pk al (pairsOf fs); omega)
      exact ⟨b4', off4, c4, rfl, rfl, rfl, hb4, hc4, hcm4, hB3.trans (by first | exact b4.mono hB3.size | exact (Below.refl _ _).drew.trans (b4.mono hB3.size))⟩
  case rest =>
    obtain ⟨bk, off, c, rfl, rfl, rfl, hb, hc, hcm, hbl⟩ := hcut
    have hasc := has2.carry hbl
    have HGc := hide (HG2.out.carry hbl)
    have d0 := (hbl.cell (p := ⟨w2.heap.size, 0, none⟩) lt2).trans c10
    have d1 := (hbl.cell (p := ⟨w2.heap.size, 1, none⟩) lt2).trans c11
    have d2 := (hbl.cell (p := ⟨w2.heap.size, 2, none⟩) lt2).trans c12
    have hbw := hbw2.trans (hbl.mono hbw2.size)
    have lt3 : w2.heap.size < wc.heap.size := Nat.lt_of_lt_of_le lt2 hbl.size
    have HPk : Hid (IsPack x1.data.toList M (pairsOf fs) al pk) := by rw [HM.out]; exact HFd.out.pack x1.data.toList pk hal1 hal2
    have HCl : Hid (verHead x1.data.toList M = 0) := by show _ = _; rw [HM.out]; exact HFd.out.clean x1 pk hal1 hal2 hkk1.out
    have hxs := keyB_le hkk1.out
    clear hbl c10 c11 c12 lt2 hbw2 has2 HG2 HTu
    have KV := hide (Verify_keeps (some ⟨bk, off, none⟩) M c wc x1 (by omega) hxs hc hcm hb)
    go_wp2_with fail
    refine KV.out.mono ?_
    rintro e w4 ⟨v4, cfg4, E4, rfl, A4, b4⟩
    obtain ⟨rfl, rfl, ms, hal4, o4, g4⟩ := ver_pack A4 HPk.out HCl.out
    have HAl4 := hide hal4
    have g4' := hide g4
    obtain ⟨ma, mc, rfl, hat4, -, -⟩ := o4.shape
    have Ba : Below w4.heap.size w4 (w4.alloc (.cells #[.string x1, .int .i64 (al : Nat), .bool pk] 37)) := (Below.refl _ _).alloc (Nat.le_refl _) _
    have q0 : (w4.alloc (.cells #[.string x1, .int .i64 (al : Nat), .bool pk] 37)).cell? ⟨w4.heap.size, 0, none⟩ = some (.string x1) := cell_new w4 _ _ 0
    have q1 : (w4.alloc (.cells #[.string x1, .int .i64 (al : Nat), .bool pk] 37)).cell? ⟨w4.heap.size, 1, none⟩ = some (.int .i64 (al : Nat)) := cell_new w4 _ _ 1
    have q2 : (w4.alloc (.cells #[.string x1, .int .i64 (al : Nat), .bool pk] 37)).cell? ⟨w4.heap.size, 2, none⟩ = some (.bool pk) := cell_new w4 _ _ 2
    have lt5 : w4.heap.size < (w4.alloc (.cells #[.string x1, .int .i64 (al : Nat), .bool pk] 37)).heap.size := by simp
    have b5 := b4.trans (Ba.mono b4.size)
    have e0 := (b5.cell (p := ⟨w2.heap.size, 0, none⟩) lt3).trans d0
    have e1 := (b5.cell (p := ⟨w2.heap.size, 1, none⟩) lt3).trans d1
    have e2 := (b5.cell (p := ⟨w2.heap.size, 2, none⟩) lt3).trans d2
    have hasd := hasc.carry b5
    have HGd := hide (HGc.out.carry b5)
    have hat5 := hat4.carry Ba
    have g5 := hide (g4'.out.carry Ba)
    have hb5 := hb.carry b5
    have hbw5 := hbw.trans (b5.mono hbw.size)
    have lt6 : w2.heap.size < w4.heap.size := Nat.lt_of_lt_of_le lt3 b4.size
    clear A4 hal4 g4 o4 hat4 g4' Ba b4 b5 hasc HGc hb d0 d1 d2 KV hbw
    go_wp2_with fail
    generalize w4.alloc (.cells #[.string x1, .int .i64 (al : Nat), .bool pk] 37) = W5 at *
    have KS := hide (sameFiles_any sa ma fs ms sc mc W5 (by rw [← HN.out]; omega) HAl4.out (fun e he => by have := HFd.out.body e he; omega) hasd hat5 HGd.out.good g5.out.good)
    rw [← HN.out] at KS
    refine KS.out.mono ?_
    rintro e w6 ⟨rfl, b6⟩
    have f0 := (b6.cell (p := ⟨w2.heap.size, 0, none⟩) (by show w2.heap.size < _; omega)).trans e0
    have f1 := (b6.cell (p := ⟨w2.heap.size, 1, none⟩) (by show w2.heap.size < _; omega)).trans e1
    have f2 := (b6.cell (p := ⟨w2.heap.size, 2, none⟩) (by show w2.heap.size < _; omega)).trans e2
    have r0 := (b6.cell (p := ⟨w4.heap.size, 0, none⟩) lt5).trans q0
    have r1 := (b6.cell (p := ⟨w4.heap.size, 1, none⟩) lt5).trans q1
    have r2 := (b6.cell (p := ⟨w4.heap.size, 2, none⟩) lt5).trans q2
    have has6 := hasd.carry b6
    have HG6 := hide (HGd.out.carry b6)
    have hb6 := hb5.carry b6
    have hbw6 := hbw5.trans (b6.mono hbw5.size)
    have lt7 : w2.heap.size < w6.heap.size := by have := b6.size; omega
    clear e0 e1 e2 q0 q1 q2 hasd HGd hat5 g5 hb5 hbw5 b6 KS HAl4
    go_wp2
    go_loopw [22, 23, 24, 25] (fun i _ _ _ wr => ∃ k : Nat, k ≤ n ∧ i = .int .i64 k ∧ Below w6.heap.size w6 wr) (fun i _ _ _ _ => n - (intOf i).toNat)
    case atStart => exact ⟨0, by omega, rfl, Below.refl _ _⟩
    case round =>
      obtain ⟨k, hk, rfl, hbl⟩ := hrel
      have g0 := (hbl.cell (p := ⟨w2.heap.size, 0, none⟩) lt7).trans f0
      have hbr := hb6.carry hbl
      by_cases hlt : k < n
      · have hk1 : k < fs.length := by have := HN.out; omega
        obtain ⟨b, off', e, c1, c2⟩ := (has6.carry hbl) k hk1
        subst e
        have hmem : fs.getD k noEnt ∈ fs := getD_mem hk1
        have HX := hide ((HG6.out.carry hbl).good _ hmem)
        have hxb := HFd.out.body _ hmem
        have hxp := (HFd.out.path _ hmem).2
        have HFi : Hid (∀ W, Below wr.heap.size wr W → Calls Try.prog 33 #[.slice (some ⟨bk, off, none⟩) M.length c, .string (fs.getD k noEnt).path, .string x1] W fun e w' => ∃ v, e = .returned (.tuple #[v, .int .i64 0]) ∧ Own W.heap.size w' v (fs.getD k noEnt).body ∧ Below W.heap.size W w') := by
          intro W hW
          refine (Find_keeps (some ⟨bk, off, none⟩) M c W x1 (fs.getD k noEnt).path (by omega) hxs (by unfold maxLen; omega) hc hcm (hbr.carry hW)).mono ?_
          rintro e w' ⟨v, E, rfl, A, b⟩
          obtain ⟨rfl, o⟩ := find_pack A HPk.out HCl.out hmem rfl
          exact ⟨v, rfl, o, b⟩
        unfold Ent.val at c2
        generalize fs.getD k noEnt = x at *
        have hki : (k : Int) < (n : Int) := by omega
        go_upto_region 13 with fail
        go_cut [23, 24] (fun s23 s24 wx => ∃ (xa : Option Addr) (xc : Nat), s23 = .slice xa x.body.length xc ∧ s24 = .int .i64 0 ∧ Bts wx xa x.body ∧ Below wr.heap.size wr wx)
        case first =>
          clear f0 f1 f2 r0 r1 r2 lt5 lt6 lt3 hbw6 has6 HG6 hb6 hbr HX
          go_region_with (go_at_call 33; refine (unhide HFi _ (by first | exact Below.refl _ _ | exact (Below.refl _ _).drew | exact (Below.refl _ _).drew.drew | exact below_drewN (Below.refl _ _) _)).mono ?_; rintro e w7 ⟨v7, rfl, o7, b7⟩; obtain ⟨xa, xc, rfl, hx7, -, -⟩ := o7.shape)
          all_goals (go_wp2_with fail; go_meet)
          all_goals exact ⟨xa, xc, rfl, rfl, hx7, by first | exact b7 | exact (Below.refl _ _).drew.trans b7 | exact (Below.refl _ _).drew.drew.trans b7⟩
        case rest =>
          obtain ⟨xa, xc, rfl, rfl, hx7, b7⟩ := hcut
          have d2 := (b7.cell (p := ⟨b, off' + k * 2 + 1, none⟩) (World.block_lt_of_cell? _ _ c2)).trans c2
          have hxg := HX.out.1.carry b7
          have hbl7 := hbl.trans (b7.mono hbl.size)
          clear c1 c2 g0 hbr HFi HX b7
          go_wp2_with fail
          refine (same_any xa x.adr x.body x.body xc x.cap _ (by omega) (by omega) hx7 hxg).mono ?_
          rintro e w8 ⟨rfl, b8⟩
          rw [eqB_true]
          have hbl8 := hbl7.trans (b8.mono hbl7.size)
          go_wp2
          go_roundw
          case rel => first | exact ⟨k + 1, by omega, by go_num, hbl8⟩ | ((repeat apply Exists.intro); exact ⟨⟨k + 1, by omega, by go_num, hbl8⟩, rfl⟩)
          case measure => simp [intOf]; omega
      · have KN := hide (Find_keeps (some ⟨bk, off, none⟩) M c wr x1 ⟨#[110, 111]⟩ (by omega) hxs (by simp [maxLen, ByteArray.size]) hc hcm hbr)
        have hbw9 := hbw6.trans (hbl.mono hbw6.size)
        go_wp2_with fail
        refine KN.out.mono ?_
        rintro e w9 ⟨v9, E9, rfl, A9, b9⟩
        obtain ⟨rfl, rfl⟩ := find_none A9 HPk.out HCl.out HFd.out.no
        have hbw10 := hbw9.trans (b9.mono hbw9.size)
        go_wp2
        go_ret
        exact ⟨rfl, hbw10⟩

end Go.Proofs.Ytgncohclofdhmaa
