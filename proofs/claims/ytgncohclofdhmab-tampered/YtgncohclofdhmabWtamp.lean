import Derived.Test.YtgncohclofdhmabWkv
import Derived.Test.YtgncohclofdhmabWkst
import Derived.Test.YtgncohclofdhmabWkp2
import Derived.Test.YtgncohclofdhmabWkp1
import Derived.Test.YtgncohclofdhmabWrdb
import Derived.Deep.DeepCutAuto
import Derived.Deep.RegionWith
import Derived.BigRegion
namespace Go.Proofs.Ytgncohclofdhmab
open Go.RowKit

set_option maxRecDepth 100000 in
set_option maxHeartbeats 8000000 in
theorem Tampered_walk (a : Option Addr) (es : List Ent) (cap : Nat) (w : World) (z za zi zv : Int) (k1 : ByteArray) (pk : Bool) (hl : ∀ e, e ∈ es → e.body.length ≤ 140737488351232) (hk1 : k1.size ≤ maxLen) (hz : -9223372036854775808 ≤ z) (hz2 : z ≤ 9223372036854775807) (hza : -9223372036854775808 ≤ za) (hza2 : za ≤ 9223372036854775807) (hzi : -9223372036854775808 ≤ zi) (hzi2 : zi ≤ 9223372036854775807) (hzv : -9223372036854775808 ≤ zv) (hzv2 : zv ≤ 9223372036854775807) (ha : BodAt w a es) (hg : EntGood w es) :
    Calls Try.prog 5 #[.slice a es.length cap, .int .i64 z, .string k1, .int .i64 za, .bool pk, .int .i64 zi, .int .i64 zv] w fun e w' => e = .returned (.bool true) ∧ Below w.heap.size w w' := by
  have HC1 := hide (fun W => config_any k1 za pk W hk1 hza hza2)
  have HFl := hide (fun W hA hG => files_any a es cap W z hl hz hz2 hA hG)
  obtain ⟨n', HN'⟩ : ∃ n', Hid (n' = es.length) := ⟨_, rfl⟩
  rw [← HN'.out] at HFl ⊢
  have hkk1 := hide (keyIs_key k1)
  generalize keyIs k1 = x1 at *
  have hp := pickN_lt za (n := 16) (by omega)
  obtain ⟨al, HAl⟩ : ∃ al, Hid (al = 1 + pickN za 16) := ⟨_, rfl⟩
  rw [← HAl.out] at HC1
  have hal1 : 1 ≤ al := by rw [HAl.out]; omega
  have hal2 : al ≤ 16 := by rw [HAl.out]; omega
  go_enter Try.func5, Try.ntmps5
  go_wp2_with fail
  refine (HC1.out _).mono ?_
  rintro e w2 ⟨rfl, b2⟩
  have B2 := b2.alloc b2.size (.cells #[.string x1, .int .i64 (al : Int), .bool pk] 24)
  have c10 : (w2.alloc (.cells #[.string x1, .int .i64 (al : Int), .bool pk] 24)).cell? ⟨w2.heap.size, 0, none⟩ = some (.string x1) := cell_new w2 _ _ 0
  have c11 : (w2.alloc (.cells #[.string x1, .int .i64 (al : Int), .bool pk] 24)).cell? ⟨w2.heap.size, 1, none⟩ = some (.int .i64 (al : Int)) := cell_new w2 _ _ 1
  have c12 : (w2.alloc (.cells #[.string x1, .int .i64 (al : Int), .bool pk] 24)).cell? ⟨w2.heap.size, 2, none⟩ = some (.bool pk) := cell_new w2 _ _ 2
  have ha2 := ha.carry B2
  have HG2 := hide (hg.carry B2)
  have lt2 : w2.heap.size < (w2.alloc (.cells #[.string x1, .int .i64 (al : Int), .bool pk] 24)).heap.size := by simp
  have hbw2 := B2
  clear b2 B2 HC1
  go_upto_region 2 with fail
  generalize w2.alloc (.cells #[.string x1, .int .i64 (al : Int), .bool pk] 24) = W2 at *
  have HTu : Hid (∀ W, Below W2.heap.size W2 W → Calls Try.prog 13 #[.slice a n' cap, .int .i64 z] W fun e w' => ∃ v fs, e = .returned v ∧ OwnE W.heap.size w' v fs ∧ EntOwn W.heap.size w' fs ∧ Hid (Filed fs) ∧ fs.length ≤ 6 ∧ Below W.heap.size W w') := by
    intro W hW
    refine (HFl.out W (ha2.carry hW) (HG2.out.carry hW)).mono ?_
    rintro e w' ⟨v, fs, rfl, h1, h2, h3, h4⟩
    exact ⟨v, fs, rfl, h1, h2, Filed.of h3, (Filed.of h3).len, h4⟩
  go_cut [16, 17, 18] (fun s16 s17 s18 wx => ∃ (g c : Nat) (fs : List Ent) (M : List UInt8), s16 = .slice (some ⟨g, 0, none⟩) M.length c ∧ s17 = .int .i64 0 ∧ s18 = .string ⟨#[]⟩ ∧ Hid (Filed fs) ∧ Hid (M = madeOf x1.data.toList pk al (pairsOf fs)) ∧ Own W2.heap.size wx (.slice (some ⟨g, 0, none⟩) M.length c) M ∧ W2.heap.size ≤ g ∧ M.length ≤ c ∧ c ≤ maxLen ∧ Below W2.heap.size W2 wx)
  case first =>
    go_region_with (first
      | (go_at_call 13; refine (unhide HTu _ (by first | exact Below.refl _ _ | exact (Below.refl _ _).drew | exact (Below.refl _ _).drew.drew | exact below_drewN (Below.refl _ _) _)).mono ?_; rintro e w3 ⟨v3, fs, rfl, o3, G3, F3, hol, b3⟩; obtain ⟨a3, c3, rfl, hat3, -, -⟩ := o3.shape; have hB3 : Below W2.heap.size W2 w3 := (by first | exact b3 | exact (Below.refl _ _).drew.trans b3 | exact (Below.refl _ _).drew.drew.trans b3); have d0 := (hB3.cell (p := ⟨w2.heap.size, 0, none⟩) lt2).trans c10; have d1 := (hB3.cell (p := ⟨w2.heap.size, 1, none⟩) lt2).trans c11; have d2 := (hB3.cell (p := ⟨w2.heap.size, 2, none⟩) lt2).trans c12)
      | (go_at_call 10; refine (Build_keeps a3 fs c3 _ x1 (al : Int) pk (by unfold maxLen; omega) (keyB_le hkk1.out) (by exact hat3) (by exact G3.good)).mono ?_; rintro e w4 ⟨v4, E4, p4, rfl, A4, b4⟩))
    all_goals (go_wp2_with fail; go_meet)
    all_goals
      obtain ⟨rfl, rfl, o4⟩ := ans_filed F3.out (turn_id _) (turned_id fs) hkk1.out hal1 hal2 A4
      obtain ⟨g4, c4, rfl, hg4, -, hc4, hcm4⟩ := o4.block (by have := made_ge x1.data.toList pk al (pairsOf fs); omega)
      exact ⟨g4, c4, fs, _, rfl, rfl, rfl, F3, rfl, o4.mono hB3.size, Nat.le_trans hB3.size hg4, hc4, hcm4, hB3.trans (by first | exact b4.mono hB3.size | exact (Below.refl _ _).drew.trans (b4.mono hB3.size))⟩
  case rest =>
    obtain ⟨g, c, fs, M, rfl, rfl, rfl, HFd, HM, oM, hWg, hc, hcm, hbl⟩ := hcut
    have h13 : 13 ≤ M.length := by rw [HM.out]; exact made_ge _ _ _ _
    have hMl : M.length ≤ 4000 := by rw [HM.out]; exact HFd.out.short x1.data.toList pk al hal1 hal2
    have HCl : Hid (verHead x1.data.toList M = 0) := by show _ = _; rw [HM.out]; exact HFd.out.clean x1 pk hal1 hal2 hkk1.out
    have h13b : ¬ (M.length : Int) < 13 := by omega
    have hpi := pickN_lt zi (n := M.length) (by omega)
    have HPi := hide (fun W => pick_is zi M.length W hzi hzi2 (by omega) (by unfold maxLen; omega))
    have hpv := pickN_lt zv (n := 255) (by omega)
    have HPv := hide (fun W => pick_is zv 255 W hzv hzv2 (by omega) (by unfold maxLen; omega))
    generalize pickN zi M.length = i at *
    generalize pickN zv 255 = r at *
    have hxs := keyB_le hkk1.out
    clear HM
    go_wp2_with fail
    refine (HPi.out _).mono ?_
    rintro e w3 ⟨rfl, rfl⟩
    have cI := oM.cellAt rfl i hpi
    have fI := oM.frozenAt rfl i
    have hx := (M.getD i 0).toNat_lt
    have OS := oM.stored rfl i (turnB (M.getD i 0) r)
    have BS := hbl.setCell (p := ⟨g, i, none⟩) hWg (.int .u8 ((turnB (M.getD i 0) r).toNat : Int))
    have HNe := hide (turnB_ne (M.getD i 0) r hpv)
    have hy := turnB_nat (M.getD i 0) r hpv
    have qx : bits .xor .u8 ((M.getD i 0).toNat : Int) (1 + (r : Int)) = ((turnB (M.getD i 0) r).toNat : Int) := by
      rw [hy, ← xor8 _ _ hx (by omega)]
      simp
    clear hy
    generalize turnB (M.getD i 0) r = y at *
    have HTh := hide (turned_head HCl.out hpi HNe.out)
    generalize (M.getD i 0).toNat = x at *
    obtain ⟨T, HT⟩ : ∃ T, Hid (T = M.set i y) := ⟨_, rfl⟩
    have HTl : Hid (T.length = M.length) := by show _ = _; rw [HT.out, List.length_set]
    rw [← HT.out] at OS HTh
    clear HT HNe HPi
    have qa : IntKind.i64.wrap (1 + (r : Int)) = 1 + (r : Int) := by rw [IntKind.wrap_i64]; omega
    have qb : IntKind.u8.wrap (1 + (r : Int)) = 1 + (r : Int) := by
      rw [show IntKind.u8.wrap (1 + (r : Int)) = (1 + (r : Int)) % 256 from by simp [IntKind.wrap, IntKind.bits, IntKind.signed]]
      omega
    have ii : (i : Int) < (M.length : Int) := by omega
    go_upto_region 6 with fail
    go_cut [19] (fun s19 wx => s19 = .int .i64 i ∧ Own W2.heap.size wx (.slice (some ⟨g, 0, none⟩) M.length c) T ∧ Below W2.heap.size W2 wx)
    case first =>
      go_region_with (go_at_call 11; refine (unhide HPv _).mono ?_; rintro e w4 ⟨rfl, rfl⟩)
      all_goals (go_wp2_with fail; go_meet)
      all_goals first | exact ⟨rfl, OS, BS.drew⟩ | exact ⟨rfl, OS, BS⟩ | exact ⟨rfl, OS, BS.drew.drew⟩
    case rest =>
      obtain ⟨rfl, oT, hblT⟩ := hcut
      have d0 := (hblT.cell (p := ⟨w2.heap.size, 0, none⟩) lt2).trans c10
      have hbw := hbw2.trans (hblT.mono hbw2.size)
      have KV := hide (Verify_keeps (some ⟨g, 0, none⟩) T c wc x1 (by rw [HTl.out]; omega) hxs (by rw [HTl.out]; exact hc) hcm oT.bts)
      rw [HTl.out] at KV
      clear c10 c11 c12 OS BS cI fI qx qa qb
      go_wp2_with fail
      refine KV.out.mono ?_
      rintro e w5 ⟨v5, cfg5, E5, rfl, A5, b5⟩
      have hbw5 := hbw.trans (b5.mono hbw.size)
      have hbw6 := hbw5.alloc hbw5.size (.cells #[.string ⟨#[]⟩, .int .i64 0, .bool false] 24)
      by_cases hi4 : M.length - 4 ≤ i
      · rw [if_pos hi4] at HTh
        obtain ⟨hE, rfl, rfl⟩ := ver_bad A5 (by rw [HTh.out]; omega)
        rw [HTh.out] at hE
        subst hE
        have hib : (M.length : Int) - 4 ≤ (i : Int) := by omega
        clear A5 KV
        go_wp2
        go_ret
        exact ⟨rfl, hbw6⟩
      · rw [if_neg hi4] at HTh
        obtain ⟨hE, rfl, rfl⟩ := ver_bad A5 (by rw [HTh.out]; omega)
        rw [HTh.out] at hE
        subst hE
        have hib : ¬ (M.length : Int) - 4 ≤ (i : Int) := by omega
        clear A5 KV
        go_wp2
        go_ret
        exact ⟨rfl, hbw6⟩

end Go.Proofs.Ytgncohclofdhmab
