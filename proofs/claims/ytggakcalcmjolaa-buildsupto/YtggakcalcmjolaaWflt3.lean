import Derived.Test.YtggakcalcmjolaaWflt2
import Derived.Test.YtggakcalcmjolaaWmade
namespace Go.Proofs.Ytggakcalcmjolaa
open Go.RowKit

theorem OwnF.mono {B B' : Nat} {w : World} {v : Value} {xs : List Flt} (h : OwnF B w v xs) (hB : B' ≤ B) : OwnF B' w v xs := by
  refine ⟨h.1, ?_⟩
  rcases h.2 with h1 | ⟨g, cap, cur, rfl, hbg, hg, hnc, hcm, hcs, htake⟩
  · exact .inl h1
  · exact .inr ⟨g, cap, cur, rfl, Nat.le_trans hB hbg, hg, hnc, hcm, hcs, htake⟩

set_option maxRecDepth 100000 in
set_option maxHeartbeats 2000000 in
theorem faults_any (a : Option Addr) (es : List Ent) (cap : Nat) (w : World) (key : ByteArray) (al : Int) (pk : Bool) (hm : es.length ≤ 1000000) (hk : key.size ≤ maxLen) (ha : EntAt w a es) (hg : EntGood w es) :
    Calls Try.prog 55 #[.slice a es.length cap, .agg #[.string key, .int .i64 al, .bool pk]] w fun e w' => ∃ v, e = .returned v ∧
      OwnF w.heap.size w' v (fltAll key.size al (fun k => (es.getD k noEnt).path) (fun k => (es.getD k noEnt).body.length) es.length) ∧ Below w.heap.size w w' := by
  have b0 := (Below.refl w.heap.size w).alloc (Nat.le_refl _) (.cells #[.string key, .int .i64 al, .bool pk] 37)
  have c00 := cell_new w #[.string key, .int .i64 al, .bool pk] 37 0
  have c01 := cell_new w #[.string key, .int .i64 al, .bool pk] 37 1
  have B0 := Below.refl (w.heap.size + 1) (w.alloc (.cells #[.string key, .int .i64 al, .bool pk] 37))
  obtain ⟨n, HN⟩ : ∃ n, Hid (n = es.length) := ⟨_, rfl⟩
  obtain ⟨ps, HP⟩ : ∃ ps : Nat → ByteArray, Hid (ps = fun k => (es.getD k noEnt).path) := ⟨_, rfl⟩
  obtain ⟨ls, HLS⟩ : ∃ ls : Nat → Nat, Hid (ls = fun k => (es.getD k noEnt).body.length) := ⟨_, rfl⟩
  have HOF : Hid (∀ (j : Nat) (wr : World), j < n → Below w.heap.size w wr → Calls Try.prog 78 #[.slice a n cap, .int .i64 j] wr fun e w' => ∃ v, e = .returned v ∧ OwnF wr.heap.size w' v (fltEntry ps (ls j) n j) ∧ Below wr.heap.size wr w') := by
    intro j wr hj hb
    have := ofEntry_any a es cap j wr (by rw [← HN.out]; exact hj) (by omega) (ha.carry hb) (hg.carry hb)
    rw [← HN.out, ← HP.out] at this
    rw [HLS.out]
    exact this
  rw [← HP.out, ← HLS.out]
  rw [← HN.out] at hm ⊢
  clear ha hg
  have HFL := hide (show ([] : List Flt).length ≤ 2 by simp)
  go_enter Try.func55, Try.ntmps55
  go_wp2_with fail
  refine (keyFits_any key _ hk).mono ?_
  rintro e w1 ⟨rfl, rfl⟩
  go_upto_if 13 with fail
  go_cut [5, 6] (fun s5 _ wx => ∃ fs, Hid (fs = (if keyB key.size then [] else [((1, ByteArray.empty) : Flt)])) ∧ OwnF (w.heap.size + 1) wx s5 fs ∧ Below (w.heap.size + 1) (w.alloc (.cells #[.string key, .int .i64 al, .bool pk] 37)) wx)
  case first =>
    cases hb : keyB key.size
    · have hs2 := src_flt (w.alloc (.cells #[.string key, .int .i64 al, .bool pk] 37)) 1 1 ByteArray.empty rfl
      have esz : (w.alloc (.cells #[.string key, .int .i64 al, .bool pk] 37)).heap.size = w.heap.size + 1 := by simp
      rw [esz] at hs2
      have ho2 := (OwnF.nil (w.heap.size + 1) (w.alloc (.cells #[.string key, .int .i64 al, .bool pk] 37))).alloc (.cells #[.int .i64 1, .string ByteArray.empty] 66)
      have hbl2 := B0.alloc (Nat.le_trans (by simp) B0.size) (.cells #[.int .i64 1, .string ByteArray.empty] 66)
      go_wp2_with (at_builtin; go_must (refine wpAppF rfl (.tmp 14) (.tmp 16) rfl (w.heap.size + 1) _ [] rfl ho2 _ [(1, ByteArray.empty)] rfl 1 hs2 (by have := HFL.out; simp only [List.length_cons, List.length_nil]; omega) (Nat.le_trans (by simp) hbl2.size) ?_))
      intro v2 w2 f2 e2 o2 gr2
      have b2 := below_ownF hbl2 ho2 gr2.by_ (by simp)
      clear hs2 ho2 hbl2 gr2
      go_wp2_with fail
      go_meet
      case rel => exact ⟨f2, by show _ = _; rw [e2.out, hb]; rfl, o2, b2⟩
    · go_wp2_with fail
      go_meet
      case rel => exact ⟨[], by show _ = _; rw [hb]; rfl, OwnF.nil _ _, B0⟩
  case rest =>
    obtain ⟨fs1, HF1, ho1, hb1⟩ := hcut
    have HFL : Hid (fs1.length ≤ 1) := by show _ ≤ _; rw [HF1.out]; split <;> simp
    have c11 := (hb1.cell (p := ⟨w.heap.size, 1, none⟩) (by simp)).trans c01
    go_upto_region 5 with fail
    go_cut [25] (fun s25 wx => s25 = .bool (decide (al < 1 ∨ 16 < al)) ∧ wx = wc)
    case first =>
      by_cases h1 : al < 1
      · have h1b : decide (al < 1) = true := by simp [h1]
        go_wp2_with fail
        go_meet
        case rel => exact ⟨by rw [show decide (al < 1 ∨ 16 < al) = true from by simp [h1]], rfl⟩
      · by_cases h2 : 16 < al
        · go_wp2_with fail
          go_meet
          case rel => exact ⟨by rw [show decide (al < 1 ∨ 16 < al) = true from by simp [h2]], rfl⟩
        · go_wp2_with fail
          go_meet
          case rel => exact ⟨by rw [show decide (al < 1 ∨ 16 < al) = false from by simp [h1, h2]], rfl⟩
    case rest =>
      obtain ⟨rfl, rfl⟩ := hcut
      obtain ⟨bd, HBD⟩ : ∃ bd, Hid (bd = decide (al < 1 ∨ 16 < al)) := ⟨_, rfl⟩
      rw [← HBD.out]
      go_upto_if 25 with fail
      go_cut [5, 25] (fun s5 _ wx => ∃ fs, Hid (fs = fs1 ++ (if bd then [((2, ByteArray.empty) : Flt)] else [])) ∧ OwnF (w.heap.size + 1) wx s5 fs ∧ Below (w.heap.size + 1) (w.alloc (.cells #[.string key, .int .i64 al, .bool pk] 37)) wx)
      case first =>
        cases bd
        · go_wp2_with fail
          go_meet
          case rel => exact ⟨fs1, by simp [Hid], ho1, hb1⟩
        · have hs3 := src_flt wc 2 2 ByteArray.empty rfl
          have ho3 := ho1.alloc (.cells #[.int .i64 2, .string ByteArray.empty] 66)
          have hbl3 := hb1.alloc (Nat.le_trans (by simp) hb1.size) (.cells #[.int .i64 2, .string ByteArray.empty] 66)
          go_wp2_with (at_builtin; go_must (refine wpAppF rfl (.tmp 26) (.tmp 28) rfl (w.heap.size + 1) _ fs1 rfl ho3 _ [(2, ByteArray.empty)] rfl 1 hs3 (by have := HFL.out; simp only [List.length_cons, List.length_nil]; omega) (Nat.le_trans (by simp) hbl3.size) ?_))
          intro v3 w3 f3 e3 o3 gr3
          have b3 := below_ownF hbl3 ho3 gr3.by_ (by simp)
          clear hs3 ho3 hbl3 gr3
          go_wp2_with fail
          go_meet
          case rel => exact ⟨f3, by rw [e3.out]; rfl, o3, b3⟩
      case rest =>
        obtain ⟨fs2, HF2, ho2, hb2⟩ := hcut
        have HFL : Hid (fs2.length ≤ 2) := by
          have := HFL.out
          show _ ≤ _
          rw [HF2.out, List.length_append]
          have h2 : (if bd then [((2, ByteArray.empty) : Flt)] else []).length ≤ 1 := by split <;> simp
          omega
        clear ho1 hb1 c11
        go_upto_if 32 with fail
        go_cut [5, 32] (fun s5 _ wx => ∃ fs, Hid (fs = fs2 ++ (if 20 < n then [((3, ByteArray.empty) : Flt)] else [])) ∧ OwnF (w.heap.size + 1) wx s5 fs ∧ Below (w.heap.size + 1) (w.alloc (.cells #[.string key, .int .i64 al, .bool pk] 37)) wx)
        case first =>
          by_cases h20 : 20 < n
          · have h20i : (20 : Int) < (n : Int) := by omega
            have hs4 := src_flt wc 3 3 ByteArray.empty rfl
            have ho4 := ho2.alloc (.cells #[.int .i64 3, .string ByteArray.empty] 66)
            have hbl4 := hb2.alloc (Nat.le_trans (by simp) hb2.size) (.cells #[.int .i64 3, .string ByteArray.empty] 66)
            go_wp2_with (at_builtin; go_must (refine wpAppF rfl (.tmp 33) (.tmp 35) rfl (w.heap.size + 1) _ fs2 rfl ho4 _ [(3, ByteArray.empty)] rfl 1 hs4 (by have := HFL.out; simp only [List.length_cons, List.length_nil]; omega) (Nat.le_trans (by simp) hbl4.size) ?_))
            intro v4 w4 f4 e4 o4 gr4
            have b4 := below_ownF hbl4 ho4 gr4.by_ (by simp)
            clear hs4 ho4 hbl4 gr4
            go_wp2_with fail
            go_meet
            case rel => exact ⟨f4, by rw [e4.out, if_pos h20]; rfl, o4, b4⟩
          · have h20i : ¬ (20 : Int) < (n : Int) := by omega
            go_wp2_with fail
            go_meet
            case rel => exact ⟨fs2, by simp [Hid, h20], ho2, hb2⟩
        case rest =>
          obtain ⟨fs3, HF3, ho3, hb3⟩ := hcut
          have HH : Hid (fs3 = fltHead key.size al n) := by
            show _ = _
            rw [HF3.out, HF2.out, HF1.out, HBD.out, fltHead]
            simp only [decide_eq_true_eq]
          have HHL : Hid (fs3.length ≤ 3) := by show _ ≤ _; rw [HH.out]; exact fltHead_len _ _ _
          clear ho2 hb2 HFL HF1 HF2 HF3
          go_wp2
          go_loopw [5, 7, 8] (fun v k _ wr => ∃ (j : Nat) (fs : List Flt), j ≤ n ∧ k = .int .i64 j ∧ Hid (fs = fs3 ++ fltFirst ps ls n j) ∧ OwnF (w.heap.size + 1) wr v fs ∧ Below (w.heap.size + 1) (w.alloc (.cells #[.string key, .int .i64 al, .bool pk] 37)) wr) (fun _ k _ _ => n - (intOf k).toNat)
          case atStart => exact ⟨0, fs3, by omega, rfl, by simp [fltFirst, Hid], ho3, hb3⟩
          clear ho3 hb3
          case round =>
            obtain ⟨j, fs, hj, rfl, HF, ho, hbl⟩ := hrel
            have hbw : Below w.heap.size w wr := b0.trans (hbl.mono (by omega))
            by_cases hlt : j < n
            · have HSZ : Hid ((fs.length + (fltEntry ps (ls j) n j).length) * 24 ≤ 140737488355328) := by
                have h1 := HHL.out
                have h2 := fltFirst_len ps ls n j
                have h3 := fltEntry_len ps (ls j) n j
                have h4 : j * (2 * n + 2) ≤ 1000000 * (2 * n + 2) := Nat.mul_le_mul_right _ (by omega)
                show _ ≤ _
                rw [HF.out, List.length_append]
                omega
              have HFE : Hid (fltFirst ps ls n (j + 1) = fltFirst ps ls n j ++ fltEntry ps (ls j) n j) := rfl
              have hof := HOF.out j wr hlt hbw
              generalize fltEntry ps (ls j) n j = ys at *
              go_wp2_with fail
              refine hof.mono ?_
              rintro e w5 ⟨v5, rfl, o5, b5⟩
              obtain ⟨a5, c5, rfl, hat, -, -⟩ := o5.shape
              have ho5 := ho.carry b5
              have hbl5 := hbl.trans (b5.mono (Nat.le_trans (by simp) hbl.size))
              have hs5 := src_flts (c := c5) hat rfl
              clear hof ho b5 o5
              go_wp2_with (at_builtin; go_must (refine wpAppF rfl (.tmp 46) (.tmp 47) rfl (w.heap.size + 1) _ fs rfl ho5 _ ys rfl _ hs5 HSZ.out (Nat.le_trans (by simp) hbl5.size) ?_))
              intro v6 w6 f6 e6 o6 gr6
              have b6 := below_ownF hbl5 ho5 gr6.by_ (by simp)
              have HF6 : Hid (f6 = fs3 ++ fltFirst ps ls n (j + 1)) := by
                show _ = _
                rw [e6.out, HF.out, HFE.out, List.append_assoc]
              clear hs5 ho5 hbl5 gr6 hat
              go_wp2
              go_roundw
              case rel => first | exact ⟨j + 1, f6, by omega, by go_num, HF6, o6, b6⟩ | ((repeat apply Exists.intro); exact ⟨⟨j + 1, f6, by omega, by go_num, HF6, o6, b6⟩, rfl⟩)
              case measure => simp [intOf]; omega
            · have HF3 : Hid (fs = fltAll key.size al ps ls n) := by
                have : j = n := by omega
                show _ = _
                rw [HF.out, this, HH.out]
                rfl
              go_wp2
              go_ret
              refine ⟨_, rfl, ?_, hbw⟩
              rw [← HF3.out]
              exact ho.mono (by omega)

end Go.Proofs.Ytggakcalcmjolaa
