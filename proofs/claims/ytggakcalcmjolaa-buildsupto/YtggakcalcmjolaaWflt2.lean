import Derived.Test.YtggakcalcmjolaaWflt1
import Derived.Deep.DeepCutAuto
namespace Go.Proofs.Ytggakcalcmjolaa
open Go.RowKit

theorem toList_data (s : ByteArray) : s.toList = s.data.toList := ByteArray.toList_eq s

set_option maxRecDepth 100000 in
set_option maxHeartbeats 2000000 in
theorem ofEntry_any (a : Option Addr) (es : List Ent) (cap i : Nat) (w : World) (hi : i < es.length) (hm : es.length ≤ 1000000000000) (ha : EntAt w a es) (hg : EntGood w es) :
    Calls Try.prog 78 #[.slice a es.length cap, .int .i64 i] w fun e w' => ∃ v, e = .returned v ∧ OwnF w.heap.size w' v (fltEntry (fun k => (es.getD k noEnt).path) (es.getD i noEnt).body.length es.length i) ∧ Below w.heap.size w w' := by
  obtain ⟨n, HN⟩ : ∃ n, Hid (n = es.length) := ⟨_, rfl⟩
  rw [← HN.out] at hi hm ⊢
  obtain ⟨b, off, rfl, hc1, hc2⟩ := ha i (by have := HN.out; omega)
  obtain ⟨_, _, g3, g4⟩ := hg.get i (by have := HN.out; omega)
  obtain ⟨ps, HP⟩ : ∃ ps : Nat → ByteArray, Hid (ps = fun k => (es.getD k noEnt).path) := ⟨_, rfl⟩
  rw [← HP.out]
  have ep : ∀ k, (es.getD k noEnt).path = ps k := fun k => by rw [HP.out]
  rw [ep] at hc1 g4
  obtain ⟨p, Hp⟩ : ∃ p, Hid (p = ps i) := ⟨_, rfl⟩
  rw [← Hp.out] at hc1 g4
  unfold Ent.val at hc2
  obtain ⟨l, Hl⟩ : ∃ l, Hid (l = (es.getD i noEnt).body.length) := ⟨_, rfl⟩
  rw [← Hl.out] at hc2 ⊢
  have hll : l ≤ maxLen := by
    obtain ⟨_, h2, h3, _⟩ := hg.get i (by have := HN.out; omega)
    rw [Hl.out]
    omega
  unfold maxLen at hll
  generalize (es.getD i noEnt).adr = xa at hc2
  generalize (es.getD i noEnt).cap = xc at hc2
  have hin : (i : Int) < (n : Int) := by omega
  go_enter Try.func78, Try.ntmps78
  go_wp2_with fail
  refine (pathFits_any p _ g4).mono ?_
  rintro e w1 ⟨rfl, b1⟩
  go_upto_if 18 with fail
  go_cut [5, 7] (fun s5 _ wx => OwnF w.heap.size wx s5 (fltBad p) ∧ Below w.heap.size w wx)
  case first =>
    cases hb : pathB p.data.toList
    · have HFL := hide (show ([] : List Flt).length ≤ 2 by simp)
      have hs3 := src_flt w1 4 4 p rfl
      have ho3 := (OwnF.nil w.heap.size w1).alloc (.cells #[.int .i64 4, .string p] 66)
      have hbl3 := b1.alloc b1.size (.cells #[.int .i64 4, .string p] 66)
      go_wp2_with (at_builtin; go_must (refine wpAppF rfl (.tmp 19) (.tmp 22) rfl w.heap.size _ [] rfl ho3 _ [(4, p)] rfl 1 hs3 (by have := HFL.out; simp only [List.length_cons, List.length_nil]; omega) hbl3.size ?_))
      intro v3 w3 f3 e3 o3 gr3
      have b3 := below_ownF hbl3 ho3 gr3.by_ (Nat.le_refl _)
      clear hs3 ho3 hbl3 gr3
      go_wp2_with fail
      go_meet
      case rel => exact ⟨by rw [fltBad, hb]; simpa [e3.out] using o3, b3⟩
    · go_wp2_with fail
      go_meet
      case rel => exact ⟨by rw [fltBad, hb]; exact OwnF.nil _ _, b1⟩
  case rest =>
    obtain ⟨hoc, hbc⟩ := hcut
    have HBL := hide (fltBad_len p)
    clear b1
    go_wp2
    go_loopw [5, 8, 9] (fun v k _ wr => ∃ (j : Nat) (fs : List Flt), j ≤ n ∧ k = .int .i64 j ∧ Hid (fs = fltBad p ++ fltPairs ps i j) ∧ OwnF w.heap.size wr v fs ∧ Below w.heap.size w wr) (fun _ k _ _ => n - (intOf k).toNat)
    case atStart => exact ⟨0, fltBad p, by omega, rfl, by simp [fltPairs, Hid], hoc, hbc⟩
    clear hoc hbc
    case round =>
      obtain ⟨j, fs, hj, rfl, HF, ho, hbl⟩ := hrel
      have HFL : Hid (fs.length ≤ 2 * j + 1) := by
        have h1 := HBL.out
        have h2 := fltPairs_len ps i j
        show _ ≤ _
        rw [HF.out, List.length_append]
        omega
      by_cases hlt : j < n
      · obtain ⟨b', off', e', hdw, -⟩ := ha j (by have := HN.out; omega)
        simp only [Option.some.injEq, Addr.mk.injEq, and_true] at e'
        obtain ⟨rfl, rfl⟩ := e'
        obtain ⟨_, _, _, hq⟩ := hg.get j (by have := HN.out; omega)
        rw [ep] at hdw hq
        obtain ⟨q, Hq⟩ : ∃ q, Hid (q = ps j) := ⟨_, rfl⟩
        rw [← Hq.out] at hdw hq
        have hd1 := (hbl.cell (p := ⟨b, off + j * 2, none⟩) (World.block_lt_of_cell? w _ hdw)).trans hdw
        have hjn : (j : Int) < (n : Int) := by omega
        by_cases hji : j = i
        · have hbn : ((j : Int) != (i : Int)) = false := by simp [hji]
          have HJ := hide hji
          clear hji
          cases hun : underB p.data.toList q.data.toList
          · go_wp2_with fail
            refine (under_any p q _ g4 hq).mono ?_
            rintro e w6 ⟨rfl, rfl⟩
            rw [hun]
            have HF2 : Hid (fs = fltBad p ++ fltPairs ps i (j + 1)) := by
              show _ = _
              rw [fltPairs, ← Hp.out, ← Hq.out, fltPair, hun, ← List.append_assoc, ← HF.out]
              simp [HJ.out]
            go_wp2
            go_roundw
            case rel => first | exact ⟨j + 1, fs, by omega, by go_num, HF2, ho, hbl⟩ | ((repeat apply Exists.intro); exact ⟨⟨j + 1, fs, by omega, by go_num, HF2, ho, hbl⟩, rfl⟩)
            case measure => simp [intOf]; omega
          · go_wp2_with fail
            refine (under_any p q _ g4 hq).mono ?_
            rintro e w6 ⟨rfl, rfl⟩
            rw [hun]
            have hs6 := src_flt w6 6 6 p rfl
            have ho6 := ho.alloc (.cells #[.int .i64 6, .string p] 66)
            have hbl6 := hbl.alloc hbl.size (.cells #[.int .i64 6, .string p] 66)
            go_wp2_with (at_builtin; go_must (refine wpAppF rfl (.tmp 55) (.tmp 58) rfl w.heap.size _ fs rfl ho6 _ [(6, p)] rfl 1 hs6 (by have := HFL.out; simp only [List.length_cons, List.length_nil]; omega) hbl6.size ?_))
            intro v6 w6 f6 e6 o6 gr6
            have b6 := below_ownF hbl6 ho6 gr6.by_ (Nat.le_refl _)
            clear hs6 ho6 hbl6 gr6
            have HF2 : Hid (f6 = fltBad p ++ fltPairs ps i (j + 1)) := by
              show _ = _
              rw [fltPairs, ← Hp.out, ← Hq.out, fltPair, hun, ← List.append_assoc, ← HF.out]
              simp [e6.out, HJ.out]
            go_wp2
            go_roundw
            case rel => first | exact ⟨j + 1, f6, by omega, by go_num, HF2, o6, b6⟩ | ((repeat apply Exists.intro); exact ⟨⟨j + 1, f6, by omega, by go_num, HF2, o6, b6⟩, rfl⟩)
            case measure => simp [intOf]; omega
        · have hbn : ((j : Int) != (i : Int)) = true := by simp; omega
          have HJ := hide hji
          clear hji
          by_cases hqp : q = p
          · have hqb : (q.toList == p.toList) = true := by simp [hqp]
            have HQ := hide hqp
            clear hqp
            cases hun : underB p.data.toList q.data.toList
            · have hs5 := src_flt wr 5 5 p rfl
              have ho5 := ho.alloc (.cells #[.int .i64 5, .string p] 66)
              have hbl5 := hbl.alloc hbl.size (.cells #[.int .i64 5, .string p] 66)
              go_wp2_with (at_builtin; go_must (refine wpAppF rfl (.tmp 42) (.tmp 45) rfl w.heap.size _ fs rfl ho5 _ [(5, p)] rfl 1 hs5 (by have := HFL.out; simp only [List.length_cons, List.length_nil]; omega) hbl5.size ?_))
              intro v5 w5 f5 e5 o5 gr5
              have b5 := below_ownF hbl5 ho5 gr5.by_ (Nat.le_refl _)
              have hd5 := (b5.cell (p := ⟨b, off + j * 2, none⟩) (World.block_lt_of_cell? w _ hdw)).trans hdw
              clear hs5 ho5 hbl5 gr5 hd1
              have HFL := hide (show f5.length ≤ 2 * j + 2 by rw [e5.out, List.length_append]; have := HFL.out; simp only [List.length_cons, List.length_nil]; omega)
              go_wp2_with fail
              refine (under_any p q _ g4 hq).mono ?_
              rintro e w6 ⟨rfl, rfl⟩
              rw [hun]
              have HF2 : Hid (f5 = fltBad p ++ fltPairs ps i (j + 1)) := by
                show _ = _
                rw [fltPairs, ← Hp.out, ← Hq.out, fltPair, hun, ← List.append_assoc, ← HF.out]
                simp [e5.out, HJ.out, HQ.out]
              go_wp2
              go_roundw
              case rel => first | exact ⟨j + 1, f5, by omega, by go_num, HF2, o5, b5⟩ | ((repeat apply Exists.intro); exact ⟨⟨j + 1, f5, by omega, by go_num, HF2, o5, b5⟩, rfl⟩)
              case measure => simp [intOf]; omega
            · have hs5 := src_flt wr 5 5 p rfl
              have ho5 := ho.alloc (.cells #[.int .i64 5, .string p] 66)
              have hbl5 := hbl.alloc hbl.size (.cells #[.int .i64 5, .string p] 66)
              go_wp2_with (at_builtin; go_must (refine wpAppF rfl (.tmp 42) (.tmp 45) rfl w.heap.size _ fs rfl ho5 _ [(5, p)] rfl 1 hs5 (by have := HFL.out; simp only [List.length_cons, List.length_nil]; omega) hbl5.size ?_))
              intro v5 w5 f5 e5 o5 gr5
              have b5 := below_ownF hbl5 ho5 gr5.by_ (Nat.le_refl _)
              have hd5 := (b5.cell (p := ⟨b, off + j * 2, none⟩) (World.block_lt_of_cell? w _ hdw)).trans hdw
              clear hs5 ho5 hbl5 gr5 hd1
              have HFL := hide (show f5.length ≤ 2 * j + 2 by rw [e5.out, List.length_append]; have := HFL.out; simp only [List.length_cons, List.length_nil]; omega)
              go_wp2_with fail
              refine (under_any p q _ g4 hq).mono ?_
              rintro e w6 ⟨rfl, rfl⟩
              rw [hun]
              have hs6 := src_flt w6 6 6 p rfl
              have ho6 := o5.alloc (.cells #[.int .i64 6, .string p] 66)
              have hbl6 := b5.alloc b5.size (.cells #[.int .i64 6, .string p] 66)
              go_wp2_with (at_builtin; go_must (refine wpAppF rfl (.tmp 55) (.tmp 58) rfl w.heap.size _ f5 rfl ho6 _ [(6, p)] rfl 1 hs6 (by have := HFL.out; simp only [List.length_cons, List.length_nil]; omega) hbl6.size ?_))
              intro v6 w6 f6 e6 o6 gr6
              have b6 := below_ownF hbl6 ho6 gr6.by_ (Nat.le_refl _)
              clear hs6 ho6 hbl6 gr6
              have HF2 : Hid (f6 = fltBad p ++ fltPairs ps i (j + 1)) := by
                show _ = _
                rw [fltPairs, ← Hp.out, ← Hq.out, fltPair, hun, ← List.append_assoc, ← HF.out]
                simp [e6.out, e5.out, HJ.out, HQ.out]
              go_wp2
              go_roundw
              case rel => first | exact ⟨j + 1, f6, by omega, by go_num, HF2, o6, b6⟩ | ((repeat apply Exists.intro); exact ⟨⟨j + 1, f6, by omega, by go_num, HF2, o6, b6⟩, rfl⟩)
              case measure => simp [intOf]; omega
          · have hqb : (q.toList == p.toList) = false := by rw [beq_eq_false_iff_ne, toList_data, toList_data]; intro h; exact hqp (ByteArray.ext (Array.toList_inj.1 h))
            have HQ := hide hqp
            clear hqp
            cases hun : underB p.data.toList q.data.toList
            · go_wp2_with fail
              refine (under_any p q _ g4 hq).mono ?_
              rintro e w6 ⟨rfl, rfl⟩
              rw [hun]
              have HF2 : Hid (fs = fltBad p ++ fltPairs ps i (j + 1)) := by
                show _ = _
                rw [fltPairs, ← Hp.out, ← Hq.out, fltPair, hun, ← List.append_assoc, ← HF.out]
                simp [HJ.out, HQ.out]
              go_wp2
              go_roundw
              case rel => first | exact ⟨j + 1, fs, by omega, by go_num, HF2, ho, hbl⟩ | ((repeat apply Exists.intro); exact ⟨⟨j + 1, fs, by omega, by go_num, HF2, ho, hbl⟩, rfl⟩)
              case measure => simp [intOf]; omega
            · go_wp2_with fail
              refine (under_any p q _ g4 hq).mono ?_
              rintro e w6 ⟨rfl, rfl⟩
              rw [hun]
              have hs6 := src_flt w6 6 6 p rfl
              have ho6 := ho.alloc (.cells #[.int .i64 6, .string p] 66)
              have hbl6 := hbl.alloc hbl.size (.cells #[.int .i64 6, .string p] 66)
              go_wp2_with (at_builtin; go_must (refine wpAppF rfl (.tmp 55) (.tmp 58) rfl w.heap.size _ fs rfl ho6 _ [(6, p)] rfl 1 hs6 (by have := HFL.out; simp only [List.length_cons, List.length_nil]; omega) hbl6.size ?_))
              intro v6 w6 f6 e6 o6 gr6
              have b6 := below_ownF hbl6 ho6 gr6.by_ (Nat.le_refl _)
              clear hs6 ho6 hbl6 gr6
              have HF2 : Hid (f6 = fltBad p ++ fltPairs ps i (j + 1)) := by
                show _ = _
                rw [fltPairs, ← Hp.out, ← Hq.out, fltPair, hun, ← List.append_assoc, ← HF.out]
                simp [e6.out, HJ.out, HQ.out]
              go_wp2
              go_roundw
              case rel => first | exact ⟨j + 1, f6, by omega, by go_num, HF2, o6, b6⟩ | ((repeat apply Exists.intro); exact ⟨⟨j + 1, f6, by omega, by go_num, HF2, o6, b6⟩, rfl⟩)
              case measure => simp [intOf]; omega
      · have HF3 : Hid (fs = fltBad p ++ fltPairs ps i n) := by
          have : j = n := by omega
          rw [← this]
          exact HF
        have hcl := (hbl.cell (p := ⟨b, off + i * 2 + 1, none⟩) (World.block_lt_of_cell? w _ hc2)).trans hc2
        by_cases h6 : 600 < l
        · have h6i : (600 : Int) < (l : Int) := by omega
          have hs7 := src_flt wr 7 7 p rfl
          have ho7 := ho.alloc (.cells #[.int .i64 7, .string p] 66)
          have hbl7 := hbl.alloc hbl.size (.cells #[.int .i64 7, .string p] 66)
          go_wp2_with (at_builtin; go_must (refine wpAppF rfl (.tmp 67) (.tmp 70) rfl w.heap.size _ fs rfl ho7 _ [(7, p)] rfl 1 hs7 (by have := HFL.out; simp only [List.length_cons, List.length_nil]; omega) hbl7.size ?_))
          intro v7 w7 f7 e7 o7 gr7
          have b7 := below_ownF hbl7 ho7 gr7.by_ (Nat.le_refl _)
          clear hs7 ho7 hbl7 gr7
          go_wp2
          go_ret
          refine ⟨_, rfl, ?_, b7⟩
          unfold fltEntry
          rw [← Hp.out, ← HF3.out, fltLong, if_pos h6, ← e7.out]
          exact o7
        · have h6i : ¬ (600 : Int) < (l : Int) := by omega
          go_wp2
          go_ret
          refine ⟨_, rfl, ?_, hbl⟩
          unfold fltEntry
          rw [← Hp.out, ← HF3.out, fltLong, if_neg h6, List.append_nil]
          exact ho

end Go.Proofs.Ytggakcalcmjolaa
