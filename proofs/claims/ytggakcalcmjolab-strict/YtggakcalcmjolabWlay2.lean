import Derived.Test.YtggakcalcmjolabWbld5
import Derived.Test.YtggakcalcmjolabWlay1
import Derived.Deep.DeepCutAuto
namespace Go.Proofs.Ytggakcalcmjolab
open Go.RowKit

set_option maxRecDepth 100000 in
set_option maxHeartbeats 1000000 in
theorem layBody_any (a : Option Addr) (xs : List UInt8) (cap : Nat) (pk : Bool) (w : World) (hm : xs.length ≤ 600) (hcap : xs.length ≤ cap) (hcm : cap ≤ maxLen) (hb : Bts w a xs) :
    Calls Try.prog 54 #[.slice a xs.length cap, .bool pk] w fun e w' => ∃ v, e = .returned (.tuple #[.int .i64 (methOf pk xs : Nat), v]) ∧ Own w.heap.size w' v (laidOf pk xs) ∧ Below w.heap.size w w' := by
  have o0 := Own.nil w.heap.size w
  have hs0 := src_bts (c := cap) (n := xs.length) Try.underlying25 hb rfl
  cases pk
  · have HM : Hid (methOf false xs = 0 ∧ laidOf false xs = xs) := ⟨rfl, rfl⟩
    rw [HM.out.1, HM.out.2]
    go_enter Try.func54, Try.ntmps54
    go_wp2_with (at_builtin; go_must (refine wpAppG rfl (.tmp 17) (.tmp 18) 25 rfl w.heap.size _ [] rfl o0 _ xs rfl _ hs0 (by simp; omega) (Nat.le_refl _) ?_))
    intro v1 w1 z1 e1 o1 g1
    have b1 := g1.below (Below.refl w.heap.size w) o0 (Nat.le_refl _)
    obtain rfl : z1 = xs := e1.out
    clear e1 g1 hs0 o0
    go_wp2
    go_ret2
    exact ⟨v1, rfl, o1, b1⟩
  · by_cases h : (packOf xs).length < xs.length
    · have HM : Hid (methOf true xs = 1 ∧ laidOf true xs = packOf xs) := by constructor <;> simp [methOf, laidOf, h]
      rw [HM.out.1, HM.out.2]
      have hi : (((packOf xs).length : Int) < (xs.length : Int)) := by omega
      have HPk := hide (fun W hW => packBody_any a xs cap W (by omega) hcap hcm hW)
      generalize packOf xs = ys at *
      go_enter Try.func54, Try.ntmps54
      go_wp2_with fail
      refine (HPk.out _ hb).mono ?_
      rintro e w1 ⟨v1, rfl, o1, b1⟩
      obtain ⟨a1, c1, rfl, hb1, -, -⟩ := o1.shape
      go_wp2
      go_ret2
      exact ⟨_, rfl, o1, b1⟩
    · have HM : Hid (methOf true xs = 0 ∧ laidOf true xs = xs) := by constructor <;> simp [methOf, laidOf, h]
      rw [HM.out.1, HM.out.2]
      have hi : ¬ (((packOf xs).length : Int) < (xs.length : Int)) := by omega
      have HPk := hide (fun W hW => packBody_any a xs cap W (by omega) hcap hcm hW)
      generalize packOf xs = ys at *
      go_enter Try.func54, Try.ntmps54
      go_wp2_with fail
      refine (HPk.out _ hb).mono ?_
      rintro e w1 ⟨v1, rfl, o1, b1⟩
      obtain ⟨a1, c1, rfl, hb1, -, -⟩ := o1.shape
      have o2 : Own w.heap.size w1 (.slice none 0 0) [] := Own.nil _ _
      have hs2 := src_bts (c := cap) (n := xs.length) Try.underlying25 (hb.carry b1) rfl
      go_wp2_with (at_builtin; go_must (refine wpAppG rfl (.tmp 17) (.tmp 18) 25 rfl w.heap.size _ [] rfl o2 _ xs rfl _ hs2 (by simp; omega) b1.size ?_))
      intro v3 w3 z3 e3 o3 g3
      have b3 := g3.below b1 o2 (Nat.le_refl _)
      obtain rfl : z3 = xs := e3.out
      clear e3 g3 hs2 o2
      go_wp2
      go_ret2
      exact ⟨v3, rfl, o3, b3⟩

theorem cells_byte (n : Nat) (h : n ≤ 255) : #[Value.int .u8 (n : Int)] = (cells [UInt8.ofNat n]).toArray := by
  simp [cells, cell]
  omega

theorem methOf_le (pk : Bool) (b : List UInt8) : methOf pk b ≤ 1 := by
  unfold methOf
  split <;> omega

set_option maxRecDepth 100000 in
set_option maxHeartbeats 4000000 in
theorem layEntry_any (w : World) (p key : ByteArray) (ab : Option Addr) (b : List UInt8) (bc pl al : Nat) (pk : Bool) (hp : p.size ≤ 40) (hbl : b.length ≤ 600) (hal : 1 ≤ al) (hal2 : al ≤ 16) (hpl : pl ≤ 1000000)
    (hb : Bts w ab b) (hbc : b.length ≤ bc) (hbc2 : bc ≤ maxLen) :
    Calls Try.prog 42 #[.agg #[.string p, .slice ab b.length bc], .int .i64 pl, .agg #[.string key, .int .i64 al, .bool pk]] w
      fun e w' => ∃ v', e = .returned v' ∧ Own w.heap.size w' v' (entOf pk al pl p.data.toList b) ∧ Below w.heap.size w w' := by
  have HPl := hide (strLen p)
  have k0 : ((w.alloc (.cells #[.string p, .slice ab b.length bc] 30)).alloc (.cells #[.string key, .int .i64 al, .bool pk] 24)).cell? ⟨w.heap.size, 0, none⟩ = some (.string p) := cell_alloc _ (cell_new w _ _ 0)
  have k1 : ((w.alloc (.cells #[.string p, .slice ab b.length bc] 30)).alloc (.cells #[.string key, .int .i64 al, .bool pk] 24)).cell? ⟨w.heap.size, 1, none⟩ = some (.slice ab b.length bc) := cell_alloc _ (cell_new w _ _ 1)
  have esz : (w.alloc (.cells #[.string p, .slice ab b.length bc] 30)).heap.size = w.heap.size + 1 := by simp
  have k2 : ((w.alloc (.cells #[.string p, .slice ab b.length bc] 30)).alloc (.cells #[.string key, .int .i64 al, .bool pk] 24)).cell? ⟨w.heap.size + 1, 1, none⟩ = some (.int .i64 al) := by
    have h := cell_new (w.alloc (.cells #[.string p, .slice ab b.length bc] 30)) #[.string key, .int .i64 al, .bool pk] 24 1
    rw [esz] at h
    exact h
  have k3 : ((w.alloc (.cells #[.string p, .slice ab b.length bc] 30)).alloc (.cells #[.string key, .int .i64 al, .bool pk] 24)).cell? ⟨w.heap.size + 1, 2, none⟩ = some (.bool pk) := by
    have h := cell_new (w.alloc (.cells #[.string p, .slice ab b.length bc] 30)) #[.string key, .int .i64 al, .bool pk] 24 2
    rw [esz] at h
    exact h
  have bw2 := ((Below.refl w.heap.size w).alloc (Nat.le_refl _) (.cells #[.string p, .slice ab b.length bc] 30)).alloc (by simp) (.cells #[.string key, .int .i64 al, .bool pk] 24)
  have sz2 : ((w.alloc (.cells #[.string p, .slice ab b.length bc] 30)).alloc (.cells #[.string key, .int .i64 al, .bool pk] 24)).heap.size = w.heap.size + 2 := by simp
  have hb2 := hb.carry bw2
  go_enter Try.func42, Try.ntmps42
  go_wp2_with fail
  refine (layBody_any ab b bc pk _ hbl hbc hbc2 hb2).mono ?_
  rintro e w3 ⟨vl, rfl, ol, bl⟩
  have bw3 := bw2.trans (bl.mono bw2.size)
  have c30 := (bl.cell (p := ⟨w.heap.size, 0, none⟩) (by rw [sz2]; simp)).trans k0
  have c31 := (bl.cell (p := ⟨w.heap.size, 1, none⟩) (by rw [sz2]; simp)).trans k1
  have c32 := (bl.cell (p := ⟨w.heap.size + 1, 1, none⟩) (by rw [sz2]; simp)).trans k2
  have s3 : w.heap.size + 2 ≤ w3.heap.size := by have := bl.size; rw [sz2] at this; exact this
  have ol' : Own w.heap.size w3 vl (laidOf pk b) := ol.mono (by rw [sz2]; omega)
  have hlm : (laidOf pk b).length ≤ 600 := Nat.le_trans (laidOf_le pk b) hbl
  have hmm := methOf_le pk b
  obtain ⟨lb, HLb⟩ : ∃ lb, Hid (lb = laidOf pk b) := ⟨_, rfl⟩
  obtain ⟨me, HMe⟩ : ∃ me, Hid (me = methOf pk b) := ⟨_, rfl⟩
  rw [← HLb.out] at ol' hlm
  rw [← HMe.out] at hmm ⊢
  obtain ⟨al3, cl3, rfl, hbl3, -, -⟩ := ol'.shape
  have J0 : ∀ ad, al3 = some ad → ad.block < w3.heap.size := by
    intro ad e
    subst e
    exact ol'.blk_lt ad.block rfl
  clear k0 k1 k2 k3 bw2 sz2 esz bl ol hb2
  have o3a := own_lit w3 w.heap.size _ [UInt8.ofNat p.size] 1 (cells_byte p.size (by omega)) rfl (by omega) (by simp [maxLen])
  have c3a0 := cell_alloc (.cells #[.int .u8 (p.size : Int)] 5) c30
  have c3a1 := cell_alloc (.cells #[.int .u8 (p.size : Int)] 5) c31
  have c3a2 := cell_alloc (.cells #[.int .u8 (p.size : Int)] 5) c32
  have b3a := bw3.alloc bw3.size (.cells #[.int .u8 (p.size : Int)] 5)
  have J3a : Laid (w3.alloc (.cells #[.int .u8 (p.size : Int)] 5)) (.slice (some ⟨w3.heap.size, 0, none⟩) 1 1) al3 lb := by
    refine ⟨hbl3.carry ((Below.refl _ _).alloc (Nat.le_refl _) _), ?_, ?_⟩
    · intro ad e
      have := J0 ad e
      simp [Value.ownBlock]
      omega
    · intro ad e
      have := J0 ad e
      simp
      omega
  have n0 : Value.ownBlock (.slice (some ⟨w3.heap.size, 0, none⟩) 1 1) ≠ some w.heap.size := by simp [Value.ownBlock]; omega
  have n1 : Value.ownBlock (.slice (some ⟨w3.heap.size, 0, none⟩) 1 1) ≠ some (w.heap.size + 1) := by simp [Value.ownBlock]; omega
  clear hbl3 J0 ol'
  go_wp2_with (at_builtin; go_must (refine wpAppG rfl (.tmp 27) (.tmp 29) 9 rfl w.heap.size _ _ rfl o3a _ p.data.toList rfl p.size (src_str _ Try.underlying9 p) (by have := HPl.out; simp; omega) b3a.size ?_))
  intro v5 w5 z5 e5 o5 g5
  obtain ⟨c50, n50⟩ := g5.keep c3a0 n0
  obtain ⟨c51, _⟩ := g5.keep c3a1 n0
  obtain ⟨c52, n51⟩ := g5.keep c3a2 n1
  have J5 := J3a.next g5
  have b5 := g5.below b3a o3a (Nat.le_refl _)
  have L5 : Hid (z5.length = 1 + p.size) := by show _ = _; rw [e5.out, List.length_cons, HPl.out]; omega
  clear g5 c30 c31 c32 c3a0 c3a1 c3a2 n0 n1 o3a J3a b3a
  have hs5 := src_len w5 me (by omega)
  have o5a := o5.alloc (.cells #[.int .u8 (me : Int)] 5)
  have c5a0 := cell_alloc (.cells #[.int .u8 (me : Int)] 5) c50
  have c5a1 := cell_alloc (.cells #[.int .u8 (me : Int)] 5) c51
  have c5a2 := cell_alloc (.cells #[.int .u8 (me : Int)] 5) c52
  have b5a := b5.alloc b5.size (.cells #[.int .u8 (me : Int)] 5)
  have J5a := J5.next (Grows.alloc w5 v5 (.cells #[.int .u8 (me : Int)] 5))
  go_wp2_with (at_builtin; go_must (refine wpAppG rfl (.tmp 31) (.tmp 34) 25 rfl w.heap.size v5 z5 rfl o5a _ [UInt8.ofNat me] rfl 1 hs5 (by have := L5.out; simp; omega) b5a.size ?_))
  intro v6 w6 z6 e6 o6 g6
  obtain ⟨c60, n60⟩ := g6.keep c5a0 n50
  obtain ⟨c61, _⟩ := g6.keep c5a1 n50
  obtain ⟨c62, n61⟩ := g6.keep c5a2 n51
  have J6 := J5a.next g6
  have b6 := g6.below b5a o5a (Nat.le_refl _)
  have L6 : Hid (z6.length = p.size + 2) := by show _ = _; rw [e6.out, List.length_append, L5.out]; simp; omega
  clear g6 c50 c51 c52 c5a0 c5a1 c5a2 n50 n51 o5 o5a b5 b5a hs5 J5 J5a
  go_wp2_with fail
  refine (twoBytes_any _ b.length (by omega)).mono ?_
  rintro e w7 ⟨v7, rfl, o7, bb7⟩
  have g7 := Grows.ofBelow v6 bb7
  obtain ⟨c70, n70⟩ := g7.keep c60 n60
  obtain ⟨c71, _⟩ := g7.keep c61 n60
  obtain ⟨c72, n71⟩ := g7.keep c62 n61
  have J7 := J6.next g7
  have b7 := b6.trans (bb7.mono b6.size)
  have p7 := o6.carry bb7
  obtain ⟨a7, k7, rfl, h7, -, -⟩ := o7.shape
  clear g7 c60 c61 c62 n60 n61 o6 b6 bb7 o7 J6
  go_wp2_with (at_builtin; go_must (refine wpAppG rfl (.tmp 40) (.tmp 41) 25 rfl w.heap.size v6 z6 rfl p7 _ (twoOf b.length) rfl _ (src_bts Try.underlying25 h7 rfl) (by have := L6.out; simp [twoOf]; omega) b7.size ?_))
  intro v8 w8 z8 e8 o8 g8
  obtain ⟨c80, n80⟩ := g8.keep c70 n70
  obtain ⟨c82, n81⟩ := g8.keep c72 n71
  have J8 := J7.next g8
  have b8 := g8.below b7 p7 (Nat.le_refl _)
  have L8 : Hid (z8.length = p.size + 4) := by show _ = _; rw [e8.out, List.length_append, L6.out]; rfl
  clear g8 c70 c71 c72 n70 n71 p7 b7 h7 J7
  go_wp2_with fail
  refine (twoBytes_any _ lb.length (by omega)).mono ?_
  rintro e w9 ⟨v9, rfl, o9, bb9⟩
  have g9 := Grows.ofBelow v8 bb9
  obtain ⟨c92, n91⟩ := g9.keep c82 n81
  have J9 := J8.next g9
  have b9 := b8.trans (bb9.mono b8.size)
  have p9 := o8.carry bb9
  obtain ⟨a9, k9, rfl, h9, -, -⟩ := o9.shape
  clear g9 c80 c82 n80 n81 o8 b8 bb9 o9 J8
  go_wp2_with (at_builtin; go_must (refine wpAppG rfl (.tmp 46) (.tmp 47) 25 rfl w.heap.size v8 z8 rfl p9 _ (twoOf lb.length) rfl _ (src_bts Try.underlying25 h9 rfl) (by have := L8.out; simp [twoOf]; omega) b9.size ?_))
  intro v10 w10 z10 e10 o10 g10
  obtain ⟨c102, n101⟩ := g10.keep c92 n91
  have J10 := J9.next g10
  have b10 := g10.below b9 p9 (Nat.le_refl _)
  have L10 : Hid (z10.length = p.size + 6) := by show _ = _; rw [e10.out, List.length_append, L8.out]; rfl
  have HH : Hid (z10 = entHead pk p.data.toList b) := by
    show _ = _
    rw [e10.out, e8.out, e6.out, e5.out, HLb.out, HMe.out]
    simp [entHead, HPl.out]
  clear g10 c92 n91 p9 b9 h9 J9 e5 e6 e8 e10
  obtain ⟨a10, cap10, rfl, hb10, -, -⟩ := o10.shape
  have hl10 : z10.length ≤ 100 := by have := L10.out; omega
  obtain ⟨pd, HPD⟩ : ∃ pd, Hid (pd = entPad pk al pl p.data.toList b) := ⟨_, rfl⟩
  have HPD0 : Hid (me = 0 → padOf al (pl + z10.length + 1) = pd) := by
    intro h
    rw [HPD.out, entPad, if_pos (by rw [← HMe.out]; exact h), ← HH.out]
  have HPD1 : Hid (me ≠ 0 → pd = 0) := by
    intro h
    rw [HPD.out, entPad, if_neg (by rw [← HMe.out]; exact h)]
  have hpd : pd ≤ 16 := by
    by_cases h : me = 0
    · have := padOf_lt (al := al) (by omega) (pl + z10.length + 1)
      have := HPD0.out h
      omega
    · have := HPD1.out h
      omega
  go_upto_if 50 with fail
  go_cut [12, 50] (fun s12 _ wx => s12 = .int .i64 (pd : Nat) ∧ wx = w10)
  case first =>
    by_cases h0 : me = 0
    · have HP := hide (HPD0.out h0)
      subst h0
      have HNA := hide (fun W => noughtsAhead_any W (pl + z10.length + 1) al hal hal2 (by omega))
      rw [HP.out] at HNA
      have HCast : Hid (((pl : Int) + (z10.length : Int) + 1) = ((pl + z10.length + 1 : Nat) : Int)) := by show _ = _; omega
      go_wp2_with fail
      rw [HCast.out]
      refine (HNA.out _).mono ?_
      rintro e w' ⟨rfl, rfl⟩
      go_wp2
      go_meet
      exact ⟨rfl, rfl⟩
    · have HP := hide (HPD1.out h0)
      have h0b : ((me : Int) == 0) = false := by rw [beq_eq_false_iff_ne]; omega
      go_wp2
      go_meet
      exact ⟨by rw [HP.out]; rfl, rfl⟩
  case rest =>
    obtain ⟨rfl, rfl⟩ := hcut
    clear c102 n101 HPD0 HPD1
    have hs10 := src_len wc pd (by omega)
    have o10a := o10.alloc (.cells #[.int .u8 (pd : Int)] 5)
    have b10a := b10.alloc b10.size (.cells #[.int .u8 (pd : Int)] 5)
    have J10a := J10.next (Grows.alloc wc (.slice a10 z10.length cap10) (.cells #[.int .u8 (pd : Int)] 5))
    go_wp2_with (at_builtin; go_must (refine wpAppG rfl (.tmp 59) (.tmp 62) 25 rfl w.heap.size _ z10 rfl o10a _ [UInt8.ofNat pd] rfl 1 hs10 (by simp; omega) b10a.size ?_))
    intro v11 w11 z11 e11 o11 g11
    have J11 := J10a.next g11
    have b11 := g11.below b10a o10a (Nat.le_refl _)
    have hl11 : z11.length ≤ 200 := by rw [e11.out]; simp; omega
    clear g11 o10a b10a hs10 J10a J10 b10 o10 hb10
    go_wp2
    go_loopw [9, 13] (fun u i wr => ∃ (j : Nat) (ys : List UInt8), j ≤ pd ∧ i = .int .i64 j ∧ Own w.heap.size wr u ys ∧ Hid (ys = z11 ++ List.replicate j 0) ∧ Laid wr u al3 lb ∧ Below w.heap.size w wr) (fun _ i _ => pd - (intOf i).toNat)
    case atStart => exact ⟨0, z11, by omega, rfl, o11, by simp [Hid], J11, b11⟩
    clear o11 J11 b11
    case round =>
      obtain ⟨j, ys, hj, rfl, oy, HY, Jy, by_⟩ := hrel
      have hly : ys.length ≤ 300 := by rw [HY.out]; simp; omega
      by_cases hjk : j < pd
      · have hsy := src_len wr 0 (by omega)
        have oya := oy.alloc (.cells #[.int .u8 0] 5)
        have bya := by_.alloc by_.size (.cells #[.int .u8 0] 5)
        have Jya := Jy.next (Grows.alloc wr _ (.cells #[.int .u8 0] 5))
        go_wp2_with (at_builtin; go_must (refine wpAppG rfl (.tmp 69) (.tmp 70) 25 rfl w.heap.size _ ys rfl oya _ [UInt8.ofNat 0] rfl 1 hsy (by simp; omega) bya.size ?_))
        intro v12 w12 z12 e12 o12 g12
        have J12 := Jya.next g12
        have b12 := g12.below bya oya (Nat.le_refl _)
        have HY2 : Hid (z12 = z11 ++ List.replicate (j + 1) 0) := by
          show _ = _
          rw [e12.out, HY.out, List.replicate_succ']
          simp
        clear g12 oya bya hsy Jya
        go_wp2
        go_roundw
        case rel => first | exact ⟨j + 1, z12, by omega, by go_num, o12, HY2, J12, b12⟩ | ((repeat apply Exists.intro); exact ⟨⟨j + 1, z12, by omega, by go_num, o12, HY2, J12, b12⟩, rfl⟩)
        case measure => simp [intOf]; omega
      · have hje : j = pd := by omega
        subst hje
        go_wp2_with (at_builtin; go_must (refine wpAppG rfl (.tmp 72) (.tmp 73) 25 rfl w.heap.size _ ys rfl oy _ lb rfl _ (src_bts Try.underlying25 Jy.bts rfl) (by omega) by_.size ?_))
        intro v13 w13 z13 e13 o13 g13
        have b13 := g13.below by_ oy (Nat.le_refl _)
        have HZ : Hid (z13 = entOf pk al pl p.data.toList b) := by
          show _ = _
          rw [e13.out, HY.out, e11.out, HH.out, HPD.out, HLb.out]
          simp [entOf]
        obtain rfl := HZ.out
        clear HZ e13 g13 oy by_
        go_wp2
        go_ret
        exact ⟨v13, rfl, o13, b13⟩

end Go.Proofs.Ytggakcalcmjolab
