import Derived.Test.YtgncohclofdhmaaGreatWsort
import Derived.Test.YtgncohclofdhmaaGreatWans
import Derived.Test.YtgncohclofdhmaaGreatWbd
import Derived.Test.YtgncohclofdhmaaGreatWsma
import Derived.Deep.RegionWith
import Derived.BigRegion
namespace Go.Proofs.YtgncohclofdhmaaGreat
open Go.RowKit

/-- The entries stay where they are while bytes are appended elsewhere. -/
theorem Grows.ents {B B' : Nat} {w w' : World} {v v' u : Value} {xs : List UInt8} {es : List Ent} (hg : Grows w w' v v') (h : Own B w v xs) (k : OwnE B' w u es) : OwnE B' w' u es := by
  refine k.kept hg.by_ ?_
  rcases own_ne h k with e | e
  · by_cases hu : u.ownBlock = none
    · exact .inl hu
    · right; rw [e]; exact hu
  · right
    intro e2
    exact e e2.symm

theorem sumOf_lt (xs : List UInt8) : sumOf xs < 4294967296 := xor_lt (crcAll_lt xs) (by omega)

theorem own_head (w : World) (B : Nat) (pk : Bool) (al n : Nat) (hB : B ≤ w.heap.size) (hal : al ≤ 16) (hn : n ≤ 20) :
    Own B (w.alloc (.cells #[.int .u8 80, .int .u8 76, .int .u8 (al : Int), .int .u8 (if pk then 1 else 0), .int .u8 (n : Int)] 5)) (.slice (some ⟨w.heap.size, 0, none⟩) 5 5) (headBytes pk al n) := by
  have e : #[Value.int .u8 80, Value.int .u8 76, Value.int .u8 (al : Int), Value.int .u8 (if pk then 1 else 0), Value.int .u8 (n : Int)] = (cells (headBytes pk al n)).toArray := by
    have h1 : ((UInt8.ofNat al).toNat : Int) = al := by rw [ofNat_val]; omega
    have h2 : ((UInt8.ofNat n).toNat : Int) = n := by rw [ofNat_val]; omega
    cases pk <;> (simp [cells, cell, headBytes] <;> omega)
  rw [e]
  have := World.ownsRow_lit (base := B) (e := 5) (size := 1) w (cells (headBytes pk al n)).toArray 5 hB (by simp [maxLen]) (by simp [cells_length, headBytes])
  unfold Own
  simpa [headBytes, cells] using this

set_option maxRecDepth 100000 in
set_option maxHeartbeats 4000000 in
theorem made_any (a : Option Addr) (es : List Ent) (cap : Nat) (w : World) (key : ByteArray) (al : Nat) (pk : Bool) (hm : es.length ≤ 20) (hal : 1 ≤ al) (hal2 : al ≤ 16) (hk : keyB key.size = true) (hlim : ∀ e, e ∈ es → e.path.size ≤ 40 ∧ e.body.length ≤ 600)
    (ha : EntAt w a es) (hg : EntGood w es) :
    Calls Tryz.prog 55 #[.slice a es.length cap, .agg #[.string key, .int .i64 al, .bool pk]] w fun e w' => ∃ v ix, e = .returned v ∧ Chosen (fun i => (es.getD i noEnt).path.data.toList) es.length ix ∧ ix.length = es.length ∧
      Own w.heap.size w' v (madeOf key.data.toList pk al (pairsOf (ix.map fun i => es.getD i noEnt))) ∧ Below w.heap.size w w' := by
  have b0 := (Below.refl w.heap.size w).alloc (Nat.le_refl _) (.cells #[.string key, .int .i64 al, .bool pk] 49)
  have c00 := cell_new w #[.string key, .int .i64 al, .bool pk] 49 0
  have c01 := cell_new w #[.string key, .int .i64 al, .bool pk] 49 1
  have c02 := cell_new w #[.string key, .int .i64 al, .bool pk] 49 2
  go_enter Tryz.func55, Tryz.ntmps55
  go_wp2_with fail
  refine (sorted_any a es cap _ (by omega) (ha.carry b0) (hg.carry b0)).mono ?_
  rintro e w1 ⟨v1, ix, rfl, o1, HC, HL, b1⟩
  have c10 := (b1.cell (p := ⟨w.heap.size, 0, none⟩) (by simp)).trans c00
  have c11 := (b1.cell (p := ⟨w.heap.size, 1, none⟩) (by simp)).trans c01
  have c12 := (b1.cell (p := ⟨w.heap.size, 2, none⟩) (by simp)).trans c02
  have hb1 := b0.trans (b1.mono b0.size)
  have HC' := hide HC
  have HL' := hide HL
  obtain ⟨fs, HF⟩ : ∃ fs, Hid (fs = ix.map fun i => es.getD i noEnt) := ⟨_, rfl⟩
  rw [← HF.out] at o1
  have HFl : Hid (fs.length = es.length) := by show _ = _; rw [HF.out, List.length_map]; exact HL
  have HFm : Hid (∀ e, e ∈ fs → e ∈ es) := by
    intro e he
    rw [HF.out] at he
    obtain ⟨i, hi, rfl⟩ := List.mem_map.1 he
    have := HC.lt i hi
    rw [List.getD_eq_getElem?_getD, List.getElem?_eq_getElem this]
    exact List.getElem_mem this
  obtain ⟨sa, sc, rfl, has, -, -⟩ := o1.shape
  have sz1 : w.heap.size < w1.heap.size := by have := b1.size; simp at this; omega
  rw [show (w.alloc (.cells #[.string key, .int .i64 al, .bool pk] 49)).heap.size = w.heap.size + 1 from by simp] at o1
  clear HC HL b0 b1 c00 c01 c02
  simp at c10 c11 c12
  have hfl : fs.length ≤ 20 := by rw [HFl.out]; exact hm
  cases pk
  · have oh := own_head w1 w.heap.size false al fs.length (by omega) (by omega) (by omega)
    have gh := (Below.refl w.heap.size w1).alloc (by omega) (.cells #[.int .u8 80, .int .u8 76, .int .u8 (al : Int), .int .u8 0, .int .u8 (fs.length : Int)] 5)
    have o2 := o1.carry ((Below.refl w1.heap.size w1).alloc (Nat.le_refl _) (.cells #[.int .u8 80, .int .u8 76, .int .u8 (al : Int), .int .u8 0, .int .u8 (fs.length : Int)] 5))
    have c20 := cell_alloc (.cells #[.int .u8 80, .int .u8 76, .int .u8 (al : Int), .int .u8 0, .int .u8 (fs.length : Int)] 5) c10
    have c21 := cell_alloc (.cells #[.int .u8 80, .int .u8 76, .int .u8 (al : Int), .int .u8 0, .int .u8 (fs.length : Int)] 5) c11
    have c22 := cell_alloc (.cells #[.int .u8 80, .int .u8 76, .int .u8 (al : Int), .int .u8 0, .int .u8 (fs.length : Int)] 5) c12
    have hb2 := hb1.trans gh
    go_wp2
    go_loopw [7, 8] (fun v i wr => ∃ (k : Nat) (zs : List UInt8), k ≤ fs.length ∧ i = .int .i64 k ∧ Own w.heap.size wr v zs ∧ Hid (zs = bodyOf false al (headBytes false al fs.length) (pairsOf (fs.take k))) ∧ v.ownBlock ≠ some w.heap.size ∧ OwnE (w.heap.size + 1) wr (.slice sa fs.length sc) fs ∧
        wr.cell? ⟨w.heap.size, 0, none⟩ = some (.string key) ∧ wr.cell? ⟨w.heap.size, 1, none⟩ = some (.int .i64 al) ∧ wr.cell? ⟨w.heap.size, 2, none⟩ = some (.bool false) ∧ Below w.heap.size w wr) (fun _ i _ => fs.length - (intOf i).toNat)
    case atStart => exact ⟨0, _, by omega, rfl, oh, rfl, by simp [Value.ownBlock]; omega, o2, c20, c21, c22, hb2⟩
    clear oh gh o2 c20 c21 c22 hb2 o1 c10 c11 c12 hb1 has
    case round =>
      obtain ⟨k, zs, hk2, rfl, ho, HZ, hnb, hoe, c0, c1, c2, hbl⟩ := hrel
      by_cases hlt : k < fs.length
      · have hoe' := hoe
        obtain ⟨_, _, e, hea, -, -⟩ := hoe'.shape
        simp only [Value.slice.injEq, true_and] at e
        obtain ⟨rfl, rfl⟩ := e
        obtain ⟨b, off, rfl, hc1, hc2⟩ := hea k hlt
        have hmem : fs.getD k noEnt ∈ es := by
          apply HFm.out
          rw [List.getD_eq_getElem?_getD, List.getElem?_eq_getElem hlt]
          exact List.getElem_mem hlt
        obtain ⟨l1, l2⟩ := hlim _ hmem
        obtain ⟨g1, g2, g3, g4⟩ := hg _ hmem
        have HT := hide (take_snoc fs noEnt k hlt)
        have hzl : zs.length ≤ 100000 := by
          rw [HZ.out]
          have := bodyOf_le false al (by omega) hal2 (pairsOf (fs.take k)) (headBytes false al fs.length) (by
            intro x hx
            obtain ⟨e, he, rfl⟩ := List.mem_map.1 hx
            have h := hlim e (HFm.out e (List.mem_of_mem_take he))
            exact ⟨by rw [pairOf, strLen]; exact h.1, h.2⟩)
          simp [headBytes, pairsOf] at this ⊢
          omega
        generalize fs.getD k noEnt = x at *
        unfold Ent.val at hc2
        have HEn := hide (fun W v' => entry_any w W v' zs x.path key x.adr x.body x.cap al false l1 l2 hal hal2 g1 g2 g3)
        go_wp2
        go_region_with (go_at_call 81; refine (unhide HEn _ _ (by exact hbl.drew) (by exact ho.drew) (by omega)).mono ?_; rintro e w2 ⟨v2, rfl, o2, g2⟩)
        all_goals
          obtain ⟨q0, n0⟩ := g2.keep (x := ⟨w.heap.size, 0, none⟩) (by exact c0) hnb
          obtain ⟨q1, _⟩ := g2.keep (x := ⟨w.heap.size, 1, none⟩) (by exact c1) hnb
          obtain ⟨q2, _⟩ := g2.keep (x := ⟨w.heap.size, 2, none⟩) (by exact c2) hnb
          have hoe2 := g2.ents (by exact ho.drew) (by exact hoe)
          have hbl2 := g2.below (by exact hbl.drew) (by exact ho.drew) (Nat.le_refl _)
          have HZ2 : Hid (zs ++ entOf false al zs.length x.path.data.toList x.body = bodyOf false al (headBytes false al fs.length) (pairsOf (fs.take (k + 1)))) := by
            show _ = _
            rw [HT.out, pairsOf, List.map_append, List.map_cons, List.map_nil, bodyOf_snoc, HZ.out]
            rfl
          generalize zs ++ entOf false al zs.length x.path.data.toList x.body = z2 at *
          clear g2 HEn ho hoe c0 c1 c2 hc1 hc2 hea
          go_wp2
          go_roundw
          case rel => first | exact ⟨k + 1, z2, by omega, by go_num, o2, HZ2, n0, hoe2, q0, q1, q2, hbl2⟩ | ((repeat apply Exists.intro); exact ⟨⟨k + 1, z2, by omega, by go_num, o2, HZ2, n0, hoe2, q0, q1, q2, hbl2⟩, rfl⟩)
          case measure => simp [intOf]; omega
      · have HZ3 : Hid (zs = bodyOf false al (headBytes false al fs.length) (pairsOf fs)) := by
          have h := HZ.out
          rw [List.take_of_length_le (by omega)] at h
          exact h
        have hzl : zs.length ≤ 100000 := by
          rw [HZ3.out]
          have := bodyOf_le false al (by omega) hal2 (pairsOf fs) (headBytes false al fs.length) (by
            intro x hx
            obtain ⟨e, he, rfl⟩ := List.mem_map.1 hx
            have h := hlim e (HFm.out e he)
            exact ⟨by rw [pairOf, strLen]; exact h.1, h.2⟩)
          simp [headBytes, pairsOf] at this ⊢
          omega
        clear HZ
        go_wp2
        go_loopw [7, 9] (fun v i wr => ∃ (k : Nat) (ys : List UInt8), k ≤ fs.length ∧ i = .int .i64 k ∧ Own w.heap.size wr v ys ∧ Hid (ys = zs ++ sumsOf (pairsOf (fs.take k))) ∧ v.ownBlock ≠ some w.heap.size ∧ OwnE (w.heap.size + 1) wr (.slice sa fs.length sc) fs ∧
            wr.cell? ⟨w.heap.size, 0, none⟩ = some (.string key) ∧ Below w.heap.size w wr) (fun _ i _ => fs.length - (intOf i).toNat)
        case atStart => exact ⟨0, zs, by omega, rfl, ho, by simp [Hid, pairsOf, sumsOf], hnb, hoe, c0, hbl⟩
        clear ho hnb hoe c0 c1 c2 hbl
        case round =>
          obtain ⟨j, ys, hj, rfl, ho, HY, hnb, hoe, c0, hbl⟩ := hrel
          have hyl : ys.length ≤ 200000 := by
            rw [HY.out, List.length_append, sumsOf_length]
            simp [pairsOf]
            omega
          by_cases hjl : j < fs.length
          · have hoe' := hoe
            obtain ⟨_, _, e, hea, -, -⟩ := hoe'.shape
            simp only [Value.slice.injEq, true_and] at e
            obtain ⟨rfl, rfl⟩ := e
            obtain ⟨b, off, rfl, -, hc2⟩ := hea j hjl
            have hmem : fs.getD j noEnt ∈ es := by
              apply HFm.out
              rw [List.getD_eq_getElem?_getD, List.getElem?_eq_getElem hjl]
              exact List.getElem_mem hjl
            obtain ⟨l1, l2⟩ := hlim _ hmem
            obtain ⟨g1, g2, g3, g4⟩ := hg _ hmem
            have HT := hide (take_snoc fs noEnt j hjl)
            generalize fs.getD j noEnt = x at *
            unfold Ent.val at hc2
            go_wp2_with fail
            refine (refSum_any x.adr x.body x.cap _ (by omega) (g1.carry hbl)).mono ?_
            rintro e w2 ⟨rfl, b2⟩
            have ho2 := ho.carry b2
            have hoe2 := hoe.carry b2
            have q0 := (b2.cell (p := ⟨w.heap.size, 0, none⟩) (World.block_lt_of_cell? _ _ c0)).trans c0
            have hbl2 := hbl.trans (b2.mono hbl.size)
            have hsl := sumOf_lt x.body
            clear ho hoe c0 hbl b2 hc2 hea hoe'
            go_wp2_with fail
            refine (four_any w.heap.size _ _ ys _ hsl ho2 hbl2.size (by omega)).mono ?_
            rintro e w3 ⟨v3, rfl, o3, g3'⟩
            obtain ⟨r0, n0⟩ := g3'.keep q0 hnb
            have hoe3 := g3'.ents ho2 hoe2
            have hbl3 := g3'.below hbl2 ho2 (Nat.le_refl _)
            have HY2 : Hid (ys ++ fourOf (sumOf x.body) = zs ++ sumsOf (pairsOf (fs.take (j + 1)))) := by
              show _ = _
              rw [HT.out, pairsOf, List.map_append, List.map_cons, List.map_nil, sumsOf_append, HY.out, List.append_assoc]
              simp [sumsOf, pairOf, pairsOf]
            generalize ys ++ fourOf (sumOf x.body) = y2 at *
            clear g3' ho2 hoe2 q0 hbl2
            go_wp2
            go_roundw
            case rel => first | exact ⟨j + 1, y2, by omega, by go_num, o3, HY2, n0, hoe3, r0, hbl3⟩ | ((repeat apply Exists.intro); exact ⟨⟨j + 1, y2, by omega, by go_num, o3, HY2, n0, hoe3, r0, hbl3⟩, rfl⟩)
            case measure => simp [intOf]; omega
          · have HY3 : Hid (ys = plainOf false al (pairsOf fs)) := by
              have h := HY.out
              rw [List.take_of_length_le (by omega)] at h
              show _ = _
              rw [h, HZ3.out, plainOf]
              simp [pairsOf]
            obtain ⟨ay, cy, rfl, hby, -, -⟩ := ho.shape
            go_wp2_with fail
            refine (refSum_any ay ys cy _ (by omega) hby).mono ?_
            rintro e w2 ⟨rfl, b2⟩
            have ho2 := ho.carry b2
            have q0 := (b2.cell (p := ⟨w.heap.size, 0, none⟩) (World.block_lt_of_cell? _ _ c0)).trans c0
            have hbl2 := hbl.trans (b2.mono hbl.size)
            have hsl := sumOf_lt ys
            clear ho hoe c0 hbl b2 hby
            go_wp2_with fail
            refine (four_any w.heap.size _ _ ys _ hsl ho2 hbl2.size (by omega)).mono ?_
            rintro e w3 ⟨v3, rfl, o3, g3'⟩
            obtain ⟨r0, n0⟩ := g3'.keep q0 hnb
            have hbl3 := g3'.below hbl2 ho2 (Nat.le_refl _)
            obtain ⟨ws, HW⟩ : ∃ ws, Hid (ws = summed ys) := ⟨_, rfl⟩
            rw [show ys ++ fourOf (sumOf ys) = ws from HW.out.symm] at o3
            have hwl : ws.length ≤ 200010 := by rw [HW.out]; simp [summed, fourOf]; omega
            clear g3' ho2 q0 hbl2
            obtain ⟨aw, cw, rfl, hbw, -, -⟩ := o3.shape
            have hks : key.size ≤ maxLen := by simp [keyB] at hk; unfold maxLen; omega
            have HTg : Hid (tagNum key ws = tagFrom 0 (key.data.toList ++ ws ++ key.data.toList)) := by simp [Hid, tagNum, hk, tagVal]
            have htl : tagNum key ws < 4294967296 := by
              have := tagFrom_lt (h := 0) (by omega) (key.data.toList ++ ws ++ key.data.toList)
              rw [HTg.out]
              omega
            go_wp2_with fail
            refine (refTag_any key aw ws cw _ hks (by omega) hbw).mono ?_
            rintro e w4 ⟨rfl, b4⟩
            have o4 := o3.carry b4
            have hbl4 := hbl3.trans (b4.mono hbl3.size)
            clear b4 o3 hbl3 hbw r0
            go_wp2_with fail
            refine (four_any w.heap.size _ _ ws _ htl o4 hbl4.size (by omega)).mono ?_
            rintro e w5 ⟨v5, rfl, o5, g5⟩
            have hbl5 := g5.below hbl4 o4 (Nat.le_refl _)
            have HR : Hid (ws ++ fourOf (tagNum key ws) = madeOf key.data.toList false al (pairsOf (ix.map fun i => es.getD i noEnt))) := by
              show _ = _
              rw [HTg.out, ← HF.out, madeOf, ← HY3.out, ← HW.out]
              rfl
            rw [HR.out] at o5
            clear g5 o4 hbl4
            go_wp2
            go_ret
            exact ⟨v5, ix, rfl, HC'.out, HL'.out, o5, hbl5⟩
  · have oh := own_head w1 w.heap.size true al fs.length (by omega) (by omega) (by omega)
    have gh := (Below.refl w.heap.size w1).alloc (by omega) (.cells #[.int .u8 80, .int .u8 76, .int .u8 (al : Int), .int .u8 1, .int .u8 (fs.length : Int)] 5)
    have o2 := o1.carry ((Below.refl w1.heap.size w1).alloc (Nat.le_refl _) (.cells #[.int .u8 80, .int .u8 76, .int .u8 (al : Int), .int .u8 1, .int .u8 (fs.length : Int)] 5))
    have c20 := cell_alloc (.cells #[.int .u8 80, .int .u8 76, .int .u8 (al : Int), .int .u8 1, .int .u8 (fs.length : Int)] 5) c10
    have c21 := cell_alloc (.cells #[.int .u8 80, .int .u8 76, .int .u8 (al : Int), .int .u8 1, .int .u8 (fs.length : Int)] 5) c11
    have c22 := cell_alloc (.cells #[.int .u8 80, .int .u8 76, .int .u8 (al : Int), .int .u8 1, .int .u8 (fs.length : Int)] 5) c12
    have hb2 := hb1.trans gh
    go_wp2
    go_loopw [7, 8] (fun v i wr => ∃ (k : Nat) (zs : List UInt8), k ≤ fs.length ∧ i = .int .i64 k ∧ Own w.heap.size wr v zs ∧ Hid (zs = bodyOf true al (headBytes true al fs.length) (pairsOf (fs.take k))) ∧ v.ownBlock ≠ some w.heap.size ∧ OwnE (w.heap.size + 1) wr (.slice sa fs.length sc) fs ∧
        wr.cell? ⟨w.heap.size, 0, none⟩ = some (.string key) ∧ wr.cell? ⟨w.heap.size, 1, none⟩ = some (.int .i64 al) ∧ wr.cell? ⟨w.heap.size, 2, none⟩ = some (.bool true) ∧ Below w.heap.size w wr) (fun _ i _ => fs.length - (intOf i).toNat)
    case atStart => exact ⟨0, _, by omega, rfl, oh, rfl, by simp [Value.ownBlock]; omega, o2, c20, c21, c22, hb2⟩
    clear oh gh o2 c20 c21 c22 hb2 o1 c10 c11 c12 hb1 has
    case round =>
      obtain ⟨k, zs, hk2, rfl, ho, HZ, hnb, hoe, c0, c1, c2, hbl⟩ := hrel
      by_cases hlt : k < fs.length
      · have hoe' := hoe
        obtain ⟨_, _, e, hea, -, -⟩ := hoe'.shape
        simp only [Value.slice.injEq, true_and] at e
        obtain ⟨rfl, rfl⟩ := e
        obtain ⟨b, off, rfl, hc1, hc2⟩ := hea k hlt
        have hmem : fs.getD k noEnt ∈ es := by
          apply HFm.out
          rw [List.getD_eq_getElem?_getD, List.getElem?_eq_getElem hlt]
          exact List.getElem_mem hlt
        obtain ⟨l1, l2⟩ := hlim _ hmem
        obtain ⟨g1, g2, g3, g4⟩ := hg _ hmem
        have HT := hide (take_snoc fs noEnt k hlt)
        have hzl : zs.length ≤ 100000 := by
          rw [HZ.out]
          have := bodyOf_le true al (by omega) hal2 (pairsOf (fs.take k)) (headBytes true al fs.length) (by
            intro x hx
            obtain ⟨e, he, rfl⟩ := List.mem_map.1 hx
            have h := hlim e (HFm.out e (List.mem_of_mem_take he))
            exact ⟨by rw [pairOf, strLen]; exact h.1, h.2⟩)
          simp [headBytes, pairsOf] at this ⊢
          omega
        generalize fs.getD k noEnt = x at *
        unfold Ent.val at hc2
        have HEn := hide (fun W v' => entry_any w W v' zs x.path key x.adr x.body x.cap al true l1 l2 hal hal2 g1 g2 g3)
        go_wp2
        go_region_with (go_at_call 81; refine (unhide HEn _ _ (by exact hbl.drew) (by exact ho.drew) (by omega)).mono ?_; rintro e w2 ⟨v2, rfl, o2, g2⟩)
        all_goals
          obtain ⟨q0, n0⟩ := g2.keep (x := ⟨w.heap.size, 0, none⟩) (by exact c0) hnb
          obtain ⟨q1, _⟩ := g2.keep (x := ⟨w.heap.size, 1, none⟩) (by exact c1) hnb
          obtain ⟨q2, _⟩ := g2.keep (x := ⟨w.heap.size, 2, none⟩) (by exact c2) hnb
          have hoe2 := g2.ents (by exact ho.drew) (by exact hoe)
          have hbl2 := g2.below (by exact hbl.drew) (by exact ho.drew) (Nat.le_refl _)
          have HZ2 : Hid (zs ++ entOf true al zs.length x.path.data.toList x.body = bodyOf true al (headBytes true al fs.length) (pairsOf (fs.take (k + 1)))) := by
            show _ = _
            rw [HT.out, pairsOf, List.map_append, List.map_cons, List.map_nil, bodyOf_snoc, HZ.out]
            rfl
          generalize zs ++ entOf true al zs.length x.path.data.toList x.body = z2 at *
          clear g2 HEn ho hoe c0 c1 c2 hc1 hc2 hea
          go_wp2
          go_roundw
          case rel => first | exact ⟨k + 1, z2, by omega, by go_num, o2, HZ2, n0, hoe2, q0, q1, q2, hbl2⟩ | ((repeat apply Exists.intro); exact ⟨⟨k + 1, z2, by omega, by go_num, o2, HZ2, n0, hoe2, q0, q1, q2, hbl2⟩, rfl⟩)
          case measure => simp [intOf]; omega
      · have HZ3 : Hid (zs = bodyOf true al (headBytes true al fs.length) (pairsOf fs)) := by
          have h := HZ.out
          rw [List.take_of_length_le (by omega)] at h
          exact h
        have hzl : zs.length ≤ 100000 := by
          rw [HZ3.out]
          have := bodyOf_le true al (by omega) hal2 (pairsOf fs) (headBytes true al fs.length) (by
            intro x hx
            obtain ⟨e, he, rfl⟩ := List.mem_map.1 hx
            have h := hlim e (HFm.out e he)
            exact ⟨by rw [pairOf, strLen]; exact h.1, h.2⟩)
          simp [headBytes, pairsOf] at this ⊢
          omega
        clear HZ
        go_wp2
        go_loopw [7, 9] (fun v i wr => ∃ (k : Nat) (ys : List UInt8), k ≤ fs.length ∧ i = .int .i64 k ∧ Own w.heap.size wr v ys ∧ Hid (ys = zs ++ sumsOf (pairsOf (fs.take k))) ∧ v.ownBlock ≠ some w.heap.size ∧ OwnE (w.heap.size + 1) wr (.slice sa fs.length sc) fs ∧
            wr.cell? ⟨w.heap.size, 0, none⟩ = some (.string key) ∧ Below w.heap.size w wr) (fun _ i _ => fs.length - (intOf i).toNat)
        case atStart => exact ⟨0, zs, by omega, rfl, ho, by simp [Hid, pairsOf, sumsOf], hnb, hoe, c0, hbl⟩
        clear ho hnb hoe c0 c1 c2 hbl
        case round =>
          obtain ⟨j, ys, hj, rfl, ho, HY, hnb, hoe, c0, hbl⟩ := hrel
          have hyl : ys.length ≤ 200000 := by
            rw [HY.out, List.length_append, sumsOf_length]
            simp [pairsOf]
            omega
          by_cases hjl : j < fs.length
          · have hoe' := hoe
            obtain ⟨_, _, e, hea, -, -⟩ := hoe'.shape
            simp only [Value.slice.injEq, true_and] at e
            obtain ⟨rfl, rfl⟩ := e
            obtain ⟨b, off, rfl, -, hc2⟩ := hea j hjl
            have hmem : fs.getD j noEnt ∈ es := by
              apply HFm.out
              rw [List.getD_eq_getElem?_getD, List.getElem?_eq_getElem hjl]
              exact List.getElem_mem hjl
            obtain ⟨l1, l2⟩ := hlim _ hmem
            obtain ⟨g1, g2, g3, g4⟩ := hg _ hmem
            have HT := hide (take_snoc fs noEnt j hjl)
            generalize fs.getD j noEnt = x at *
            unfold Ent.val at hc2
            go_wp2_with fail
            refine (refSum_any x.adr x.body x.cap _ (by omega) (g1.carry hbl)).mono ?_
            rintro e w2 ⟨rfl, b2⟩
            have ho2 := ho.carry b2
            have hoe2 := hoe.carry b2
            have q0 := (b2.cell (p := ⟨w.heap.size, 0, none⟩) (World.block_lt_of_cell? _ _ c0)).trans c0
            have hbl2 := hbl.trans (b2.mono hbl.size)
            have hsl := sumOf_lt x.body
            clear ho hoe c0 hbl b2 hc2 hea hoe'
            go_wp2_with fail
            refine (four_any w.heap.size _ _ ys _ hsl ho2 hbl2.size (by omega)).mono ?_
            rintro e w3 ⟨v3, rfl, o3, g3'⟩
            obtain ⟨r0, n0⟩ := g3'.keep q0 hnb
            have hoe3 := g3'.ents ho2 hoe2
            have hbl3 := g3'.below hbl2 ho2 (Nat.le_refl _)
            have HY2 : Hid (ys ++ fourOf (sumOf x.body) = zs ++ sumsOf (pairsOf (fs.take (j + 1)))) := by
              show _ = _
              rw [HT.out, pairsOf, List.map_append, List.map_cons, List.map_nil, sumsOf_append, HY.out, List.append_assoc]
              simp [sumsOf, pairOf, pairsOf]
            generalize ys ++ fourOf (sumOf x.body) = y2 at *
            clear g3' ho2 hoe2 q0 hbl2
            go_wp2
            go_roundw
            case rel => first | exact ⟨j + 1, y2, by omega, by go_num, o3, HY2, n0, hoe3, r0, hbl3⟩ | ((repeat apply Exists.intro); exact ⟨⟨j + 1, y2, by omega, by go_num, o3, HY2, n0, hoe3, r0, hbl3⟩, rfl⟩)
            case measure => simp [intOf]; omega
          · have HY3 : Hid (ys = plainOf true al (pairsOf fs)) := by
              have h := HY.out
              rw [List.take_of_length_le (by omega)] at h
              show _ = _
              rw [h, HZ3.out, plainOf]
              simp [pairsOf]
            obtain ⟨ay, cy, rfl, hby, -, -⟩ := ho.shape
            go_wp2_with fail
            refine (refSum_any ay ys cy _ (by omega) hby).mono ?_
            rintro e w2 ⟨rfl, b2⟩
            have ho2 := ho.carry b2
            have q0 := (b2.cell (p := ⟨w.heap.size, 0, none⟩) (World.block_lt_of_cell? _ _ c0)).trans c0
            have hbl2 := hbl.trans (b2.mono hbl.size)
            have hsl := sumOf_lt ys
            clear ho hoe c0 hbl b2 hby
            go_wp2_with fail
            refine (four_any w.heap.size _ _ ys _ hsl ho2 hbl2.size (by omega)).mono ?_
            rintro e w3 ⟨v3, rfl, o3, g3'⟩
            obtain ⟨r0, n0⟩ := g3'.keep q0 hnb
            have hbl3 := g3'.below hbl2 ho2 (Nat.le_refl _)
            obtain ⟨ws, HW⟩ : ∃ ws, Hid (ws = summed ys) := ⟨_, rfl⟩
            rw [show ys ++ fourOf (sumOf ys) = ws from HW.out.symm] at o3
            have hwl : ws.length ≤ 200010 := by rw [HW.out]; simp [summed, fourOf]; omega
            clear g3' ho2 q0 hbl2
            obtain ⟨aw, cw, rfl, hbw, -, -⟩ := o3.shape
            have hks : key.size ≤ maxLen := by simp [keyB] at hk; unfold maxLen; omega
            have HTg : Hid (tagNum key ws = tagFrom 0 (key.data.toList ++ ws ++ key.data.toList)) := by simp [Hid, tagNum, hk, tagVal]
            have htl : tagNum key ws < 4294967296 := by
              have := tagFrom_lt (h := 0) (by omega) (key.data.toList ++ ws ++ key.data.toList)
              rw [HTg.out]
              omega
            go_wp2_with fail
            refine (refTag_any key aw ws cw _ hks (by omega) hbw).mono ?_
            rintro e w4 ⟨rfl, b4⟩
            have o4 := o3.carry b4
            have hbl4 := hbl3.trans (b4.mono hbl3.size)
            clear b4 o3 hbl3 hbw r0
            go_wp2_with fail
            refine (four_any w.heap.size _ _ ws _ htl o4 hbl4.size (by omega)).mono ?_
            rintro e w5 ⟨v5, rfl, o5, g5⟩
            have hbl5 := g5.below hbl4 o4 (Nat.le_refl _)
            have HR : Hid (ws ++ fourOf (tagNum key ws) = madeOf key.data.toList true al (pairsOf (ix.map fun i => es.getD i noEnt))) := by
              show _ = _
              rw [HTg.out, ← HF.out, madeOf, ← HY3.out, ← HW.out]
              rfl
            rw [HR.out] at o5
            clear g5 o4 hbl4
            go_wp2
            go_ret
            exact ⟨v5, ix, rfl, HC'.out, HL'.out, o5, hbl5⟩

end Go.Proofs.YtgncohclofdhmaaGreat
