import Derived.Test.YtggakcalcmjolabWlay2
import Derived.Test.YtggakcalcmjolabWsum3
import Derived.Deep.RegionWith
import Derived.BigRegion
namespace Go.Proofs.Ytggakcalcmjolab
open Go.RowKit

theorem body_bound (pk : Bool) (al : Nat) (hal : 1 ≤ al) (hal2 : al ≤ 16) (n : Nat) (es : List Ent) (hn : es.length ≤ 20) (hlim : ∀ e, e ∈ es → e.path.size ≤ 40 ∧ e.body.length ≤ 600) : (bodyOf pk al (headBytes pk al n) (pairsOf es)).length ≤ 100000 := by
  have := bodyOf_le pk al (by omega) hal2 (pairsOf es) (headBytes pk al n) (by
    intro x hx
    obtain ⟨e, he, rfl⟩ := List.mem_map.1 hx
    have h := hlim e he
    exact ⟨by rw [pairOf, strLen]; exact h.1, h.2⟩)
  simp [headBytes, pairsOf] at this ⊢
  omega

set_option maxRecDepth 100000 in
set_option maxHeartbeats 4000000 in
theorem layPackage_any (a : Option Addr) (es : List Ent) (cap : Nat) (w : World) (key : ByteArray) (al : Nat) (pk : Bool) (hm : es.length ≤ 20) (hal : 1 ≤ al) (hal2 : al ≤ 16) (hk : key.size ≤ maxLen) (hlim : ∀ e, e ∈ es → e.path.size ≤ 40 ∧ e.body.length ≤ 600)
    (ha : EntAt w a es) (hg : EntGood w es) :
    Calls Try.prog 28 #[.slice a es.length cap, .agg #[.string key, .int .i64 al, .bool pk]] w fun e w' => ∃ v, e = .returned v ∧ Own w.heap.size w' v (madeOf key.data.toList pk al (pairsOf es)) ∧ Below w.heap.size w w' := by
  have b0 := (Below.refl w.heap.size w).alloc (Nat.le_refl _) (.cells #[.string key, .int .i64 al, .bool pk] 24)
  have c00 := cell_new w #[.string key, .int .i64 al, .bool pk] 24 0
  have c01 := cell_new w #[.string key, .int .i64 al, .bool pk] 24 1
  have c02 := cell_new w #[.string key, .int .i64 al, .bool pk] 24 2
  have esz : (w.alloc (.cells #[.string key, .int .i64 al, .bool pk] 24)).heap.size = w.heap.size + 1 := by simp
  obtain ⟨n, HN⟩ : ∃ n, Hid (n = es.length) := ⟨_, rfl⟩
  rw [← HN.out] at hm ⊢
  go_enter Try.func28, Try.ntmps28
  go_wp2_with fail
  refine (layHead_any _ n al key pk hal2 hm).mono ?_
  rintro e w1 ⟨v1, rfl, o1, b1⟩
  have c10 := (b1.cell (p := ⟨w.heap.size, 0, none⟩) (by rw [esz]; simp)).trans c00
  have c11 := (b1.cell (p := ⟨w.heap.size, 1, none⟩) (by rw [esz]; simp)).trans c01
  have c12 := (b1.cell (p := ⟨w.heap.size, 2, none⟩) (by rw [esz]; simp)).trans c02
  simp at c10 c11 c12
  have hb1 := b0.trans (b1.mono b0.size)
  have n1 : v1.ownBlock ≠ some w.heap.size := by
    intro e
    have := (World.ownsRow.lt o1 _ e).1
    rw [esz] at this
    omega
  have o1' : Own w.heap.size w1 v1 (headBytes pk al n) := o1.mono b0.size
  clear b0 b1 c00 c01 c02 esz o1
  go_wp2
  go_loopw [5, 6, 7] (fun v i _ wr => ∃ (k : Nat) (zs : List UInt8), k ≤ n ∧ i = .int .i64 k ∧ Own w.heap.size wr v zs ∧ Hid (zs = bodyOf pk al (headBytes pk al n) (pairsOf (es.take k))) ∧ v.ownBlock ≠ some w.heap.size ∧
      wr.cell? ⟨w.heap.size, 0, none⟩ = some (.string key) ∧ wr.cell? ⟨w.heap.size, 1, none⟩ = some (.int .i64 al) ∧ wr.cell? ⟨w.heap.size, 2, none⟩ = some (.bool pk) ∧ Below w.heap.size w wr) (fun _ i _ _ => n - (intOf i).toNat)
  case atStart => exact ⟨0, _, by omega, rfl, o1', rfl, n1, c10, c11, c12, hb1⟩
  clear o1' n1 c10 c11 c12 hb1
  case round =>
    obtain ⟨k, zs, hk2, rfl, ho, HZ, hnb, c0, c1, c2, hbl⟩ := hrel
    have hzl : zs.length ≤ 100000 := by
      rw [HZ.out]
      exact body_bound pk al hal hal2 n (es.take k) (by have := HN.out; simp; omega) (fun e he => hlim e (List.mem_of_mem_take he))
    by_cases hlt : k < n
    · have hlt2 : k < es.length := by have := HN.out; omega
      obtain ⟨b, off, rfl, hc1, hc2⟩ := (ha.carry hbl) k hlt2
      have hmem : es.getD k noEnt ∈ es := by
        rw [List.getD_eq_getElem?_getD, List.getElem?_eq_getElem hlt2]
        exact List.getElem_mem hlt2
      obtain ⟨l1, l2⟩ := hlim _ hmem
      obtain ⟨g1, g2, g3, g4⟩ := (hg.carry hbl) _ hmem
      have HT := hide (take_snoc es noEnt k hlt2)
      generalize es.getD k noEnt = x at *
      unfold Ent.val at hc2
      obtain ⟨az, cz, rfl, -, -, -⟩ := ho.shape
      have HEn := hide (fun W (hW : Bts W x.adr x.body) => layEntry_any W x.path key x.adr x.body x.cap zs.length al pk l1 l2 hal hal2 (by omega) hW g2 g3)
      go_wp2
      go_region_with (go_at_call 42; refine (unhide HEn _ (by exact g1)).mono ?_; rintro e w2 ⟨v2, rfl, o2, b2⟩)
      all_goals
        have b2' : Below wr.heap.size wr w2 := by first | exact b2 | exact (Below.refl _ _).drew.trans b2
        have ho2 := ho.carry b2'
        have q0 := (b2'.cell (p := ⟨w.heap.size, 0, none⟩) (World.block_lt_of_cell? _ _ c0)).trans c0
        have q1 := (b2'.cell (p := ⟨w.heap.size, 1, none⟩) (World.block_lt_of_cell? _ _ c1)).trans c1
        have q2 := (b2'.cell (p := ⟨w.heap.size, 2, none⟩) (World.block_lt_of_cell? _ _ c2)).trans c2
        have hbl2 := hbl.trans (b2'.mono hbl.size)
        obtain ⟨a2, k2, rfl, h2, -, -⟩ := o2.shape
        have HL2 : Hid ((entOf pk al zs.length x.path.data.toList x.body).length ≤ 700) := entOf_le pk al zs.length _ _ (by omega) hal2 (by rw [strLen]; exact l1) l2
        have HZ2 : Hid (zs ++ entOf pk al zs.length x.path.data.toList x.body = bodyOf pk al (headBytes pk al n) (pairsOf (es.take (k + 1)))) := by
          show _ = _
          rw [HT.out, pairsOf, List.map_append, List.map_cons, List.map_nil, bodyOf_snoc, HZ.out]
          rfl
        generalize entOf pk al zs.length x.path.data.toList x.body = en at *
        clear b2 b2' o2 HEn ho c0 c1 c2 hc1 hc2 g1
        go_wp2_with (at_builtin; go_must (refine wpAppG rfl (.tmp 32) (.tmp 33) 25 rfl w.heap.size _ zs rfl ho2 _ en rfl _ (src_bts Try.underlying25 h2 rfl) (by have := HL2.out; omega) hbl2.size ?_))
        intro v3 w3 z3 e3 o3 g3'
        obtain ⟨r0, n0⟩ := g3'.keep q0 hnb
        obtain ⟨r1, _⟩ := g3'.keep q1 hnb
        obtain ⟨r2, _⟩ := g3'.keep q2 hnb
        have hbl3 := g3'.below hbl2 ho2 (Nat.le_refl _)
        have HZ3 : Hid (z3 = bodyOf pk al (headBytes pk al n) (pairsOf (es.take (k + 1)))) := by
          show _ = _
          rw [e3.out]
          exact HZ2.out
        clear g3' ho2 q0 q1 q2 hbl2 h2
        go_wp2
        go_roundw
        case rel => first | exact ⟨k + 1, z3, by omega, by go_num, o3, HZ3, n0, r0, r1, r2, hbl3⟩ | ((repeat apply Exists.intro); exact ⟨⟨k + 1, z3, by omega, by go_num, o3, HZ3, n0, r0, r1, r2, hbl3⟩, rfl⟩)
        case measure => simp [intOf]; omega
    · have HZ3 : Hid (zs = bodyOf pk al (headBytes pk al n) (pairsOf es)) := by
        have h := HZ.out
        rw [List.take_of_length_le (by have := HN.out; omega)] at h
        exact h
      clear HZ
      go_wp2
      go_loopw [5, 8, 9, 10] (fun v i _ _ wr => ∃ (k : Nat) (ys : List UInt8), k ≤ n ∧ i = .int .i64 k ∧ Own w.heap.size wr v ys ∧ Hid (ys = zs ++ sumsOf (pairsOf (es.take k))) ∧ v.ownBlock ≠ some w.heap.size ∧
          wr.cell? ⟨w.heap.size, 0, none⟩ = some (.string key) ∧ Below w.heap.size w wr) (fun _ i _ _ _ => n - (intOf i).toNat)
      case atStart => exact ⟨0, zs, by omega, rfl, ho, by simp [Hid, pairsOf, sumsOf], hnb, c0, hbl⟩
      clear ho hnb c0 c1 c2 hbl
      case round =>
        obtain ⟨j, ys, hj, rfl, ho, HY, hnb, c0, hbl⟩ := hrel
        have hyl : ys.length ≤ 200000 := by
          rw [HY.out, List.length_append, sumsOf_length]
          simp [pairsOf]
          omega
        by_cases hjl : j < n
        · have hlt2 : j < es.length := by have := HN.out; omega
          obtain ⟨b, off, rfl, -, hc2⟩ := (ha.carry hbl) j hlt2
          have hmem : es.getD j noEnt ∈ es := by
            rw [List.getD_eq_getElem?_getD, List.getElem?_eq_getElem hlt2]
            exact List.getElem_mem hlt2
          obtain ⟨l1, l2⟩ := hlim _ hmem
          obtain ⟨g1, g2, g3, g4⟩ := (hg.carry hbl) _ hmem
          have HT := hide (take_snoc es noEnt j hlt2)
          generalize es.getD j noEnt = x at *
          unfold Ent.val at hc2
          go_wp2_with fail
          refine (Sum_any x.adr x.body x.cap _ (by omega) g1).mono ?_
          rintro e w2 ⟨rfl, rfl⟩
          have hsl := sumOf_lt' x.body
          clear hc2
          go_wp2_with fail
          refine (fourBytes_any _ _ hsl).mono ?_
          rintro e w3 ⟨v3, rfl, o3, b3⟩
          have ho3 := ho.carry b3
          have q0 := (b3.cell (p := ⟨w.heap.size, 0, none⟩) (World.block_lt_of_cell? _ _ c0)).trans c0
          have hbl3 := hbl.trans (b3.mono hbl.size)
          obtain ⟨a3, k3, rfl, h3, -, -⟩ := o3.shape
          have HY2 : Hid (ys ++ fourOf (sumOf x.body) = zs ++ sumsOf (pairsOf (es.take (j + 1)))) := by
            show _ = _
            rw [HT.out, pairsOf, List.map_append, List.map_cons, List.map_nil, sumsOf_append, HY.out, List.append_assoc]
            simp [sumsOf, pairOf, pairsOf]
          clear b3 o3 ho c0 hbl
          go_wp2_with (at_builtin; go_must (refine wpAppG rfl (.tmp 49) (.tmp 50) 25 rfl w.heap.size _ ys rfl ho3 _ (fourOf (sumOf x.body)) rfl _ (src_bts Try.underlying25 h3 rfl) (by simp [fourOf]; omega) hbl3.size ?_))
          intro v4 w4 z4 e4 o4 g4'
          obtain ⟨r0, n0⟩ := g4'.keep q0 hnb
          have hbl4 := g4'.below hbl3 ho3 (Nat.le_refl _)
          have HY4 : Hid (z4 = zs ++ sumsOf (pairsOf (es.take (j + 1)))) := by
            show _ = _
            rw [e4.out]
            exact HY2.out
          clear g4' ho3 q0 hbl3 h3
          go_wp2
          go_roundw
          case rel => first | exact ⟨j + 1, z4, by omega, by go_num, o4, HY4, n0, r0, hbl4⟩ | ((repeat apply Exists.intro); exact ⟨⟨j + 1, z4, by omega, by go_num, o4, HY4, n0, r0, hbl4⟩, rfl⟩)
          case measure => simp [intOf]; omega
        · have HY3 : Hid (ys = plainOf pk al (pairsOf es)) := by
            have h := HY.out
            rw [List.take_of_length_le (by have := HN.out; omega)] at h
            show _ = _
            rw [h, HZ3.out, plainOf]
            simp [pairsOf, HN.out]
          obtain ⟨ay, cy, rfl, hby, -, -⟩ := ho.shape
          go_wp2_with fail
          refine (Sum_any ay ys cy _ (by omega) hby).mono ?_
          rintro e w2 ⟨rfl, rfl⟩
          have hsl := sumOf_lt' ys
          clear hby
          go_wp2_with fail
          refine (fourBytes_any _ _ hsl).mono ?_
          rintro e w3 ⟨v3, rfl, o3, b3⟩
          have ho3 := ho.carry b3
          have q0 := (b3.cell (p := ⟨w.heap.size, 0, none⟩) (World.block_lt_of_cell? _ _ c0)).trans c0
          have hbl3 := hbl.trans (b3.mono hbl.size)
          obtain ⟨a3, k3, rfl, h3, -, -⟩ := o3.shape
          clear b3 o3 ho c0 hbl
          go_wp2_with (at_builtin; go_must (refine wpAppG rfl (.tmp 56) (.tmp 57) 25 rfl w.heap.size _ ys rfl ho3 _ (fourOf (sumOf ys)) rfl _ (src_bts Try.underlying25 h3 rfl) (by simp [fourOf]; omega) hbl3.size ?_))
          intro v4 w4 z4 e4 o4 g4'
          obtain ⟨r0, n0⟩ := g4'.keep q0 hnb
          have hbl4 := g4'.below hbl3 ho3 (Nat.le_refl _)
          have HW : Hid (z4 = summed ys) := by
            show _ = _
            rw [e4.out]
            rfl
          have hwl : z4.length ≤ 200010 := by rw [e4.out]; simp [fourOf]; omega
          clear g4' ho3 q0 hbl3 h3
          obtain ⟨aw, cw, rfl, hbw, -, -⟩ := o4.shape
          go_wp2_with fail
          refine (tagOf_any key aw z4 cw _ hk (by omega) hbw).mono ?_
          rintro e w5 ⟨rfl, rfl⟩
          have htl := tagVal_lt key.data.toList z4
          clear hbw
          go_wp2_with fail
          refine (fourBytes_any _ _ htl).mono ?_
          rintro e w6 ⟨v6, rfl, o6, b6⟩
          have ho6 := o4.carry b6
          have hbl6 := hbl4.trans (b6.mono hbl4.size)
          obtain ⟨a6, k6, rfl, h6, -, -⟩ := o6.shape
          clear b6 o6 o4 r0 hbl4
          go_wp2_with (at_builtin; go_must (refine wpAppG rfl (.tmp 65) (.tmp 66) 25 rfl w.heap.size _ z4 rfl ho6 _ (fourOf (tagVal key.data.toList z4)) rfl _ (src_bts Try.underlying25 h6 rfl) (by simp [fourOf]; omega) hbl6.size ?_))
          intro v7 w7 z7 e7 o7 g7
          have hbl7 := g7.below hbl6 ho6 (Nat.le_refl _)
          have HR : Hid (z7 = madeOf key.data.toList pk al (pairsOf es)) := by
            show _ = _
            rw [e7.out, madeOf, ← HY3.out, ← HW.out]
            rfl
          obtain rfl := HR.out
          clear g7 ho6 hbl6 h6
          go_wp2
          go_ret
          exact ⟨v7, rfl, o7, hbl7⟩

end Go.Proofs.Ytggakcalcmjolab
