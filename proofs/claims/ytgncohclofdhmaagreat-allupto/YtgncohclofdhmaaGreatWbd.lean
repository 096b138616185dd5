import Derived.Test.YtgncohclofdhmaaGreatWbld1
import Derived.Test.YtgncohclofdhmaaGreatWpk
namespace Go.Proofs.YtgncohclofdhmaaGreat
open Go.RowKit

/-- Some bytes in a block of their own. -/
theorem src_cells (w : World) (vs : Array Value) (xs : List UInt8) (n : Nat) (h : vs = (cells xs).toArray) (hn : n = xs.length) :
    Src Tryz.prog 1 29 (.slice (some ⟨w.heap.size, 0, none⟩) n n) n (cells xs) (w.alloc (.cells vs 5)) := by
  subst h hn
  refine Src.ofSlice _ Tryz.underlying29 ⟨w.heap.size, 0, none⟩ _ _ _ (by simp [cells_length]) ?_ (cells_one xs)
  intro j u hj
  rw [Addr.add_lit, Nat.zero_add, cell_of_row _ w.heap.size j _ _ _ (heap_alloc_new w _)]
  simpa using hj

theorem ofNat_val (n : Nat) : ((UInt8.ofNat n).toNat : Int) = (n : Int) % 256 := by
  rw [UInt8.toNat_ofNat']
  omega

theorem cells_two (n : Nat) (hn : n < 65536) : #[Value.int .u8 ((n : Int) / 256), Value.int .u8 ((n : Int) % 256)] = (cells (twoOf n)).toArray := by
  simp only [cells, cell, twoOf, List.map_cons, List.map_nil, ofNat_val]
  congr 3
  omega

theorem cells_four (n : Nat) (hn : n < 4294967296) : #[Value.int .u8 ((n : Int) / 16777216), Value.int .u8 ((n : Int) / 65536 % 256), Value.int .u8 ((n : Int) / 256 % 256), Value.int .u8 ((n : Int) % 256)] = (cells (fourOf n)).toArray := by
  simp only [cells, cell, fourOf, List.map_cons, List.map_nil, ofNat_val]
  congr 3
  omega

set_option maxRecDepth 100000 in
set_option maxHeartbeats 400000 in
theorem two_any (B : Nat) (w : World) (v : Value) (zs : List UInt8) (n : Nat) (hn : n < 65536) (ho : Own B w v zs) (hB : B ≤ w.heap.size) (hl : zs.length ≤ 1000000000) :
    Calls Tryz.prog 101 #[v, .int .i64 n] w fun e w' => ∃ v', e = .returned v' ∧ Own B w' v' (zs ++ twoOf n) ∧ Grows w w' v v' := by
  have hs := src_cells w _ (twoOf n) 2 (cells_two n hn) rfl
  have ho1 := ho.alloc (.cells #[.int .u8 ((n : Int) / 256), .int .u8 ((n : Int) % 256)] 5)
  have g0 := Grows.alloc w v (.cells #[.int .u8 ((n : Int) / 256), .int .u8 ((n : Int) % 256)] 5)
  go_enter Tryz.func101, Tryz.ntmps101
  go_wp2_with (at_builtin; go_must (refine wpAppG rfl (.tmp 5) (.tmp 11) 29 rfl B v zs rfl ho1 _ (twoOf n) rfl 2 hs (by simp [twoOf]; omega) (by simp; omega) ?_))
  intro v2 w2 z2 e2 o2 g2
  have g3 := g0.trans g2
  obtain rfl : z2 = zs ++ twoOf n := e2.out
  clear e2 g2 g0 hs ho1
  go_wp2
  go_ret
  exact ⟨v2, rfl, o2, g3⟩

set_option maxRecDepth 100000 in
set_option maxHeartbeats 400000 in
theorem four_any (B : Nat) (w : World) (v : Value) (zs : List UInt8) (n : Nat) (hn : n < 4294967296) (ho : Own B w v zs) (hB : B ≤ w.heap.size) (hl : zs.length ≤ 1000000000) :
    Calls Tryz.prog 82 #[v, .int .i64 n] w fun e w' => ∃ v', e = .returned v' ∧ Own B w' v' (zs ++ fourOf n) ∧ Grows w w' v v' := by
  have hs := src_cells w _ (fourOf n) 4 (cells_four n hn) rfl
  have ho1 := ho.alloc (.cells #[.int .u8 ((n : Int) / 16777216), .int .u8 ((n : Int) / 65536 % 256), .int .u8 ((n : Int) / 256 % 256), .int .u8 ((n : Int) % 256)] 5)
  have g0 := Grows.alloc w v (.cells #[.int .u8 ((n : Int) / 16777216), .int .u8 ((n : Int) / 65536 % 256), .int .u8 ((n : Int) / 256 % 256), .int .u8 ((n : Int) % 256)] 5)
  go_enter Tryz.func82, Tryz.ntmps82
  go_wp2_with (at_builtin; go_must (refine wpAppG rfl (.tmp 5) (.tmp 17) 29 rfl B v zs rfl ho1 _ (fourOf n) rfl 4 hs (by simp [fourOf]; omega) (by simp; omega) ?_))
  intro v2 w2 z2 e2 o2 g2
  have g3 := g0.trans g2
  obtain rfl : z2 = zs ++ fourOf n := e2.out
  clear e2 g2 g0 hs ho1
  go_wp2
  go_ret
  exact ⟨v2, rfl, o2, g3⟩

end Go.Proofs.YtgncohclofdhmaaGreat

namespace Go.Proofs.YtgncohclofdhmaaGreat
open Go.RowKit

theorem Grows.ofBelow {w w' : World} (v : Value) (h : Below w.heap.size w w') : Grows w w' v v :=
  ⟨⟨h.os, h.tape, h.output, h.size, fun k hk _ => h.block k hk⟩, .inl rfl⟩

/-- A cell outside the row keeps, and stays outside. -/
theorem Grows.keep {w w' : World} {v v' : Value} {x : Addr} {u : Value} (hg : Grows w w' v v') (hc : w.cell? x = some u) (hne : v.ownBlock ≠ some x.block) : w'.cell? x = some u ∧ v'.ownBlock ≠ some x.block := by
  refine ⟨hg.by_.cell hc (fun e => hne e.symm), ?_⟩
  rcases hg.next with h | ⟨g, h, hge⟩
  · rw [h]; exact hne
  · rw [h]
    have := World.block_lt_of_cell? w x hc
    intro e
    simp at e
    omega

theorem cell_alloc {w : World} {x : Addr} {u : Value} (o : Obj) (h : w.cell? x = some u) : (w.alloc o).cell? x = some u :=
  (((Below.refl w.heap.size w).alloc (Nat.le_refl _) o).cell (World.block_lt_of_cell? w x h)).trans h

theorem cell_new (w : World) (vs : Array Value) (t : TypeId) (j : Nat) : (w.alloc (.cells vs t)).cell? ⟨w.heap.size, j, none⟩ = vs[j]? := cell_of_row _ w.heap.size j _ _ _ (heap_alloc_new w _)

theorem src_len (w : World) (n : Nat) (h : n ≤ 255) :
    Src Tryz.prog 1 29 (.slice (some ⟨w.heap.size, 0, none⟩) 1 1) 1 (cells [UInt8.ofNat n]) (w.alloc (.cells #[.int .u8 (n : Int)] 5)) := by
  have h1 := src_one w (z := (n : Int)) (by omega) (by omega)
  simpa using h1

theorem Own.blk_lt {B : Nat} {w : World} {v : Value} {xs : List UInt8} (h : Own B w v xs) : ∀ k, v.ownBlock = some k → k < w.heap.size := fun k hk => (World.ownsRow.lt h k hk).2

theorem Own.ne_new {B : Nat} {w : World} {v : Value} {xs : List UInt8} (h : Own B w v xs) (n : Nat) (hn : w.heap.size ≤ n) : v.ownBlock ≠ some n := by
  intro e
  have := h.blk_lt n e
  omega

/-- Bytes made later lie elsewhere. -/
theorem Own.apart {B M : Nat} {w w' : World} {v p : Value} {xs ps : List UInt8} (h : Own B w v xs) (hp : Own M w' p ps) (hM : w.heap.size ≤ M) :
    ∃ a cap, p = .slice a ps.length cap ∧ Bts w' a ps ∧ ps.length ≤ cap ∧ cap ≤ maxLen ∧ Apart v a := by
  rcases hp.2 with ⟨rfl, hn⟩ | ⟨g, cap, cur, rfl, hbg, hg, hnc, hcm, hcs, htake⟩
  · have : ps = [] := List.eq_nil_of_length_eq_zero hn
    subst this
    exact ⟨none, 0, rfl, Bts.nil _ _, Nat.le_refl _, by simp [maxLen], fun ad e => by cases e⟩
  · refine ⟨_, cap, rfl, ?_, hnc, hcm, ?_⟩
    · intro i hi
      refine ⟨g, 0, rfl, ?_⟩
      have hc := World.ownsRow.cellAt (g := g) (cap := cap) hp i (by omega)
      rw [Nat.zero_add, hc, cells_get ps i hi]
    · intro ad e
      simp only [Option.some.injEq] at e
      subst e
      exact h.ne_new g (by omega)

set_option maxRecDepth 100000 in
set_option maxHeartbeats 4000000 in
theorem entry_plain (w0 w : World) (v : Value) (zs : List UInt8) (p key : ByteArray) (ab : Option Addr) (b : List UInt8) (bc al : Nat) (hp : p.size ≤ 40) (hbl : b.length ≤ 600) (hal : 1 ≤ al) (hal2 : al ≤ 16)
    (hb : Bts w0 ab b) (hbel : Below w0.heap.size w0 w) (ho : Own w0.heap.size w v zs) (hz : zs.length ≤ 1000000) :
    Calls Tryz.prog 81 #[v, .agg #[.string p, .slice ab b.length bc], .agg #[.string key, .int .i64 al, .bool false]] w
      fun e w' => ∃ v', e = .returned v' ∧ Own w0.heap.size w' v' (zs ++ entOf false al zs.length p.data.toList b) ∧ Grows w w' v v' := by
  have hB := hbel.size
  have HPl := hide (strLen p)
  have G3 : Grows w ((w.alloc (.cells #[.string p, .slice ab b.length bc] 46)).alloc (.cells #[.string key, .int .i64 al, .bool false] 49)) v v := (Grows.alloc w v _).trans (Grows.alloc _ v _)
  have o3 : Own w0.heap.size ((w.alloc (.cells #[.string p, .slice ab b.length bc] 46)).alloc (.cells #[.string key, .int .i64 al, .bool false] 49)) v zs := (ho.alloc _).alloc _
  have k0 : (((w.alloc (.cells #[.string p, .slice ab b.length bc] 46)).alloc (.cells #[.string key, .int .i64 al, .bool false] 49)).alloc (.cells #[.int .u8 (p.size : Int)] 5)).cell? ⟨w.heap.size, 0, none⟩ = some (.string p) := cell_alloc _ (cell_alloc _ (cell_new w _ _ 0))
  have k1 : (((w.alloc (.cells #[.string p, .slice ab b.length bc] 46)).alloc (.cells #[.string key, .int .i64 al, .bool false] 49)).alloc (.cells #[.int .u8 (p.size : Int)] 5)).cell? ⟨w.heap.size, 1, none⟩ = some (.slice ab b.length bc) := cell_alloc _ (cell_alloc _ (cell_new w _ _ 1))
  have k2 : (((w.alloc (.cells #[.string p, .slice ab b.length bc] 46)).alloc (.cells #[.string key, .int .i64 al, .bool false] 49)).alloc (.cells #[.int .u8 (p.size : Int)] 5)).cell? ⟨w.heap.size + 1, 1, none⟩ = some (.int .i64 al) := cell_alloc _ (by have h := cell_new (w.alloc (.cells #[.string p, .slice ab b.length bc] 46)) #[.string key, .int .i64 al, .bool false] 49 1; rw [show (w.alloc (.cells #[.string p, .slice ab b.length bc] 46)).heap.size = w.heap.size + 1 from by simp] at h; exact h)
  have n0 := ho.ne_new w.heap.size (Nat.le_refl _)
  have n1 := ho.ne_new (w.heap.size + 1) (by omega)
  have hs1 : Src Tryz.prog 1 29 (.slice (some ⟨w.heap.size + 1 + 1, 0, none⟩) 1 1) 1 (cells [UInt8.ofNat p.size]) (((w.alloc (.cells #[.string p, .slice ab b.length bc] 46)).alloc (.cells #[.string key, .int .i64 al, .bool false] 49)).alloc (.cells #[.int .u8 (p.size : Int)] 5)) := by
    have h := src_len ((w.alloc (.cells #[.string p, .slice ab b.length bc] 46)).alloc (.cells #[.string key, .int .i64 al, .bool false] 49)) p.size (by omega)
    have e : ((w.alloc (.cells #[.string p, .slice ab b.length bc] 46)).alloc (.cells #[.string key, .int .i64 al, .bool false] 49)).heap.size = w.heap.size + 1 + 1 := by simp
    rw [e] at h
    exact h
  have o3a := o3.alloc (.cells #[.int .u8 (p.size : Int)] 5)
  have G3a := G3.trans (Grows.alloc _ v (.cells #[.int .u8 (p.size : Int)] 5))
  have H0 := hide k0
  have H1 := hide k1
  have H2 := hide k2
  clear k0 k1 k2 o3 G3
  go_enter Tryz.func81, Tryz.ntmps81
  go_wp2_with (at_builtin; go_must (refine wpAppG rfl (.tmp 26) (.tmp 31) 29 rfl w0.heap.size v zs rfl o3a _ _ rfl 1 hs1 (by simp; omega) (by simp; omega) ?_))
  intro v4 w4 z4 e4 o4 g4
  obtain ⟨c40, n40⟩ := g4.keep H0.out n0
  obtain ⟨c41, _⟩ := g4.keep H1.out n0
  obtain ⟨c42, n41⟩ := g4.keep H2.out n1
  have G4 := G3a.trans g4
  have L4 : Hid (z4.length = zs.length + 1) := by show _ = _; rw [e4.out]; simp
  have s4 : w0.heap.size ≤ w4.heap.size := Nat.le_trans hB G4.by_.size
  clear g4 H0 H1 H2 n0 n1 hs1 o3a G3a
  go_wp2_with (at_builtin; go_must (refine wpAppG rfl (.tmp 33) (.tmp 35) 9 rfl w0.heap.size v4 z4 rfl o4 _ p.data.toList rfl p.size (src_str _ Tryz.underlying9 p) (by have := L4.out; have := HPl.out; omega) s4 ?_))
  intro v5 w5 z5 e5 o5 g5
  obtain ⟨c50, n50⟩ := g5.keep c40 n40
  obtain ⟨c51, _⟩ := g5.keep c41 n40
  obtain ⟨c52, n51⟩ := g5.keep c42 n41
  have G5 := G4.trans g5
  have L5 : Hid (z5.length = zs.length + 1 + p.size) := by show _ = _; rw [e5.out, List.length_append, L4.out, HPl.out]
  have s5 : w0.heap.size ≤ w5.heap.size := Nat.le_trans hB G5.by_.size
  clear g5 c40 c41 c42 n40 n41 o4 G4 s4
  have hs5 := src_len w5 0 (by omega)
  have o5a := o5.alloc (.cells #[.int .u8 0] 5)
  have c5a0 := cell_alloc (.cells #[.int .u8 0] 5) c50
  have c5a1 := cell_alloc (.cells #[.int .u8 0] 5) c51
  have c5a2 := cell_alloc (.cells #[.int .u8 0] 5) c52
  have G5a := G5.trans (Grows.alloc w5 v5 (.cells #[.int .u8 0] 5))
  go_wp2_with (at_builtin; go_must (refine wpAppG rfl (.tmp 37) (.tmp 40) 29 rfl w0.heap.size v5 z5 rfl o5a _ [UInt8.ofNat 0] rfl 1 hs5 (by have := L5.out; simp; omega) (by simp; omega) ?_))
  intro v6 w6 z6 e6 o6 g6
  obtain ⟨c60, n60⟩ := g6.keep c5a0 n50
  obtain ⟨c61, _⟩ := g6.keep c5a1 n50
  obtain ⟨c62, n61⟩ := g6.keep c5a2 n51
  have G6 := G5a.trans g6
  have L6 : Hid (z6.length = zs.length + p.size + 2) := by show _ = _; rw [e6.out, List.length_append, L5.out]; simp; omega
  have s6 : w0.heap.size ≤ w6.heap.size := Nat.le_trans hB G6.by_.size
  clear g6 c50 c51 c52 c5a0 c5a1 c5a2 n50 n51 o5 o5a G5 G5a s5 hs5
  go_wp2_with fail
  refine (two_any w0.heap.size _ v6 z6 b.length (by omega) o6 s6 (by have := L6.out; omega)).mono ?_
  rintro e w7 ⟨v7, rfl, o7, g7⟩
  obtain ⟨c70, n70⟩ := g7.keep c60 n60
  obtain ⟨c71, _⟩ := g7.keep c61 n60
  obtain ⟨c72, n71⟩ := g7.keep c62 n61
  have G7 := G6.trans g7
  have s7 : w0.heap.size ≤ w7.heap.size := Nat.le_trans hB G7.by_.size
  obtain ⟨z7, e7⟩ : ∃ z7, Hid (z7 = z6 ++ twoOf b.length) := ⟨_, rfl⟩
  rw [← e7.out] at o7
  have L7 : Hid (z7.length = zs.length + p.size + 4) := by show _ = _; rw [e7.out, List.length_append, L6.out]; rfl
  clear g7 c60 c61 c62 n60 n61 o6 G6 s6
  go_wp2_with fail
  refine (two_any w0.heap.size _ v7 z7 b.length (by omega) o7 s7 (by have := L7.out; omega)).mono ?_
  rintro e w8 ⟨v8, rfl, o8, g8⟩
  obtain ⟨c80, n80⟩ := g8.keep c70 n70
  obtain ⟨c81, _⟩ := g8.keep c71 n70
  obtain ⟨c82, n81⟩ := g8.keep c72 n71
  have G8 := G7.trans g8
  have s8 : w0.heap.size ≤ w8.heap.size := Nat.le_trans hB G8.by_.size
  obtain ⟨z8, e8⟩ : ∃ z8, Hid (z8 = z7 ++ twoOf b.length) := ⟨_, rfl⟩
  rw [← e8.out] at o8
  have L8 : Hid (z8.length = zs.length + p.size + 6) := by show _ = _; rw [e8.out, List.length_append, L7.out]; rfl
  clear g8 c70 c71 c72 n70 n71 o7 G7 s7
  obtain ⟨a8, cap8, rfl, hb8, -, -⟩ := o8.shape
  have hpad := padOf_lt (al := al) (by omega) (z8.length + 1)
  have HPL := hide (fun k => padOf_least (al := al) (n := z8.length + 1) (k := k) (by omega))
  have HPZ := hide (padOf_zero (al := al) (n := z8.length + 1) (by omega))
  obtain ⟨pd, HPD⟩ : ∃ pd, Hid (pd = padOf al (z8.length + 1)) := ⟨_, rfl⟩
  rw [← HPD.out] at hpad HPL HPZ
  have hl8 : z8.length ≤ 1000100 := by have := L8.out; omega
  go_wp2
  go_loop [10] (fun n => ∃ k : Nat, k ≤ pd ∧ n = .int .i64 k) (fun n => pd - (intOf n).toNat)
  case atStart => exact ⟨0, by omega, rfl⟩
  case round =>
    obtain ⟨k, hk, rfl⟩ := hrel
    by_cases hkp : k < pd
    · have hne : ((((z8.length : Int) + 1 + k) % al) != 0) = true := by
        have h := HPL.out k hkp
        rw [bne_iff_ne]
        intro e
        apply h
        have : (((z8.length + 1 + k) % al : Nat) : Int) = ((z8.length : Int) + 1 + k) % al := by simp
        omega
      go_wp2
      go_round
      case rel => exact ⟨k + 1, by omega, by go_num⟩
      case measure => simp [intOf]; omega
    · have hke : k = pd := by omega
      subst hke
      have heq : ((((z8.length : Int) + 1 + k) % al) != 0) = false := by
        have h := HPZ.out
        have : (((z8.length + 1 + k) % al : Nat) : Int) = ((z8.length : Int) + 1 + k) % al := by simp
        rw [bne_eq_false_iff_eq]
        omega
      have hs8 := src_len w8 k (by omega)
      have o8a := o8.alloc (.cells #[.int .u8 (k : Int)] 5)
      have G8a := G8.trans (Grows.alloc w8 (.slice a8 z8.length cap8) (.cells #[.int .u8 (k : Int)] 5))
      clear HPL HPZ
      go_wp2_with (at_builtin; go_must (refine wpAppG rfl (.tmp 64) (.tmp 67) 29 rfl w0.heap.size _ z8 rfl o8a _ [UInt8.ofNat k] rfl 1 hs8 (by simp; omega) (by simp; omega) ?_))
      intro v9 w9 z9 e9 o9 g9
      have G9 := G8a.trans g9
      have hl9 : z9.length ≤ 1000200 := by rw [e9.out]; simp; omega
      clear g9 o8a G8a hs8 heq
      go_wp2
      go_loopw [0, 11] (fun u i wr => ∃ (j : Nat) (ys : List UInt8), j ≤ k ∧ i = .int .i64 j ∧ Own w0.heap.size wr u ys ∧ Hid (ys = z9 ++ List.replicate j 0) ∧ Grows w wr v u) (fun _ i _ => k - (intOf i).toNat)
      case atStart => exact ⟨0, z9, by omega, rfl, o9, by simp [Hid], G9⟩
      clear o9 G9
      case round =>
        obtain ⟨j, ys, hj, rfl, oy, HY, Gy⟩ := hrel
        have hly : ys.length ≤ 1000300 := by rw [HY.out]; simp; omega
        have sy : w0.heap.size ≤ wr.heap.size := Nat.le_trans hB Gy.by_.size
        by_cases hjk : j < k
        · have hsy := src_len wr 0 (by omega)
          have oya := oy.alloc (.cells #[.int .u8 0] 5)
          have Gya := Gy.trans (Grows.alloc wr _ (.cells #[.int .u8 0] 5))
          go_wp2_with (at_builtin; go_must (refine wpAppG rfl (.tmp 74) (.tmp 75) 29 rfl w0.heap.size _ ys rfl oya _ [UInt8.ofNat 0] rfl 1 hsy (by simp; omega) (by simp; omega) ?_))
          intro v10 w10 z10 e10 o10 g10
          have G10 := Gya.trans g10
          have HY2 : Hid (z10 = z9 ++ List.replicate (j + 1) 0) := by
            show _ = _
            rw [e10.out, HY.out, List.replicate_succ']
            simp
          clear g10 oya Gya hsy
          go_wp2
          go_roundw
          case rel => first | exact ⟨j + 1, z10, by omega, by go_num, o10, HY2, G10⟩ | ((repeat apply Exists.intro); exact ⟨⟨j + 1, z10, by omega, by go_num, o10, HY2, G10⟩, rfl⟩)
          case measure => simp [intOf]; omega
        · have hje : j = k := by omega
          subst hje
          have hbb := hb.carry (Gy.below hbel ho (Nat.le_refl _))
          go_wp2_with (at_builtin; go_must (refine wpAppG rfl (.tmp 77) (.tmp 78) 29 rfl w0.heap.size _ ys rfl oy _ b rfl _ (src_bts Tryz.underlying29 hbb rfl) (by omega) sy ?_))
          intro v11 w11 z11 e11 o11 g11
          have G11 := Gy.trans g11
          have HZ : Hid (z11 = zs ++ entOf false al zs.length p.data.toList b) := by
            show _ = _
            rw [e11.out, HY.out, e9.out, e8.out, e7.out, e6.out, e5.out, e4.out]
            have hk : j = entPad false al zs.length p.data.toList b := by
              rw [HPD.out, L8.out]
              simp [entPad, methOf, entHead, twoOf, laidOf, HPl.out]
              congr 1
            simp only [entOf, entHead, methOf, laidOf, HPl.out, ← hk, Bool.false_and, List.append_assoc, List.cons_append, List.nil_append]
            rfl
          obtain rfl := HZ.out
          clear HZ e11 g11 oy Gy
          go_wp2
          go_ret
          exact ⟨v11, rfl, o11, G11⟩

end Go.Proofs.YtgncohclofdhmaaGreat

namespace Go.Proofs.YtgncohclofdhmaaGreat
open Go.RowKit

theorem packGo_two (xs : List UInt8) : ∀ f i b, b ≤ i → i ≤ xs.length → (packGo xs f i b).length + 2 * b ≤ 2 * xs.length := by
  intro f
  induction f with
  | zero =>
    intro i b h1 h2
    have := runOf_length (xs.drop b)
    simp at this
    rw [packGo]
    omega
  | succ f ih =>
    intro i b h1 h2
    have hr := runOf_length (xs.drop b)
    simp at hr
    by_cases hi : i < xs.length
    · by_cases hc : (copyOf xs i).1 = 0
      · rw [packGo_lit xs f i b hi hc]
        exact ih (i + 1) b (by omega) (by omega)
      · rw [packGo_copy xs f i b hi hc]
        have hs := copyOf_spec xs i
        rcases hs with h | h
        · rw [h] at hc; simp at hc
        · have := ih (i + (copyOf xs i).1) (i + (copyOf xs i).1) (Nat.le_refl _) h.2.2.2.2.2.1
          have hr2 := runOf_length ((xs.take i).drop b)
          simp at hr2 ⊢
          omega
    · rw [packGo_end xs _ i b (by omega)]
      omega

theorem packOf_le (xs : List UInt8) : (packOf xs).length ≤ 2 * xs.length := by
  have := packGo_two xs xs.length 0 0 (by omega) (by omega)
  unfold packOf
  omega

set_option maxRecDepth 100000 in
set_option maxHeartbeats 4000000 in
theorem entry_same (w0 w : World) (v : Value) (zs : List UInt8) (p key : ByteArray) (ab : Option Addr) (b : List UInt8) (bc al : Nat) (hp : p.size ≤ 40) (hbl : b.length ≤ 600) (hal : 1 ≤ al) (hal2 : al ≤ 16)
    (hb : Bts w0 ab b) (hbc : b.length ≤ bc) (hbc2 : bc ≤ maxLen) (hbel : Below w0.heap.size w0 w) (ho : Own w0.heap.size w v zs) (hz : zs.length ≤ 1000000) (hsh : ¬ (packOf b).length < b.length) :
    Calls Tryz.prog 81 #[v, .agg #[.string p, .slice ab b.length bc], .agg #[.string key, .int .i64 al, .bool true]] w
      fun e w' => ∃ v', e = .returned v' ∧ Own w0.heap.size w' v' (zs ++ entOf true al zs.length p.data.toList b) ∧ Grows w w' v v' := by
  have hB := hbel.size
  have HPl := hide (strLen p)
  have hml := packOf_le b
  have G2 : Grows w ((w.alloc (.cells #[.string p, .slice ab b.length bc] 46)).alloc (.cells #[.string key, .int .i64 al, .bool true] 49)) v v := (Grows.alloc w v _).trans (Grows.alloc _ v _)
  have o2 : Own w0.heap.size ((w.alloc (.cells #[.string p, .slice ab b.length bc] 46)).alloc (.cells #[.string key, .int .i64 al, .bool true] 49)) v zs := (ho.alloc _).alloc _
  have k0 : ((w.alloc (.cells #[.string p, .slice ab b.length bc] 46)).alloc (.cells #[.string key, .int .i64 al, .bool true] 49)).cell? ⟨w.heap.size, 0, none⟩ = some (.string p) := cell_alloc _ (cell_new w _ _ 0)
  have k1 : ((w.alloc (.cells #[.string p, .slice ab b.length bc] 46)).alloc (.cells #[.string key, .int .i64 al, .bool true] 49)).cell? ⟨w.heap.size, 1, none⟩ = some (.slice ab b.length bc) := cell_alloc _ (cell_new w _ _ 1)
  have k2 : ((w.alloc (.cells #[.string p, .slice ab b.length bc] 46)).alloc (.cells #[.string key, .int .i64 al, .bool true] 49)).cell? ⟨w.heap.size + 1, 1, none⟩ = some (.int .i64 al) := by
    have h := cell_new (w.alloc (.cells #[.string p, .slice ab b.length bc] 46)) #[.string key, .int .i64 al, .bool true] 49 1
    rw [show (w.alloc (.cells #[.string p, .slice ab b.length bc] 46)).heap.size = w.heap.size + 1 from by simp] at h
    exact h
  have n0 := ho.ne_new w.heap.size (Nat.le_refl _)
  have n1 := ho.ne_new (w.heap.size + 1) (by omega)
  have H0 := hide k0
  have H1 := hide k1
  have H2 := hide k2
  have HSh := hide hsh
  have hb2 := hb.carry (G2.below hbel ho (Nat.le_refl _))
  clear k0 k1 k2 hsh
  go_enter Tryz.func81, Tryz.ntmps81
  go_wp2_with fail
  refine (packed_any ab b bc _ (by omega) hbc hbc2 hb2).mono ?_
  rintro e w3 ⟨vp, rfl, op, bp⟩
  have gp := Grows.ofBelow v bp
  have G3 := G2.trans gp
  have o3 : Own w0.heap.size w3 v zs := o2.carry bp
  obtain ⟨c30, _⟩ := gp.keep H0.out n0
  obtain ⟨c31, _⟩ := gp.keep H1.out n0
  obtain ⟨c32, _⟩ := gp.keep H2.out n1
  obtain ⟨ap, cp, rfl, hbp, -, -, hap⟩ := o2.apart op (Nat.le_refl _)
  obtain ⟨pb, HPB⟩ : ∃ pb, Hid (pb = packOf b) := ⟨_, rfl⟩
  rw [← HPB.out] at hbp hml HSh ⊢
  have s3 : w0.heap.size ≤ w3.heap.size := Nat.le_trans hB G3.by_.size
  clear op bp gp G2 o2 H0 H1 H2 hb2
  have hs1 := src_len w3 p.size (by omega)
  have o3a := o3.alloc (.cells #[.int .u8 (p.size : Int)] 5)
  have c3a0 := cell_alloc (.cells #[.int .u8 (p.size : Int)] 5) c30
  have c3a1 := cell_alloc (.cells #[.int .u8 (p.size : Int)] 5) c31
  have c3a2 := cell_alloc (.cells #[.int .u8 (p.size : Int)] 5) c32
  have G3a := G3.trans (Grows.alloc w3 v (.cells #[.int .u8 (p.size : Int)] 5))
  have hsl : ¬ ((pb.length : Int) < (b.length : Int)) := by have := HSh.out; omega
  go_wp2_with (at_builtin; go_must (refine wpAppG rfl (.tmp 26) (.tmp 31) 29 rfl w0.heap.size v zs rfl o3a _ _ rfl 1 hs1 (by simp; omega) (by simp; omega) ?_))
  intro v4 w4 z4 e4 o4 g4
  obtain ⟨c40, n40⟩ := g4.keep c3a0 n0
  obtain ⟨c41, _⟩ := g4.keep c3a1 n0
  obtain ⟨c42, n41⟩ := g4.keep c3a2 n1
  have G4 := G3a.trans g4
  have L4 : Hid (z4.length = zs.length + 1) := by show _ = _; rw [e4.out]; simp
  have s4 : w0.heap.size ≤ w4.heap.size := Nat.le_trans hB G4.by_.size
  clear g4 c30 c31 c32 c3a0 c3a1 c3a2 n0 n1 hs1 o3a G3a G3 o3 s3 hbp hap
  go_wp2_with (at_builtin; go_must (refine wpAppG rfl (.tmp 33) (.tmp 35) 9 rfl w0.heap.size v4 z4 rfl o4 _ p.data.toList rfl p.size (src_str _ Tryz.underlying9 p) (by have := L4.out; have := HPl.out; omega) s4 ?_))
  intro v5 w5 z5 e5 o5 g5
  obtain ⟨c50, n50⟩ := g5.keep c40 n40
  obtain ⟨c51, _⟩ := g5.keep c41 n40
  obtain ⟨c52, n51⟩ := g5.keep c42 n41
  have G5 := G4.trans g5
  have L5 : Hid (z5.length = zs.length + 1 + p.size) := by show _ = _; rw [e5.out, List.length_append, L4.out, HPl.out]
  have s5 : w0.heap.size ≤ w5.heap.size := Nat.le_trans hB G5.by_.size
  clear g5 c40 c41 c42 n40 n41 o4 G4 s4
  have hs5 := src_len w5 0 (by omega)
  have o5a := o5.alloc (.cells #[.int .u8 0] 5)
  have c5a0 := cell_alloc (.cells #[.int .u8 0] 5) c50
  have c5a1 := cell_alloc (.cells #[.int .u8 0] 5) c51
  have c5a2 := cell_alloc (.cells #[.int .u8 0] 5) c52
  have G5a := G5.trans (Grows.alloc w5 v5 (.cells #[.int .u8 0] 5))
  go_wp2_with (at_builtin; go_must (refine wpAppG rfl (.tmp 37) (.tmp 40) 29 rfl w0.heap.size v5 z5 rfl o5a _ [UInt8.ofNat 0] rfl 1 hs5 (by have := L5.out; simp; omega) (by simp; omega) ?_))
  intro v6 w6 z6 e6 o6 g6
  obtain ⟨c60, n60⟩ := g6.keep c5a0 n50
  obtain ⟨c61, _⟩ := g6.keep c5a1 n50
  obtain ⟨c62, n61⟩ := g6.keep c5a2 n51
  have G6 := G5a.trans g6
  have L6 : Hid (z6.length = zs.length + p.size + 2) := by show _ = _; rw [e6.out, List.length_append, L5.out]; simp; omega
  have s6 : w0.heap.size ≤ w6.heap.size := Nat.le_trans hB G6.by_.size
  clear g6 c50 c51 c52 c5a0 c5a1 c5a2 n50 n51 o5 o5a G5 G5a s5 hs5
  go_wp2_with fail
  refine (two_any w0.heap.size _ v6 z6 b.length (by omega) o6 s6 (by have := L6.out; omega)).mono ?_
  rintro e w7 ⟨v7, rfl, o7, g7⟩
  obtain ⟨c70, n70⟩ := g7.keep c60 n60
  obtain ⟨c71, _⟩ := g7.keep c61 n60
  obtain ⟨c72, n71⟩ := g7.keep c62 n61
  have G7 := G6.trans g7
  have s7 : w0.heap.size ≤ w7.heap.size := Nat.le_trans hB G7.by_.size
  obtain ⟨z7, e7⟩ : ∃ z7, Hid (z7 = z6 ++ twoOf b.length) := ⟨_, rfl⟩
  rw [← e7.out] at o7
  have L7 : Hid (z7.length = zs.length + p.size + 4) := by show _ = _; rw [e7.out, List.length_append, L6.out]; rfl
  clear g7 c60 c61 c62 n60 n61 o6 G6 s6
  go_wp2_with fail
  refine (two_any w0.heap.size _ v7 z7 b.length (by omega) o7 s7 (by have := L7.out; omega)).mono ?_
  rintro e w8 ⟨v8, rfl, o8, g8⟩
  obtain ⟨c80, n80⟩ := g8.keep c70 n70
  obtain ⟨c81, _⟩ := g8.keep c71 n70
  obtain ⟨c82, n81⟩ := g8.keep c72 n71
  have G8 := G7.trans g8
  have s8 : w0.heap.size ≤ w8.heap.size := Nat.le_trans hB G8.by_.size
  obtain ⟨z8, e8⟩ : ∃ z8, Hid (z8 = z7 ++ twoOf b.length) := ⟨_, rfl⟩
  rw [← e8.out] at o8
  have L8 : Hid (z8.length = zs.length + p.size + 6) := by show _ = _; rw [e8.out, List.length_append, L7.out]; rfl
  clear g8 c70 c71 c72 n70 n71 o7 G7 s7
  obtain ⟨a8, cap8, rfl, hb8, -, -⟩ := o8.shape
  have hpad := padOf_lt (al := al) (by omega) (z8.length + 1)
  have HPL := hide (fun k => padOf_least (al := al) (n := z8.length + 1) (k := k) (by omega))
  have HPZ := hide (padOf_zero (al := al) (n := z8.length + 1) (by omega))
  obtain ⟨pd, HPD⟩ : ∃ pd, Hid (pd = padOf al (z8.length + 1)) := ⟨_, rfl⟩
  rw [← HPD.out] at hpad HPL HPZ
  have hl8 : z8.length ≤ 1000100 := by have := L8.out; omega
  go_wp2
  go_loop [10] (fun n => ∃ k : Nat, k ≤ pd ∧ n = .int .i64 k) (fun n => pd - (intOf n).toNat)
  case atStart => exact ⟨0, by omega, rfl⟩
  case round =>
    obtain ⟨k, hk, rfl⟩ := hrel
    by_cases hkp : k < pd
    · have hne : ((((z8.length : Int) + 1 + k) % al) != 0) = true := by
        have h := HPL.out k hkp
        rw [bne_iff_ne]
        intro e
        apply h
        have : (((z8.length + 1 + k) % al : Nat) : Int) = ((z8.length : Int) + 1 + k) % al := by simp
        omega
      go_wp2
      go_round
      case rel => exact ⟨k + 1, by omega, by go_num⟩
      case measure => simp [intOf]; omega
    · have hke : k = pd := by omega
      subst hke
      have heq : ((((z8.length : Int) + 1 + k) % al) != 0) = false := by
        have h := HPZ.out
        have : (((z8.length + 1 + k) % al : Nat) : Int) = ((z8.length : Int) + 1 + k) % al := by simp
        rw [bne_eq_false_iff_eq]
        omega
      have hs8 := src_len w8 k (by omega)
      have o8a := o8.alloc (.cells #[.int .u8 (k : Int)] 5)
      have G8a := G8.trans (Grows.alloc w8 (.slice a8 z8.length cap8) (.cells #[.int .u8 (k : Int)] 5))
      clear HPL HPZ
      go_wp2_with (at_builtin; go_must (refine wpAppG rfl (.tmp 64) (.tmp 67) 29 rfl w0.heap.size _ z8 rfl o8a _ [UInt8.ofNat k] rfl 1 hs8 (by simp; omega) (by simp; omega) ?_))
      intro v9 w9 z9 e9 o9 g9
      have G9 := G8a.trans g9
      have hl9 : z9.length ≤ 1000200 := by rw [e9.out]; simp; omega
      clear g9 o8a G8a hs8 heq
      go_wp2
      go_loopw [0, 11] (fun u i wr => ∃ (j : Nat) (ys : List UInt8), j ≤ k ∧ i = .int .i64 j ∧ Own w0.heap.size wr u ys ∧ Hid (ys = z9 ++ List.replicate j 0) ∧ Grows w wr v u) (fun _ i _ => k - (intOf i).toNat)
      case atStart => exact ⟨0, z9, by omega, rfl, o9, by simp [Hid], G9⟩
      clear o9 G9
      case round =>
        obtain ⟨j, ys, hj, rfl, oy, HY, Gy⟩ := hrel
        have hly : ys.length ≤ 1000300 := by rw [HY.out]; simp; omega
        have sy : w0.heap.size ≤ wr.heap.size := Nat.le_trans hB Gy.by_.size
        by_cases hjk : j < k
        · have hsy := src_len wr 0 (by omega)
          have oya := oy.alloc (.cells #[.int .u8 0] 5)
          have Gya := Gy.trans (Grows.alloc wr _ (.cells #[.int .u8 0] 5))
          go_wp2_with (at_builtin; go_must (refine wpAppG rfl (.tmp 74) (.tmp 75) 29 rfl w0.heap.size _ ys rfl oya _ [UInt8.ofNat 0] rfl 1 hsy (by simp; omega) (by simp; omega) ?_))
          intro v10 w10 z10 e10 o10 g10
          have G10 := Gya.trans g10
          have HY2 : Hid (z10 = z9 ++ List.replicate (j + 1) 0) := by
            show _ = _
            rw [e10.out, HY.out, List.replicate_succ']
            simp
          clear g10 oya Gya hsy
          go_wp2
          go_roundw
          case rel => first | exact ⟨j + 1, z10, by omega, by go_num, o10, HY2, G10⟩ | ((repeat apply Exists.intro); exact ⟨⟨j + 1, z10, by omega, by go_num, o10, HY2, G10⟩, rfl⟩)
          case measure => simp [intOf]; omega
        · have hje : j = k := by omega
          subst hje
          have hbb := hb.carry (Gy.below hbel ho (Nat.le_refl _))
          go_wp2_with (at_builtin; go_must (refine wpAppG rfl (.tmp 77) (.tmp 78) 29 rfl w0.heap.size _ ys rfl oy _ b rfl _ (src_bts Tryz.underlying29 hbb rfl) (by omega) sy ?_))
          intro v11 w11 z11 e11 o11 g11
          have G11 := Gy.trans g11
          have HZ : Hid (z11 = zs ++ entOf true al zs.length p.data.toList b) := by
            show _ = _
            rw [e11.out, HY.out, e9.out, e8.out, e7.out, e6.out, e5.out, e4.out]
            have HN : ¬ (packOf b).length < b.length := by rw [← HPB.out]; exact HSh.out
            have hk : j = entPad true al zs.length p.data.toList b := by
              rw [HPD.out, L8.out]
              simp [entPad, methOf, entHead, twoOf, laidOf, HPl.out, HN]
              congr 1
            simp only [entOf, entHead, methOf, laidOf, HPl.out, ← hk, HN, decide_false, Bool.and_false, List.append_assoc, List.cons_append, List.nil_append]
            rfl
          obtain rfl := HZ.out
          clear HZ e11 g11 oy Gy
          go_wp2
          go_ret
          exact ⟨v11, rfl, o11, G11⟩

end Go.Proofs.YtgncohclofdhmaaGreat

namespace Go.Proofs.YtgncohclofdhmaaGreat
open Go.RowKit

/-- Bytes that lie outside the row, in a block that is there. -/
structure Laid (w : World) (v : Value) (a : Option Addr) (xs : List UInt8) : Prop where
  bts : Bts w a xs
  apart : Apart v a
  lt : ∀ ad, a = some ad → ad.block < w.heap.size

theorem Laid.next {w w' : World} {v v' : Value} {a : Option Addr} {xs : List UInt8} (h : Laid w v a xs) (g : Grows w w' v v') : Laid w' v' a xs :=
  ⟨g.bts h.bts h.apart, g.apart h.lt h.apart, fun ad e => Nat.lt_of_lt_of_le (h.lt ad e) g.by_.size⟩

theorem Own.laid {B M : Nat} {w w' : World} {v p : Value} {xs ps : List UInt8} (h : Own B w v xs) (hp : Own M w' p ps) (hM : w.heap.size ≤ M) :
    ∃ a cap, p = .slice a ps.length cap ∧ Laid w' v a ps := by
  obtain ⟨a, cap, e, h1, _, _, h2⟩ := h.apart hp hM
  refine ⟨a, cap, e, h1, h2, ?_⟩
  intro ad ea
  subst ea
  subst e
  exact hp.blk_lt ad.block rfl

set_option maxRecDepth 100000 in
set_option maxHeartbeats 4000000 in
theorem entry_less (w0 w : World) (v : Value) (zs : List UInt8) (p key : ByteArray) (ab : Option Addr) (b : List UInt8) (bc al : Nat) (hp : p.size ≤ 40) (hbl : b.length ≤ 600)
    (hb : Bts w0 ab b) (hbc : b.length ≤ bc) (hbc2 : bc ≤ maxLen) (hbel : Below w0.heap.size w0 w) (ho : Own w0.heap.size w v zs) (hz : zs.length ≤ 1000000) (hsh : (packOf b).length < b.length) :
    Calls Tryz.prog 81 #[v, .agg #[.string p, .slice ab b.length bc], .agg #[.string key, .int .i64 al, .bool true]] w
      fun e w' => ∃ v', e = .returned v' ∧ Own w0.heap.size w' v' (zs ++ entOf true al zs.length p.data.toList b) ∧ Grows w w' v v' := by
  have hB := hbel.size
  have HPl := hide (strLen p)
  have hml := packOf_le b
  have G2 : Grows w ((w.alloc (.cells #[.string p, .slice ab b.length bc] 46)).alloc (.cells #[.string key, .int .i64 al, .bool true] 49)) v v := (Grows.alloc w v _).trans (Grows.alloc _ v _)
  have o2 : Own w0.heap.size ((w.alloc (.cells #[.string p, .slice ab b.length bc] 46)).alloc (.cells #[.string key, .int .i64 al, .bool true] 49)) v zs := (ho.alloc _).alloc _
  have k0 : ((w.alloc (.cells #[.string p, .slice ab b.length bc] 46)).alloc (.cells #[.string key, .int .i64 al, .bool true] 49)).cell? ⟨w.heap.size, 0, none⟩ = some (.string p) := cell_alloc _ (cell_new w _ _ 0)
  have k1 : ((w.alloc (.cells #[.string p, .slice ab b.length bc] 46)).alloc (.cells #[.string key, .int .i64 al, .bool true] 49)).cell? ⟨w.heap.size, 1, none⟩ = some (.slice ab b.length bc) := cell_alloc _ (cell_new w _ _ 1)
  have k2 : ((w.alloc (.cells #[.string p, .slice ab b.length bc] 46)).alloc (.cells #[.string key, .int .i64 al, .bool true] 49)).cell? ⟨w.heap.size + 1, 1, none⟩ = some (.int .i64 al) := by
    have h := cell_new (w.alloc (.cells #[.string p, .slice ab b.length bc] 46)) #[.string key, .int .i64 al, .bool true] 49 1
    rw [show (w.alloc (.cells #[.string p, .slice ab b.length bc] 46)).heap.size = w.heap.size + 1 from by simp] at h
    exact h
  have n0 := ho.ne_new w.heap.size (Nat.le_refl _)
  have n1 := ho.ne_new (w.heap.size + 1) (by omega)
  have H0 := hide k0
  have H1 := hide k1
  have H2 := hide k2
  have HSh := hide hsh
  have hb2 := hb.carry (G2.below hbel ho (Nat.le_refl _))
  clear k0 k1 k2 hsh
  go_enter Tryz.func81, Tryz.ntmps81
  go_wp2_with fail
  refine (packed_any ab b bc _ (by omega) hbc hbc2 hb2).mono ?_
  rintro e w3 ⟨vp, rfl, op, bp⟩
  have gp := Grows.ofBelow v bp
  have G3 := G2.trans gp
  have o3 : Own w0.heap.size w3 v zs := o2.carry bp
  obtain ⟨c30, _⟩ := gp.keep H0.out n0
  obtain ⟨c31, _⟩ := gp.keep H1.out n0
  obtain ⟨c32, _⟩ := gp.keep H2.out n1
  obtain ⟨ap, cp, rfl, J3⟩ := o2.laid op (Nat.le_refl _)
  obtain ⟨pb, HPB⟩ : ∃ pb, Hid (pb = packOf b) := ⟨_, rfl⟩
  rw [← HPB.out] at J3 hml HSh ⊢
  have s3 : w0.heap.size ≤ w3.heap.size := Nat.le_trans hB G3.by_.size
  clear op bp gp G2 o2 H0 H1 H2 hb2
  have hs1 := src_len w3 p.size (by omega)
  have o3a := o3.alloc (.cells #[.int .u8 (p.size : Int)] 5)
  have c3a0 := cell_alloc (.cells #[.int .u8 (p.size : Int)] 5) c30
  have c3a1 := cell_alloc (.cells #[.int .u8 (p.size : Int)] 5) c31
  have c3a2 := cell_alloc (.cells #[.int .u8 (p.size : Int)] 5) c32
  have G3a := G3.trans (Grows.alloc w3 v (.cells #[.int .u8 (p.size : Int)] 5))
  have J3a := J3.next (Grows.alloc w3 v (.cells #[.int .u8 (p.size : Int)] 5))
  have hsl : ((pb.length : Int) < (b.length : Int)) := by have := HSh.out; omega
  go_wp2_with (at_builtin; go_must (refine wpAppG rfl (.tmp 26) (.tmp 31) 29 rfl w0.heap.size v zs rfl o3a _ _ rfl 1 hs1 (by simp; omega) (by simp; omega) ?_))
  intro v4 w4 z4 e4 o4 g4
  obtain ⟨c40, n40⟩ := g4.keep c3a0 n0
  obtain ⟨c41, _⟩ := g4.keep c3a1 n0
  obtain ⟨c42, n41⟩ := g4.keep c3a2 n1
  have G4 := G3a.trans g4
  have J4 := J3a.next g4
  have L4 : Hid (z4.length = zs.length + 1) := by show _ = _; rw [e4.out]; simp
  have s4 : w0.heap.size ≤ w4.heap.size := Nat.le_trans hB G4.by_.size
  clear g4 c30 c31 c32 c3a0 c3a1 c3a2 n0 n1 hs1 o3a G3a G3 o3 s3 J3 J3a
  go_wp2_with (at_builtin; go_must (refine wpAppG rfl (.tmp 33) (.tmp 35) 9 rfl w0.heap.size v4 z4 rfl o4 _ p.data.toList rfl p.size (src_str _ Tryz.underlying9 p) (by have := L4.out; have := HPl.out; omega) s4 ?_))
  intro v5 w5 z5 e5 o5 g5
  obtain ⟨c50, n50⟩ := g5.keep c40 n40
  obtain ⟨c51, _⟩ := g5.keep c41 n40
  obtain ⟨c52, n51⟩ := g5.keep c42 n41
  have G5 := G4.trans g5
  have J5 := J4.next g5
  have L5 : Hid (z5.length = zs.length + 1 + p.size) := by show _ = _; rw [e5.out, List.length_append, L4.out, HPl.out]
  have s5 : w0.heap.size ≤ w5.heap.size := Nat.le_trans hB G5.by_.size
  clear g5 c40 c41 c42 n40 n41 o4 G4 s4
  have hs5 := src_len w5 1 (by omega)
  have o5a := o5.alloc (.cells #[.int .u8 1] 5)
  have c5a0 := cell_alloc (.cells #[.int .u8 1] 5) c50
  have c5a1 := cell_alloc (.cells #[.int .u8 1] 5) c51
  have c5a2 := cell_alloc (.cells #[.int .u8 1] 5) c52
  have G5a := G5.trans (Grows.alloc w5 v5 (.cells #[.int .u8 1] 5))
  have J5a := J5.next (Grows.alloc w5 v5 (.cells #[.int .u8 1] 5))
  go_wp2_with (at_builtin; go_must (refine wpAppG rfl (.tmp 37) (.tmp 40) 29 rfl w0.heap.size v5 z5 rfl o5a _ [UInt8.ofNat 1] rfl 1 hs5 (by have := L5.out; simp; omega) (by simp; omega) ?_))
  intro v6 w6 z6 e6 o6 g6
  obtain ⟨c60, n60⟩ := g6.keep c5a0 n50
  obtain ⟨c61, _⟩ := g6.keep c5a1 n50
  obtain ⟨c62, n61⟩ := g6.keep c5a2 n51
  have G6 := G5a.trans g6
  have J6 := J5a.next g6
  have L6 : Hid (z6.length = zs.length + p.size + 2) := by show _ = _; rw [e6.out, List.length_append, L5.out]; simp; omega
  have s6 : w0.heap.size ≤ w6.heap.size := Nat.le_trans hB G6.by_.size
  clear g6 c50 c51 c52 c5a0 c5a1 c5a2 n50 n51 o5 o5a G5 G5a s5 hs5
  go_wp2_with fail
  refine (two_any w0.heap.size _ v6 z6 b.length (by omega) o6 s6 (by have := L6.out; omega)).mono ?_
  rintro e w7 ⟨v7, rfl, o7, g7⟩
  obtain ⟨c70, n70⟩ := g7.keep c60 n60
  obtain ⟨c71, _⟩ := g7.keep c61 n60
  obtain ⟨c72, n71⟩ := g7.keep c62 n61
  have G7 := G6.trans g7
  have J7 := J6.next g7
  have s7 : w0.heap.size ≤ w7.heap.size := Nat.le_trans hB G7.by_.size
  obtain ⟨z7, e7⟩ : ∃ z7, Hid (z7 = z6 ++ twoOf b.length) := ⟨_, rfl⟩
  rw [← e7.out] at o7
  have L7 : Hid (z7.length = zs.length + p.size + 4) := by show _ = _; rw [e7.out, List.length_append, L6.out]; rfl
  clear g7 c60 c61 c62 n60 n61 o6 G6 s6
  go_wp2_with fail
  refine (two_any w0.heap.size _ v7 z7 pb.length (by omega) o7 s7 (by have := L7.out; omega)).mono ?_
  rintro e w8 ⟨v8, rfl, o8, g8⟩
  obtain ⟨c80, n80⟩ := g8.keep c70 n70
  obtain ⟨c81, _⟩ := g8.keep c71 n70
  obtain ⟨c82, n81⟩ := g8.keep c72 n71
  have G8 := G7.trans g8
  have J8 := J7.next g8
  have s8 : w0.heap.size ≤ w8.heap.size := Nat.le_trans hB G8.by_.size
  obtain ⟨z8, e8⟩ : ∃ z8, Hid (z8 = z7 ++ twoOf pb.length) := ⟨_, rfl⟩
  rw [← e8.out] at o8
  have L8 : Hid (z8.length = zs.length + p.size + 6) := by show _ = _; rw [e8.out, List.length_append, L7.out]; rfl
  clear g8 c70 c71 c72 n70 n71 o7 G7 s7
  obtain ⟨a8, cap8, rfl, hb8, -, -⟩ := o8.shape
  have hl8 : z8.length ≤ 1000100 := by have := L8.out; omega
  have hs8 := src_len w8 0 (by omega)
  have o8a := o8.alloc (.cells #[.int .u8 0] 5)
  have G8a := G8.trans (Grows.alloc w8 (.slice a8 z8.length cap8) (.cells #[.int .u8 0] 5))
  have J8a := J8.next (Grows.alloc w8 (.slice a8 z8.length cap8) (.cells #[.int .u8 0] 5))
  go_wp2_with (at_builtin; go_must (refine wpAppG rfl (.tmp 64) (.tmp 67) 29 rfl w0.heap.size _ z8 rfl o8a _ [UInt8.ofNat 0] rfl 1 hs8 (by simp; omega) (by simp; omega) ?_))
  intro v9 w9 z9 e9 o9 g9
  have G9 := G8a.trans g9
  have J9 := J8a.next g9
  have hl9 : z9.length ≤ 1000200 := by rw [e9.out]; simp; omega
  have s9 : w0.heap.size ≤ w9.heap.size := Nat.le_trans hB G9.by_.size
  clear g9 o8a G8a hs8 J8a J8 G8 o8
  go_wp2
  refine wp_loop_rounds 1 ?_
  rw [rounds_succ]
  go_wp2_with (at_builtin; go_must (refine wpAppG rfl (.tmp 77) (.tmp 78) 29 rfl w0.heap.size _ z9 rfl o9 _ pb rfl _ (src_bts Tryz.underlying29 J9.bts rfl) (by omega) s9 ?_))
  intro v11 w11 z11 e11 o11 g11
  have G11 := G9.trans g11
  have HZ : Hid (z11 = zs ++ entOf true al zs.length p.data.toList b) := by
    have HN := HSh.out
    show _ = _
    rw [e11.out, e9.out, e8.out, e7.out, e6.out, e5.out, e4.out]
    simp [entOf, entHead, entPad, methOf, laidOf, HPl.out, HN, ← HPB.out]
  obtain rfl := HZ.out
  clear HZ e11 g11 o9 G9
  go_wp2
  go_ret
  exact ⟨v11, rfl, o11, G11⟩

/-- An entry laid behind what there is. -/
theorem entry_any (w0 w : World) (v : Value) (zs : List UInt8) (p key : ByteArray) (ab : Option Addr) (b : List UInt8) (bc al : Nat) (pk : Bool) (hp : p.size ≤ 40) (hbl : b.length ≤ 600) (hal : 1 ≤ al) (hal2 : al ≤ 16)
    (hb : Bts w0 ab b) (hbc : b.length ≤ bc) (hbc2 : bc ≤ maxLen) (hbel : Below w0.heap.size w0 w) (ho : Own w0.heap.size w v zs) (hz : zs.length ≤ 1000000) :
    Calls Tryz.prog 81 #[v, .agg #[.string p, .slice ab b.length bc], .agg #[.string key, .int .i64 al, .bool pk]] w
      fun e w' => ∃ v', e = .returned v' ∧ Own w0.heap.size w' v' (zs ++ entOf pk al zs.length p.data.toList b) ∧ Grows w w' v v' := by
  cases pk
  · exact entry_plain w0 w v zs p key ab b bc al hp hbl hal hal2 hb hbel ho hz
  · by_cases h : (packOf b).length < b.length
    · exact entry_less w0 w v zs p key ab b bc al hp hbl hb hbc hbc2 hbel ho hz h
    · exact entry_same w0 w v zs p key ab b bc al hp hbl hal hal2 hb hbc hbc2 hbel ho hz h

end Go.Proofs.YtgncohclofdhmaaGreat
