import Derived.Test.YtggakcalcmjolaaWbld2
namespace Go.Proofs.Ytggakcalcmjolaa
open Go.RowKit

theorem Grows.ofBelow {w w' : World} (v : Value) (h : Below w.heap.size w w') : Grows w w' v v :=
  ⟨⟨h.os, h.tape, h.output, h.size, fun k hk _ => h.block k hk⟩, .inl rfl⟩

/-- A cell outside the row keeps, and stays outside. -/
theorem Grows.keep {w w' : World} {v v' : Value} {x : Addr} {u : Value} (hg : Grows w w' v v') (hc : w.cell? x = some u) (hne : v.ownBlock ≠ some x.block) : w'.cell? x = some u ∧ v'.ownBlock ≠ some x.block := by
  refine ⟨hg.by_.cell hc (fun e => hne e.symm), ?_⟩
  rcases hg.next with h | ⟨g, h, hge⟩
  · rw [h]; exact hne
  · rw [h]
    have := World.block_lt_of_cell? w x hc
    intro e
    simp at e
    omega

theorem cell_alloc {w : World} {x : Addr} {u : Value} (o : Obj) (h : w.cell? x = some u) : (w.alloc o).cell? x = some u :=
  (((Below.refl w.heap.size w).alloc (Nat.le_refl _) o).cell (World.block_lt_of_cell? w x h)).trans h

theorem cell_new (w : World) (vs : Array Value) (t : TypeId) (j : Nat) : (w.alloc (.cells vs t)).cell? ⟨w.heap.size, j, none⟩ = vs[j]? := cell_of_row _ w.heap.size j _ _ _ (heap_alloc_new w _)

theorem src_len (w : World) (n : Nat) (h : n ≤ 255) :
    Src Try.prog 1 22 (.slice (some ⟨w.heap.size, 0, none⟩) 1 1) 1 (cells [UInt8.ofNat n]) (w.alloc (.cells #[.int .u8 (n : Int)] 5)) := by
  have h1 := src_one w (z := (n : Int)) (by omega) (by omega)
  simpa using h1

theorem Own.blk_lt {B : Nat} {w : World} {v : Value} {xs : List UInt8} (h : Own B w v xs) : ∀ k, v.ownBlock = some k → k < w.heap.size := fun k hk => (World.ownsRow.lt h k hk).2

theorem Own.ne_new {B : Nat} {w : World} {v : Value} {xs : List UInt8} (h : Own B w v xs) (n : Nat) (hn : w.heap.size ≤ n) : v.ownBlock ≠ some n := by
  intro e
  have := h.blk_lt n e
  omega

/-- Bytes made later lie elsewhere. -/
theorem Own.apart {B M : Nat} {w w' : World} {v p : Value} {xs ps : List UInt8} (h : Own B w v xs) (hp : Own M w' p ps) (hM : w.heap.size ≤ M) :
    ∃ a cap, p = .slice a ps.length cap ∧ Bts w' a ps ∧ ps.length ≤ cap ∧ cap ≤ maxLen ∧ Apart v a := by
  rcases hp.2 with ⟨rfl, hn⟩ | ⟨g, cap, cur, rfl, hbg, hg, hnc, hcm, hcs, htake⟩
  · have : ps = [] := List.eq_nil_of_length_eq_zero hn
    subst this
    exact ⟨none, 0, rfl, Bts.nil _ _, Nat.le_refl _, by simp [maxLen], fun ad e => by cases e⟩
  · refine ⟨_, cap, rfl, ?_, hnc, hcm, ?_⟩
    · intro i hi
      refine ⟨g, 0, rfl, ?_⟩
      have hc := World.ownsRow.cellAt (g := g) (cap := cap) hp i (by omega)
      rw [Nat.zero_add, hc, cells_get ps i hi]
    · intro ad e
      simp only [Option.some.injEq] at e
      subst e
      exact h.ne_new g (by omega)

set_option maxRecDepth 100000 in
set_option maxHeartbeats 4000000 in
theorem entry_plain (w0 w : World) (v : Value) (zs : List UInt8) (p key : ByteArray) (ab : Option Addr) (b : List UInt8) (bc al : Nat) (hp : p.size ≤ 40) (hbl : b.length ≤ 600) (hal : 1 ≤ al) (hal2 : al ≤ 16)
    (hb : Bts w0 ab b) (hbel : Below w0.heap.size w0 w) (ho : Own w0.heap.size w v zs) (hz : zs.length ≤ 1000000) :
    Calls Try.prog 80 #[v, .agg #[.string p, .slice ab b.length bc], .agg #[.string key, .int .i64 al, .bool false]] w
      fun e w' => ∃ v', e = .returned v' ∧ Own w0.heap.size w' v' (zs ++ entOf false al zs.length p.data.toList b) ∧ Grows w w' v v' := by
  have hB := hbel.size
  have HPl := hide (strLen p)
  have G3 : Grows w ((w.alloc (.cells #[.string p, .slice ab b.length bc] 54)).alloc (.cells #[.string key, .int .i64 al, .bool false] 37)) v v := (Grows.alloc w v _).trans (Grows.alloc _ v _)
  have o3 : Own w0.heap.size ((w.alloc (.cells #[.string p, .slice ab b.length bc] 54)).alloc (.cells #[.string key, .int .i64 al, .bool false] 37)) v zs := (ho.alloc _).alloc _
  have k0 : (((w.alloc (.cells #[.string p, .slice ab b.length bc] 54)).alloc (.cells #[.string key, .int .i64 al, .bool false] 37)).alloc (.cells #[.int .u8 (p.size : Int)] 5)).cell? ⟨w.heap.size, 0, none⟩ = some (.string p) := cell_alloc _ (cell_alloc _ (cell_new w _ _ 0))
  have k1 : (((w.alloc (.cells #[.string p, .slice ab b.length bc] 54)).alloc (.cells #[.string key, .int .i64 al, .bool false] 37)).alloc (.cells #[.int .u8 (p.size : Int)] 5)).cell? ⟨w.heap.size, 1, none⟩ = some (.slice ab b.length bc) := cell_alloc _ (cell_alloc _ (cell_new w _ _ 1))
  have k2 : (((w.alloc (.cells #[.string p, .slice ab b.length bc] 54)).alloc (.cells #[.string key, .int .i64 al, .bool false] 37)).alloc (.cells #[.int .u8 (p.size : Int)] 5)).cell? ⟨w.heap.size + 1, 1, none⟩ = some (.int .i64 al) := cell_alloc _ (by have h := cell_new (w.alloc (.cells #[.string p, .slice ab b.length bc] 54)) #[.string key, .int .i64 al, .bool false] 37 1; rw [show (w.alloc (.cells #[.string p, .slice ab b.length bc] 54)).heap.size = w.heap.size + 1 from by simp] at h; exact h)
  have n0 := ho.ne_new w.heap.size (Nat.le_refl _)
  have n1 := ho.ne_new (w.heap.size + 1) (by omega)
  have hs1 : Src Try.prog 1 22 (.slice (some ⟨w.heap.size + 1 + 1, 0, none⟩) 1 1) 1 (cells [UInt8.ofNat p.size]) (((w.alloc (.cells #[.string p, .slice ab b.length bc] 54)).alloc (.cells #[.string key, .int .i64 al, .bool false] 37)).alloc (.cells #[.int .u8 (p.size : Int)] 5)) := by
    have h := src_len ((w.alloc (.cells #[.string p, .slice ab b.length bc] 54)).alloc (.cells #[.string key, .int .i64 al, .bool false] 37)) p.size (by omega)
    have e : ((w.alloc (.cells #[.string p, .slice ab b.length bc] 54)).alloc (.cells #[.string key, .int .i64 al, .bool false] 37)).heap.size = w.heap.size + 1 + 1 := by simp
    rw [e] at h
    exact h
  have o3a := o3.alloc (.cells #[.int .u8 (p.size : Int)] 5)
  have G3a := G3.trans (Grows.alloc _ v (.cells #[.int .u8 (p.size : Int)] 5))
  have H0 := hide k0
  have H1 := hide k1
  have H2 := hide k2
  clear k0 k1 k2 o3 G3
  go_enter Try.func80, Try.ntmps80
  go_wp2_with (at_builtin; go_must (refine wpAppG rfl (.tmp 26) (.tmp 31) 22 rfl w0.heap.size v zs rfl o3a _ _ rfl 1 hs1 (by simp; omega) (by simp; omega) ?_))
  intro v4 w4 z4 e4 o4 g4
  obtain ⟨c40, n40⟩ := g4.keep H0.out n0
  obtain ⟨c41, _⟩ := g4.keep H1.out n0
  obtain ⟨c42, n41⟩ := g4.keep H2.out n1
  have G4 := G3a.trans g4
  have L4 : Hid (z4.length = zs.length + 1) := by show _ = _; rw [e4.out]; simp
  have s4 : w0.heap.size ≤ w4.heap.size := Nat.le_trans hB G4.by_.size
  clear g4 H0 H1 H2 n0 n1 hs1 o3a G3a
  go_wp2_with (at_builtin; go_must (refine wpAppG rfl (.tmp 33) (.tmp 35) 9 rfl w0.heap.size v4 z4 rfl o4 _ p.data.toList rfl p.size (src_str _ Try.underlying9 p) (by have := L4.out; have := HPl.out; omega) s4 ?_))
  intro v5 w5 z5 e5 o5 g5
  obtain ⟨c50, n50⟩ := g5.keep c40 n40
  obtain ⟨c51, _⟩ := g5.keep c41 n40
  obtain ⟨c52, n51⟩ := g5.keep c42 n41
  have G5 := G4.trans g5
  have L5 : Hid (z5.length = zs.length + 1 + p.size) := by show _ = _; rw [e5.out, List.length_append, L4.out, HPl.out]
  have s5 : w0.heap.size ≤ w5.heap.size := Nat.le_trans hB G5.by_.size
  clear g5 c40 c41 c42 n40 n41 o4 G4 s4
  have hs5 := src_len w5 0 (by omega)
  have o5a := o5.alloc (.cells #[.int .u8 0] 5)
  have c5a0 := cell_alloc (.cells #[.int .u8 0] 5) c50
  have c5a1 := cell_alloc (.cells #[.int .u8 0] 5) c51
  have c5a2 := cell_alloc (.cells #[.int .u8 0] 5) c52
  have G5a := G5.trans (Grows.alloc w5 v5 (.cells #[.int .u8 0] 5))
  go_wp2_with (at_builtin; go_must (refine wpAppG rfl (.tmp 37) (.tmp 40) 22 rfl w0.heap.size v5 z5 rfl o5a _ [UInt8.ofNat 0] rfl 1 hs5 (by have := L5.out; simp; omega) (by simp; omega) ?_))
  intro v6 w6 z6 e6 o6 g6
  obtain ⟨c60, n60⟩ := g6.keep c5a0 n50
  obtain ⟨c61, _⟩ := g6.keep c5a1 n50
  obtain ⟨c62, n61⟩ := g6.keep c5a2 n51
  have G6 := G5a.trans g6
  have L6 : Hid (z6.length = zs.length + p.size + 2) := by show _ = _; rw [e6.out, List.length_append, L5.out]; simp; omega
  have s6 : w0.heap.size ≤ w6.heap.size := Nat.le_trans hB G6.by_.size
  clear g6 c50 c51 c52 c5a0 c5a1 c5a2 n50 n51 o5 o5a G5 G5a s5 hs5
  go_wp2_with fail
  refine (two_any w0.heap.size _ v6 z6 b.length (by omega) o6 s6 (by have := L6.out; omega)).mono ?_
  rintro e w7 ⟨v7, rfl, o7, g7⟩
  obtain ⟨c70, n70⟩ := g7.keep c60 n60
  obtain ⟨c71, _⟩ := g7.keep c61 n60
  obtain ⟨c72, n71⟩ := g7.keep c62 n61
  have G7 := G6.trans g7
  have s7 : w0.heap.size ≤ w7.heap.size := Nat.le_trans hB G7.by_.size
  obtain ⟨z7, e7⟩ : ∃ z7, Hid (z7 = z6 ++ twoOf b.length) := ⟨_, rfl⟩
  rw [← e7.out] at o7
  have L7 : Hid (z7.length = zs.length + p.size + 4) := by show _ = _; rw [e7.out, List.length_append, L6.out]; rfl
  clear g7 c60 c61 c62 n60 n61 o6 G6 s6
  go_wp2_with fail
  refine (two_any w0.heap.size _ v7 z7 b.length (by omega) o7 s7 (by have := L7.out; omega)).mono ?_
  rintro e w8 ⟨v8, rfl, o8, g8⟩
  obtain ⟨c80, n80⟩ := g8.keep c70 n70
  obtain ⟨c81, _⟩ := g8.keep c71 n70
  obtain ⟨c82, n81⟩ := g8.keep c72 n71
  have G8 := G7.trans g8
  have s8 : w0.heap.size ≤ w8.heap.size := Nat.le_trans hB G8.by_.size
  obtain ⟨z8, e8⟩ : ∃ z8, Hid (z8 = z7 ++ twoOf b.length) := ⟨_, rfl⟩
  rw [← e8.out] at o8
  have L8 : Hid (z8.length = zs.length + p.size + 6) := by show _ = _; rw [e8.out, List.length_append, L7.out]; rfl
  clear g8 c70 c71 c72 n70 n71 o7 G7 s7
  obtain ⟨a8, cap8, rfl, hb8, -, -⟩ := o8.shape
  have hpad := padOf_lt (al := al) (by omega) (z8.length + 1)
  have HPL := hide (fun k => padOf_least (al := al) (n := z8.length + 1) (k := k) (by omega))
  have HPZ := hide (padOf_zero (al := al) (n := z8.length + 1) (by omega))
  obtain ⟨pd, HPD⟩ : ∃ pd, Hid (pd = padOf al (z8.length + 1)) := ⟨_, rfl⟩
  rw [← HPD.out] at hpad HPL HPZ
  have hl8 : z8.length ≤ 1000100 := by have := L8.out; omega
  go_wp2
  go_loop [10] (fun n => ∃ k : Nat, k ≤ pd ∧ n = .int .i64 k) (fun n => pd - (intOf n).toNat)
  case atStart => exact ⟨0, by omega, rfl⟩
  case round =>
    obtain ⟨k, hk, rfl⟩ := hrel
    by_cases hkp : k < pd
    · have hne : ((((z8.length : Int) + 1 + k) % al) != 0) = true := by
        have h := HPL.out k hkp
        rw [bne_iff_ne]
        intro e
        apply h
        have : (((z8.length + 1 + k) % al : Nat) : Int) = ((z8.length : Int) + 1 + k) % al := by simp
        omega
      go_wp2
      go_round
      case rel => exact ⟨k + 1, by omega, by go_num⟩
      case measure => simp [intOf]; omega
    · have hke : k = pd := by omega
      subst hke
      have heq : ((((z8.length : Int) + 1 + k) % al) != 0) = false := by
        have h := HPZ.out
        have : (((z8.length + 1 + k) % al : Nat) : Int) = ((z8.length : Int) + 1 + k) % al := by simp
        rw [bne_eq_false_iff_eq]
        omega
      have hs8 := src_len w8 k (by omega)
      have o8a := o8.alloc (.cells #[.int .u8 (k : Int)] 5)
      have G8a := G8.trans (Grows.alloc w8 (.slice a8 z8.length cap8) (.cells #[.int .u8 (k : Int)] 5))
      clear HPL HPZ
      go_wp2_with (at_builtin; go_must (refine wpAppG rfl (.tmp 64) (.tmp 67) 22 rfl w0.heap.size _ z8 rfl o8a _ [UInt8.ofNat k] rfl 1 hs8 (by simp; omega) (by simp; omega) ?_))
      intro v9 w9 z9 e9 o9 g9
      have G9 := G8a.trans g9
      have hl9 : z9.length ≤ 1000200 := by rw [e9.out]; simp; omega
      clear g9 o8a G8a hs8 heq
      go_wp2
      go_loopw [0, 11] (fun u i wr => ∃ (j : Nat) (ys : List UInt8), j ≤ k ∧ i = .int .i64 j ∧ Own w0.heap.size wr u ys ∧ Hid (ys = z9 ++ List.replicate j 0) ∧ Grows w wr v u) (fun _ i _ => k - (intOf i).toNat)
      case atStart => exact ⟨0, z9, by omega, rfl, o9, by simp [Hid], G9⟩
      clear o9 G9
      case round =>
        obtain ⟨j, ys, hj, rfl, oy, HY, Gy⟩ := hrel
        have hly : ys.length ≤ 1000300 := by rw [HY.out]; simp; omega
        have sy : w0.heap.size ≤ wr.heap.size := Nat.le_trans hB Gy.by_.size
        by_cases hjk : j < k
        · have hsy := src_len wr 0 (by omega)
          have oya := oy.alloc (.cells #[.int .u8 0] 5)
          have Gya := Gy.trans (Grows.alloc wr _ (.cells #[.int .u8 0] 5))
          go_wp2_with (at_builtin; go_must (refine wpAppG rfl (.tmp 74) (.tmp 75) 22 rfl w0.heap.size _ ys rfl oya _ [UInt8.ofNat 0] rfl 1 hsy (by simp; omega) (by simp; omega) ?_))
          intro v10 w10 z10 e10 o10 g10
          have G10 := Gya.trans g10
          have HY2 : Hid (z10 = z9 ++ List.replicate (j + 1) 0) := by
            show _ = _
            rw [e10.out, HY.out, List.replicate_succ']
            simp
          clear g10 oya Gya hsy
          go_wp2
          go_roundw
          case rel => first | exact ⟨j + 1, z10, by omega, by go_num, o10, HY2, G10⟩ | ((repeat apply Exists.intro); exact ⟨⟨j + 1, z10, by omega, by go_num, o10, HY2, G10⟩, rfl⟩)
          case measure => simp [intOf]; omega
        · have hje : j = k := by omega
          subst hje
          have hbb := hb.carry (Gy.below hbel ho (Nat.le_refl _))
          go_wp2_with (at_builtin; go_must (refine wpAppG rfl (.tmp 77) (.tmp 78) 22 rfl w0.heap.size _ ys rfl oy _ b rfl _ (src_bts Try.underlying22 hbb rfl) (by omega) sy ?_))
          intro v11 w11 z11 e11 o11 g11
          have G11 := Gy.trans g11
          have HZ : Hid (z11 = zs ++ entOf false al zs.length p.data.toList b) := by
            show _ = _
            rw [e11.out, HY.out, e9.out, e8.out, e7.out, e6.out, e5.out, e4.out]
            have hk : j = entPad false al zs.length p.data.toList b := by
              rw [HPD.out, L8.out]
              simp [entPad, methOf, entHead, twoOf, laidOf, HPl.out]
              congr 1
            simp only [entOf, entHead, methOf, laidOf, HPl.out, ← hk, Bool.false_and, List.append_assoc, List.cons_append, List.nil_append]
            rfl
          obtain rfl := HZ.out
          clear HZ e11 g11 oy Gy
          go_wp2
          go_ret
          exact ⟨v11, rfl, o11, G11⟩

end Go.Proofs.Ytggakcalcmjolaa
