import Derived.Test.YtggakcalcmjolaaWbld4
namespace Go.Proofs.Ytggakcalcmjolaa
open Go.RowKit

/-- Bytes that lie outside the row, in a block that is there. -/
structure Laid (w : World) (v : Value) (a : Option Addr) (xs : List UInt8) : Prop where
  bts : Bts w a xs
  apart : Apart v a
  lt : ∀ ad, a = some ad → ad.block < w.heap.size

theorem Laid.next {w w' : World} {v v' : Value} {a : Option Addr} {xs : List UInt8} (h : Laid w v a xs) (g : Grows w w' v v') : Laid w' v' a xs :=
  ⟨g.bts h.bts h.apart, g.apart h.lt h.apart, fun ad e => Nat.lt_of_lt_of_le (h.lt ad e) g.by_.size⟩

theorem Own.laid {B M : Nat} {w w' : World} {v p : Value} {xs ps : List UInt8} (h : Own B w v xs) (hp : Own M w' p ps) (hM : w.heap.size ≤ M) :
    ∃ a cap, p = .slice a ps.length cap ∧ Laid w' v a ps := by
  obtain ⟨a, cap, e, h1, _, _, h2⟩ := h.apart hp hM
  refine ⟨a, cap, e, h1, h2, ?_⟩
  intro ad ea
  subst ea
  subst e
  exact hp.blk_lt ad.block rfl

set_option maxRecDepth 100000 in
set_option maxHeartbeats 4000000 in
theorem entry_less (w0 w : World) (v : Value) (zs : List UInt8) (p key : ByteArray) (ab : Option Addr) (b : List UInt8) (bc al : Nat) (hp : p.size ≤ 40) (hbl : b.length ≤ 600)
    (hb : Bts w0 ab b) (hbc : b.length ≤ bc) (hbc2 : bc ≤ maxLen) (hbel : Below w0.heap.size w0 w) (ho : Own w0.heap.size w v zs) (hz : zs.length ≤ 1000000) (hsh : (packOf b).length < b.length) :
    Calls Try.prog 80 #[v, .agg #[.string p, .slice ab b.length bc], .agg #[.string key, .int .i64 al, .bool true]] w
      fun e w' => ∃ v', e = .returned v' ∧ Own w0.heap.size w' v' (zs ++ entOf true al zs.length p.data.toList b) ∧ Grows w w' v v' := by
  have hB := hbel.size
  have HPl := hide (strLen p)
  have hml := packOf_le b
  have G2 : Grows w ((w.alloc (.cells #[.string p, .slice ab b.length bc] 54)).alloc (.cells #[.string key, .int .i64 al, .bool true] 37)) v v := (Grows.alloc w v _).trans (Grows.alloc _ v _)
  have o2 : Own w0.heap.size ((w.alloc (.cells #[.string p, .slice ab b.length bc] 54)).alloc (.cells #[.string key, .int .i64 al, .bool true] 37)) v zs := (ho.alloc _).alloc _
  have k0 : ((w.alloc (.cells #[.string p, .slice ab b.length bc] 54)).alloc (.cells #[.string key, .int .i64 al, .bool true] 37)).cell? ⟨w.heap.size, 0, none⟩ = some (.string p) := cell_alloc _ (cell_new w _ _ 0)
  have k1 : ((w.alloc (.cells #[.string p, .slice ab b.length bc] 54)).alloc (.cells #[.string key, .int .i64 al, .bool true] 37)).cell? ⟨w.heap.size, 1, none⟩ = some (.slice ab b.length bc) := cell_alloc _ (cell_new w _ _ 1)
  have k2 : ((w.alloc (.cells #[.string p, .slice ab b.length bc] 54)).alloc (.cells #[.string key, .int .i64 al, .bool true] 37)).cell? ⟨w.heap.size + 1, 1, none⟩ = some (.int .i64 al) := by
    have h := cell_new (w.alloc (.cells #[.string p, .slice ab b.length bc] 54)) #[.string key, .int .i64 al, .bool true] 37 1
    rw [show (w.alloc (.cells #[.string p, .slice ab b.length bc] 54)).heap.size = w.heap.size + 1 from by simp] at h
    exact h
  have n0 := ho.ne_new w.heap.size (Nat.le_refl _)
  have n1 := ho.ne_new (w.heap.size + 1) (by omega)
  have H0 := hide k0
  have H1 := hide k1
  have H2 := hide k2
  have HSh := hide hsh
  have hb2 := hb.carry (G2.below hbel ho (Nat.le_refl _))
  clear k0 k1 k2 hsh
  go_enter Try.func80, Try.ntmps80
  go_wp2_with fail
  refine (packed_any ab b bc _ (by omega) hbc hbc2 hb2).mono ?_
  rintro e w3 ⟨vp, rfl, op, bp⟩
  have gp := Grows.ofBelow v bp
  have G3 := G2.trans gp
  have o3 : Own w0.heap.size w3 v zs := o2.carry bp
  obtain ⟨c30, _⟩ := gp.keep H0.out n0
  obtain ⟨c31, _⟩ := gp.keep H1.out n0
  obtain ⟨c32, _⟩ := gp.keep H2.out n1
  obtain ⟨ap, cp, rfl, J3⟩ := o2.laid op (Nat.le_refl _)
  obtain ⟨pb, HPB⟩ : ∃ pb, Hid (pb = packOf b) := ⟨_, rfl⟩
  rw [← HPB.out] at J3 hml HSh ⊢
  have s3 : w0.heap.size ≤ w3.heap.size := Nat.le_trans hB G3.by_.size
  clear op bp gp G2 o2 H0 H1 H2 hb2
  have hs1 := src_len w3 p.size (by omega)
  have o3a := o3.alloc (.cells #[.int .u8 (p.size : Int)] 5)
  have c3a0 := cell_alloc (.cells #[.int .u8 (p.size : Int)] 5) c30
  have c3a1 := cell_alloc (.cells #[.int .u8 (p.size : Int)] 5) c31
  have c3a2 := cell_alloc (.cells #[.int .u8 (p.size : Int)] 5) c32
  have G3a := G3.trans (Grows.alloc w3 v (.cells #[.int .u8 (p.size : Int)] 5))
  have J3a := J3.next (Grows.alloc w3 v (.cells #[.int .u8 (p.size : Int)] 5))
  have hsl : ((pb.length : Int) < (b.length : Int)) := by have := HSh.out; omega
  go_wp2_with (at_builtin; go_must (refine wpAppG rfl (.tmp 26) (.tmp 31) 22 rfl w0.heap.size v zs rfl o3a _ _ rfl 1 hs1 (by simp; omega) (by simp; omega) ?_))
  intro v4 w4 z4 e4 o4 g4
  obtain ⟨c40, n40⟩ := g4.keep c3a0 n0
  obtain ⟨c41, _⟩ := g4.keep c3a1 n0
  obtain ⟨c42, n41⟩ := g4.keep c3a2 n1
  have G4 := G3a.trans g4
  have J4 := J3a.next g4
  have L4 : Hid (z4.length = zs.length + 1) := by show _ = _; rw [e4.out]; simp
  have s4 : w0.heap.size ≤ w4.heap.size := Nat.le_trans hB G4.by_.size
  clear g4 c30 c31 c32 c3a0 c3a1 c3a2 n0 n1 hs1 o3a G3a G3 o3 s3 J3 J3a
  go_wp2_with (at_builtin; go_must (refine wpAppG rfl (.tmp 33) (.tmp 35) 9 rfl w0.heap.size v4 z4 rfl o4 _ p.data.toList rfl p.size (src_str _ Try.underlying9 p) (by have := L4.out; have := HPl.out; omega) s4 ?_))
  intro v5 w5 z5 e5 o5 g5
  obtain ⟨c50, n50⟩ := g5.keep c40 n40
  obtain ⟨c51, _⟩ := g5.keep c41 n40
  obtain ⟨c52, n51⟩ := g5.keep c42 n41
  have G5 := G4.trans g5
  have J5 := J4.next g5
  have L5 : Hid (z5.length = zs.length + 1 + p.size) := by show _ = _; rw [e5.out, List.length_append, L4.out, HPl.out]
  have s5 : w0.heap.size ≤ w5.heap.size := Nat.le_trans hB G5.by_.size
  clear g5 c40 c41 c42 n40 n41 o4 G4 s4
  have hs5 := src_len w5 1 (by omega)
  have o5a := o5.alloc (.cells #[.int .u8 1] 5)
  have c5a0 := cell_alloc (.cells #[.int .u8 1] 5) c50
  have c5a1 := cell_alloc (.cells #[.int .u8 1] 5) c51
  have c5a2 := cell_alloc (.cells #[.int .u8 1] 5) c52
  have G5a := G5.trans (Grows.alloc w5 v5 (.cells #[.int .u8 1] 5))
  have J5a := J5.next (Grows.alloc w5 v5 (.cells #[.int .u8 1] 5))
  go_wp2_with (at_builtin; go_must (refine wpAppG rfl (.tmp 37) (.tmp 40) 22 rfl w0.heap.size v5 z5 rfl o5a _ [UInt8.ofNat 1] rfl 1 hs5 (by have := L5.out; simp; omega) (by simp; omega) ?_))
  intro v6 w6 z6 e6 o6 g6
  obtain ⟨c60, n60⟩ := g6.keep c5a0 n50
  obtain ⟨c61, _⟩ := g6.keep c5a1 n50
  obtain ⟨c62, n61⟩ := g6.keep c5a2 n51
  have G6 := G5a.trans g6
  have J6 := J5a.next g6
  have L6 : Hid (z6.length = zs.length + p.size + 2) := by show _ = _; rw [e6.out, List.length_append, L5.out]; simp; omega
  have s6 : w0.heap.size ≤ w6.heap.size := Nat.le_trans hB G6.by_.size
  clear g6 c50 c51 c52 c5a0 c5a1 c5a2 n50 n51 o5 o5a G5 G5a s5 hs5
  go_wp2_with fail
  refine (two_any w0.heap.size _ v6 z6 b.length (by omega) o6 s6 (by have := L6.out; omega)).mono ?_
  rintro e w7 ⟨v7, rfl, o7, g7⟩
  obtain ⟨c70, n70⟩ := g7.keep c60 n60
  obtain ⟨c71, _⟩ := g7.keep c61 n60
  obtain ⟨c72, n71⟩ := g7.keep c62 n61
  have G7 := G6.trans g7
  have J7 := J6.next g7
  have s7 : w0.heap.size ≤ w7.heap.size := Nat.le_trans hB G7.by_.size
  obtain ⟨z7, e7⟩ : ∃ z7, Hid (z7 = z6 ++ twoOf b.length) := ⟨_, rfl⟩
  rw [← e7.out] at o7
  have L7 : Hid (z7.length = zs.length + p.size + 4) := by show _ = _; rw [e7.out, List.length_append, L6.out]; rfl
  clear g7 c60 c61 c62 n60 n61 o6 G6 s6
  go_wp2_with fail
  refine (two_any w0.heap.size _ v7 z7 pb.length (by omega) o7 s7 (by have := L7.out; omega)).mono ?_
  rintro e w8 ⟨v8, rfl, o8, g8⟩
  obtain ⟨c80, n80⟩ := g8.keep c70 n70
  obtain ⟨c81, _⟩ := g8.keep c71 n70
  obtain ⟨c82, n81⟩ := g8.keep c72 n71
  have G8 := G7.trans g8
  have J8 := J7.next g8
  have s8 : w0.heap.size ≤ w8.heap.size := Nat.le_trans hB G8.by_.size
  obtain ⟨z8, e8⟩ : ∃ z8, Hid (z8 = z7 ++ twoOf pb.length) := ⟨_, rfl⟩
  rw [← e8.out] at o8
  have L8 : Hid (z8.length = zs.length + p.size + 6) := by show _ = _; rw [e8.out, List.length_append, L7.out]; rfl
  clear g8 c70 c71 c72 n70 n71 o7 G7 s7
  obtain ⟨a8, cap8, rfl, hb8, -, -⟩ := o8.shape
  have hl8 : z8.length ≤ 1000100 := by have := L8.out; omega
  have hs8 := src_len w8 0 (by omega)
  have o8a := o8.alloc (.cells #[.int .u8 0] 5)
  have G8a := G8.trans (Grows.alloc w8 (.slice a8 z8.length cap8) (.cells #[.int .u8 0] 5))
  have J8a := J8.next (Grows.alloc w8 (.slice a8 z8.length cap8) (.cells #[.int .u8 0] 5))
  go_wp2_with (at_builtin; go_must (refine wpAppG rfl (.tmp 64) (.tmp 67) 22 rfl w0.heap.size _ z8 rfl o8a _ [UInt8.ofNat 0] rfl 1 hs8 (by simp; omega) (by simp; omega) ?_))
  intro v9 w9 z9 e9 o9 g9
  have G9 := G8a.trans g9
  have J9 := J8a.next g9
  have hl9 : z9.length ≤ 1000200 := by rw [e9.out]; simp; omega
  have s9 : w0.heap.size ≤ w9.heap.size := Nat.le_trans hB G9.by_.size
  clear g9 o8a G8a hs8 J8a J8 G8 o8
  go_wp2
  refine wp_loop_rounds 1 ?_
  rw [rounds_succ]
  go_wp2_with (at_builtin; go_must (refine wpAppG rfl (.tmp 77) (.tmp 78) 22 rfl w0.heap.size _ z9 rfl o9 _ pb rfl _ (src_bts Try.underlying22 J9.bts rfl) (by omega) s9 ?_))
  intro v11 w11 z11 e11 o11 g11
  have G11 := G9.trans g11
  have HZ : Hid (z11 = zs ++ entOf true al zs.length p.data.toList b) := by
    have HN := HSh.out
    show _ = _
    rw [e11.out, e9.out, e8.out, e7.out, e6.out, e5.out, e4.out]
    simp [entOf, entHead, entPad, methOf, laidOf, HPl.out, HN, ← HPB.out]
  obtain rfl := HZ.out
  clear HZ e11 g11 o9 G9
  go_wp2
  go_ret
  exact ⟨v11, rfl, o11, G11⟩

/-- An entry laid behind what there is. -/
theorem entry_any (w0 w : World) (v : Value) (zs : List UInt8) (p key : ByteArray) (ab : Option Addr) (b : List UInt8) (bc al : Nat) (pk : Bool) (hp : p.size ≤ 40) (hbl : b.length ≤ 600) (hal : 1 ≤ al) (hal2 : al ≤ 16)
    (hb : Bts w0 ab b) (hbc : b.length ≤ bc) (hbc2 : bc ≤ maxLen) (hbel : Below w0.heap.size w0 w) (ho : Own w0.heap.size w v zs) (hz : zs.length ≤ 1000000) :
    Calls Try.prog 80 #[v, .agg #[.string p, .slice ab b.length bc], .agg #[.string key, .int .i64 al, .bool pk]] w
      fun e w' => ∃ v', e = .returned v' ∧ Own w0.heap.size w' v' (zs ++ entOf pk al zs.length p.data.toList b) ∧ Grows w w' v v' := by
  cases pk
  · exact entry_plain w0 w v zs p key ab b bc al hp hbl hal hal2 hb hbel ho hz
  · by_cases h : (packOf b).length < b.length
    · exact entry_less w0 w v zs p key ab b bc al hp hbl hb hbc hbc2 hbel ho hz h
    · exact entry_same w0 w v zs p key ab b bc al hp hbl hal hal2 hb hbc hbc2 hbel ho hz h

end Go.Proofs.Ytggakcalcmjolaa
