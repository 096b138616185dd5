import Derived.Test.YtgncohclofdhmaaGreatWrdb
import Derived.Test.YtgncohclofdhmaaGreatWpbuild
import Derived.Test.YtgncohclofdhmaaGreatMdrop
namespace Go.Proofs.YtgncohclofdhmaaGreat
open Go.RowKit

set_option maxRecDepth 100000 in
set_option maxHeartbeats 2000000 in
theorem entriesBut_any (a : Option Addr) (es : List Ent) (cap : Nat) (w : World) (path : ByteArray) (hm : es.length ≤ 1000) (ha : EntAt w a es) :
    Calls Tryz.prog 71 #[.string path, .slice a es.length cap] w fun e w' => ∃ v, e = .returned v ∧ OwnE w.heap.size w' v (keepE path es) ∧ Below w.heap.size w w' := by
  obtain ⟨n, HN⟩ : ∃ n, Hid (n = es.length) := ⟨_, rfl⟩
  rw [← HN.out] at hm ⊢
  go_enter Tryz.func71, Tryz.ntmps71
  go_wp2
  go_loopw [5, 6] (fun v i wr => ∃ (k : Nat) (fs : List Ent), k ≤ n ∧ i = .int .i64 k ∧ Hid (fs = keepE path (es.take k)) ∧ OwnE w.heap.size wr v fs ∧ Below w.heap.size w wr) (fun _ i _ => n - (intOf i).toNat)
  case atStart => exact ⟨0, [], by omega, rfl, rfl, OwnE.nil _ _, Below.refl _ _⟩
  case round =>
    obtain ⟨k, fs, hk, rfl, HF, ho, hbl⟩ := hrel
    have HL : Hid (fs.length ≤ k) := by
      have := keep_len path (es.take k)
      show _ ≤ _
      rw [HF.out]
      refine Nat.le_trans this ?_
      rw [List.length_take]
      omega
    by_cases hlt : k < n
    · have hlt2 : k < es.length := by have := HN.out; omega
      obtain ⟨b, off, rfl, hc1, hc2⟩ := (ha.carry hbl) k hlt2
      have HT := hide (take_snoc es noEnt k hlt2)
      generalize es.getD k noEnt = x at *
      unfold Ent.val at hc2
      have hki : (k : Int) < (n : Int) := by omega
      by_cases hq : x.path = path
      · have hqb : (x.path.toList == path.toList) = true := by simp [hq]
        have hqc : (x.path.toList != path.toList) = false := by simp [hq]
        have HF2 : Hid (fs = keepE path (es.take (k + 1))) := by
          show _ = _
          rw [HT.out, keepE, List.filter_append, ← keepE, ← HF.out]
          simp [hq]
        clear hq
        go_wp2
        go_roundw
        case rel => first | exact ⟨k + 1, fs, by omega, by go_num, HF2, ho, hbl⟩ | ((repeat apply Exists.intro); exact ⟨⟨k + 1, fs, by omega, by go_num, HF2, ho, hbl⟩, rfl⟩)
        case measure => simp [intOf]; omega
      · have hqb : (x.path.toList == path.toList) = false := by
          rw [beq_eq_false_iff_ne, ByteArray.toList_eq, ByteArray.toList_eq]
          intro e
          exact hq (ByteArray.ext (Array.toList_inj.1 e))
        have hqc : (x.path.toList != path.toList) = true := by rw [bne, hqb]; rfl
        have HF2 : Hid (fs ++ [x] = keepE path (es.take (k + 1))) := by
          show _ = _
          rw [HT.out, keepE, List.filter_append, ← keepE, ← HF.out]
          simp [hq]
        clear hq
        have hs1 := src_ent wr x
        unfold Ent.val at hs1
        have ho1 := ho.alloc (.cells #[.string x.path, .slice x.adr x.body.length x.cap] 46)
        have hbl1 := hbl.alloc hbl.size (.cells #[.string x.path, .slice x.adr x.body.length x.cap] 46)
        go_wp2_with (at_builtin; go_must (refine wpAppE rfl (.tmp 20) (.tmp 25) rfl w.heap.size _ fs rfl ho1 _ [x] rfl 1 hs1 (by have := HL.out; simp; omega) hbl1.size ?_))
        intro v3 w3 f3 e3 o3 gr
        have b3 := below_ownE hbl1 ho1 gr.by_ (Nat.le_refl _)
        have HF3 : Hid (f3 = keepE path (es.take (k + 1))) := by
          show _ = _
          rw [e3.out]
          exact HF2.out
        clear gr hs1 ho1 hbl1 hc1 hc2 e3 ho
        go_wp2
        go_roundw
        case rel => first | exact ⟨k + 1, f3, by omega, by go_num, HF3, o3, b3⟩ | ((repeat apply Exists.intro); exact ⟨⟨k + 1, f3, by omega, by go_num, HF3, o3, b3⟩, rfl⟩)
        case measure => simp [intOf]; omega
    · have HFe : Hid (fs = keepE path es) := by
        have h := HF.out
        rw [List.take_of_length_le (by have := HN.out; omega)] at h
        exact h
      go_wp2
      go_ret
      exact ⟨_, rfl, by rw [← HFe.out]; exact ho, hbl⟩

set_option maxRecDepth 100000 in
set_option maxHeartbeats 2000000 in
theorem Drop_keeps : DropKeeps := by
  intro a p cap w key path hm hks hps hcap hcm hb
  have K := hide (readPackage_any readEntry_keeps a p cap w key hm hks hcap hcm hb)
  obtain ⟨n, HN⟩ : ∃ n, Hid (n = p.length) := ⟨_, rfl⟩
  rw [← HN.out] at K ⊢
  go_enter Tryz.func43, Tryz.ntmps43
  go_wp2_with fail
  refine K.out.mono ?_
  rintro e w2 ⟨v2, ck, cz, cb, E2, rfl, A2', b2⟩
  have A2 : VerAns key p w.heap.size w2 v2 (.agg #[.string ck, .int .i64 cz, .bool cb]) E2 := A2'
  clear A2'
  by_cases hE : E2 = 0
  · subst hE
    obtain ⟨hz, es, al, pk, hI, o2, g2, ec⟩ := ver_good A2
    simp only [Value.agg.injEq, Array.mk.injEq, List.cons.injEq, Value.string.injEq, Value.int.injEq, Value.bool.injEq, and_true, true_and] at ec
    obtain ⟨rfl, rfl, rfl⟩ := ec
    obtain ⟨x, k, rfl, hat, -, -⟩ := o2.shape
    have Ba : Below w2.heap.size w2 (w2.alloc (.cells #[.slice x es.length k, .string ck, .int .i64 (al : Nat), .bool cb] 87)) := (Below.refl _ _).alloc (Nat.le_refl _) _
    have sc : CBox (w2.alloc (.cells #[.slice x es.length k, .string ck, .int .i64 (al : Nat), .bool cb] 87)) w2.heap.size (.slice x es.length k) ck (al : Nat) cb := heap_alloc_new w2 _
    have B3 := b2.trans (Ba.mono b2.size)
    have HI := hide hI
    have HZ := hide hz
    have hel : es.length ≤ 20 := by have := hI.good.len; simpa [pairsOf] using this
    have hal := hI.good.lo
    have hal2 := hI.good.hi
    have hat3 := hat.carry Ba
    have g3 := hide (g2.carry Ba)
    have HKp := hide (keep_pairs path es)
    have HKl : Hid ((keepL path.data.toList (pairsOf es)).length = (keepE path es).length) := by show _ = _; rw [← HKp.out]; simp [pairsOf]
    have HPl : Hid ((pairsOf es).length = es.length) := by simp [Hid, pairsOf]
    have HKo := hide (g3.out.keep path)
    have HLim : Hid (∀ e, e ∈ keepE path es → e.path.size ≤ 40 ∧ e.body.length ≤ 600) := by
      intro e he
      have hm : pairOf e ∈ pairsOf es := List.mem_map.2 ⟨e, (List.mem_filter.1 he).1, rfl⟩
      have h1 := pathB_len (hI.good.path _ hm)
      have h2 := hI.good.body _ hm
      simp only [pairOf] at h1 h2
      exact ⟨by simpa using h1, h2⟩
    have hkl := keep_len path es
    clear K A2 hI hz o2 g2 hat b2
    go_wp2_with fail
    generalize w2.alloc (.cells #[.slice x es.length k, .string ck, .int .i64 (al : Nat), .bool cb] 87) = W3 at *
    have c0 := sc.c0
    have KW := hide (entriesBut_any x es k W3 path (by omega) hat3)
    generalize keepE path es = fs at *
    go_wp2_with fail
    refine KW.out.mono ?_
    rintro e w4 ⟨v4, rfl, o4, b4⟩
    obtain ⟨x4, k4, rfl, hat4, -, -⟩ := o4.shape
    have B4 := B3.trans (b4.mono B3.size)
    have sc4 := sc.carry b4
    have g4 := hide (HKo.out.carry b4)
    clear KW o4 g3 HKo c0
    have c0 := sc4.c0
    have c1 := sc4.c1
    have c2 := sc4.c2
    have c3 := sc4.c3
    by_cases hlt : fs.length < es.length
    · have hd : ((fs.length : Int) == (es.length : Int)) = false := by simp; omega
      go_wp2_with fail
      refine (layPackage_any x4 fs k4 w4 ck al cb (by omega) hal hal2 hks HLim.out hat4 g4.out.good).mono ?_
      rintro e w5 ⟨v5, rfl, o5, b5⟩
      have B5 := B4.trans (b5.mono B4.size)
      have HD : Hid (DropAns ck path p w.heap.size w5 v5 0) := by
        refine .inr (.inr ⟨HZ.out, _, al, cb, HI.out, .inr ⟨by rw [HKl.out, HPl.out]; exact hlt, fs, ByteArray.empty, by rw [HKp.out], drop_lay HZ.out HI.out HKp.out (o5.mono B4.size)⟩⟩)
      obtain ⟨ax, cx, rfl, -, -, -⟩ := o5.shape
      clear o5 b5
      go_wp2
      go_ret2
      exact ⟨_, 0, rfl, HD.out, B5⟩
    · have hd : ((fs.length : Int) == (es.length : Int)) = true := by simp; omega
      have HD : Hid (∀ W, DropAns ck path p w.heap.size W (.slice none 0 0) 13) := fun W => .inr (.inr ⟨HZ.out, _, al, cb, HI.out, .inl ⟨by rw [HKl.out, HPl.out]; exact hlt, rfl, rfl⟩⟩)
      go_wp2
      go_ret2
      exact ⟨_, 13, rfl, HD.out _, B4⟩
  · obtain ⟨va, vn, vc, rfl⟩ := ver_slice A2
    have B3 := b2.alloc b2.size (.cells #[.slice va vn vc, .string ck, .int .i64 cz, .bool cb] 87)
    have hEb : ((E2 : Int) != 0) = true := by simp; omega
    have HF : Hid (∀ W, DropAns key path p w.heap.size W (.slice none 0 0) E2) := by
      intro W
      rcases A2 with ⟨h1, h2, _⟩ | ⟨h1, h2, h3, _⟩ | ⟨_, _, _, _, _, _, _, h5, _⟩
      · exact .inl ⟨h1, h2, rfl⟩
      · exact .inr (.inl ⟨h1, h2, h3, rfl⟩)
      · exact absurd h5 hE
    clear hE A2 K
    go_wp2
    go_ret2
    exact ⟨_, E2, rfl, HF.out _, B3⟩

set_option maxRecDepth 100000 in
set_option maxHeartbeats 2000000 in
theorem Replace_keeps : ReplKeeps := by
  intro a p cap w key xp xa xb xc hm hks hcap hcm hb hxp hxb hxc hxm
  have Bx := (Below.refl w.heap.size w).alloc (Nat.le_refl _) (.cells #[.string xp, .slice xa xb.length xc] 46)
  have ex : (w.alloc (.cells #[.string xp, .slice xa xb.length xc] 46)).heap[w.heap.size]? = some (.cells #[.string xp, .slice xa xb.length xc] 46 (0, 0)) := heap_alloc_new w _
  have hsx : w.heap.size < (w.alloc (.cells #[.string xp, .slice xa xb.length xc] 46)).heap.size := by simp
  have K := hide (readPackage_any readEntry_keeps a p cap _ key hm hks hcap hcm (hb.carry Bx))
  have hx1 := hxb.carry Bx
  obtain ⟨n, HN⟩ : ∃ n, Hid (n = p.length) := ⟨_, rfl⟩
  rw [← HN.out] at K ⊢
  go_enter Tryz.func69, Tryz.ntmps69
  go_wp2_with fail
  generalize w.alloc (.cells #[.string xp, .slice xa xb.length xc] 46) = W1 at *
  refine K.out.mono ?_
  rintro e w2 ⟨v2, ck, cz, cb, E2, rfl, A2', b2⟩
  have A2 : VerAns key p W1.heap.size w2 v2 (.agg #[.string ck, .int .i64 cz, .bool cb]) E2 := A2'
  clear A2'
  have B2 := Bx.trans (b2.mono Bx.size)
  have ex2 := (b2.block _ hsx).trans ex
  have hx2 := hx1.carry b2
  have hsx2 : w.heap.size < w2.heap.size := Nat.lt_of_lt_of_le hsx b2.size
  by_cases hE : E2 = 0
  · subst hE
    obtain ⟨hz, es, al, pk, hI, o2, g2, ec⟩ := ver_good A2
    simp only [Value.agg.injEq, Array.mk.injEq, List.cons.injEq, Value.string.injEq, Value.int.injEq, Value.bool.injEq, and_true, true_and] at ec
    obtain ⟨rfl, rfl, rfl⟩ := ec
    obtain ⟨x, k, rfl, hat, -, -⟩ := o2.shape
    have Ba : Below w2.heap.size w2 (w2.alloc (.cells #[.slice x es.length k, .string ck, .int .i64 (al : Nat), .bool cb] 87)) := (Below.refl _ _).alloc (Nat.le_refl _) _
    have sc : CBox (w2.alloc (.cells #[.slice x es.length k, .string ck, .int .i64 (al : Nat), .bool cb] 87)) w2.heap.size (.slice x es.length k) ck (al : Nat) cb := heap_alloc_new w2 _
    have hs3 := sc.lt
    have B3 := B2.trans (Ba.mono B2.size)
    have ex3 := (Ba.block _ hsx2).trans ex2
    have hx3 := hx2.carry Ba
    have HI := hide hI
    have HZ := hide hz
    have hel : es.length ≤ 20 := by have := hI.good.len; simpa [pairsOf] using this
    have hat3 := hat.carry Ba
    have g3 := hide (g2.carry Ba)
    have HKp := hide (keep_pairs xp es)
    have HKo := hide (g3.out.keep xp)
    have g3c := HKo
    have hkl := keep_len xp es
    have m0 : (w2.alloc (.cells #[.slice x es.length k, .string ck, .int .i64 (al : Nat), .bool cb] 87)).cell? ⟨w.heap.size, 0, none⟩ = some (.string xp) := cell_of_row _ _ 0 _ _ _ ex3
    have c0 := sc.c0
    clear K A2 hI hz o2 g2 hat b2 ex ex2 hx1 hx2 Bx B2 g3
    go_wp2_with fail
    generalize w2.alloc (.cells #[.slice x es.length k, .string ck, .int .i64 (al : Nat), .bool cb] 87) = W3 at *
    have KW := hide (entriesBut_any x es k W3 xp (by omega) hat3)
    generalize keepE xp es = fs at *
    refine KW.out.mono ?_
    rintro e w4 ⟨v4, rfl, o4, b4⟩
    have B4 := B3.trans (b4.mono B3.size)
    have ex4 := (b4.block w.heap.size (by omega)).trans ex3
    have p0 : w4.cell? ⟨w.heap.size, 0, none⟩ = some (.string xp) := cell_of_row _ _ 0 _ _ _ ex4
    have p1 : w4.cell? ⟨w.heap.size, 1, none⟩ = some (.slice xa xb.length xc) := cell_of_row _ _ 1 _ _ _ ex4
    have hs1 := src_ent w4 ⟨xp, xa, xb, xc⟩
    unfold Ent.val at hs1
    have Bb : Below w4.heap.size w4 (w4.alloc (.cells #[.string xp, .slice xa xb.length xc] 46)) := (Below.refl _ _).alloc (Nat.le_refl _) _
    have o5 := o4.carry Bb
    have hW3 : W3.heap.size ≤ (w4.alloc (.cells #[.string xp, .slice xa xb.length xc] 46)).heap.size := Nat.le_trans b4.size Bb.size
    clear KW m0 hat3 HKo c0
    go_wp2_with (at_builtin; go_must (refine wpAppE rfl (.tmp 26) (.tmp 28) rfl W3.heap.size _ fs rfl o5 _ [⟨xp, xa, xb, xc⟩] rfl 1 hs1 (by simp; omega) hW3 ?_))
    intro v6 w6 f6 e6 o6 gr
    have b6 := below_ownE (Below.refl W3.heap.size _) o5 gr.by_ hW3
    have b46 : Below W3.heap.size W3 w6 := (b4.trans (Bb.mono b4.size)).trans b6
    have B6 := B3.trans (b46.mono B3.size)
    have sc6 := sc.carry b46
    have HGin : ∀ e, e ∈ fs → Bts w6 e.adr e.body ∧ e.body.length ≤ e.cap ∧ e.cap ≤ maxLen ∧ e.path.size ≤ maxLen := fun e he => (g3c.out.carry b46).good e he
    have GG : EntGood w6 f6 := by
      rw [e6.out]
      intro e he
      rcases List.mem_append.1 he with h | h
      · exact HGin e h
      · simp at h
        subst h
        exact ⟨hx3.carry b46, hxc, hxm, hxp⟩
    have HPe : Hid (pairsOf f6 = keepL xp.data.toList (pairsOf es) ++ [(xp.data.toList, xb)]) := by
      show _ = _
      rw [e6.out, ← HKp.out]
      simp [pairsOf, pairOf]
    have HGG := hide GG
    have hfl6 : f6.length ≤ 21 := by rw [e6.out]; simp; omega
    obtain ⟨x6, k6, rfl, hat6, -, -⟩ := o6.shape
    have c1 := sc6.c1
    have c2 := sc6.c2
    have c3 := sc6.c3
    clear GG HGin gr b6 o5 o6 hs1 Bb hW3 p0 p1 ex4 e6
    go_wp2_with fail
    refine (Build_keeps x6 f6 k6 w6 ck (al : Nat) cb (by unfold maxLen; omega) hks hat6 HGG.out).mono ?_
    rintro e w7 ⟨v7, E7, p7, rfl, A7, b7⟩
    have B7 := B6.trans (b7.mono B6.size)
    have HR : Hid (ReplAns ck p xp xb w.heap.size w7 v7 E7 p7) := .inr (.inr ⟨HZ.out, _, al, cb, HI.out, f6, by rw [HPe.out], ans_mono A7 B6.size⟩)
    obtain ⟨xs, ax, cx, rfl, _, _⟩ := ans_bytes A7
    clear A7 b7
    go_wp2
    go_ret3
    exact ⟨_, E7, p7, rfl, HR.out, B7⟩
  · obtain ⟨va, vn, vc, rfl⟩ := ver_slice A2
    have B3 := B2.alloc B2.size (.cells #[.slice va vn vc, .string ck, .int .i64 cz, .bool cb] 87)
    have hEb : ((E2 : Int) != 0) = true := by simp; omega
    have HF : Hid (∀ W, ReplAns key p xp xb w.heap.size W (.slice none 0 0) E2 ByteArray.empty) := by
      intro W
      rcases A2 with ⟨h1, h2, _⟩ | ⟨h1, h2, h3, _⟩ | ⟨_, _, _, _, _, _, _, h5, _⟩
      · exact .inl ⟨h1, h2, rfl, rfl⟩
      · exact .inr (.inl ⟨h1, h2, h3, rfl, rfl⟩)
      · exact absurd h5 hE
    clear hE A2 K
    go_wp2
    go_ret3
    exact ⟨_, E2, _, rfl, HF.out _, B3⟩

end Go.Proofs.YtgncohclofdhmaaGreat
