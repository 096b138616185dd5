import Derived.Test.YtggakcalcmjolabWpack4
namespace Go.Proofs.Ytggakcalcmjolab
open Go.RowKit

theorem literalPieces_n (a : Option Addr) (xs : List UInt8) (n cap : Nat) (w : World) (hn : n = xs.length) (hm : xs.length ≤ 1000000) (hcap : xs.length ≤ cap) (hcm : cap ≤ maxLen) (hb : Bts w a xs) :
    Calls Try.prog 51 #[.slice a n cap] w fun e w' => ∃ v, e = .returned v ∧ Own w.heap.size w' v (runOf xs) ∧ Below w.heap.size w w' := by
  subst hn
  exact literalPieces_any a xs cap w hm hcap hcm hb

/-- Two bytes more. -/
theorem src_two (w : World) {y z : Int} (g0 : 0 ≤ y) (g1 : y ≤ 255) (h0 : 0 ≤ z) (h1 : z ≤ 255) :
    Src Try.prog 1 25 (.slice (some ⟨w.heap.size, 0, none⟩) 2 2) 2 (cells [UInt8.ofNat y.toNat, UInt8.ofNat z.toNat]) (w.alloc (.cells #[.int .u8 y, .int .u8 z] 5)) := by
  have e : cells [UInt8.ofNat y.toNat, UInt8.ofNat z.toNat] = [.int .u8 y, .int .u8 z] := by
    simp only [cells, cell, List.map_cons, List.map_nil]
    rw [byte_val h0 h1, byte_val g0 g1]
  rw [e]
  refine Src.ofSlice _ Try.underlying25 ⟨w.heap.size, 0, none⟩ 2 2 _ (by simp) ?_ ?_
  · intro j u hj
    rw [Addr.add_lit]
    match j, hj with
    | 0, hj => simp at hj; subst hj; simp
    | 1, hj => simp at hj; subst hj; simp
  · intro u hu
    simp at hu
    rcases hu with rfl | rfl <;> rfl

theorem Own.shape2 {w : World} {v : Value} {xs : List UInt8} {B : Nat} (h : Own B w v xs) : ∃ a cap, v = .slice a xs.length cap := by
  obtain ⟨a, cap, e, _⟩ := h.shape
  exact ⟨a, cap, e⟩

set_option maxRecDepth 100000 in
set_option maxHeartbeats 1000000 in
theorem packBody_any (a : Option Addr) (xs : List UInt8) (cap : Nat) (w : World) (hm : xs.length ≤ 100000) (hcap : xs.length ≤ cap) (hcm : cap ≤ maxLen) (hb : Bts w a xs) :
    Calls Try.prog 36 #[.slice a xs.length cap] w fun e w' => ∃ v, e = .returned v ∧ Own w.heap.size w' v (packOf xs) ∧ Below w.heap.size w w' := by
  unfold maxLen at hcm
  go_enter Try.func36, Try.ntmps36
  go_wp2
  go_loopw [3, 4, 5] (fun v fi ai wr => ∃ (i b f : Nat) (zs : List UInt8), b ≤ i ∧ i ≤ xs.length ∧ fi = .int .i64 b ∧ ai = .int .i64 i ∧ Own w.heap.size wr v zs ∧ Hid (xs.length ≤ i + f) ∧ Hid (zs ++ packGo xs f i b = packOf xs) ∧ Hid (zs.length ≤ 2 * b) ∧ Below w.heap.size w wr) (fun _ _ ai _ => xs.length - (intOf ai).toNat)
  case atStart => exact ⟨0, 0, xs.length, [], by omega, by omega, rfl, rfl, Own.nil _ _, by simp [Hid], rfl, by simp [Hid], Below.refl _ _⟩
  case round =>
    obtain ⟨i, b, f, zs, hbi, hil, rfl, rfl, ho, HF, HP, HL, hbl⟩ := hrel
    by_cases hlt : i < xs.length
    · obtain ⟨bk, off, rfl, hc⟩ := hb i hlt
      clear hc
      obtain ⟨f', rfl⟩ : ∃ f', f = f' + 1 := ⟨f - 1, by have := HF.out; omega⟩
      go_wp2_with fail
      refine (bestCopy_any (some ⟨bk, off, none⟩) xs cap i _ (by omega) (hb.carry hbl) hil).mono ?_
      rintro e w1 ⟨n, d, rfl, hn, hd, HC, b1⟩
      have hbl1 := hbl.trans (b1.mono hbl.size)
      have ho1 := ho.carry b1
      have HC' : Hid (copyOf xs i = if n < 3 then (0, 0) else (n, d)) := HC
      clear HC ho hbl b1
      by_cases h3 : n < 3
      · have HP2 : Hid (zs ++ packGo xs f' (i + 1) b = packOf xs) := by
          have h := HP.out
          rw [packGo_lit xs f' i b hlt (by rw [HC'.out, if_pos h3])] at h
          exact h
        have HF2 : Hid (xs.length ≤ i + 1 + f') := by have := HF.out; show _ ≤ _; omega
        clear HP HF HC' hd
        go_wp2
        go_roundw
        case rel => exact ⟨i + 1, b, f', zs, by omega, by omega, rfl, by go_num, ho1, HF2, HP2, HL, hbl1⟩
        case measure => simp [intOf]; omega
      · obtain ⟨hd1, hd2⟩ := hd (by omega)
        have HE : Hid (copyOf xs i = (n, d)) := by rw [HC'.out, if_neg h3]; rfl
        have hfit : i + n ≤ xs.length := by
          have := copyOf_spec xs i
          rw [HE.out] at this
          rcases this with h | h
          · simp at h; omega
          · exact h.2.2.2.2.2.1
        clear HC'
        have hseg : ((xs.drop b).take (i - b)).length = i - b := by simp; omega
        have HSeg : Hid ((xs.drop b).take (i - b) = (xs.take i).drop b) := by
          show _ = _
          rw [List.drop_take]
        have hbs := (hb.carry hbl1).sub b (i - b)
        generalize (xs.drop b).take (i - b) = seg at *
        go_wp2_with fail
        refine (literalPieces_n (some ⟨bk, off + b, none⟩) seg (i - b) (cap - b) _ hseg.symm (by omega) (by omega) (by unfold maxLen; omega) hbs).mono ?_
        rintro e w2 ⟨v2, rfl, o2, b2⟩
        have hbl2 := hbl1.trans (b2.mono hbl1.size)
        have ho2 := ho1.carry b2
        obtain ⟨a2, c2, rfl, hbt2, -, -⟩ := o2.shape
        have hrl := runOf_length seg
        clear o2 b2 ho1 hbl1 hbs
        have HS : Hid (seg.length = i - b) := hseg
        clear hseg
        go_wp2_with (at_builtin; go_must (refine wpApp rfl (.tmp 29) (.tmp 30) 25 rfl w.heap.size _ zs rfl ho2 _ (runOf seg) rfl _ (src_bts Try.underlying25 hbt2 rfl) (by have := HL.out; have := HS.out; omega) hbl2.size ?_))
        intro v3 w3 z3 e3 o3 g3
        have b3 := below_own hbl2 ho2 g3 (Nat.le_refl _)
        have L3 : Hid (z3.length ≤ 2 * i) := by
          show _ ≤ _
          rw [e3.out, List.length_append]
          have := HL.out
          have := HS.out
          omega
        clear g3 ho2 hbl2 hbt2 hrl
        have hs3 := src_two w3 (y := 128 + (n : Int) - 3) (z := (d : Int) - 1) (by omega) (by omega) (by omega) (by omega)
        have o3a := o3.alloc (.cells #[.int .u8 (128 + (n : Int) - 3), .int .u8 ((d : Int) - 1)] 5)
        have b3a := b3.alloc b3.size (.cells #[.int .u8 (128 + (n : Int) - 3), .int .u8 ((d : Int) - 1)] 5)
        clear o3 b3
        go_wp2_with (at_builtin; go_must (refine wpApp rfl (.tmp 32) (.tmp 40) 25 rfl w.heap.size _ z3 rfl o3a _ _ rfl 2 hs3 (by have := L3.out; simp; omega) b3a.size ?_))
        intro v4 w4 z4 e4 o4 g4
        have b4 := below_own b3a o3a g4 (Nat.le_refl _)
        have HP2 : Hid (z4 ++ packGo xs f' (i + n) (i + n) = packOf xs) := by
          rw [← HP.out, packGo_copy xs f' i b hlt (by rw [HE.out]; show n ≠ 0; omega), HE.out, e4.out, e3.out, HSeg.out, show (128 + (n : Int) - 3).toNat = 128 + n - 3 from by omega]
          simp [Hid]
        have HF2 : Hid (xs.length ≤ i + n + f') := by have := HF.out; show _ ≤ _; omega
        have HL2 : Hid (z4.length ≤ 2 * (i + n)) := by
          show _ ≤ _
          rw [e4.out, List.length_append]
          have := L3.out
          simp
          omega
        clear g4 o3a b3a hs3 HP HF
        go_wp2
        go_roundw
        case rel => exact ⟨i + n, i + n, f', z4, by omega, by omega, by go_num, by go_num, o4, HF2, HP2, HL2, b4⟩
        case measure => simp [intOf]; omega
    · have HP2 : Hid (zs ++ runOf (xs.drop b) = packOf xs) := by
        have h := HP.out
        rw [packGo_end xs f i b (by omega)] at h
        exact h
      clear HP HF
      obtain ⟨tl, HT⟩ : ∃ tl, Hid (tl = xs.drop b) := ⟨_, rfl⟩
      have HTL : Hid (tl.length = xs.length - b) := by show _ = _; rw [HT.out]; simp
      have HRL : Hid ((runOf tl).length ≤ 2 * xs.length) := by
        have := runOf_length tl
        have := HTL.out
        show _ ≤ _
        omega
      have HP3 : Hid (zs ++ runOf tl = packOf xs) := by rw [HT.out]; exact HP2.out
      clear HP2
      have hcl : ∀ (A : Option Addr) (N C : Nat), N = xs.length - b → N ≤ C → C ≤ maxLen → Bts wr A tl →
          Calls Try.prog 51 #[.slice A N C] wr fun e w' => ∃ v, e = .returned v ∧ Own wr.heap.size w' v (runOf tl) ∧ Below wr.heap.size wr w' :=
        fun A N C h1 h2 h3 h4 => literalPieces_n A tl N C wr (by rw [← HTL.out] at h1; exact h1) (by have := HTL.out; omega) (by have := HTL.out; omega) h3 h4
      have HCL := hide hcl
      clear hcl
      by_cases h0 : xs.length = 0
      · have hi0 : i = 0 := by omega
        have hx : tl = [] := List.eq_nil_of_length_eq_zero (by have := HTL.out; omega)
        have hbn : ∀ A, Bts wr A tl := fun A => by rw [hx]; exact Bts.nil _ _
        have hbn' := hide hbn
        have h0' : xs.length < 1 := by omega
        have hb0 : b = 0 := by omega
        subst hi0 hb0
        clear hbn hx
        go_wp2_with fail
        refine (unhide HCL _ _ _ (by omega) (by omega) (by unfold maxLen; omega) (unhide hbn' _)).mono ?_
        rintro e w2 ⟨v2, rfl, o2, b2⟩
        have hbl2 := hbl.trans (b2.mono hbl.size)
        have ho2 := ho.carry b2
        obtain ⟨a2, c2, rfl, hbt2, -, -⟩ := o2.shape
        clear o2 b2 ho hbl
        go_wp2_with (at_builtin; go_must (refine wpApp rfl (.tmp 50) (.tmp 51) 25 rfl w.heap.size _ zs rfl ho2 _ (runOf tl) rfl _ (src_bts Try.underlying25 hbt2 rfl) (by have := HL.out; have := HRL.out; omega) hbl2.size ?_))
        intro v3 w3 z3 e3 o3 g3
        have b3 := below_own hbl2 ho2 g3 (Nat.le_refl _)
        have HZ : Hid (z3 = packOf xs) := by rw [e3.out]; exact HP3.out
        obtain rfl := HZ.out
        clear g3 ho2 hbl2 hbt2 HP3 HZ e3
        go_wp2
        go_ret
        exact ⟨v3, rfl, o3, b3⟩
      · obtain ⟨bk, off, rfl, hc⟩ := hb 0 (by omega)
        clear hc
        by_cases hcb : b < cap
        · have hbs : Bts wr (some ⟨bk, off + b, none⟩) tl := by rw [HT.out]; exact (hb.carry hbl).from b
          go_wp2_with fail
          refine (unhide HCL _ _ _ (by omega) (by omega) (by unfold maxLen; omega) hbs).mono ?_
          rintro e w2 ⟨v2, rfl, o2, b2⟩
          have hbl2 := hbl.trans (b2.mono hbl.size)
          have ho2 := ho.carry b2
          obtain ⟨a2, c2, rfl, hbt2, -, -⟩ := o2.shape
          clear o2 b2 ho hbl
          go_wp2_with (at_builtin; go_must (refine wpApp rfl (.tmp 50) (.tmp 51) 25 rfl w.heap.size _ zs rfl ho2 _ (runOf tl) rfl _ (src_bts Try.underlying25 hbt2 rfl) (by have := HL.out; have := HRL.out; omega) hbl2.size ?_))
          intro v3 w3 z3 e3 o3 g3
          have b3 := below_own hbl2 ho2 g3 (Nat.le_refl _)
          have HZ : Hid (z3 = packOf xs) := by rw [e3.out]; exact HP3.out
          obtain rfl := HZ.out
          clear g3 ho2 hbl2 hbt2 HP3 HZ e3
          go_wp2
          go_ret
          exact ⟨v3, rfl, o3, b3⟩
        · have hx : tl = [] := List.eq_nil_of_length_eq_zero (by have := HTL.out; omega)
          have hbn : ∀ A, Bts wr A tl := fun A => by rw [hx]; exact Bts.nil _ _
          have hbn' := hide hbn
          clear hx hbn
          go_wp2_with fail
          refine (unhide HCL _ _ _ (by omega) (by omega) (by unfold maxLen; omega) (unhide hbn' _)).mono ?_
          rintro e w2 ⟨v2, rfl, o2, b2⟩
          have hbl2 := hbl.trans (b2.mono hbl.size)
          have ho2 := ho.carry b2
          obtain ⟨a2, c2, rfl, hbt2, -, -⟩ := o2.shape
          clear o2 b2 ho hbl
          go_wp2_with (at_builtin; go_must (refine wpApp rfl (.tmp 50) (.tmp 51) 25 rfl w.heap.size _ zs rfl ho2 _ (runOf tl) rfl _ (src_bts Try.underlying25 hbt2 rfl) (by have := HL.out; have := HRL.out; omega) hbl2.size ?_))
          intro v3 w3 z3 e3 o3 g3
          have b3 := below_own hbl2 ho2 g3 (Nat.le_refl _)
          have HZ : Hid (z3 = packOf xs) := by rw [e3.out]; exact HP3.out
          obtain rfl := HZ.out
          clear g3 ho2 hbl2 hbt2 HP3 HZ e3
          go_wp2
          go_ret
          exact ⟨v3, rfl, o3, b3⟩

end Go.Proofs.Ytggakcalcmjolab
