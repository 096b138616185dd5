import Derived.Test.YtggakcalcmjolaaWpack5
namespace Go.Proofs.Ytggakcalcmjolaa
open Go.RowKit

set_option maxRecDepth 100000 in
set_option maxHeartbeats 1000000 in
theorem packed_any (a : Option Addr) (xs : List UInt8) (cap : Nat) (w : World) (hm : xs.length ≤ 100000) (hcap : xs.length ≤ cap) (hcm : cap ≤ maxLen) (hb : Bts w a xs) :
    Calls Try.prog 45 #[.slice a xs.length cap] w fun e w' => ∃ v, e = .returned v ∧ Own w.heap.size w' v (packOf xs) ∧ Below w.heap.size w w' := by
  unfold maxLen at hcm
  go_enter Try.func45, Try.ntmps45
  go_wp2
  go_loopw [3, 4, 5] (fun v fi ai wr => ∃ (i b f : Nat) (zs : List UInt8), b ≤ i ∧ i ≤ xs.length ∧ fi = .int .i64 b ∧ ai = .int .i64 i ∧ Own w.heap.size wr v zs ∧ Hid (xs.length ≤ i + f) ∧ Hid (zs ++ packGo xs f i b = packOf xs) ∧ Hid (zs.length ≤ 2 * b) ∧ Below w.heap.size w wr) (fun _ _ ai _ => xs.length - (intOf ai).toNat)
  case atStart => exact ⟨0, 0, xs.length, [], by omega, by omega, rfl, rfl, Own.nil _ _, by simp [Hid], rfl, by simp [Hid], Below.refl _ _⟩
  case round =>
    obtain ⟨i, b, f, zs, hbi, hil, rfl, rfl, ho, HF, HP, HL, hbl⟩ := hrel
    by_cases hlt : i < xs.length
    · obtain ⟨bk, off, rfl, hc⟩ := hb i hlt
      clear hc
      obtain ⟨f', rfl⟩ : ∃ f', f = f' + 1 := ⟨f - 1, by have := HF.out; omega⟩
      go_wp2_with fail
      refine (copyAt_any (some ⟨bk, off, none⟩) xs cap i _ (by omega) (hb.carry hbl) hil).mono ?_
      rintro e w1 ⟨rfl, b1⟩
      have hbl1 := hbl.trans (b1.mono hbl.size)
      have ho1 := ho.carry b1
      clear ho hbl b1
      have hsp := copyOf_spec xs i
      obtain ⟨n, d, HE⟩ : ∃ n d, Hid (copyOf xs i = (n, d)) := ⟨_, _, rfl⟩
      rw [HE.out] at hsp ⊢
      by_cases h3 : n = 0
      · subst h3
        have HP2 : Hid (zs ++ packGo xs f' (i + 1) b = packOf xs) := by
          have h := HP.out
          rw [packGo_lit xs f' i b hlt (by rw [HE.out])] at h
          exact h
        have HF2 : Hid (xs.length ≤ i + 1 + f') := by have := HF.out; show _ ≤ _; omega
        clear HP HF HE hsp
        go_wp2
        go_roundw
        case rel => exact ⟨i + 1, b, f', zs, by omega, by omega, rfl, by go_num, ho1, HF2, HP2, HL, hbl1⟩
        case measure => simp [intOf]; omega
      · obtain ⟨hn3, hn, hd1, hd2, hfit⟩ : 3 ≤ n ∧ n ≤ 66 ∧ 1 ≤ d ∧ d ≤ 256 ∧ i + n ≤ xs.length := by
          rcases hsp with h | h
          · simp at h; omega
          · exact ⟨h.1, h.2.1, h.2.2.1, h.2.2.2.1, h.2.2.2.2.2.1⟩
        clear hsp
        have h3' : ((n : Int) == 0) = false := by simp; omega
        have hseg : ((xs.drop b).take (i - b)).length = i - b := by simp; omega
        have HSeg : Hid ((xs.drop b).take (i - b) = (xs.take i).drop b) := by
          show _ = _
          rw [List.drop_take]
        have hbs := hb.sub b (i - b)
        generalize (xs.drop b).take (i - b) = seg at *
        go_wp2_with fail
        refine (run_n w _ _ zs (some ⟨bk, off + b, none⟩) seg (i - b) (cap - b) hseg.symm (by omega) (by have := HL.out; omega) (by omega) (by unfold maxLen; omega) hbs hbl1 ho1).mono ?_
        rintro e w3 ⟨v3, rfl, o3, b3⟩
        obtain ⟨z3, e3⟩ : ∃ z3, Hid (z3 = zs ++ runOf seg) := ⟨_, rfl⟩
        rw [← e3.out] at o3
        have L3 : Hid (z3.length ≤ 2 * i) := by
          have := runOf_length seg
          show _ ≤ _
          rw [e3.out, List.length_append]
          have := HL.out
          omega
        clear ho1 hbl1 hbs hseg
        have hs3 := src_two w3 (y := 128 + (n : Int) - 3) (z := (d : Int) - 1) (by omega) (by omega) (by omega) (by omega)
        have o3a := o3.alloc (.cells #[.int .u8 (128 + (n : Int) - 3), .int .u8 ((d : Int) - 1)] 5)
        have b3a := b3.alloc b3.size (.cells #[.int .u8 (128 + (n : Int) - 3), .int .u8 ((d : Int) - 1)] 5)
        clear o3 b3
        go_wp2_with (at_builtin; go_must (refine wpApp rfl (.tmp 28) (.tmp 36) 22 rfl w.heap.size _ z3 rfl o3a _ _ rfl 2 hs3 (by have := L3.out; simp; omega) b3a.size ?_))
        intro v4 w4 z4 e4 o4 g4
        have b4 := below_own b3a o3a g4 (Nat.le_refl _)
        have HP2 : Hid (z4 ++ packGo xs f' (i + n) (i + n) = packOf xs) := by
          rw [← HP.out, packGo_copy xs f' i b hlt (by rw [HE.out]; exact h3), HE.out, e4.out, e3.out, HSeg.out, show (128 + (n : Int) - 3).toNat = 128 + n - 3 from by omega]
          simp [Hid]
        have HF2 : Hid (xs.length ≤ i + n + f') := by have := HF.out; show _ ≤ _; omega
        have HL2 : Hid (z4.length ≤ 2 * (i + n)) := by
          show _ ≤ _
          rw [e4.out, List.length_append]
          have := L3.out
          simp
          omega
        clear g4 o3a b3a hs3 HP HF
        go_wp2
        go_roundw
        case rel => exact ⟨i + n, i + n, f', z4, by omega, by omega, by go_num, by go_num, o4, HF2, HP2, HL2, b4⟩
        case measure => simp [intOf]; omega
    · obtain ⟨tl, HT⟩ : ∃ tl, Hid (tl = xs.drop b) := ⟨_, rfl⟩
      have HP3 : Hid (zs ++ runOf tl = packOf xs) := by
        have h := HP.out
        rw [packGo_end xs f i b (by omega)] at h
        rw [HT.out]
        exact h
      clear HP HF
      have HTL : Hid (tl.length = xs.length - b) := by show _ = _; rw [HT.out]; simp
      have hcl : ∀ (V : Value) (A : Option Addr) (N C : Nat), N = xs.length - b → N ≤ C → C ≤ maxLen → Bts w A tl → Own w.heap.size wr V zs →
          Calls Try.prog 69 #[V, .slice A N C] wr fun e w' => ∃ v, e = .returned v ∧ Own w.heap.size w' v (zs ++ runOf tl) ∧ Below w.heap.size w w' :=
        fun V A N C h1 h2 h3 h4 h5 => run_n w wr V zs A tl N C (by rw [← HTL.out] at h1; exact h1) (by have := HTL.out; omega) (by have := HL.out; omega) (by have := HTL.out; omega) h3 h4 hbl h5
      have HCL := hide hcl
      clear hcl
      by_cases h0 : xs.length = 0
      · have hi0 : i = 0 := by omega
        have hx : tl = [] := List.eq_nil_of_length_eq_zero (by have := HTL.out; omega)
        have hbn : ∀ A, Bts w A tl := fun A => by rw [hx]; exact Bts.nil _ _
        have hbn' := hide hbn
        have h0' : xs.length < 1 := by omega
        have hb0 : b = 0 := by omega
        subst hi0 hb0
        clear hbn hx
        go_wp2_with fail
        refine (unhide HCL _ _ _ _ (by omega) (by omega) (by unfold maxLen; omega) (unhide hbn' _) ho).mono ?_
        rintro e w2 ⟨v2, rfl, o2, b2⟩
        have HZ : Hid (zs ++ runOf tl = packOf xs) := HP3
        rw [HZ.out] at o2
        clear ho hbl HP3 HZ
        go_wp2
        go_ret
        exact ⟨v2, rfl, o2, b2⟩
      · obtain ⟨bk, off, rfl, hc⟩ := hb 0 (by omega)
        clear hc
        by_cases hcb : b < cap
        · have hbs : Bts w (some ⟨bk, off + b, none⟩) tl := by rw [HT.out]; exact hb.from b
          go_wp2_with fail
          refine (unhide HCL _ _ _ _ (by omega) (by omega) (by unfold maxLen; omega) hbs ho).mono ?_
          rintro e w2 ⟨v2, rfl, o2, b2⟩
          have HZ : Hid (zs ++ runOf tl = packOf xs) := HP3
          rw [HZ.out] at o2
          clear ho hbl HP3 HZ
          go_wp2
          go_ret
          exact ⟨v2, rfl, o2, b2⟩
        · have hx : tl = [] := List.eq_nil_of_length_eq_zero (by have := HTL.out; omega)
          have hbn : ∀ A, Bts w A tl := fun A => by rw [hx]; exact Bts.nil _ _
          have hbn' := hide hbn
          clear hx hbn
          go_wp2_with fail
          refine (unhide HCL _ _ _ _ (by omega) (by omega) (by unfold maxLen; omega) (unhide hbn' _) ho).mono ?_
          rintro e w2 ⟨v2, rfl, o2, b2⟩
          have HZ : Hid (zs ++ runOf tl = packOf xs) := HP3
          rw [HZ.out] at o2
          clear ho hbl HP3 HZ
          go_wp2
          go_ret
          exact ⟨v2, rfl, o2, b2⟩

/-- The answers of Pack. -/
def packBytes (xs : List UInt8) : List UInt8 := if xs.length ≤ 600 then packOf xs else []
def packErr (xs : List UInt8) : Nat := if xs.length ≤ 600 then 0 else 7

set_option maxRecDepth 100000 in
set_option maxHeartbeats 400000 in
theorem Pack_any (a : Option Addr) (xs : List UInt8) (cap : Nat) (w : World) (hm : xs.length ≤ 140737488355328) (hcap : xs.length ≤ cap) (hcm : cap ≤ maxLen) (hb : Bts w a xs) :
    Calls Try.prog 17 #[.slice a xs.length cap] w fun e w' => ∃ v, e = .returned (.tuple #[v, .int .i64 (packErr xs : Nat)]) ∧ Own w.heap.size w' v (packBytes xs) ∧ Below w.heap.size w w' := by
  by_cases h : xs.length ≤ 600
  · have HB : Hid (packBytes xs = packOf xs ∧ packErr xs = 0) := ⟨by simp [packBytes, h], by simp [packErr, h]⟩
    rw [HB.out.1, HB.out.2]
    go_enter Try.func17, Try.ntmps17
    go_wp2_with (go_at_call 44; refine (packBody_any a xs cap _ (by omega) hcap hcm hb).mono ?_; rintro e w' ⟨v, rfl, o, b⟩)
    go_ret2
    exact ⟨v, rfl, o, b⟩
  · have HB : Hid (packBytes xs = [] ∧ packErr xs = 7) := ⟨by simp [packBytes, h], by simp [packErr, h]⟩
    rw [HB.out.1, HB.out.2]
    go_enter Try.func17, Try.ntmps17
    go_wp2
    go_ret2
    exact ⟨_, rfl, Own.nil _ _, Below.refl _ _⟩

set_option maxRecDepth 100000 in
set_option maxHeartbeats 400000 in
theorem refPack_any (a : Option Addr) (xs : List UInt8) (cap : Nat) (w : World) (hm : xs.length ≤ 140737488355328) (hcap : xs.length ≤ cap) (hcm : cap ≤ maxLen) (hb : Bts w a xs) :
    Calls Try.prog 18 #[.slice a xs.length cap] w fun e w' => ∃ v, e = .returned (.tuple #[v, .int .i64 (packErr xs : Nat)]) ∧ Own w.heap.size w' v (packBytes xs) ∧ Below w.heap.size w w' := by
  by_cases h : xs.length ≤ 600
  · have HB : Hid (packBytes xs = packOf xs ∧ packErr xs = 0) := ⟨by simp [packBytes, h], by simp [packErr, h]⟩
    rw [HB.out.1, HB.out.2]
    go_enter Try.func18, Try.ntmps18
    go_wp2_with (go_at_call 45; refine (packed_any a xs cap _ (by omega) hcap hcm hb).mono ?_; rintro e w' ⟨v, rfl, o, b⟩)
    go_ret2
    exact ⟨v, rfl, o, b⟩
  · have HB : Hid (packBytes xs = [] ∧ packErr xs = 7) := ⟨by simp [packBytes, h], by simp [packErr, h]⟩
    rw [HB.out.1, HB.out.2]
    go_enter Try.func18, Try.ntmps18
    go_wp2
    go_ret2
    exact ⟨_, rfl, Own.nil _ _, Below.refl _ _⟩

end Go.Proofs.Ytggakcalcmjolaa
