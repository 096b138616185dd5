import Derived.Test.YtggakcalcmjolaaWun2
namespace Go.Proofs.Ytggakcalcmjolaa
open Go.RowKit

set_option maxRecDepth 100000 in
set_option maxHeartbeats 2000000 in
theorem refUnpack_any (a : Option Addr) (xs : List UInt8) (cap : Nat) (w : World) (hm : xs.length ≤ 140737488355328) (hcap : xs.length ≤ cap) (hcm : cap ≤ maxLen) (hb : Bts w a xs) :
    Calls Try.prog 21 #[.slice a xs.length cap] w fun e w' => Answers w w' e (unOf xs) := by
  unfold maxLen at hcm
  go_enter Try.func21, Try.ntmps21
  go_wp2
  go_loopw [0, 4] (fun p v wr => ∃ (m c f : Nat) (al : Option Addr) (ls zs : List UInt8), m ≤ c ∧ c ≤ 9223372036854775807 ∧ p = .slice al m c ∧ Hid (m = ls.length) ∧ m ≤ 140737488355328 ∧ Bts w al ls ∧ Own w.heap.size wr v zs ∧ zs.length ≤ 600 ∧ Hid (ls.length ≤ f) ∧ Hid (unGo f ls zs = unOf xs) ∧ Below w.heap.size w wr) (fun p _ _ => match p with | .slice _ m _ => m | _ => 0)
  case atStart => exact ⟨xs.length, cap, xs.length, a, xs, [], hcap, hcm, rfl, rfl, hm, hb, Own.nil _ _, by simp, by simp [Hid], rfl, Below.refl _ _⟩
  case round =>
    obtain ⟨m, c, f, al, ls, zs, hmc, hc63, rfl, HN, hm47, hbl0, ho, hzl, HF, HU, hbl⟩ := hrel
    obtain ⟨av, cv, rfl, hbz, hcz, hcz2⟩ := ho.shape
    by_cases hlt : 0 < m
    · obtain ⟨b, off, rfl, hc0⟩ := (hbl0.carry hbl) 0 (by have := HN.out; omega)
      rw [Nat.add_zero] at hc0
      obtain ⟨f', rfl⟩ : ∃ f', f = f' + 1 := ⟨f - 1, by have := HF.out; have := HN.out; omega⟩
      have Hne : Hid (ls.length ≠ 0) := by have := HN.out; show _ ≠ _; omega
      have hx := (ls.getD 0 0).toNat_lt
      obtain ⟨h, HCc⟩ : ∃ h, Hid (h = headOf ls) := ⟨_, rfl⟩
      rw [show (ls.getD 0 0).toNat = h from HCc.out.symm] at hc0 hx
      by_cases hc1 : h < 128
      · by_cases hc2 : m < h + 2
        · have HE : Hid (unOf xs = ([], 12)) := by
            rw [← HU.out]
            exact unGo_short f' _ zs Hne.out (by rw [← HCc.out]; exact hc1) (by rw [← HCc.out, ← HN.out]; exact hc2)
          go_wp2
          go_ret2
          exact answers_nil HE.out hbl
        · obtain ⟨seg, HSeg⟩ : ∃ seg, Hid (seg = (ls.drop 1).take (h + 1)) := ⟨_, rfl⟩
          have HSl : Hid (seg.length = h + 1) := by
            have := HN.out
            show _ = _
            rw [HSeg.out]
            simp
            omega
          have hbs : Bts wr (some ⟨b, off + 1, none⟩) seg := by rw [HSeg.out]; exact (hbl0.carry hbl).sub 1 (h + 1)
          have hs2 : ∀ n cp, n = h + 1 → Src Try.prog 1 22 (.slice (some ⟨b, off + 1, none⟩) n cp) n (cells seg) wr := fun n cp hn => src_bts Try.underlying22 hbs (by have := HSl.out; omega)
          have hz2 : decide ((m : Int) < (h : Int) + 2) = false := by simp; omega
          clear hbs
          go_wp2_with (at_builtin; go_must (refine wpApp rfl (.tmp 30) (.tmp 33) 22 rfl w.heap.size _ zs rfl ho _ seg rfl _ (hs2 _ _ (by omega)) (by have := HSl.out; omega) hbl.size ?_))
          intro v3 w3 z3 e3 o3 g3
          have b3 := below_own hbl ho g3 (Nat.le_refl _)
          obtain ⟨a3, c3, rfl, -, -, -⟩ := o3.shape
          clear g3 ho hbl hbz hs2
          by_cases hbig : 600 < z3.length
          · have HE : Hid (unOf xs = ([], 7)) := by
              rw [← HU.out]
              exact unGo_litbig f' _ zs Hne.out (by rw [← HCc.out]; exact hc1) (by rw [← HCc.out, ← HN.out]; exact hc2) (by rw [← HCc.out, ← HSeg.out, ← e3.out]; exact hbig)
            go_wp2
            go_ret2
            exact answers_nil HE.out b3
          · have HU2 : Hid (unGo f' (ls.drop (h + 2)) z3 = unOf xs) := by
              rw [← HU.out, unGo_lit f' _ zs Hne.out (by rw [← HCc.out]; exact hc1) (by rw [← HCc.out, ← HN.out]; exact hc2) (by rw [← HCc.out, ← HSeg.out, ← e3.out]; exact hbig), ← HCc.out, ← HSeg.out, ← e3.out]
              rfl
            have HN2 : Hid (m - (h + 2) = (ls.drop (h + 2)).length) := by show _ = _; rw [List.length_drop, ← HN.out]
            have HF2 : Hid ((ls.drop (h + 2)).length ≤ f') := by have := HF.out; show _ ≤ _; simp; omega
            clear HU HF hz2
            by_cases hcn : h + 2 < c
            · have hb4 : Bts w (some ⟨b, off + (h + 2), none⟩) (ls.drop (h + 2)) := hbl0.from (h + 2)
              go_wp2
              go_roundw
              case rel => exact ⟨m - (h + 2), c - (h + 2), f', some ⟨b, off + (h + 2), none⟩, ls.drop (h + 2), z3, by omega, by omega, by first | rfl | (simp; done), HN2, by omega, hb4, o3, by omega, HF2, HU2, b3⟩
              case measure => simp; omega
            · have hL : ls.drop (h + 2) = [] := List.eq_nil_of_length_eq_zero (by have := HN2.out; omega)
              have HU3 : Hid (unGo f' [] z3 = unOf xs) := by rw [← hL]; exact HU2.out
              clear hL
              go_wp2
              go_roundw
              case rel => exact ⟨0, 0, f', some ⟨b, off, none⟩, [], z3, by omega, by omega, by simp; omega, rfl, by omega, Bts.nil _ _, o3, by omega, by simp [Hid], HU3, b3⟩
              case measure => simp; omega
      · by_cases hc2 : 191 < h
        · have HE : Hid (unOf xs = ([], 12)) := by
            rw [← HU.out]
            exact unGo_none f' _ zs Hne.out (by rw [← HCc.out]; exact hc1) (.inl (by rw [← HCc.out]; exact hc2))
          go_wp2
          go_ret2
          exact answers_nil HE.out hbl
        · by_cases hc3 : m < 2
          · have HE : Hid (unOf xs = ([], 12)) := by
              rw [← HU.out]
              exact unGo_none f' _ zs Hne.out (by rw [← HCc.out]; exact hc1) (.inr (.inl (by rw [← HN.out]; exact hc3)))
            go_wp2
            go_ret2
            exact answers_nil HE.out hbl
          · obtain ⟨b', off', e', hc4⟩ := (hbl0.carry hbl) 1 (by have := HN.out; omega)
            simp only [Option.some.injEq, Addr.mk.injEq, and_true] at e'
            obtain ⟨rfl, rfl⟩ := e'
            have hy := (ls.getD 1 0).toNat_lt
            obtain ⟨y, HD⟩ : ∃ y, Hid (distOf ls = y + 1 ∧ (ls.getD 1 0).toNat = y) := ⟨(ls.getD 1 0).toNat, rfl, rfl⟩
            rw [HD.out.2] at hc4 hy
            by_cases hd : zs.length < y + 1
            · have HE : Hid (unOf xs = ([], 12)) := by
                rw [← HU.out]
                exact unGo_none f' _ zs Hne.out (by rw [← HCc.out]; exact hc1) (.inr (.inr (by rw [HD.out.1]; exact hd)))
              go_wp2
              go_ret2
              exact answers_nil HE.out hbl
            · have hg1 : decide ((128 : Int) ≤ (h : Int)) = true := by simp; omega
              have hg2 : decide ((191 : Int) < (h : Int)) = false := by simp; omega
              have hg3 : decide ((m : Int) < 2) = false := by simp; omega
              have hg4 : decide ((h : Int) < 128) = false := by simp; omega
              have hg5 : decide ((zs.length : Int) < (y : Int) + 1) = false := by simp; omega
              go_wp2
              go_loopw [4, 8] (fun v i wr => ∃ (j : Nat) (ys : List UInt8), j ≤ h - 125 ∧ i = .int .i64 j ∧ Own w.heap.size wr v ys ∧ Hid (ys = copyOut zs (y + 1) j) ∧ Below w.heap.size w wr) (fun _ i _ => h - 125 - (intOf i).toNat)
              case atStart => exact ⟨0, zs, by omega, rfl, ho, rfl, hbl⟩
              clear ho hbl hbz
              case round =>
                obtain ⟨j, ys, hj, rfl, ho, HY, hbl⟩ := hrel
                obtain ⟨av2, cv2, rfl, hbz, hcz3, hcz4⟩ := ho.shape
                have HYl : Hid (ys.length = zs.length + j) := by show _ = _; rw [HY.out, copyOut_length]
                have hyl := HYl.out
                generalize hL : ys.length = L at *
                have HL := hide hL
                clear hL
                by_cases hjn : j < h - 125
                · obtain ⟨b2, off2, rfl, hc5⟩ := hbz (L - (y + 1)) (by rw [HL.out]; omega)
                  have HN3 : Hid (copyOut zs (y + 1) (j + 1) = ys ++ [ys.getD (L - (y + 1)) 0]) := by show _ = _; rw [copyOut, ← HY.out, HL.out]
                  generalize ys.getD (L - (y + 1)) 0 = x at *
                  have hs1 := src_byte wr x
                  have ho1 := ho.alloc (.cells #[.int .u8 (x.toNat : Int)] 5)
                  have hbl1 := hbl.alloc hbl.size (.cells #[.int .u8 (x.toNat : Int)] 5)
                  have hjn' : (j : Int) < (h : Int) - 128 + 3 := by omega
                  have HYL := hide hyl
                  have hL1 : y + 1 ≤ L := by omega
                  have hL2 : L ≤ 1000 := by omega
                  clear hyl HYl
                  go_wp2_with (at_builtin; go_must (refine wpApp rfl (.tmp 51) (.tmp 59) 22 rfl w.heap.size _ ys rfl ho1 _ _ rfl 1 hs1 (by have := HL.out; simp; omega) hbl1.size ?_))
                  intro v2 w2 z2 e2 o2 g2
                  have b2' := below_own hbl1 ho1 g2 (Nat.le_refl _)
                  have HY2 : Hid (z2 = copyOut zs (y + 1) (j + 1)) := by show _ = _; rw [HN3.out, e2.out]
                  clear g2 ho1 hbl1 hs1 ho hbl
                  go_wp2
                  go_roundw
                  case rel => first | exact ⟨j + 1, z2, by omega, by go_num, o2, HY2, b2'⟩ | ((repeat apply Exists.intro); exact ⟨⟨j + 1, z2, by omega, by go_num, o2, HY2, b2'⟩, rfl⟩)
                  case measure => simp [intOf]; omega
                · have hjn' : ¬ (j : Int) < (h : Int) - 128 + 3 := by omega
                  have hje : j = h - 125 := by omega
                  have HZ : Hid (copyOut zs (distOf ls) (headOf ls - 125) = ys) := by show _ = _; rw [HD.out.1, ← HCc.out, HY.out, hje]
                  clear hje HYl hyl
                  by_cases hbig : 600 < L
                  · have HE : Hid (unOf xs = ([], 7)) := by
                      rw [← HU.out]
                      exact unGo_copybig f' _ zs Hne.out (by rw [← HCc.out]; exact hc1) (by rw [← HCc.out]; exact hc2) (by rw [← HN.out]; exact hc3) (by rw [HD.out.1]; exact hd) (by rw [HZ.out, HL.out]; exact hbig)
                    go_wp2
                    go_ret2
                    exact answers_nil HE.out hbl
                  · have HU2 : Hid (unGo f' (ls.drop 2) ys = unOf xs) := by
                      rw [← HU.out, unGo_copy f' _ zs Hne.out (by rw [← HCc.out]; exact hc1) (by rw [← HCc.out]; exact hc2) (by rw [← HN.out]; exact hc3) (by rw [HD.out.1]; exact hd) (by rw [HZ.out, HL.out]; exact hbig), HZ.out]
                      rfl
                    have HN2 : Hid (m - 2 = (ls.drop 2).length) := by show _ = _; rw [List.length_drop, ← HN.out]
                    have HF2 : Hid ((ls.drop 2).length ≤ f') := by have := HF.out; show _ ≤ _; simp; omega
                    clear HU HF
                    by_cases hcn : 2 < c
                    · have hb4 : Bts w (some ⟨b, off + 2, none⟩) (ls.drop 2) := hbl0.from (2)
                      go_wp2
                      go_roundw
                      case rel => first | exact ⟨m - 2, c - 2, f', some ⟨b, off + 2, none⟩, ls.drop 2, ys, by omega, by omega, by first | rfl | (simp; done), HN2, by omega, hb4, ho, by have := HL.out; omega, HF2, HU2, hbl⟩ | ((repeat apply Exists.intro); exact ⟨⟨m - 2, c - 2, f', some ⟨b, off + 2, none⟩, ls.drop 2, ys, by omega, by omega, by first | rfl | (simp; done), HN2, by omega, hb4, ho, by have := HL.out; omega, HF2, HU2, hbl⟩, rfl⟩)
                      case measure => simp; omega
                    · have hL : ls.drop 2 = [] := List.eq_nil_of_length_eq_zero (by have := HN2.out; omega)
                      have HU3 : Hid (unGo f' [] ys = unOf xs) := by rw [← hL]; exact HU2.out
                      clear hL
                      go_wp2
                      go_roundw
                      case rel => first | exact ⟨0, 0, f', some ⟨b, off, none⟩, [], ys, by omega, by omega, by simp; omega, rfl, by omega, Bts.nil _ _, ho, by have := HL.out; omega, by simp [Hid], HU3, hbl⟩ | ((repeat apply Exists.intro); exact ⟨⟨0, 0, f', some ⟨b, off, none⟩, [], ys, by omega, by omega, by simp; omega, rfl, by omega, Bts.nil _ _, ho, by have := HL.out; omega, by simp [Hid], HU3, hbl⟩, rfl⟩)
                      case measure => simp; omega
    · have HE : Hid (unOf xs = (zs, 0)) := by
        have h := HU.out
        rw [unGo_end f _ zs (by have := HN.out; omega)] at h
        exact h.symm
      go_wp2
      go_ret2
      exact answers_ok HE.out ho hbl

end Go.Proofs.Ytggakcalcmjolaa
