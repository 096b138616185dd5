import Derived.Test.YtgncohclofdhmaaGreatWpk
import Derived.Test.YtgncohclofdhmaaGreatMall
namespace Go.Proofs.YtgncohclofdhmaaGreat
open Go.RowKit

set_option maxRecDepth 100000 in
set_option maxHeartbeats 400000 in
theorem pieceSize_lit (h : Nat) (w : World) (h1 : h < 128) : Calls Tryz.prog 63 #[.int .i64 h] w fun e w' => e = .returned (.int .i64 ((h : Int) + 2)) ∧ w' = w := by
  go_enter Tryz.func63, Tryz.ntmps63
  go_wp2
  go_ret
  exact ⟨rfl, rfl⟩

set_option maxRecDepth 100000 in
set_option maxHeartbeats 400000 in
theorem pieceSize_copy (h : Nat) (w : World) (h1 : 128 ≤ h) (h2 : h ≤ 191) : Calls Tryz.prog 63 #[.int .i64 h] w fun e w' => e = .returned (.int .i64 2) ∧ w' = w := by
  go_enter Tryz.func63, Tryz.ntmps63
  go_wp2
  go_ret
  exact ⟨rfl, rfl⟩

set_option maxRecDepth 100000 in
set_option maxHeartbeats 400000 in
theorem pieceSize_none (h : Nat) (w : World) (h1 : 191 < h) (h2 : h < 256) : Calls Tryz.prog 63 #[.int .i64 h] w fun e w' => e = .returned (.int .i64 0) ∧ w' = w := by
  go_enter Tryz.func63, Tryz.ntmps63
  go_wp2
  go_ret
  exact ⟨rfl, rfl⟩

theorem src_byte (w : World) (x : UInt8) :
    Src Tryz.prog 1 29 (.slice (some ⟨w.heap.size, 0, none⟩) 1 1) 1 (cells [x]) (w.alloc (.cells #[.int .u8 (x.toNat : Int)] 5)) := by
  refine Src.ofSlice _ Tryz.underlying29 ⟨w.heap.size, 0, none⟩ 1 1 _ (by simp [cells]) (cell_one_new _ _ _) ?_
  intro u hu
  simp [cells, cell] at hu
  subst hu
  rfl

set_option maxRecDepth 100000 in
set_option maxHeartbeats 1000000 in
theorem copied_any (a : Option Addr) (xs : List UInt8) (cap n d : Nat) (w : World) (hm : xs.length ≤ 1000000) (hn : n ≤ 1000) (hd1 : 1 ≤ d) (hd2 : d ≤ xs.length) (hb : Bts w a xs) :
    Calls Tryz.prog 64 #[.slice a xs.length cap, .int .i64 n, .int .i64 d] w fun e w' => ∃ v zs, e = .returned v ∧ xs ++ zs = copyOut xs d n ∧ Own w.heap.size w' v zs ∧ Below w.heap.size w w' := by
  go_enter Tryz.func64, Tryz.ntmps64
  go_wp2
  go_loopw [7, 8, 9] (fun v i _ wr => ∃ (k : Nat) (zs : List UInt8), k ≤ n ∧ i = .int .i64 k ∧ Own w.heap.size wr v zs ∧ Hid (zs.length = k) ∧ Hid (xs ++ zs = copyOut xs d k) ∧ Below w.heap.size w wr) (fun _ i _ _ => n - (intOf i).toNat)
  case atStart => exact ⟨0, [], by omega, rfl, Own.nil _ _, rfl, by simp [Hid, copyOut], Below.refl _ _⟩
  case round =>
    obtain ⟨k, zs, hk, rfl, ho, HL, HC, hbl⟩ := hrel
    by_cases hlt : k < n
    · have HNx := hide (copyOut_next xs zs d k hd2 HL.out HC.out)
      by_cases hkd : k < d
      · obtain ⟨b, off, rfl, hc⟩ := (hb.carry hbl) (xs.length - d + k) (by omega)
        have hx := (xs.getD (xs.length - d + k) 0).toNat_lt
        have HN := hide (HNx.out _ (by rw [if_pos hkd]))
        generalize xs.getD (xs.length - d + k) 0 = x at *
        have hs1 := src_byte wr x
        have ho1 := ho.alloc (.cells #[.int .u8 (x.toNat : Int)] 5)
        have hbl1 := hbl.alloc hbl.size (.cells #[.int .u8 (x.toNat : Int)] 5)
        clear HNx
        go_wp2_with (at_builtin; go_must (refine wpApp rfl (.tmp 33) (.tmp 35) 29 rfl w.heap.size _ zs rfl ho1 _ _ rfl 1 hs1 (by have := HL.out; simp; omega) hbl1.size ?_))
        intro v2 w2 z2 e2 o2 g2
        have b2 := below_own hbl1 ho1 g2 (Nat.le_refl _)
        have HC2 : Hid (xs ++ z2 = copyOut xs d (k + 1)) := by rw [e2.out]; exact HN.out
        have HL2 : Hid (z2.length = k + 1) := by show _ = _; rw [e2.out, List.length_append, HL.out]; rfl
        clear g2 ho1 hbl1 hs1 ho hbl
        go_wp2
        go_roundw
        case rel => exact ⟨k + 1, z2, by omega, by go_num, o2, HL2, HC2, b2⟩
        case measure => simp [intOf]; omega
      · obtain ⟨a1, c1, rfl, hbz, -, -⟩ := ho.shape
        obtain ⟨b, off, rfl, hc⟩ := hbz (k - d) (by have := HL.out; omega)
        have hx := (zs.getD (k - d) 0).toNat_lt
        have HN := hide (HNx.out _ (by rw [if_neg hkd]))
        generalize zs.getD (k - d) 0 = x at *
        rw [HL.out]
        rw [HL.out] at ho
        have hs1 := src_byte wr x
        have ho1 := ho.alloc (.cells #[.int .u8 (x.toNat : Int)] 5)
        have hbl1 := hbl.alloc hbl.size (.cells #[.int .u8 (x.toNat : Int)] 5)
        clear HNx
        go_wp2_with (at_builtin; go_must (refine wpApp rfl (.tmp 33) (.tmp 35) 29 rfl w.heap.size _ zs rfl ho1 _ _ rfl 1 hs1 (by have := HL.out; simp; omega) hbl1.size ?_))
        intro v2 w2 z2 e2 o2 g2
        have b2 := below_own hbl1 ho1 g2 (Nat.le_refl _)
        have HC2 : Hid (xs ++ z2 = copyOut xs d (k + 1)) := by rw [e2.out]; exact HN.out
        have HL2 : Hid (z2.length = k + 1) := by show _ = _; rw [e2.out, List.length_append, HL.out]; rfl
        clear g2 ho1 hbl1 hs1 ho hbl
        go_wp2
        go_roundw
        case rel => exact ⟨k + 1, z2, by omega, by go_num, o2, HL2, HC2, b2⟩
        case measure => simp [intOf]; omega
    · have hkn : k = n := by omega
      subst hkn
      go_wp2
      go_ret
      exact ⟨_, zs, rfl, HC.out, ho, hbl⟩

end Go.Proofs.YtgncohclofdhmaaGreat

namespace Go.Proofs.YtgncohclofdhmaaGreat
open Go.RowKit

theorem headOf_drop (xs : List UInt8) (k : Nat) : headOf (xs.drop k) = (xs.getD k 0).toNat := by
  unfold headOf
  rw [List.getD_eq_getElem?_getD, List.getD_eq_getElem?_getD, List.getElem?_drop, Nat.add_zero]

theorem distOf_drop (xs : List UInt8) (k : Nat) : distOf (xs.drop k) = (xs.getD (k + 1) 0).toNat + 1 := by
  unfold distOf
  rw [List.getD_eq_getElem?_getD, List.getD_eq_getElem?_getD, List.getElem?_drop]

/-- What is answered: bytes and an error. -/
def Answers (w w' : World) (e : Ending) (r : List UInt8 × Nat) : Prop :=
  ∃ v, e = .returned (.tuple #[v, .int .i64 (r.2 : Nat)]) ∧ Own w.heap.size w' v r.1 ∧ Below w.heap.size w w'

theorem answers_nil {w w' : World} {r : List UInt8 × Nat} {n : Nat} (h : r = ([], n)) (hb : Below w.heap.size w w') : Answers w w' (.returned (.tuple #[.slice none 0 0, .int .i64 (n : Int)])) r := by
  subst h
  exact ⟨_, rfl, Own.nil _ _, hb⟩

theorem answers_ok {w w' : World} {r : List UInt8 × Nat} {v : Value} {zs : List UInt8} (h : r = (zs, 0)) (ho : Own w.heap.size w' v zs) (hb : Below w.heap.size w w') : Answers w w' (.returned (.tuple #[v, .int .i64 0])) r := by
  subst h
  exact ⟨_, rfl, ho, hb⟩

set_option maxRecDepth 100000 in
set_option maxHeartbeats 2000000 in
theorem Unpack_any (a : Option Addr) (xs : List UInt8) (cap : Nat) (w : World) (hm : xs.length ≤ 140737488355328) (hcap : xs.length ≤ cap) (hcm : cap ≤ maxLen) (hb : Bts w a xs) :
    Calls Tryz.prog 32 #[.slice a xs.length cap] w fun e w' => Answers w w' e (unOf xs) := by
  unfold maxLen at hcm
  go_enter Tryz.func32, Tryz.ntmps32
  go_wp2
  go_loopw [4, 5] (fun v p wr => ∃ (k f : Nat) (zs : List UInt8), k ≤ xs.length ∧ p = .int .i64 k ∧ Own w.heap.size wr v zs ∧ Hid (xs.length ≤ k + f) ∧ Hid (unGo f (xs.drop k) zs = unOf xs) ∧ zs.length ≤ 600 ∧ Below w.heap.size w wr) (fun _ p _ => xs.length - (intOf p).toNat)
  case atStart => exact ⟨0, xs.length, [], by omega, rfl, Own.nil _ _, by simp [Hid], rfl, by simp, Below.refl _ _⟩
  case round =>
    obtain ⟨k, f, zs, hk, rfl, ho, HF, HU, hzl, hbl⟩ := hrel
    obtain ⟨av, cv, rfl, hbz, hcz, hcz2⟩ := ho.shape
    by_cases hlt : k < xs.length
    · obtain ⟨b, off, rfl, hc0⟩ := (hb.carry hbl) k hlt
      obtain ⟨f', rfl⟩ : ∃ f', f = f' + 1 := ⟨f - 1, by have := HF.out; omega⟩
      have hne : (xs.drop k).length ≠ 0 := by simp; omega
      have hdl : (xs.drop k).length = xs.length - k := by simp
      have HH := hide (headOf_drop xs k)
      have hx := (xs.getD k 0).toNat_lt
      rw [← HH.out] at hc0 hx
      obtain ⟨c, HCc⟩ : ∃ c, Hid (c = headOf (xs.drop k)) := ⟨_, rfl⟩
      rw [← HCc.out] at hc0 hx
      have Hne := hide hne
      have Hdl := hide hdl
      clear hne hdl HH
      by_cases hc1 : c < 128
      · by_cases hc2 : xs.length - k < c + 2
        · have HE : Hid (unOf xs = ([], 12)) := by
            rw [← HU.out]
            exact unGo_short f' _ zs Hne.out (by rw [← HCc.out]; exact hc1) (by rw [← HCc.out, Hdl.out]; exact hc2)
          go_wp2_with (go_at_call 63; refine (pieceSize_lit c _ hc1).mono ?_; rintro e w' ⟨rfl, rfl⟩)
          go_ret2
          exact answers_nil HE.out hbl
        · obtain ⟨seg, HSeg⟩ : ∃ seg, Hid (seg = (xs.drop (k + 1)).take (c + 1)) := ⟨_, rfl⟩
          have hsl : seg.length = c + 1 := by rw [HSeg.out]; simp; omega
          have HSl := hide hsl
          have hbs : Bts wr (some ⟨b, off + (k + 1), none⟩) seg := by rw [HSeg.out]; exact (hb.carry hbl).sub (k + 1) (c + 1)
          have hs2 : ∀ n cp, n = c + 1 → Src Tryz.prog 1 29 (.slice (some ⟨b, off + (k + 1), none⟩) n cp) n (cells seg) wr := fun n cp hn => src_bts Tryz.underlying29 hbs (by omega)
          have HD1 : Hid ((xs.drop k).drop 1 = xs.drop (k + 1)) := by show _ = _; rw [List.drop_drop]
          clear hsl hbs
          have hz1 : (((c : Int) + 2) == 0) = false := by simp; omega
          have hz2 : decide ((xs.length : Int) - k < (c : Int) + 2) = false := by simp; omega
          go_wp2_with (first | (go_at_call 63; refine (pieceSize_lit c _ hc1).mono ?_; rintro e w' ⟨rfl, rfl⟩) | (at_builtin; go_must (refine wpApp rfl (.tmp 57) (.tmp 58) 29 rfl w.heap.size _ zs rfl ho _ seg rfl _ (hs2 _ _ (by omega)) (by have := HSl.out; omega) hbl.size ?_)))
          intro v3 w3 z3 e3 o3 g3
          have b3 := below_own hbl ho g3 (Nat.le_refl _)
          obtain ⟨a3, c3, rfl, -, -, -⟩ := o3.shape
          clear g3 ho hbl hbz hs2
          by_cases hbig : 600 < z3.length
          · have HE : Hid (unOf xs = ([], 7)) := by
              rw [← HU.out]
              exact unGo_litbig f' _ zs Hne.out (by rw [← HCc.out]; exact hc1) (by rw [← HCc.out, Hdl.out]; exact hc2) (by rw [← HCc.out, HD1.out, ← HSeg.out, ← e3.out]; exact hbig)
            go_wp2
            go_ret2
            exact answers_nil HE.out b3
          · have HU2 : Hid (unGo f' (xs.drop (k + (c + 2))) z3 = unOf xs) := by
              rw [← HU.out, unGo_lit f' _ zs Hne.out (by rw [← HCc.out]; exact hc1) (by rw [← HCc.out, Hdl.out]; exact hc2) (by rw [← HCc.out, HD1.out, ← HSeg.out, ← e3.out]; exact hbig), ← HCc.out, HD1.out, ← HSeg.out, ← e3.out, List.drop_drop]
              rfl
            have HF2 : Hid (xs.length ≤ k + (c + 2) + f') := by have := HF.out; show _ ≤ _; omega
            clear HU HF
            go_wp2
            go_roundw
            case rel => exact ⟨k + (c + 2), f', z3, by omega, by go_num, o3, HF2, HU2, by omega, b3⟩
            case measure => simp [intOf]; omega
      · by_cases hc2 : 191 < c
        · have HE : Hid (unOf xs = ([], 12)) := by
            rw [← HU.out]
            exact unGo_none f' _ zs Hne.out (by rw [← HCc.out]; exact hc1) (.inl (by rw [← HCc.out]; exact hc2))
          go_wp2_with (go_at_call 63; refine (pieceSize_none c _ hc2 hx).mono ?_; rintro e w' ⟨rfl, rfl⟩)
          go_ret2
          exact answers_nil HE.out hbl
        · by_cases hc3 : xs.length - k < 2
          · have HE : Hid (unOf xs = ([], 12)) := by
              rw [← HU.out]
              exact unGo_none f' _ zs Hne.out (by rw [← HCc.out]; exact hc1) (.inr (.inl (by rw [Hdl.out]; exact hc3)))
            go_wp2_with (go_at_call 63; refine (pieceSize_copy c _ (by omega) (by omega)).mono ?_; rintro e w' ⟨rfl, rfl⟩)
            go_ret2
            exact answers_nil HE.out hbl
          · obtain ⟨b', off', e', hc4⟩ := (hb.carry hbl) (k + 1) (by omega)
            simp only [Option.some.injEq, Addr.mk.injEq, and_true] at e'
            obtain ⟨rfl, rfl⟩ := e'
            have HD := hide (distOf_drop xs k)
            have hy := (xs.getD (k + 1) 0).toNat_lt
            generalize (xs.getD (k + 1) 0).toNat = y at *
            by_cases hd : zs.length < y + 1
            · have HE : Hid (unOf xs = ([], 12)) := by
                rw [← HU.out]
                exact unGo_none f' _ zs Hne.out (by rw [← HCc.out]; exact hc1) (.inr (.inr (by rw [HD.out]; exact hd)))
              go_wp2_with (go_at_call 63; refine (pieceSize_copy c _ (by omega) (by omega)).mono ?_; rintro e w' ⟨rfl, rfl⟩)
              go_ret2
              exact answers_nil HE.out hbl
            · go_wp2_with (go_at_call 63; refine (pieceSize_copy c _ (by omega) (by omega)).mono ?_; rintro e w' ⟨rfl, rfl⟩)
              rw [show ((c : Int) - 128 + 3) = ((c - 125 : Nat) : Int) from by omega, show ((y : Int) + 1) = ((y + 1 : Nat) : Int) from by omega]
              refine (copied_any av zs cv (c - 125) (y + 1) _ (by omega) (by omega) (by omega) (by omega) hbz).mono ?_
              rintro e w1 ⟨v1, ys, rfl, HY, o1, b1⟩
              have hbl1 := hbl.trans (b1.mono hbl.size)
              have ho1 := ho.carry b1
              obtain ⟨a1, c1, rfl, hb1, -, -⟩ := o1.shape
              have HYl : Hid (ys.length = c - 125) := by
                have h := congrArg List.length HY
                rw [List.length_append, copyOut_length] at h
                show _ = _
                omega
              have HY' := hide HY
              clear HY b1 o1 ho hbl hbz
              go_wp2_with (at_builtin; go_must (refine wpApp rfl (.tmp 57) (.tmp 58) 29 rfl w.heap.size _ zs rfl ho1 _ ys rfl _ (src_bts Tryz.underlying29 hb1 rfl) (by have := HYl.out; omega) hbl1.size ?_))
              intro v3 w3 z3 e3 o3 g3
              have b3 := below_own hbl1 ho1 g3 (Nat.le_refl _)
              obtain ⟨a3, c3, rfl, -, -, -⟩ := o3.shape
              have HZ : Hid (copyOut zs (distOf (xs.drop k)) (headOf (xs.drop k) - 125) = z3) := by rw [HD.out, ← HCc.out, e3.out]; exact HY'.out.symm
              clear g3 ho1 hbl1 hb1
              by_cases hbig : 600 < z3.length
              · have HE : Hid (unOf xs = ([], 7)) := by
                  rw [← HU.out]
                  exact unGo_copybig f' _ zs Hne.out (by rw [← HCc.out]; exact hc1) (by rw [← HCc.out]; exact hc2) (by rw [Hdl.out]; exact hc3) (by rw [HD.out]; exact hd) (by rw [HZ.out]; exact hbig)
                go_wp2
                go_ret2
                exact answers_nil HE.out b3
              · have HU2 : Hid (unGo f' (xs.drop (k + 2)) z3 = unOf xs) := by
                  rw [← HU.out, unGo_copy f' _ zs Hne.out (by rw [← HCc.out]; exact hc1) (by rw [← HCc.out]; exact hc2) (by rw [Hdl.out]; exact hc3) (by rw [HD.out]; exact hd) (by rw [HZ.out]; exact hbig), HZ.out, List.drop_drop]
                  rfl
                have HF2 : Hid (xs.length ≤ k + 2 + f') := by have := HF.out; show _ ≤ _; omega
                clear HU HF
                go_wp2
                go_roundw
                case rel => exact ⟨k + 2, f', z3, by omega, by go_num, o3, HF2, HU2, by omega, b3⟩
                case measure => simp [intOf]; omega
    · have HE : Hid (unOf xs = (zs, 0)) := by
        have h := HU.out
        rw [unGo_end f _ zs (by simp; omega)] at h
        exact h.symm
      go_wp2
      go_ret2
      exact answers_ok HE.out ho hbl

end Go.Proofs.YtgncohclofdhmaaGreat

namespace Go.Proofs.YtgncohclofdhmaaGreat
open Go.RowKit

set_option maxRecDepth 100000 in
set_option maxHeartbeats 2000000 in
theorem refUnpack_any (a : Option Addr) (xs : List UInt8) (cap : Nat) (w : World) (hm : xs.length ≤ 140737488355328) (hcap : xs.length ≤ cap) (hcm : cap ≤ maxLen) (hb : Bts w a xs) :
    Calls Tryz.prog 33 #[.slice a xs.length cap] w fun e w' => Answers w w' e (unOf xs) := by
  unfold maxLen at hcm
  go_enter Tryz.func33, Tryz.ntmps33
  go_wp2
  go_loopw [0, 4] (fun p v wr => ∃ (m c f : Nat) (al : Option Addr) (ls zs : List UInt8), m ≤ c ∧ c ≤ 9223372036854775807 ∧ p = .slice al m c ∧ Hid (m = ls.length) ∧ m ≤ 140737488355328 ∧ Bts w al ls ∧ Own w.heap.size wr v zs ∧ zs.length ≤ 600 ∧ Hid (ls.length ≤ f) ∧ Hid (unGo f ls zs = unOf xs) ∧ Below w.heap.size w wr) (fun p _ _ => match p with | .slice _ m _ => m | _ => 0)
  case atStart => exact ⟨xs.length, cap, xs.length, a, xs, [], hcap, hcm, rfl, rfl, hm, hb, Own.nil _ _, by simp, by simp [Hid], rfl, Below.refl _ _⟩
  case round =>
    obtain ⟨m, c, f, al, ls, zs, hmc, hc63, rfl, HN, hm47, hbl0, ho, hzl, HF, HU, hbl⟩ := hrel
    obtain ⟨av, cv, rfl, hbz, hcz, hcz2⟩ := ho.shape
    by_cases hlt : 0 < m
    · obtain ⟨b, off, rfl, hc0⟩ := (hbl0.carry hbl) 0 (by have := HN.out; omega)
      rw [Nat.add_zero] at hc0
      obtain ⟨f', rfl⟩ : ∃ f', f = f' + 1 := ⟨f - 1, by have := HF.out; have := HN.out; omega⟩
      have Hne : Hid (ls.length ≠ 0) := by have := HN.out; show _ ≠ _; omega
      have hx := (ls.getD 0 0).toNat_lt
      obtain ⟨h, HCc⟩ : ∃ h, Hid (h = headOf ls) := ⟨_, rfl⟩
      rw [show (ls.getD 0 0).toNat = h from HCc.out.symm] at hc0 hx
      by_cases hc1 : h < 128
      · by_cases hc2 : m < h + 2
        · have HE : Hid (unOf xs = ([], 12)) := by
            rw [← HU.out]
            exact unGo_short f' _ zs Hne.out (by rw [← HCc.out]; exact hc1) (by rw [← HCc.out, ← HN.out]; exact hc2)
          go_wp2
          go_ret2
          exact answers_nil HE.out hbl
        · obtain ⟨seg, HSeg⟩ : ∃ seg, Hid (seg = (ls.drop 1).take (h + 1)) := ⟨_, rfl⟩
          have HSl : Hid (seg.length = h + 1) := by
            have := HN.out
            show _ = _
            rw [HSeg.out]
            simp
            omega
          have hbs : Bts wr (some ⟨b, off + 1, none⟩) seg := by rw [HSeg.out]; exact (hbl0.carry hbl).sub 1 (h + 1)
          have hs2 : ∀ n cp, n = h + 1 → Src Tryz.prog 1 29 (.slice (some ⟨b, off + 1, none⟩) n cp) n (cells seg) wr := fun n cp hn => src_bts Tryz.underlying29 hbs (by have := HSl.out; omega)
          have hz2 : decide ((m : Int) < (h : Int) + 2) = false := by simp; omega
          clear hbs
          go_wp2_with (at_builtin; go_must (refine wpApp rfl (.tmp 30) (.tmp 33) 29 rfl w.heap.size _ zs rfl ho _ seg rfl _ (hs2 _ _ (by omega)) (by have := HSl.out; omega) hbl.size ?_))
          intro v3 w3 z3 e3 o3 g3
          have b3 := below_own hbl ho g3 (Nat.le_refl _)
          obtain ⟨a3, c3, rfl, -, -, -⟩ := o3.shape
          clear g3 ho hbl hbz hs2
          by_cases hbig : 600 < z3.length
          · have HE : Hid (unOf xs = ([], 7)) := by
              rw [← HU.out]
              exact unGo_litbig f' _ zs Hne.out (by rw [← HCc.out]; exact hc1) (by rw [← HCc.out, ← HN.out]; exact hc2) (by rw [← HCc.out, ← HSeg.out, ← e3.out]; exact hbig)
            go_wp2
            go_ret2
            exact answers_nil HE.out b3
          · have HU2 : Hid (unGo f' (ls.drop (h + 2)) z3 = unOf xs) := by
              rw [← HU.out, unGo_lit f' _ zs Hne.out (by rw [← HCc.out]; exact hc1) (by rw [← HCc.out, ← HN.out]; exact hc2) (by rw [← HCc.out, ← HSeg.out, ← e3.out]; exact hbig), ← HCc.out, ← HSeg.out, ← e3.out]
              rfl
            have HN2 : Hid (m - (h + 2) = (ls.drop (h + 2)).length) := by show _ = _; rw [List.length_drop, ← HN.out]
            have HF2 : Hid ((ls.drop (h + 2)).length ≤ f') := by have := HF.out; show _ ≤ _; simp; omega
            clear HU HF hz2
            by_cases hcn : h + 2 < c
            · have hb4 : Bts w (some ⟨b, off + (h + 2), none⟩) (ls.drop (h + 2)) := hbl0.from (h + 2)
              go_wp2
              go_roundw
              case rel => exact ⟨m - (h + 2), c - (h + 2), f', some ⟨b, off + (h + 2), none⟩, ls.drop (h + 2), z3, by omega, by omega, by first | rfl | (simp; done), HN2, by omega, hb4, o3, by omega, HF2, HU2, b3⟩
              case measure => simp; omega
            · have hL : ls.drop (h + 2) = [] := List.eq_nil_of_length_eq_zero (by have := HN2.out; omega)
              have HU3 : Hid (unGo f' [] z3 = unOf xs) := by rw [← hL]; exact HU2.out
              clear hL
              go_wp2
              go_roundw
              case rel => exact ⟨0, 0, f', some ⟨b, off, none⟩, [], z3, by omega, by omega, by simp; omega, rfl, by omega, Bts.nil _ _, o3, by omega, by simp [Hid], HU3, b3⟩
              case measure => simp; omega
      · by_cases hc2 : 191 < h
        · have HE : Hid (unOf xs = ([], 12)) := by
            rw [← HU.out]
            exact unGo_none f' _ zs Hne.out (by rw [← HCc.out]; exact hc1) (.inl (by rw [← HCc.out]; exact hc2))
          go_wp2
          go_ret2
          exact answers_nil HE.out hbl
        · by_cases hc3 : m < 2
          · have HE : Hid (unOf xs = ([], 12)) := by
              rw [← HU.out]
              exact unGo_none f' _ zs Hne.out (by rw [← HCc.out]; exact hc1) (.inr (.inl (by rw [← HN.out]; exact hc3)))
            go_wp2
            go_ret2
            exact answers_nil HE.out hbl
          · obtain ⟨b', off', e', hc4⟩ := (hbl0.carry hbl) 1 (by have := HN.out; omega)
            simp only [Option.some.injEq, Addr.mk.injEq, and_true] at e'
            obtain ⟨rfl, rfl⟩ := e'
            have hy := (ls.getD 1 0).toNat_lt
            obtain ⟨y, HD⟩ : ∃ y, Hid (distOf ls = y + 1 ∧ (ls.getD 1 0).toNat = y) := ⟨(ls.getD 1 0).toNat, rfl, rfl⟩
            rw [HD.out.2] at hc4 hy
            by_cases hd : zs.length < y + 1
            · have HE : Hid (unOf xs = ([], 12)) := by
                rw [← HU.out]
                exact unGo_none f' _ zs Hne.out (by rw [← HCc.out]; exact hc1) (.inr (.inr (by rw [HD.out.1]; exact hd)))
              go_wp2
              go_ret2
              exact answers_nil HE.out hbl
            · have hg1 : decide ((128 : Int) ≤ (h : Int)) = true := by simp; omega
              have hg2 : decide ((191 : Int) < (h : Int)) = false := by simp; omega
              have hg3 : decide ((m : Int) < 2) = false := by simp; omega
              have hg4 : decide ((h : Int) < 128) = false := by simp; omega
              have hg5 : decide ((zs.length : Int) < (y : Int) + 1) = false := by simp; omega
              go_wp2
              go_loopw [4, 8] (fun v i wr => ∃ (j : Nat) (ys : List UInt8), j ≤ h - 125 ∧ i = .int .i64 j ∧ Own w.heap.size wr v ys ∧ Hid (ys = copyOut zs (y + 1) j) ∧ Below w.heap.size w wr) (fun _ i _ => h - 125 - (intOf i).toNat)
              case atStart => exact ⟨0, zs, by omega, rfl, ho, rfl, hbl⟩
              clear ho hbl hbz
              case round =>
                obtain ⟨j, ys, hj, rfl, ho, HY, hbl⟩ := hrel
                obtain ⟨av2, cv2, rfl, hbz, hcz3, hcz4⟩ := ho.shape
                have HYl : Hid (ys.length = zs.length + j) := by show _ = _; rw [HY.out, copyOut_length]
                have hyl := HYl.out
                generalize hL : ys.length = L at *
                have HL := hide hL
                clear hL
                by_cases hjn : j < h - 125
                · obtain ⟨b2, off2, rfl, hc5⟩ := hbz (L - (y + 1)) (by rw [HL.out]; omega)
                  have HN3 : Hid (copyOut zs (y + 1) (j + 1) = ys ++ [ys.getD (L - (y + 1)) 0]) := by show _ = _; rw [copyOut, ← HY.out, HL.out]
                  generalize ys.getD (L - (y + 1)) 0 = x at *
                  have hs1 := src_byte wr x
                  have ho1 := ho.alloc (.cells #[.int .u8 (x.toNat : Int)] 5)
                  have hbl1 := hbl.alloc hbl.size (.cells #[.int .u8 (x.toNat : Int)] 5)
                  have hjn' : (j : Int) < (h : Int) - 128 + 3 := by omega
                  have HYL := hide hyl
                  have hL1 : y + 1 ≤ L := by omega
                  have hL2 : L ≤ 1000 := by omega
                  clear hyl HYl
                  go_wp2_with (at_builtin; go_must (refine wpApp rfl (.tmp 51) (.tmp 59) 29 rfl w.heap.size _ ys rfl ho1 _ _ rfl 1 hs1 (by have := HL.out; simp; omega) hbl1.size ?_))
                  intro v2 w2 z2 e2 o2 g2
                  have b2' := below_own hbl1 ho1 g2 (Nat.le_refl _)
                  have HY2 : Hid (z2 = copyOut zs (y + 1) (j + 1)) := by show _ = _; rw [HN3.out, e2.out]
                  clear g2 ho1 hbl1 hs1 ho hbl
                  go_wp2
                  go_roundw
                  case rel => first | exact ⟨j + 1, z2, by omega, by go_num, o2, HY2, b2'⟩ | ((repeat apply Exists.intro); exact ⟨⟨j + 1, z2, by omega, by go_num, o2, HY2, b2'⟩, rfl⟩)
                  case measure => simp [intOf]; omega
                · have hjn' : ¬ (j : Int) < (h : Int) - 128 + 3 := by omega
                  have hje : j = h - 125 := by omega
                  have HZ : Hid (copyOut zs (distOf ls) (headOf ls - 125) = ys) := by show _ = _; rw [HD.out.1, ← HCc.out, HY.out, hje]
                  clear hje HYl hyl
                  by_cases hbig : 600 < L
                  · have HE : Hid (unOf xs = ([], 7)) := by
                      rw [← HU.out]
                      exact unGo_copybig f' _ zs Hne.out (by rw [← HCc.out]; exact hc1) (by rw [← HCc.out]; exact hc2) (by rw [← HN.out]; exact hc3) (by rw [HD.out.1]; exact hd) (by rw [HZ.out, HL.out]; exact hbig)
                    go_wp2
                    go_ret2
                    exact answers_nil HE.out hbl
                  · have HU2 : Hid (unGo f' (ls.drop 2) ys = unOf xs) := by
                      rw [← HU.out, unGo_copy f' _ zs Hne.out (by rw [← HCc.out]; exact hc1) (by rw [← HCc.out]; exact hc2) (by rw [← HN.out]; exact hc3) (by rw [HD.out.1]; exact hd) (by rw [HZ.out, HL.out]; exact hbig), HZ.out]
                      rfl
                    have HN2 : Hid (m - 2 = (ls.drop 2).length) := by show _ = _; rw [List.length_drop, ← HN.out]
                    have HF2 : Hid ((ls.drop 2).length ≤ f') := by have := HF.out; show _ ≤ _; simp; omega
                    clear HU HF
                    by_cases hcn : 2 < c
                    · have hb4 : Bts w (some ⟨b, off + 2, none⟩) (ls.drop 2) := hbl0.from (2)
                      go_wp2
                      go_roundw
                      case rel => first | exact ⟨m - 2, c - 2, f', some ⟨b, off + 2, none⟩, ls.drop 2, ys, by omega, by omega, by first | rfl | (simp; done), HN2, by omega, hb4, ho, by have := HL.out; omega, HF2, HU2, hbl⟩ | ((repeat apply Exists.intro); exact ⟨⟨m - 2, c - 2, f', some ⟨b, off + 2, none⟩, ls.drop 2, ys, by omega, by omega, by first | rfl | (simp; done), HN2, by omega, hb4, ho, by have := HL.out; omega, HF2, HU2, hbl⟩, rfl⟩)
                      case measure => simp; omega
                    · have hL : ls.drop 2 = [] := List.eq_nil_of_length_eq_zero (by have := HN2.out; omega)
                      have HU3 : Hid (unGo f' [] ys = unOf xs) := by rw [← hL]; exact HU2.out
                      clear hL
                      go_wp2
                      go_roundw
                      case rel => first | exact ⟨0, 0, f', some ⟨b, off, none⟩, [], ys, by omega, by omega, by simp; omega, rfl, by omega, Bts.nil _ _, ho, by have := HL.out; omega, by simp [Hid], HU3, hbl⟩ | ((repeat apply Exists.intro); exact ⟨⟨0, 0, f', some ⟨b, off, none⟩, [], ys, by omega, by omega, by simp; omega, rfl, by omega, Bts.nil _ _, ho, by have := HL.out; omega, by simp [Hid], HU3, hbl⟩, rfl⟩)
                      case measure => simp; omega
    · have HE : Hid (unOf xs = (zs, 0)) := by
        have h := HU.out
        rw [unGo_end f _ zs (by have := HN.out; omega)] at h
        exact h.symm
      go_wp2
      go_ret2
      exact answers_ok HE.out ho hbl

end Go.Proofs.YtgncohclofdhmaaGreat
