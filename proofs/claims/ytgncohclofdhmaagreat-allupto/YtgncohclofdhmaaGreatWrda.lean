import Derived.Test.YtgncohclofdhmaaGreatMread
import Derived.Test.YtgncohclofdhmaaGreatWva
import Derived.Test.YtgncohclofdhmaaGreatWsma
import Derived.Test.YtgncohclofdhmaaGreatWpk
import Derived.Test.YtgncohclofdhmaaGreatWuna
import Derived.Test.YtgncohclofdhmaaGreatWbld1
import Derived.Test.YtgncohclofdhmaaGreatWbox
import Derived.Test.YtgncohclofdhmaaGreatWstr
import Derived.Deep.RegionWith
import Derived.BigRegion
import Derived.Deep.QuietTactic
import Derived.BigQuiet
import Derived.Deep.Cut
import Derived.Test.YtgncohclofdhmaaGreatWent1
import Derived.Deep.DeepCutAuto
namespace Go.Proofs.YtgncohclofdhmaaGreat
open Go.RowKit

set_option maxRecDepth 100000 in
set_option maxHeartbeats 1000000 in
theorem pnum_any (a : Option Addr) (xs : List UInt8) (cap : Nat) (w : World) (hl : xs.length ≤ 4) (hb : Bts w a xs) :
    Calls Tryz.prog 105 #[.slice a xs.length cap] w fun e w' => e = .returned (.int .i64 (numAt xs 0 xs.length : Nat)) ∧ w' = w := by
  go_enter Tryz.func105, Tryz.ntmps105
  go_wp2
  go_loop [3, 4] (fun v i => ∃ j : Nat, j ≤ xs.length ∧ i = .int .i64 j ∧ v = .int .i64 (numAt xs 0 j : Nat)) (fun _ i => xs.length - (intOf i).toNat)
  case atStart => exact ⟨0, by omega, rfl, rfl⟩
  case round =>
    obtain ⟨j, hj, rfl, rfl⟩ := hrel
    by_cases hjn : j < xs.length
    · obtain ⟨b, off, rfl, hc⟩ := hb j hjn
      have HNu : Hid (numAt xs 0 (j + 1) = 256 * numAt xs 0 j + (xs.getD j 0).toNat) := by
        show _ = _
        rw [numAt, Nat.zero_add]
      have hlt : numAt xs 0 j < 4294967296 := by
        have h1 := numAt_lt xs 0 j
        have h2 : 256 ^ j ≤ 256 ^ 4 := Nat.pow_le_pow_right (by omega) (by omega)
        omega
      have hlt2 := (xs.getD j 0).toNat_lt
      generalize numAt xs 0 j = m at *
      generalize (xs.getD j 0).toNat = c at *
      go_wp2
      go_round
      case rel => exact ⟨j + 1, by omega, by go_num, by rw [HNu.out]; go_num⟩
      case measure => simp [intOf]; omega
    · obtain rfl : j = xs.length := by omega
      go_wp2
      go_ret
      exact ⟨rfl, rfl⟩

theorem numAt_part (p : List UInt8) (k n : Nat) (h : k + n ≤ p.length) : numAt ((p.drop k).take n) 0 n = numAt p k n := by
  refine (numAt_at (pre := p.take k) (ys := (p.drop k).take n) (post := (p.drop k).drop n) ?_ (by rw [List.length_take]; omega) (by rw [List.length_take, List.length_drop]; omega) rfl).symm
  rw [List.take_append_drop, List.take_append_drop]

/-- The number in a part of a list. -/
theorem pnum_at (b0 off k n : Nat) (p : List UInt8) (n' c' : Nat) (w : World) (hn : n' = n) (hl : n ≤ 4) (hk : k + n ≤ p.length) (hb : Bts w (some ⟨b0, off, none⟩) p) :
    Calls Tryz.prog 105 #[.slice (some ⟨b0, off + k, none⟩) n' c'] w fun e w' => e = .returned (.int .i64 (numAt p k n : Nat)) ∧ w' = w := by
  subst hn
  have hlen : ((p.drop k).take n').length = n' := by rw [List.length_take, List.length_drop]; omega
  have h := pnum_any (some ⟨b0, off + k, none⟩) ((p.drop k).take n') c' w (by omega) (hb.sub k n')
  rw [hlen, numAt_part p k n' hk] at h
  exact h

set_option maxRecDepth 100000 in
set_option maxHeartbeats 2000000 in
theorem sealFault_any (a : Option Addr) (p : List UInt8) (cap : Nat) (w : World) (key : ByteArray) (hm : p.length ≤ 140737488355328) (hks : key.size ≤ maxLen) (hcap : p.length ≤ cap) (hcm0 : cap ≤ maxLen) (hb : Bts w a p) :
    Calls Tryz.prog 89 #[.slice a p.length cap, .string key] w fun e w' => e = .returned (.int .i64 (verHead key.data.toList p : Nat)) ∧ w' = w := by
  have hcm : cap ≤ 9223372036854775807 := hcm0
  have HKl := hide (strLen key)
  have HK := isKey_any key
  cases hkb : keyB key.size
  · rw [hkb] at HK
    have HA := hide (verHead_key (key := key.data.toList) (p := p) (by rw [HKl.out]; exact hkb))
    rw [HA.out]
    clear hkb
    go_enter Tryz.func89, Tryz.ntmps89
    go_wp2_with fail
    refine (HK _ hks).mono ?_
    rintro e w' ⟨rfl, rfl⟩
    go_wp2
    go_ret
    exact ⟨rfl, rfl⟩
  · rw [hkb] at HK
    have hkl : keyB key.data.toList.length = true := by rw [HKl.out]; exact hkb
    have HKL := hide hkl
    clear hkl hkb
    by_cases hlong : 4000 < p.length
    · have HA := hide (verHead_long (p := p) HKL.out hlong)
      have hli : (4000 : Int) < (p.length : Int) := by omega
      rw [HA.out]
      go_enter Tryz.func89, Tryz.ntmps89
      go_wp2_with fail
      refine (HK _ hks).mono ?_
      rintro e w' ⟨rfl, rfl⟩
      go_wp2
      go_ret
      exact ⟨rfl, rfl⟩
    · have hli : ¬ (4000 : Int) < (p.length : Int) := by omega
      by_cases hshort : p.length < 13
      · have HA := hide (verHead_short (p := p) HKL.out hshort)
        have hsi : (p.length : Int) < 13 := by omega
        rw [HA.out]
        go_enter Tryz.func89, Tryz.ntmps89
        go_wp2_with fail
        refine (HK _ hks).mono ?_
        rintro e w' ⟨rfl, rfl⟩
        go_wp2
        go_ret
        exact ⟨rfl, rfl⟩
      · have hsi : ¬ (p.length : Int) < 13 := by omega
        obtain ⟨b0, off, rfl, -⟩ := hb 0 (by omega)
        have hs1 : Hid (∀ (n' c' : Nat), n' = p.length - 8 → Calls Tryz.prog 26 #[.slice (some ⟨b0, off, none⟩) n' c'] w (fun e w' => e = .returned (.int .i64 (sumOf (p.take (p.length - 8)) : Nat)) ∧ w' = w)) := by
          intro n' c' hn
          have h := Sum_any (some ⟨b0, off, none⟩) (p.take (p.length - 8)) c' w (by rw [List.length_take]; omega) (by have := hb.sub 0 (p.length - 8); simpa using this)
          rw [List.length_take, show min (p.length - 8) p.length = p.length - 8 from by omega] at h
          rw [hn]
          exact h
        have hs2 : Hid (∀ (n' c' : Nat), n' = p.length - 4 → Calls Tryz.prog 58 #[.string key, .slice (some ⟨b0, off, none⟩) n' c'] w (fun e w' => e = .returned (.int .i64 (tagVal key.data.toList (p.take (p.length - 4)) : Nat)) ∧ w' = w)) := by
          intro n' c' hn
          have h := tagOf_any key (some ⟨b0, off, none⟩) (p.take (p.length - 4)) c' w hks (by rw [List.length_take]; omega) (by have := hb.sub 0 (p.length - 4); simpa using this)
          rw [List.length_take, show min (p.length - 4) p.length = p.length - 4 from by omega] at h
          rw [hn]
          exact h
        have hn1 : Hid (∀ (n' c' : Nat), n' = 4 → Calls Tryz.prog 105 #[.slice (some ⟨b0, off + (p.length - 8), none⟩) n' c'] w (fun e w' => e = .returned (.int .i64 (numAt p (p.length - 8) 4 : Nat)) ∧ w' = w)) := fun n' c' hn => pnum_at b0 off (p.length - 8) 4 p n' c' w hn (by omega) (by omega) hb
        have hn2 : Hid (∀ (n' c' : Nat), n' = 4 → Calls Tryz.prog 105 #[.slice (some ⟨b0, off + (p.length - 4), none⟩) n' c'] w (fun e w' => e = .returned (.int .i64 (numAt p (p.length - 4) 4 : Nat)) ∧ w' = w)) := fun n' c' hn => pnum_at b0 off (p.length - 4) 4 p n' c' w hn (by omega) (by omega) hb
        have HVS := hide (fun h => verHead_sum (p := p) HKL.out (by omega) (by omega) h)
        have HVT := hide (fun h h' => verHead_tag (p := p) HKL.out (by omega) (by omega) h h')
        have HVO := hide (fun h h' => verHead_ok (p := p) HKL.out (by omega) (by omega) h h')
        obtain ⟨sm, HSm⟩ : ∃ sm, Hid (sm = sumOf (p.take (p.length - 8))) := ⟨_, rfl⟩
        obtain ⟨tg, HTg⟩ : ∃ tg, Hid (tg = tagVal key.data.toList (p.take (p.length - 4))) := ⟨_, rfl⟩
        obtain ⟨n8, HN8⟩ : ∃ n8, Hid (n8 = numAt p (p.length - 8) 4) := ⟨_, rfl⟩
        obtain ⟨n4, HN4⟩ : ∃ n4, Hid (n4 = numAt p (p.length - 4) 4) := ⟨_, rfl⟩
        rw [← HSm.out] at hs1
        rw [← HTg.out] at hs2
        rw [← HN8.out] at hn1
        rw [← HN4.out] at hn2
        rw [← HSm.out, ← HN8.out] at HVS
        rw [← HSm.out, ← HN8.out, ← HTg.out, ← HN4.out] at HVT HVO
        obtain ⟨V, HV⟩ : ∃ V, Hid (V = verHead key.data.toList p) := ⟨_, rfl⟩
        rw [← HV.out] at HVS HVT HVO
        rw [← HV.out]
        clear HV HSm HTg HN8 HN4
        obtain ⟨m, hm8⟩ : ∃ m, p.length = m + 8 := ⟨p.length - 8, by omega⟩
        rw [hm8] at hs1 hs2 hn1 hn2 hm hcap hli hsi ⊢
        simp only [show m + 8 - 8 = m from by omega, show m + 8 - 4 = m + 4 from by omega] at hs1 hs2 hn1 hn2
        clear hb hlong hshort hm8
        have e3 : m < cap := by omega
        have e4 : ¬ cap = m := by omega
        have e5 : m + 4 < cap := by omega
        have e6 : ¬ cap = m + 4 := by omega
        go_enter Tryz.func89, Tryz.ntmps89
        go_wp2_with fail
        refine (HK _ hks).mono ?_
        rintro e w' ⟨rfl, rfl⟩
        go_wp2_with fail
        refine (hs1.out _ _ (by omega)).mono ?_
        rintro e w' ⟨rfl, rfl⟩
        go_wp2_with fail
        refine (hn1.out _ _ (by omega)).mono ?_
        rintro e w' ⟨rfl, rfl⟩
        by_cases h8 : sm = n8
        · have h8b : ((sm : Int) != (n8 : Int)) = false := by rw [bne_eq_false_iff_eq]; omega
          go_wp2_with fail
          refine (hs2.out _ _ (by omega)).mono ?_
          rintro e w' ⟨rfl, rfl⟩
          go_wp2_with fail
          refine (hn2.out _ _ (by omega)).mono ?_
          rintro e w' ⟨rfl, rfl⟩
          by_cases h4 : tg = n4
          · have h4b : ((tg : Int) != (n4 : Int)) = false := by rw [bne_eq_false_iff_eq]; omega
            have HZ := hide (HVO.out h8.symm h4.symm)
            clear h8 h4
            go_wp2
            go_ret
            rw [HZ.out]
            exact ⟨rfl, rfl⟩
          · have h4b : ((tg : Int) != (n4 : Int)) = true := by rw [bne_iff_ne]; omega
            have HZ := hide (HVT.out h8.symm (fun h => h4 h.symm))
            clear h8 h4
            go_wp2
            go_ret
            rw [HZ.out]
            exact ⟨rfl, rfl⟩
        · have h8b : ((sm : Int) != (n8 : Int)) = true := by rw [bne_iff_ne]; omega
          have HZ := hide (HVS.out (fun h => h8 h.symm))
          clear h8
          go_wp2
          go_ret
          rw [HZ.out]
          exact ⟨rfl, rfl⟩

end Go.Proofs.YtgncohclofdhmaaGreat

namespace Go.Proofs.YtgncohclofdhmaaGreat
open Go.RowKit

set_option maxRecDepth 100000 in
set_option maxHeartbeats 2000000 in
theorem readConfig_any (a : Option Addr) (p : List UInt8) (cap : Nat) (w : World) (key : ByteArray) (h13 : 13 ≤ p.length) (hl : p.length ≤ 4000) (hb : Bts w a p) :
    Calls Tryz.prog 91 #[.slice a p.length cap, .string key] w fun e w' => e = .returned (.agg #[.string key, .int .i64 (numAt p 2 1 : Nat), .bool (decide (numAt p 3 1 = 1))]) ∧ Below w.heap.size w w' := by
  have sr : SBox (w.alloc (.cells #[.string ⟨#[]⟩, .int .i64 0, .bool false] 49)) w.heap.size ⟨#[]⟩ 0 false := heap_alloc_new w _
  have B1 := (Below.refl w.heap.size w).alloc (Nat.le_refl _) (.cells #[.string ⟨#[]⟩, .int .i64 0, .bool false] 49)
  have hb1 := hb.carry B1
  obtain ⟨b0, off, rfl, c2⟩ := hb1 2 (by omega)
  obtain ⟨b0', off', e, c3⟩ := hb1 3 (by omega)
  cases e
  have l2 := (p.getD 2 0).toNat_lt
  have l3 := (p.getD 3 0).toNat_lt
  have HX : Hid (decide (numAt p 3 1 = 1) = (((p.getD 3 0).toNat : Int) == 1)) := by
    show _ = _
    rw [numAt_byte, Bool.eq_iff_iff]
    simp
    omega
  rw [numAt_byte p 2, HX.out]
  clear HX
  generalize (p.getD 2 0).toNat = x2 at *
  generalize (p.getD 3 0).toNat = x3 at *
  have i1 : (2 : Int) < (p.length : Int) := by omega
  have i2 : (3 : Int) < (p.length : Int) := by omega
  go_enter Tryz.func91, Tryz.ntmps91
  go_upto_region 1 with fail
  generalize w.alloc (.cells #[.string ⟨#[]⟩, .int .i64 0, .bool false] 49) = W1 at *
  have d0 := sr.c0
  have d1 := sr.c1
  have d2 := sr.c2
  have f0 := sr.fr 0
  have f1 := sr.fr 1
  have f2 := sr.fr 2
  have X := sr.set key (x2 : Int) ((x3 : Int) == 1)
  have BB := ((B1.setCell (p := ⟨w.heap.size, 0, none⟩) (Nat.le_refl _) (.string key)).setCell (p := ⟨w.heap.size, 1, none⟩) (Nat.le_refl _) (.int .i64 (x2 : Int))).setCell (p := ⟨w.heap.size, 2, none⟩) (Nat.le_refl _) (.bool ((x3 : Int) == 1))
  go_region
  go_wp2
  refine bodyPost_ret (v := .agg #[.string key, .int .i64 (x2 : Int), .bool ((x3 : Int) == 1)]) ?_ rfl ⟨rfl, BB.drew⟩
  have k0 := X.c0
  have k1 := X.c1
  have k2 := X.c2
  rw [results_cell1 rfl]
  go_simp

set_option maxRecDepth 100000 in
set_option maxHeartbeats 1000000 in
theorem readBody_any (m : Nat) (a : Option Addr) (xs : List UInt8) (cap : Nat) (w : World) (hm : m ≤ 255) (hl : xs.length ≤ 4000) (hcap : xs.length ≤ cap) (hcm : cap ≤ maxLen) (hb : Bts w a xs) :
    Calls Tryz.prog 107 #[.int .i64 m, .slice a xs.length cap] w fun e w' => Answers w w' e (if m = 1 then unOf xs else (xs, 0)) := by
  by_cases h1 : m = 1
  · rw [if_pos h1]
    subst h1
    have HU := hide (Unpack_any a xs cap w (by omega) hcap hcm hb)
    generalize unOf xs = R at *
    go_enter Tryz.func107, Tryz.ntmps107
    go_wp2_with fail
    refine HU.out.mono ?_
    rintro e w1 ⟨v1, rfl, o1, b1⟩
    obtain ⟨a1, c1, rfl, -, -, -⟩ := o1.shape
    go_wp2
    go_ret2
    exact ⟨_, rfl, o1, b1⟩
  · rw [if_neg h1]
    have hb1 : ((m : Int) == 1) = false := by rw [beq_eq_false_iff_ne]; omega
    have o0 := Own.nil w.heap.size w
    have hs0 := src_bts (c := cap) (n := xs.length) Tryz.underlying29 hb rfl
    clear h1
    go_enter Tryz.func107, Tryz.ntmps107
    go_wp2_with (at_builtin; go_must (refine wpAppG rfl (.tmp 13) (.tmp 14) 29 rfl w.heap.size _ [] rfl o0 _ xs rfl _ hs0 (by simp; omega) (Nat.le_refl _) ?_))
    intro v1 w1 z1 e1 o1 g1
    have b1 := g1.below (Below.refl w.heap.size w) o0 (Nat.le_refl _)
    obtain rfl : z1 = xs := e1.out
    clear e1 g1 hs0 o0
    go_wp2
    go_ret2
    exact ⟨v1, rfl, o1, b1⟩

end Go.Proofs.YtgncohclofdhmaaGreat

namespace Go.Proofs.YtgncohclofdhmaaGreat
open Go.RowKit

/-- What reading an entry answers. -/
def EntAns (r : List UInt8) (w w' : World) (e : Ending) : Prop :=
  (rdBad r = true ∧ e = .returned (.tuple #[.agg #[.string ⟨#[]⟩, .slice none 0 0], .int .i64 0])) ∨
  (rdBad r = false ∧ ∃ v, Own w.heap.size w' v (rdBody r) ∧ e = .returned (.tuple #[.agg #[.string (strOf (decPath r 0)), v], .int .i64 (decNext r 0 : Nat)]))

/-- What readEntry has to keep. -/
def EntKeeps : Prop := ∀ (a : Option Addr) (r : List UInt8) (cap : Nat) (w : World), r.length ≤ 4000 → r.length ≤ cap → cap ≤ maxLen → Bts w a r →
    Calls Tryz.prog 106 #[.slice a r.length cap] w fun e w' => EntAns r w w' e ∧ Below w.heap.size w w'

theorem rdLoop_bad {k : Nat} {r : List UInt8} (h : rdBad r = true) : rdLoop (k + 1) r = none := by rw [rdLoop, if_pos h]

theorem rdLoop_step {k : Nat} {r : List UInt8} (h : rdBad r = false) : rdLoop (k + 1) r = (rdLoop k (r.drop (decNext r 0))).map ((decPath r 0, rdBody r) :: ·) := by rw [rdLoop, if_neg (by simp [h])]

theorem pairsOf_snoc (es : List Ent) (e : Ent) : pairsOf (es ++ [e]) = pairsOf es ++ [pairOf e] := by simp [pairsOf]

/-- No two bodies lie in one block. -/
def ApartE (es : List Ent) : Prop := es.Pairwise fun e f => ∀ k, some k = e.val.ownBlock → ¬ some k = f.val.ownBlock

theorem ApartE.nil : ApartE [] := List.Pairwise.nil

theorem ApartE.more {B : Nat} {w : World} {es : List Ent} (h : ApartE es) (hg : EntOwn B w es) {S : Nat} {w1 : World} {e : Ent} {xs : List UInt8} (k : Own S w1 e.val xs) (hS : w.heap.size ≤ S) : ApartE (es ++ [e]) := by
  refine List.pairwise_append.2 ⟨h, List.pairwise_singleton _ _, ?_⟩
  intro f hf e' he' b hb hb'
  obtain rfl : e' = e := by simpa using he'
  have h1 := (World.ownsRow.lt (hg f hf).1 b hb.symm).2
  have h2 := (World.ownsRow.lt k b hb'.symm).1
  omega

set_option maxRecDepth 100000 in
set_option maxHeartbeats 4000000 in
theorem readEntries_anyA (HE : EntKeeps) (a : Option Addr) (p : List UInt8) (cap : Nat) (w : World) (h13 : 13 ≤ p.length) (hl : p.length ≤ 4000) (hcap : p.length ≤ cap) (hcm : cap ≤ maxLen) (hb : Bts w a p) :
    Calls Tryz.prog 90 #[.slice a p.length cap] w fun e w' => ((rdAll p = none ∧ e = .returned (.tuple #[.slice none 0 0, .bool false])) ∨ (∃ v es, rdAll p = some (pairsOf es) ∧ es.length ≤ 255 ∧ OwnE w.heap.size w' v es ∧ EntOwn w.heap.size w' es ∧ ApartE es ∧ e = .returned (.tuple #[v, .bool true]))) ∧ Below w.heap.size w w' := by
  unfold maxLen at hcm
  obtain ⟨b0, off, rfl, c4⟩ := hb 4 (by omega)
  have HR : Hid (rdAll p = rdLoop (p.getD 4 0).toNat (p.drop 5)) := by
    show _ = _
    unfold rdAll
    rw [numAt_byte]
  have hn4 := (p.getD 4 0).toNat_lt
  generalize (p.getD 4 0).toNat = N at *
  have i4 : (4 : Int) < (p.length : Int) := by omega
  have i5 : (5 : Int) ≤ (p.length : Int) := by omega
  have j5 : 5 < cap := by omega
  have j6 : ¬ cap = 5 := by omega
  have hb5 := hb.from 5
  have HL5 : Hid ((p.drop 5).length = p.length - 5) := by simp [Hid]
  go_enter Tryz.func90, Tryz.ntmps90
  go_wp2
  go_loopw [4, 5, 6, 7, 8] (fun v s i _ _ wr => ∃ (k : Nat) (es : List Ent) (ra : Option Addr) (r : List UInt8) (rc : Nat), k + es.length = N ∧ i = .int .i64 k ∧ s = .slice ra r.length rc ∧ r.length ≤ 4000 ∧ r.length ≤ rc ∧ rc ≤ 9223372036854775807 ∧ Bts w ra r ∧ OwnE w.heap.size wr v es ∧ Hid (EntOwn w.heap.size wr es) ∧ Hid (ApartE es) ∧ Hid (rdAll p = (rdLoop k r).map (pairsOf es ++ ·)) ∧ Below w.heap.size w wr) (fun _ _ i _ _ _ => (intOf i).toNat)
  case atStart =>
    refine ⟨N, [], some ⟨b0, off + 5, none⟩, p.drop 5, cap - 5, by simp, rfl, ?_, by rw [HL5.out]; omega, by rw [HL5.out]; omega, by omega, hb5, OwnE.nil _ _, EntOwn.nil _ _, ApartE.nil, ?_, Below.refl _ _⟩
    · rw [HL5.out]
    · show _ = _
      rw [HR.out]
      simp [pairsOf]
  case round =>
    obtain ⟨k, es, ra, r, rc, hkn, rfl, rfl, hrl, hrc, hrm, hbr, ho, HG, HAp, HM, hbl⟩ := hrel
    by_cases hk : 0 < k
    · obtain ⟨k', rfl⟩ : ∃ k', k = k' + 1 := ⟨k - 1, by omega⟩
      have HC := hide (HE ra r rc wr hrl hrc (by unfold maxLen; omega) (hbr.carry hbl))
      have HKN := hide hkn
      clear hkn
      go_wp2_with fail
      refine HC.out.mono ?_
      rintro e w1 ⟨hA, b1⟩
      have hbl1 := hbl.trans (b1.mono hbl.size)
      have ho1 := ho.carry b1
      have HG1 := hide (HG.out.carry b1)
      rcases hA with ⟨hbad, rfl⟩ | ⟨hgood, v1, o1, rfl⟩
      · have HN : Hid (rdAll p = none) := by
          show _ = _
          rw [HM.out, rdLoop_bad hbad]
          rfl
        have hbl2 := hbl1.alloc hbl1.size (.cells #[.string ⟨#[]⟩, .slice none 0 0] 46)
        clear hbad HM HG HG1 ho ho1 hbr HC
        go_wp2
        go_ret2
        exact ⟨.inl ⟨HN.out, rfl⟩, hbl2⟩
      · obtain ⟨s1, s2, s3⟩ := rdBad_len hgood
        obtain ⟨xa, xc, rfl, -, -, -⟩ := o1.shape
        have HM1 : Hid (rdAll p = (rdLoop k' (r.drop (decNext r 0))).map ((pairsOf es ++ [(decPath r 0, rdBody r)]) ++ ·)) := by
          show _ = _
          rw [HM.out, rdLoop_step hgood, Option.map_map]
          congr 1
          funext l
          simp
        have HPs : Hid ((strOf (decPath r 0)).data.toList = decPath r 0 ∧ (strOf (decPath r 0)).size ≤ maxLen) := by
          refine ⟨strOf_list _, ?_⟩
          rw [strOf_size]
          unfold decPath
          rw [List.length_take, List.length_drop]
          unfold maxLen
          omega
        obtain ⟨b0', off', e, -⟩ := hbr 0 (by omega)
        subst e
        have HD : Hid (Bts w (some ⟨b0', off' + decNext r 0, none⟩) (r.drop (decNext r 0))) := hbr.from _
        have HDl : Hid ((r.drop (decNext r 0)).length = r.length - decNext r 0) := List.length_drop
        generalize strOf (decPath r 0) = P at *
        generalize decPath r 0 = dp at *
        generalize r.drop (decNext r 0) = r2 at *
        generalize rdBody r = L at *
        generalize decNext r 0 = S at *
        have HAp1 := hide (HAp.out.more (e := ⟨P, xa, L, xc⟩) HG.out o1 (Nat.le_refl _))
        have hSb : ((S : Int) == 0) = false := by rw [beq_eq_false_iff_ne]; omega
        have o1' : Own w.heap.size w1 (.slice xa L.length xc) L := o1.mono hbl.size
        have ho2 := (ho1.alloc (.cells #[.string P, .slice xa L.length xc] 46)).alloc (.cells #[.string P, .slice xa L.length xc] 46)
        have hbl2a := hbl1.alloc hbl1.size (.cells #[.string P, .slice xa L.length xc] 46)
        have hbl2 := hbl2a.alloc hbl2a.size (.cells #[.string P, .slice xa L.length xc] 46)
        have o2' := (o1'.alloc (.cells #[.string P, .slice xa L.length xc] 46)).alloc (.cells #[.string P, .slice xa L.length xc] 46)
        have HG2 := hide (HG1.out.carry (((Below.refl w1.heap.size w1).alloc (Nat.le_refl _) (.cells #[.string P, .slice xa L.length xc] 46)).alloc (by simp) (.cells #[.string P, .slice xa L.length xc] 46)))
        have hs1 := src_ent (w1.alloc (.cells #[.string P, .slice xa L.length xc] 46)) ⟨P, xa, L, xc⟩
        unfold Ent.val at hs1
        have esz : (w1.alloc (.cells #[.string P, .slice xa L.length xc] 46)).heap.size = w1.heap.size + 1 := by simp
        rw [esz] at hs1
        have hel : es.length ≤ 255 := by have := HKN.out; omega
        have hk' : k' ≤ 255 := by have := HKN.out; omega
        have hSi : (S : Int) ≤ (r.length : Int) := by omega
        clear HM hgood o1 o1' ho ho1 HG HG1 hbl hbl1 hbl2a esz b1 HC
        go_wp2_with (at_builtin; go_must (refine wpAppE rfl (.tmp 26) (.tmp 28) rfl w.heap.size _ es rfl ho2 _ [⟨P, xa, L, xc⟩] rfl 1 hs1 (by simp; omega) hbl2.size ?_))
        intro v3 w3 f3 e3 o3 gr
        have b3 := below_ownE hbl2 ho2 gr.by_ (Nat.le_refl _)
        have HG3 : Hid (EntOwn w.heap.size w3 f3) := by
          rw [e3.out]
          exact (HG2.out.grown ho2 gr.by_).more (e := ⟨P, xa, L, xc⟩) (o2'.kept gr.by_ (own_ne o2' ho2)) HPs.out.2
        have HAp3 : Hid (ApartE f3) := by rw [e3.out]; exact HAp1.out
        have HM3 : Hid (rdAll p = (rdLoop k' r2).map (pairsOf f3 ++ ·)) := by
          show _ = _
          rw [HM1.out, e3.out, pairsOf_snoc]
          unfold pairOf
          simp only
          rw [HPs.out.1]
        have HL3 : Hid (k' + f3.length = N) := by
          show _ = _
          rw [e3.out]
          have := HKN.out
          simp
          omega
        clear gr hs1 ho2 hbl2 HG2 o2' HM1 e3
        by_cases hc : S < rc
        · have hc2 : ¬ rc = S := by omega
          go_wp2
          go_roundw
          case rel => exact ⟨k', f3, some ⟨b0', off' + S, none⟩, r2, rc - S, HL3.out, by go_num, by rw [HDl.out], by rw [HDl.out]; omega, by rw [HDl.out]; omega, by omega, HD.out, o3, HG3, HAp3, HM3, b3⟩
          case measure => simp [intOf]
        · obtain rfl : rc = S := by omega
          have hr2 : r2 = [] := List.eq_nil_of_length_eq_zero (by rw [HDl.out]; omega)
          subst hr2
          go_wp2
          go_roundw
          case rel => exact ⟨k', f3, some ⟨b0', off', none⟩, [], 0, HL3.out, by go_num, by simp, by simp, by simp, by omega, Bts.nil _ _, o3, HG3, HAp3, HM3, b3⟩
          case measure => simp [intOf]
    · obtain rfl : k = 0 := by omega
      have HN : Hid (rdAll p = some (pairsOf es)) := by
        show _ = _
        rw [HM.out]
        simp [rdLoop]
      go_wp2
      go_ret2
      exact ⟨.inr ⟨_, es, HN.out, by omega, ho, HG.out, HAp.out, rfl⟩, hbl⟩

end Go.Proofs.YtgncohclofdhmaaGreat
