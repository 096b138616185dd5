import Derived.Test.YtgncohclofdhmaaGreatWbd
import Derived.Test.YtgncohclofdhmaaGreatWans
import Derived.Deep.DeepCutAuto
import Derived.Test.YtgncohclofdhmaaGreatWsma
import Derived.Deep.RegionWith
import Derived.BigRegion
namespace Go.Proofs.YtgncohclofdhmaaGreat
open Go.RowKit

/-- Bytes that have just been laid in a block are the call's own. -/
theorem own_lit (w : World) (B : Nat) (vs : Array Value) (xs : List UInt8) (n : Nat) (h : vs = (cells xs).toArray) (hn : n = xs.length) (hB : B ≤ w.heap.size) (hm : n ≤ maxLen) :
    Own B (w.alloc (.cells vs 5)) (.slice (some ⟨w.heap.size, 0, none⟩) n n) xs := by
  subst h hn
  have := World.ownsRow_lit (base := B) (e := 5) (size := 1) w (cells xs).toArray xs.length hB hm (by simp [cells_length])
  unfold Own
  simpa using this

set_option maxRecDepth 100000 in
set_option maxHeartbeats 400000 in
theorem twoBytes_any (w : World) (n : Nat) (hn : n < 65536) :
    Calls Tryz.prog 98 #[.int .i64 n] w fun e w' => ∃ v, e = .returned v ∧ Own w.heap.size w' v (twoOf n) ∧ Below w.heap.size w w' := by
  have ho := own_lit w w.heap.size _ (twoOf n) 2 (cells_two n hn) rfl (Nat.le_refl _) (by simp [maxLen])
  have hb := (Below.refl w.heap.size w).alloc (Nat.le_refl _) (.cells #[.int .u8 ((n : Int) / 256), .int .u8 ((n : Int) % 256)] 5)
  go_enter Tryz.func98, Tryz.ntmps98
  go_wp2
  go_ret
  exact ⟨_, rfl, ho, hb⟩

set_option maxRecDepth 100000 in
set_option maxHeartbeats 400000 in
theorem fourBytes_any (w : World) (n : Nat) (hn : n < 4294967296) :
    Calls Tryz.prog 77 #[.int .i64 n] w fun e w' => ∃ v, e = .returned v ∧ Own w.heap.size w' v (fourOf n) ∧ Below w.heap.size w w' := by
  have ho := own_lit w w.heap.size _ (fourOf n) 4 (cells_four n hn) rfl (Nat.le_refl _) (by simp [maxLen])
  have hb := (Below.refl w.heap.size w).alloc (Nat.le_refl _) (.cells #[.int .u8 ((n : Int) / 16777216), .int .u8 ((n : Int) / 65536 % 256), .int .u8 ((n : Int) / 256 % 256), .int .u8 ((n : Int) % 256)] 5)
  go_enter Tryz.func77, Tryz.ntmps77
  go_wp2
  go_ret
  exact ⟨_, rfl, ho, hb⟩

theorem cells_head (pk : Bool) (al n : Nat) (hal : al ≤ 16) (hn : n ≤ 20) : #[Value.int .u8 80, Value.int .u8 76, Value.int .u8 (al : Int), Value.int .u8 (if pk then 1 else 0), Value.int .u8 (n : Int)] = (cells (headBytes pk al n)).toArray := by
  have h1 : ((UInt8.ofNat al).toNat : Int) = al := by rw [ofNat_val]; omega
  have h2 : ((UInt8.ofNat n).toNat : Int) = n := by rw [ofNat_val]; omega
  cases pk <;> (simp [cells, cell, headBytes] <;> omega)

set_option maxRecDepth 100000 in
set_option maxHeartbeats 1000000 in
theorem layHead_any (w : World) (n al : Nat) (key : ByteArray) (pk : Bool) (hal : al ≤ 16) (hn : n ≤ 20) :
    Calls Tryz.prog 75 #[.int .i64 n, .agg #[.string key, .int .i64 al, .bool pk]] w fun e w' => ∃ v, e = .returned v ∧ Own w.heap.size w' v (headBytes pk al n) ∧ Below w.heap.size w w' := by
  have b0 := (Below.refl w.heap.size w).alloc (Nat.le_refl _) (.cells #[.string key, .int .i64 al, .bool pk] 49)
  have c01 := cell_new w #[.string key, .int .i64 al, .bool pk] 49 1
  have c02 := cell_new w #[.string key, .int .i64 al, .bool pk] 49 2
  have HO := hide (own_lit (w.alloc (.cells #[.string key, .int .i64 al, .bool pk] 49)) w.heap.size _ (headBytes pk al n) 5 (cells_head pk al n hal hn) rfl b0.size (by simp [maxLen]))
  cases pk
  · have HB := hide (b0.alloc b0.size (.cells #[Value.int .u8 80, Value.int .u8 76, Value.int .u8 (al : Int), Value.int .u8 0, Value.int .u8 (n : Int)] 5))
    go_enter Tryz.func75, Tryz.ntmps75
    go_wp2
    go_ret
    exact ⟨_, rfl, by simpa using HO.out, HB.out⟩
  · have HB := hide (b0.alloc b0.size (.cells #[Value.int .u8 80, Value.int .u8 76, Value.int .u8 (al : Int), Value.int .u8 1, Value.int .u8 (n : Int)] 5))
    go_enter Tryz.func75, Tryz.ntmps75
    go_wp2
    go_ret
    exact ⟨_, rfl, by simpa using HO.out, HB.out⟩

set_option maxRecDepth 100000 in
set_option maxHeartbeats 1000000 in
theorem noughtsAhead_any (w : World) (n al : Nat) (hal : 1 ≤ al) (hal2 : al ≤ 16) (hn : n ≤ 100000000) :
    Calls Tryz.prog 99 #[.int .i64 n, .int .i64 al] w fun e w' => e = .returned (.int .i64 (padOf al n : Nat)) ∧ w' = w := by
  have hpad := padOf_lt (al := al) (by omega) n
  have HPL := hide (fun k => padOf_least (al := al) (n := n) (k := k) (by omega))
  have HPZ := hide (padOf_zero (al := al) (n := n) (by omega))
  obtain ⟨pd, HPD⟩ : ∃ pd, Hid (pd = padOf al n) := ⟨_, rfl⟩
  rw [← HPD.out] at hpad HPL HPZ ⊢
  go_enter Tryz.func99, Tryz.ntmps99
  go_wp2
  go_loop [5] (fun n => ∃ k : Nat, k ≤ pd ∧ n = .int .i64 k) (fun n => pd - (intOf n).toNat)
  case atStart => exact ⟨0, by omega, rfl⟩
  case round =>
    obtain ⟨k, hk, rfl⟩ := hrel
    have hka : (k : Int) < (al : Int) := by omega
    by_cases hkp : k < pd
    · have hne : ((((n : Int) + k) % al) != 0) = true := by
        have h := HPL.out k hkp
        rw [bne_iff_ne]
        intro e
        apply h
        have : (((n + k) % al : Nat) : Int) = ((n : Int) + k) % al := by simp
        omega
      go_wp2
      go_round
      case rel => exact ⟨k + 1, by omega, by go_num⟩
      case measure => simp [intOf]; omega
    · have hke : k = pd := by omega
      subst hke
      have heq : ((((n : Int) + k) % al) != 0) = false := by
        have h := HPZ.out
        have : (((n + k) % al : Nat) : Int) = ((n : Int) + k) % al := by simp
        rw [bne_eq_false_iff_eq]
        omega
      clear HPL HPZ
      go_wp2
      go_ret
      exact ⟨rfl, rfl⟩

/-- The least fault of settings. -/
def setF (key : ByteArray) (al : Int) : Nat := if keyB key.size = false then 1 else if al < 1 ∨ 16 < al then 2 else 0

set_option maxRecDepth 100000 in
set_option maxHeartbeats 1000000 in
theorem settingsFault_any (w : World) (al : Int) (key : ByteArray) (pk : Bool) (hk : key.size ≤ maxLen) :
    Calls Tryz.prog 49 #[.agg #[.string key, .int .i64 al, .bool pk]] w fun e w' => e = .returned (.int .i64 (setF key al : Nat)) ∧ Below w.heap.size w w' := by
  have b0 := (Below.refl w.heap.size w).alloc (Nat.le_refl _) (.cells #[.string key, .int .i64 al, .bool pk] 49)
  have c00 := cell_new w #[.string key, .int .i64 al, .bool pk] 49 0
  have c01 := cell_new w #[.string key, .int .i64 al, .bool pk] 49 1
  have HK := isKey_any key
  cases hkb : keyB key.size
  · rw [hkb] at HK
    have HF : Hid (setF key al = 1) := by show _ = _; rw [setF, if_pos hkb]
    clear hkb
    go_enter Tryz.func49, Tryz.ntmps49
    go_wp2_with fail
    refine (HK _ hk).mono ?_
    rintro e w' ⟨rfl, rfl⟩
    go_wp2
    go_ret
    rw [HF.out]
    exact ⟨rfl, b0⟩
  · rw [hkb] at HK
    by_cases h1 : al < 1
    · have HF : Hid (setF key al = 2) := by show _ = _; rw [setF, if_neg (by rw [hkb]; simp), if_pos (.inl h1)]
      clear hkb
      go_enter Tryz.func49, Tryz.ntmps49
      go_wp2_with fail
      refine (HK _ hk).mono ?_
      rintro e w' ⟨rfl, rfl⟩
      go_wp2
      go_ret
      rw [HF.out]
      exact ⟨rfl, b0⟩
    · by_cases h2 : 16 < al
      · have HF : Hid (setF key al = 2) := by show _ = _; rw [setF, if_neg (by rw [hkb]; simp), if_pos (.inr h2)]
        clear hkb
        go_enter Tryz.func49, Tryz.ntmps49
        go_wp2_with fail
        refine (HK _ hk).mono ?_
        rintro e w' ⟨rfl, rfl⟩
        go_wp2
        go_ret
        rw [HF.out]
        exact ⟨rfl, b0⟩
      · have HF : Hid (setF key al = 0) := by show _ = _; rw [setF, if_neg (by rw [hkb]; simp), if_neg (by omega)]
        clear hkb
        go_enter Tryz.func49, Tryz.ntmps49
        go_wp2_with fail
        refine (HK _ hk).mono ?_
        rintro e w' ⟨rfl, rfl⟩
        go_wp2
        go_ret
        rw [HF.out]
        exact ⟨rfl, b0⟩

set_option maxRecDepth 100000 in
set_option maxHeartbeats 1000000 in
theorem liesUnder_any (s t : ByteArray) (w : World) (hs : s.size ≤ maxLen) (ht : t.size ≤ maxLen) :
    Calls Tryz.prog 96 #[.string s, .string t] w fun e w' => e = .returned (.bool (underB s.data.toList t.data.toList)) ∧ w' = w := by
  have hs63 : s.size ≤ 9223372036854775807 := by unfold maxLen at hs; omega
  unfold maxLen at ht
  have HS := hide (strLen s)
  have HT := hide (strLen t)
  by_cases h1 : t.size < s.size
  · have ex : (s.extract 0 t.size).toList = s.data.toList.take t.size := by rw [Lib.extract_toList]; simp
    have et : t.toList = t.data.toList := ByteArray.toList_eq t
    have HG := hide (strGet s t.size h1)
    by_cases h3 : (s[t.size]).toNat = 47
    · have h3' : (((s[t.size]).toNat : Int) == 47) = true := by rw [h3]; rfl
      by_cases h2 : s.data.toList.take t.size = t.data.toList
      · have h2' : ((s.extract 0 t.size).toList == t.toList) = true := by rw [ex, et, h2]; simp
        have HE : Hid (underB s.data.toList t.data.toList = true) := by
          show _ = _
          unfold underB
          rw [HS.out, HT.out, ← HG.out]
          simp [h1, h2, h3]
        clear ex et h2 h3
        go_enter Tryz.func96, Tryz.ntmps96
        go_wp2
        go_ret
        exact ⟨ret_bool HE.out.symm, rfl⟩
      · have h2' : ((s.extract 0 t.size).toList == t.toList) = false := by rw [ex, et, beq_eq_false_iff_ne]; exact h2
        have HE : Hid (underB s.data.toList t.data.toList = false) := by
          show _ = _
          unfold underB
          rw [HT.out]
          simp [h2]
        clear ex et h2 h3
        go_enter Tryz.func96, Tryz.ntmps96
        go_wp2
        go_ret
        exact ⟨ret_bool HE.out.symm, rfl⟩
    · have h3' : (((s[t.size]).toNat : Int) == 47) = false := by rw [beq_eq_false_iff_ne]; omega
      have HE : Hid (underB s.data.toList t.data.toList = false) := by
        show _ = _
        unfold underB
        rw [HS.out, HT.out, ← HG.out]
        simp [h3]
      clear ex et h3
      go_enter Tryz.func96, Tryz.ntmps96
      go_wp2
      go_ret
      exact ⟨ret_bool HE.out.symm, rfl⟩
  · have HE : Hid (underB s.data.toList t.data.toList = false) := by
      show _ = _
      unfold underB
      rw [HS.out, HT.out]
      simp [h1]
    go_enter Tryz.func96, Tryz.ntmps96
    go_wp2
    go_ret
    exact ⟨ret_bool HE.out.symm, rfl⟩

end Go.Proofs.YtgncohclofdhmaaGreat

namespace Go.Proofs.YtgncohclofdhmaaGreat
open Go.RowKit

set_option maxRecDepth 100000 in
set_option maxHeartbeats 1000000 in
theorem layBody_any (a : Option Addr) (xs : List UInt8) (cap : Nat) (pk : Bool) (w : World) (hm : xs.length ≤ 600) (hcap : xs.length ≤ cap) (hcm : cap ≤ maxLen) (hb : Bts w a xs) :
    Calls Tryz.prog 97 #[.slice a xs.length cap, .bool pk] w fun e w' => ∃ v, e = .returned (.tuple #[.int .i64 (methOf pk xs : Nat), v]) ∧ Own w.heap.size w' v (laidOf pk xs) ∧ Below w.heap.size w w' := by
  have o0 := Own.nil w.heap.size w
  have hs0 := src_bts (c := cap) (n := xs.length) Tryz.underlying29 hb rfl
  cases pk
  · have HM : Hid (methOf false xs = 0 ∧ laidOf false xs = xs) := ⟨rfl, rfl⟩
    rw [HM.out.1, HM.out.2]
    go_enter Tryz.func97, Tryz.ntmps97
    go_wp2_with (at_builtin; go_must (refine wpAppG rfl (.tmp 17) (.tmp 18) 29 rfl w.heap.size _ [] rfl o0 _ xs rfl _ hs0 (by simp; omega) (Nat.le_refl _) ?_))
    intro v1 w1 z1 e1 o1 g1
    have b1 := g1.below (Below.refl w.heap.size w) o0 (Nat.le_refl _)
    obtain rfl : z1 = xs := e1.out
    clear e1 g1 hs0 o0
    go_wp2
    go_ret2
    exact ⟨v1, rfl, o1, b1⟩
  · by_cases h : (packOf xs).length < xs.length
    · have HM : Hid (methOf true xs = 1 ∧ laidOf true xs = packOf xs) := by constructor <;> simp [methOf, laidOf, h]
      rw [HM.out.1, HM.out.2]
      have hi : (((packOf xs).length : Int) < (xs.length : Int)) := by omega
      have HPk := hide (fun W hW => packBody_any a xs cap W (by omega) hcap hcm hW)
      generalize packOf xs = ys at *
      go_enter Tryz.func97, Tryz.ntmps97
      go_wp2_with fail
      refine (HPk.out _ hb).mono ?_
      rintro e w1 ⟨v1, rfl, o1, b1⟩
      obtain ⟨a1, c1, rfl, hb1, -, -⟩ := o1.shape
      go_wp2
      go_ret2
      exact ⟨_, rfl, o1, b1⟩
    · have HM : Hid (methOf true xs = 0 ∧ laidOf true xs = xs) := by constructor <;> simp [methOf, laidOf, h]
      rw [HM.out.1, HM.out.2]
      have hi : ¬ (((packOf xs).length : Int) < (xs.length : Int)) := by omega
      have HPk := hide (fun W hW => packBody_any a xs cap W (by omega) hcap hcm hW)
      generalize packOf xs = ys at *
      go_enter Tryz.func97, Tryz.ntmps97
      go_wp2_with fail
      refine (HPk.out _ hb).mono ?_
      rintro e w1 ⟨v1, rfl, o1, b1⟩
      obtain ⟨a1, c1, rfl, hb1, -, -⟩ := o1.shape
      have o2 : Own w.heap.size w1 (.slice none 0 0) [] := Own.nil _ _
      have hs2 := src_bts (c := cap) (n := xs.length) Tryz.underlying29 (hb.carry b1) rfl
      go_wp2_with (at_builtin; go_must (refine wpAppG rfl (.tmp 17) (.tmp 18) 29 rfl w.heap.size _ [] rfl o2 _ xs rfl _ hs2 (by simp; omega) b1.size ?_))
      intro v3 w3 z3 e3 o3 g3
      have b3 := g3.below b1 o2 (Nat.le_refl _)
      obtain rfl : z3 = xs := e3.out
      clear e3 g3 hs2 o2
      go_wp2
      go_ret2
      exact ⟨v3, rfl, o3, b3⟩

theorem cells_byte (n : Nat) (h : n ≤ 255) : #[Value.int .u8 (n : Int)] = (cells [UInt8.ofNat n]).toArray := by
  simp [cells, cell]
  omega

theorem methOf_le (pk : Bool) (b : List UInt8) : methOf pk b ≤ 1 := by
  unfold methOf
  split <;> omega

set_option maxRecDepth 100000 in
set_option maxHeartbeats 4000000 in
theorem layEntry_any (w : World) (p key : ByteArray) (ab : Option Addr) (b : List UInt8) (bc pl al : Nat) (pk : Bool) (hp : p.size ≤ 40) (hbl : b.length ≤ 600) (hal : 1 ≤ al) (hal2 : al ≤ 16) (hpl : pl ≤ 1000000)
    (hb : Bts w ab b) (hbc : b.length ≤ bc) (hbc2 : bc ≤ maxLen) :
    Calls Tryz.prog 76 #[.agg #[.string p, .slice ab b.length bc], .int .i64 pl, .agg #[.string key, .int .i64 al, .bool pk]] w
      fun e w' => ∃ v', e = .returned v' ∧ Own w.heap.size w' v' (entOf pk al pl p.data.toList b) ∧ Below w.heap.size w w' := by
  have HPl := hide (strLen p)
  have k0 : ((w.alloc (.cells #[.string p, .slice ab b.length bc] 46)).alloc (.cells #[.string key, .int .i64 al, .bool pk] 49)).cell? ⟨w.heap.size, 0, none⟩ = some (.string p) := cell_alloc _ (cell_new w _ _ 0)
  have k1 : ((w.alloc (.cells #[.string p, .slice ab b.length bc] 46)).alloc (.cells #[.string key, .int .i64 al, .bool pk] 49)).cell? ⟨w.heap.size, 1, none⟩ = some (.slice ab b.length bc) := cell_alloc _ (cell_new w _ _ 1)
  have esz : (w.alloc (.cells #[.string p, .slice ab b.length bc] 46)).heap.size = w.heap.size + 1 := by simp
  have k2 : ((w.alloc (.cells #[.string p, .slice ab b.length bc] 46)).alloc (.cells #[.string key, .int .i64 al, .bool pk] 49)).cell? ⟨w.heap.size + 1, 1, none⟩ = some (.int .i64 al) := by
    have h := cell_new (w.alloc (.cells #[.string p, .slice ab b.length bc] 46)) #[.string key, .int .i64 al, .bool pk] 49 1
    rw [esz] at h
    exact h
  have k3 : ((w.alloc (.cells #[.string p, .slice ab b.length bc] 46)).alloc (.cells #[.string key, .int .i64 al, .bool pk] 49)).cell? ⟨w.heap.size + 1, 2, none⟩ = some (.bool pk) := by
    have h := cell_new (w.alloc (.cells #[.string p, .slice ab b.length bc] 46)) #[.string key, .int .i64 al, .bool pk] 49 2
    rw [esz] at h
    exact h
  have bw2 := ((Below.refl w.heap.size w).alloc (Nat.le_refl _) (.cells #[.string p, .slice ab b.length bc] 46)).alloc (by simp) (.cells #[.string key, .int .i64 al, .bool pk] 49)
  have sz2 : ((w.alloc (.cells #[.string p, .slice ab b.length bc] 46)).alloc (.cells #[.string key, .int .i64 al, .bool pk] 49)).heap.size = w.heap.size + 2 := by simp
  have hb2 := hb.carry bw2
  go_enter Tryz.func76, Tryz.ntmps76
  go_wp2_with fail
  refine (layBody_any ab b bc pk _ hbl hbc hbc2 hb2).mono ?_
  rintro e w3 ⟨vl, rfl, ol, bl⟩
  have bw3 := bw2.trans (bl.mono bw2.size)
  have c30 := (bl.cell (p := ⟨w.heap.size, 0, none⟩) (by rw [sz2]; simp)).trans k0
  have c31 := (bl.cell (p := ⟨w.heap.size, 1, none⟩) (by rw [sz2]; simp)).trans k1
  have c32 := (bl.cell (p := ⟨w.heap.size + 1, 1, none⟩) (by rw [sz2]; simp)).trans k2
  have s3 : w.heap.size + 2 ≤ w3.heap.size := by have := bl.size; rw [sz2] at this; exact this
  have ol' : Own w.heap.size w3 vl (laidOf pk b) := ol.mono (by rw [sz2]; omega)
  have hlm : (laidOf pk b).length ≤ 600 := Nat.le_trans (laidOf_le pk b) hbl
  have hmm := methOf_le pk b
  obtain ⟨lb, HLb⟩ : ∃ lb, Hid (lb = laidOf pk b) := ⟨_, rfl⟩
  obtain ⟨me, HMe⟩ : ∃ me, Hid (me = methOf pk b) := ⟨_, rfl⟩
  rw [← HLb.out] at ol' hlm
  rw [← HMe.out] at hmm ⊢
  obtain ⟨al3, cl3, rfl, hbl3, -, -⟩ := ol'.shape
  have J0 : ∀ ad, al3 = some ad → ad.block < w3.heap.size := by
    intro ad e
    subst e
    exact ol'.blk_lt ad.block rfl
  clear k0 k1 k2 k3 bw2 sz2 esz bl ol hb2
  have o3a := own_lit w3 w.heap.size _ [UInt8.ofNat p.size] 1 (cells_byte p.size (by omega)) rfl (by omega) (by simp [maxLen])
  have c3a0 := cell_alloc (.cells #[.int .u8 (p.size : Int)] 5) c30
  have c3a1 := cell_alloc (.cells #[.int .u8 (p.size : Int)] 5) c31
  have c3a2 := cell_alloc (.cells #[.int .u8 (p.size : Int)] 5) c32
  have b3a := bw3.alloc bw3.size (.cells #[.int .u8 (p.size : Int)] 5)
  have J3a : Laid (w3.alloc (.cells #[.int .u8 (p.size : Int)] 5)) (.slice (some ⟨w3.heap.size, 0, none⟩) 1 1) al3 lb := by
    refine ⟨hbl3.carry ((Below.refl _ _).alloc (Nat.le_refl _) _), ?_, ?_⟩
    · intro ad e
      have := J0 ad e
      simp [Value.ownBlock]
      omega
    · intro ad e
      have := J0 ad e
      simp
      omega
  have n0 : Value.ownBlock (.slice (some ⟨w3.heap.size, 0, none⟩) 1 1) ≠ some w.heap.size := by simp [Value.ownBlock]; omega
  have n1 : Value.ownBlock (.slice (some ⟨w3.heap.size, 0, none⟩) 1 1) ≠ some (w.heap.size + 1) := by simp [Value.ownBlock]; omega
  clear hbl3 J0 ol'
  go_wp2_with (at_builtin; go_must (refine wpAppG rfl (.tmp 27) (.tmp 29) 9 rfl w.heap.size _ _ rfl o3a _ p.data.toList rfl p.size (src_str _ Tryz.underlying9 p) (by have := HPl.out; simp; omega) b3a.size ?_))
  intro v5 w5 z5 e5 o5 g5
  obtain ⟨c50, n50⟩ := g5.keep c3a0 n0
  obtain ⟨c51, _⟩ := g5.keep c3a1 n0
  obtain ⟨c52, n51⟩ := g5.keep c3a2 n1
  have J5 := J3a.next g5
  have b5 := g5.below b3a o3a (Nat.le_refl _)
  have L5 : Hid (z5.length = 1 + p.size) := by show _ = _; rw [e5.out, List.length_cons, HPl.out]; omega
  clear g5 c30 c31 c32 c3a0 c3a1 c3a2 n0 n1 o3a J3a b3a
  have hs5 := src_len w5 me (by omega)
  have o5a := o5.alloc (.cells #[.int .u8 (me : Int)] 5)
  have c5a0 := cell_alloc (.cells #[.int .u8 (me : Int)] 5) c50
  have c5a1 := cell_alloc (.cells #[.int .u8 (me : Int)] 5) c51
  have c5a2 := cell_alloc (.cells #[.int .u8 (me : Int)] 5) c52
  have b5a := b5.alloc b5.size (.cells #[.int .u8 (me : Int)] 5)
  have J5a := J5.next (Grows.alloc w5 v5 (.cells #[.int .u8 (me : Int)] 5))
  go_wp2_with (at_builtin; go_must (refine wpAppG rfl (.tmp 31) (.tmp 34) 29 rfl w.heap.size v5 z5 rfl o5a _ [UInt8.ofNat me] rfl 1 hs5 (by have := L5.out; simp; omega) b5a.size ?_))
  intro v6 w6 z6 e6 o6 g6
  obtain ⟨c60, n60⟩ := g6.keep c5a0 n50
  obtain ⟨c61, _⟩ := g6.keep c5a1 n50
  obtain ⟨c62, n61⟩ := g6.keep c5a2 n51
  have J6 := J5a.next g6
  have b6 := g6.below b5a o5a (Nat.le_refl _)
  have L6 : Hid (z6.length = p.size + 2) := by show _ = _; rw [e6.out, List.length_append, L5.out]; simp; omega
  clear g6 c50 c51 c52 c5a0 c5a1 c5a2 n50 n51 o5 o5a b5 b5a hs5 J5 J5a
  go_wp2_with fail
  refine (twoBytes_any _ b.length (by omega)).mono ?_
  rintro e w7 ⟨v7, rfl, o7, bb7⟩
  have g7 := Grows.ofBelow v6 bb7
  obtain ⟨c70, n70⟩ := g7.keep c60 n60
  obtain ⟨c71, _⟩ := g7.keep c61 n60
  obtain ⟨c72, n71⟩ := g7.keep c62 n61
  have J7 := J6.next g7
  have b7 := b6.trans (bb7.mono b6.size)
  have p7 := o6.carry bb7
  obtain ⟨a7, k7, rfl, h7, -, -⟩ := o7.shape
  clear g7 c60 c61 c62 n60 n61 o6 b6 bb7 o7 J6
  go_wp2_with (at_builtin; go_must (refine wpAppG rfl (.tmp 40) (.tmp 41) 29 rfl w.heap.size v6 z6 rfl p7 _ (twoOf b.length) rfl _ (src_bts Tryz.underlying29 h7 rfl) (by have := L6.out; simp [twoOf]; omega) b7.size ?_))
  intro v8 w8 z8 e8 o8 g8
  obtain ⟨c80, n80⟩ := g8.keep c70 n70
  obtain ⟨c82, n81⟩ := g8.keep c72 n71
  have J8 := J7.next g8
  have b8 := g8.below b7 p7 (Nat.le_refl _)
  have L8 : Hid (z8.length = p.size + 4) := by show _ = _; rw [e8.out, List.length_append, L6.out]; rfl
  clear g8 c70 c71 c72 n70 n71 p7 b7 h7 J7
  go_wp2_with fail
  refine (twoBytes_any _ lb.length (by omega)).mono ?_
  rintro e w9 ⟨v9, rfl, o9, bb9⟩
  have g9 := Grows.ofBelow v8 bb9
  obtain ⟨c92, n91⟩ := g9.keep c82 n81
  have J9 := J8.next g9
  have b9 := b8.trans (bb9.mono b8.size)
  have p9 := o8.carry bb9
  obtain ⟨a9, k9, rfl, h9, -, -⟩ := o9.shape
  clear g9 c80 c82 n80 n81 o8 b8 bb9 o9 J8
  go_wp2_with (at_builtin; go_must (refine wpAppG rfl (.tmp 46) (.tmp 47) 29 rfl w.heap.size v8 z8 rfl p9 _ (twoOf lb.length) rfl _ (src_bts Tryz.underlying29 h9 rfl) (by have := L8.out; simp [twoOf]; omega) b9.size ?_))
  intro v10 w10 z10 e10 o10 g10
  obtain ⟨c102, n101⟩ := g10.keep c92 n91
  have J10 := J9.next g10
  have b10 := g10.below b9 p9 (Nat.le_refl _)
  have L10 : Hid (z10.length = p.size + 6) := by show _ = _; rw [e10.out, List.length_append, L8.out]; rfl
  have HH : Hid (z10 = entHead pk p.data.toList b) := by
    show _ = _
    rw [e10.out, e8.out, e6.out, e5.out, HLb.out, HMe.out]
    simp [entHead, HPl.out]
  clear g10 c92 n91 p9 b9 h9 J9 e5 e6 e8 e10
  obtain ⟨a10, cap10, rfl, hb10, -, -⟩ := o10.shape
  have hl10 : z10.length ≤ 100 := by have := L10.out; omega
  obtain ⟨pd, HPD⟩ : ∃ pd, Hid (pd = entPad pk al pl p.data.toList b) := ⟨_, rfl⟩
  have HPD0 : Hid (me = 0 → padOf al (pl + z10.length + 1) = pd) := by
    intro h
    rw [HPD.out, entPad, if_pos (by rw [← HMe.out]; exact h), ← HH.out]
  have HPD1 : Hid (me ≠ 0 → pd = 0) := by
    intro h
    rw [HPD.out, entPad, if_neg (by rw [← HMe.out]; exact h)]
  have hpd : pd ≤ 16 := by
    by_cases h : me = 0
    · have := padOf_lt (al := al) (by omega) (pl + z10.length + 1)
      have := HPD0.out h
      omega
    · have := HPD1.out h
      omega
  go_upto_if 50 with fail
  go_cut [12, 50] (fun s12 _ wx => s12 = .int .i64 (pd : Nat) ∧ wx = w10)
  case first =>
    by_cases h0 : me = 0
    · have HP := hide (HPD0.out h0)
      subst h0
      have HNA := hide (fun W => noughtsAhead_any W (pl + z10.length + 1) al hal hal2 (by omega))
      rw [HP.out] at HNA
      have HCast : Hid (((pl : Int) + (z10.length : Int) + 1) = ((pl + z10.length + 1 : Nat) : Int)) := by show _ = _; omega
      go_wp2_with fail
      rw [HCast.out]
      refine (HNA.out _).mono ?_
      rintro e w' ⟨rfl, rfl⟩
      go_wp2
      go_meet
      exact ⟨rfl, rfl⟩
    · have HP := hide (HPD1.out h0)
      have h0b : ((me : Int) == 0) = false := by rw [beq_eq_false_iff_ne]; omega
      go_wp2
      go_meet
      exact ⟨by rw [HP.out]; rfl, rfl⟩
  case rest =>
    obtain ⟨rfl, rfl⟩ := hcut
    clear c102 n101 HPD0 HPD1
    have hs10 := src_len wc pd (by omega)
    have o10a := o10.alloc (.cells #[.int .u8 (pd : Int)] 5)
    have b10a := b10.alloc b10.size (.cells #[.int .u8 (pd : Int)] 5)
    have J10a := J10.next (Grows.alloc wc (.slice a10 z10.length cap10) (.cells #[.int .u8 (pd : Int)] 5))
    go_wp2_with (at_builtin; go_must (refine wpAppG rfl (.tmp 59) (.tmp 62) 29 rfl w.heap.size _ z10 rfl o10a _ [UInt8.ofNat pd] rfl 1 hs10 (by simp; omega) b10a.size ?_))
    intro v11 w11 z11 e11 o11 g11
    have J11 := J10a.next g11
    have b11 := g11.below b10a o10a (Nat.le_refl _)
    have hl11 : z11.length ≤ 200 := by rw [e11.out]; simp; omega
    clear g11 o10a b10a hs10 J10a J10 b10 o10 hb10
    go_wp2
    go_loopw [9, 13] (fun u i wr => ∃ (j : Nat) (ys : List UInt8), j ≤ pd ∧ i = .int .i64 j ∧ Own w.heap.size wr u ys ∧ Hid (ys = z11 ++ List.replicate j 0) ∧ Laid wr u al3 lb ∧ Below w.heap.size w wr) (fun _ i _ => pd - (intOf i).toNat)
    case atStart => exact ⟨0, z11, by omega, rfl, o11, by simp [Hid], J11, b11⟩
    clear o11 J11 b11
    case round =>
      obtain ⟨j, ys, hj, rfl, oy, HY, Jy, by_⟩ := hrel
      have hly : ys.length ≤ 300 := by rw [HY.out]; simp; omega
      by_cases hjk : j < pd
      · have hsy := src_len wr 0 (by omega)
        have oya := oy.alloc (.cells #[.int .u8 0] 5)
        have bya := by_.alloc by_.size (.cells #[.int .u8 0] 5)
        have Jya := Jy.next (Grows.alloc wr _ (.cells #[.int .u8 0] 5))
        go_wp2_with (at_builtin; go_must (refine wpAppG rfl (.tmp 69) (.tmp 70) 29 rfl w.heap.size _ ys rfl oya _ [UInt8.ofNat 0] rfl 1 hsy (by simp; omega) bya.size ?_))
        intro v12 w12 z12 e12 o12 g12
        have J12 := Jya.next g12
        have b12 := g12.below bya oya (Nat.le_refl _)
        have HY2 : Hid (z12 = z11 ++ List.replicate (j + 1) 0) := by
          show _ = _
          rw [e12.out, HY.out, List.replicate_succ']
          simp
        clear g12 oya bya hsy Jya
        go_wp2
        go_roundw
        case rel => first | exact ⟨j + 1, z12, by omega, by go_num, o12, HY2, J12, b12⟩ | ((repeat apply Exists.intro); exact ⟨⟨j + 1, z12, by omega, by go_num, o12, HY2, J12, b12⟩, rfl⟩)
        case measure => simp [intOf]; omega
      · have hje : j = pd := by omega
        subst hje
        go_wp2_with (at_builtin; go_must (refine wpAppG rfl (.tmp 72) (.tmp 73) 29 rfl w.heap.size _ ys rfl oy _ lb rfl _ (src_bts Tryz.underlying29 Jy.bts rfl) (by omega) by_.size ?_))
        intro v13 w13 z13 e13 o13 g13
        have b13 := g13.below by_ oy (Nat.le_refl _)
        have HZ : Hid (z13 = entOf pk al pl p.data.toList b) := by
          show _ = _
          rw [e13.out, HY.out, e11.out, HH.out, HPD.out, HLb.out]
          simp [entOf]
        obtain rfl := HZ.out
        clear HZ e13 g13 oy by_
        go_wp2
        go_ret
        exact ⟨v13, rfl, o13, b13⟩

end Go.Proofs.YtgncohclofdhmaaGreat

namespace Go.Proofs.YtgncohclofdhmaaGreat
open Go.RowKit

theorem body_bound (pk : Bool) (al : Nat) (hal : 1 ≤ al) (hal2 : al ≤ 16) (n : Nat) (es : List Ent) (hn : es.length ≤ 20) (hlim : ∀ e, e ∈ es → e.path.size ≤ 40 ∧ e.body.length ≤ 600) : (bodyOf pk al (headBytes pk al n) (pairsOf es)).length ≤ 100000 := by
  have := bodyOf_le pk al (by omega) hal2 (pairsOf es) (headBytes pk al n) (by
    intro x hx
    obtain ⟨e, he, rfl⟩ := List.mem_map.1 hx
    have h := hlim e he
    exact ⟨by rw [pairOf, strLen]; exact h.1, h.2⟩)
  simp [headBytes, pairsOf] at this ⊢
  omega

set_option maxRecDepth 100000 in
set_option maxHeartbeats 4000000 in
theorem layPackage_any (a : Option Addr) (es : List Ent) (cap : Nat) (w : World) (key : ByteArray) (al : Nat) (pk : Bool) (hm : es.length ≤ 20) (hal : 1 ≤ al) (hal2 : al ≤ 16) (hk : key.size ≤ maxLen) (hlim : ∀ e, e ∈ es → e.path.size ≤ 40 ∧ e.body.length ≤ 600)
    (ha : EntAt w a es) (hg : EntGood w es) :
    Calls Tryz.prog 52 #[.slice a es.length cap, .agg #[.string key, .int .i64 al, .bool pk]] w fun e w' => ∃ v, e = .returned v ∧ Own w.heap.size w' v (madeOf key.data.toList pk al (pairsOf es)) ∧ Below w.heap.size w w' := by
  have b0 := (Below.refl w.heap.size w).alloc (Nat.le_refl _) (.cells #[.string key, .int .i64 al, .bool pk] 49)
  have c00 := cell_new w #[.string key, .int .i64 al, .bool pk] 49 0
  have c01 := cell_new w #[.string key, .int .i64 al, .bool pk] 49 1
  have c02 := cell_new w #[.string key, .int .i64 al, .bool pk] 49 2
  have esz : (w.alloc (.cells #[.string key, .int .i64 al, .bool pk] 49)).heap.size = w.heap.size + 1 := by simp
  obtain ⟨n, HN⟩ : ∃ n, Hid (n = es.length) := ⟨_, rfl⟩
  rw [← HN.out] at hm ⊢
  go_enter Tryz.func52, Tryz.ntmps52
  go_wp2_with fail
  refine (layHead_any _ n al key pk hal2 hm).mono ?_
  rintro e w1 ⟨v1, rfl, o1, b1⟩
  have c10 := (b1.cell (p := ⟨w.heap.size, 0, none⟩) (by rw [esz]; simp)).trans c00
  have c11 := (b1.cell (p := ⟨w.heap.size, 1, none⟩) (by rw [esz]; simp)).trans c01
  have c12 := (b1.cell (p := ⟨w.heap.size, 2, none⟩) (by rw [esz]; simp)).trans c02
  simp at c10 c11 c12
  have hb1 := b0.trans (b1.mono b0.size)
  have n1 : v1.ownBlock ≠ some w.heap.size := by
    intro e
    have := (World.ownsRow.lt o1 _ e).1
    rw [esz] at this
    omega
  have o1' : Own w.heap.size w1 v1 (headBytes pk al n) := o1.mono b0.size
  clear b0 b1 c00 c01 c02 esz o1
  go_wp2
  go_loopw [5, 6, 7] (fun v i _ wr => ∃ (k : Nat) (zs : List UInt8), k ≤ n ∧ i = .int .i64 k ∧ Own w.heap.size wr v zs ∧ Hid (zs = bodyOf pk al (headBytes pk al n) (pairsOf (es.take k))) ∧ v.ownBlock ≠ some w.heap.size ∧
      wr.cell? ⟨w.heap.size, 0, none⟩ = some (.string key) ∧ wr.cell? ⟨w.heap.size, 1, none⟩ = some (.int .i64 al) ∧ wr.cell? ⟨w.heap.size, 2, none⟩ = some (.bool pk) ∧ Below w.heap.size w wr) (fun _ i _ _ => n - (intOf i).toNat)
  case atStart => exact ⟨0, _, by omega, rfl, o1', rfl, n1, c10, c11, c12, hb1⟩
  clear o1' n1 c10 c11 c12 hb1
  case round =>
    obtain ⟨k, zs, hk2, rfl, ho, HZ, hnb, c0, c1, c2, hbl⟩ := hrel
    have hzl : zs.length ≤ 100000 := by
      rw [HZ.out]
      exact body_bound pk al hal hal2 n (es.take k) (by have := HN.out; simp; omega) (fun e he => hlim e (List.mem_of_mem_take he))
    by_cases hlt : k < n
    · have hlt2 : k < es.length := by have := HN.out; omega
      obtain ⟨b, off, rfl, hc1, hc2⟩ := (ha.carry hbl) k hlt2
      have hmem : es.getD k noEnt ∈ es := by
        rw [List.getD_eq_getElem?_getD, List.getElem?_eq_getElem hlt2]
        exact List.getElem_mem hlt2
      obtain ⟨l1, l2⟩ := hlim _ hmem
      obtain ⟨g1, g2, g3, g4⟩ := (hg.carry hbl) _ hmem
      have HT := hide (take_snoc es noEnt k hlt2)
      generalize es.getD k noEnt = x at *
      unfold Ent.val at hc2
      obtain ⟨az, cz, rfl, -, -, -⟩ := ho.shape
      have HEn := hide (fun W (hW : Bts W x.adr x.body) => layEntry_any W x.path key x.adr x.body x.cap zs.length al pk l1 l2 hal hal2 (by omega) hW g2 g3)
      go_wp2
      go_region_with (go_at_call 76; refine (unhide HEn _ (by exact g1)).mono ?_; rintro e w2 ⟨v2, rfl, o2, b2⟩)
      all_goals
        have b2' : Below wr.heap.size wr w2 := by first | exact b2 | exact (Below.refl _ _).drew.trans b2
        have ho2 := ho.carry b2'
        have q0 := (b2'.cell (p := ⟨w.heap.size, 0, none⟩) (World.block_lt_of_cell? _ _ c0)).trans c0
        have q1 := (b2'.cell (p := ⟨w.heap.size, 1, none⟩) (World.block_lt_of_cell? _ _ c1)).trans c1
        have q2 := (b2'.cell (p := ⟨w.heap.size, 2, none⟩) (World.block_lt_of_cell? _ _ c2)).trans c2
        have hbl2 := hbl.trans (b2'.mono hbl.size)
        obtain ⟨a2, k2, rfl, h2, -, -⟩ := o2.shape
        have HL2 : Hid ((entOf pk al zs.length x.path.data.toList x.body).length ≤ 700) := entOf_le pk al zs.length _ _ (by omega) hal2 (by rw [strLen]; exact l1) l2
        have HZ2 : Hid (zs ++ entOf pk al zs.length x.path.data.toList x.body = bodyOf pk al (headBytes pk al n) (pairsOf (es.take (k + 1)))) := by
          show _ = _
          rw [HT.out, pairsOf, List.map_append, List.map_cons, List.map_nil, bodyOf_snoc, HZ.out]
          rfl
        generalize entOf pk al zs.length x.path.data.toList x.body = en at *
        clear b2 b2' o2 HEn ho c0 c1 c2 hc1 hc2 g1
        go_wp2_with (at_builtin; go_must (refine wpAppG rfl (.tmp 32) (.tmp 33) 29 rfl w.heap.size _ zs rfl ho2 _ en rfl _ (src_bts Tryz.underlying29 h2 rfl) (by have := HL2.out; omega) hbl2.size ?_))
        intro v3 w3 z3 e3 o3 g3'
        obtain ⟨r0, n0⟩ := g3'.keep q0 hnb
        obtain ⟨r1, _⟩ := g3'.keep q1 hnb
        obtain ⟨r2, _⟩ := g3'.keep q2 hnb
        have hbl3 := g3'.below hbl2 ho2 (Nat.le_refl _)
        have HZ3 : Hid (z3 = bodyOf pk al (headBytes pk al n) (pairsOf (es.take (k + 1)))) := by
          show _ = _
          rw [e3.out]
          exact HZ2.out
        clear g3' ho2 q0 q1 q2 hbl2 h2
        go_wp2
        go_roundw
        case rel => first | exact ⟨k + 1, z3, by omega, by go_num, o3, HZ3, n0, r0, r1, r2, hbl3⟩ | ((repeat apply Exists.intro); exact ⟨⟨k + 1, z3, by omega, by go_num, o3, HZ3, n0, r0, r1, r2, hbl3⟩, rfl⟩)
        case measure => simp [intOf]; omega
    · have HZ3 : Hid (zs = bodyOf pk al (headBytes pk al n) (pairsOf es)) := by
        have h := HZ.out
        rw [List.take_of_length_le (by have := HN.out; omega)] at h
        exact h
      clear HZ
      go_wp2
      go_loopw [5, 8, 9, 10] (fun v i _ _ wr => ∃ (k : Nat) (ys : List UInt8), k ≤ n ∧ i = .int .i64 k ∧ Own w.heap.size wr v ys ∧ Hid (ys = zs ++ sumsOf (pairsOf (es.take k))) ∧ v.ownBlock ≠ some w.heap.size ∧
          wr.cell? ⟨w.heap.size, 0, none⟩ = some (.string key) ∧ Below w.heap.size w wr) (fun _ i _ _ _ => n - (intOf i).toNat)
      case atStart => exact ⟨0, zs, by omega, rfl, ho, by simp [Hid, pairsOf, sumsOf], hnb, c0, hbl⟩
      clear ho hnb c0 c1 c2 hbl
      case round =>
        obtain ⟨j, ys, hj, rfl, ho, HY, hnb, c0, hbl⟩ := hrel
        have hyl : ys.length ≤ 200000 := by
          rw [HY.out, List.length_append, sumsOf_length]
          simp [pairsOf]
          omega
        by_cases hjl : j < n
        · have hlt2 : j < es.length := by have := HN.out; omega
          obtain ⟨b, off, rfl, -, hc2⟩ := (ha.carry hbl) j hlt2
          have hmem : es.getD j noEnt ∈ es := by
            rw [List.getD_eq_getElem?_getD, List.getElem?_eq_getElem hlt2]
            exact List.getElem_mem hlt2
          obtain ⟨l1, l2⟩ := hlim _ hmem
          obtain ⟨g1, g2, g3, g4⟩ := (hg.carry hbl) _ hmem
          have HT := hide (take_snoc es noEnt j hlt2)
          generalize es.getD j noEnt = x at *
          unfold Ent.val at hc2
          go_wp2_with fail
          refine (Sum_any x.adr x.body x.cap _ (by omega) g1).mono ?_
          rintro e w2 ⟨rfl, rfl⟩
          have hsl := sumOf_lt' x.body
          clear hc2
          go_wp2_with fail
          refine (fourBytes_any _ _ hsl).mono ?_
          rintro e w3 ⟨v3, rfl, o3, b3⟩
          have ho3 := ho.carry b3
          have q0 := (b3.cell (p := ⟨w.heap.size, 0, none⟩) (World.block_lt_of_cell? _ _ c0)).trans c0
          have hbl3 := hbl.trans (b3.mono hbl.size)
          obtain ⟨a3, k3, rfl, h3, -, -⟩ := o3.shape
          have HY2 : Hid (ys ++ fourOf (sumOf x.body) = zs ++ sumsOf (pairsOf (es.take (j + 1)))) := by
            show _ = _
            rw [HT.out, pairsOf, List.map_append, List.map_cons, List.map_nil, sumsOf_append, HY.out, List.append_assoc]
            simp [sumsOf, pairOf, pairsOf]
          clear b3 o3 ho c0 hbl
          go_wp2_with (at_builtin; go_must (refine wpAppG rfl (.tmp 49) (.tmp 50) 29 rfl w.heap.size _ ys rfl ho3 _ (fourOf (sumOf x.body)) rfl _ (src_bts Tryz.underlying29 h3 rfl) (by simp [fourOf]; omega) hbl3.size ?_))
          intro v4 w4 z4 e4 o4 g4'
          obtain ⟨r0, n0⟩ := g4'.keep q0 hnb
          have hbl4 := g4'.below hbl3 ho3 (Nat.le_refl _)
          have HY4 : Hid (z4 = zs ++ sumsOf (pairsOf (es.take (j + 1)))) := by
            show _ = _
            rw [e4.out]
            exact HY2.out
          clear g4' ho3 q0 hbl3 h3
          go_wp2
          go_roundw
          case rel => first | exact ⟨j + 1, z4, by omega, by go_num, o4, HY4, n0, r0, hbl4⟩ | ((repeat apply Exists.intro); exact ⟨⟨j + 1, z4, by omega, by go_num, o4, HY4, n0, r0, hbl4⟩, rfl⟩)
          case measure => simp [intOf]; omega
        · have HY3 : Hid (ys = plainOf pk al (pairsOf es)) := by
            have h := HY.out
            rw [List.take_of_length_le (by have := HN.out; omega)] at h
            show _ = _
            rw [h, HZ3.out, plainOf]
            simp [pairsOf, HN.out]
          obtain ⟨ay, cy, rfl, hby, -, -⟩ := ho.shape
          go_wp2_with fail
          refine (Sum_any ay ys cy _ (by omega) hby).mono ?_
          rintro e w2 ⟨rfl, rfl⟩
          have hsl := sumOf_lt' ys
          clear hby
          go_wp2_with fail
          refine (fourBytes_any _ _ hsl).mono ?_
          rintro e w3 ⟨v3, rfl, o3, b3⟩
          have ho3 := ho.carry b3
          have q0 := (b3.cell (p := ⟨w.heap.size, 0, none⟩) (World.block_lt_of_cell? _ _ c0)).trans c0
          have hbl3 := hbl.trans (b3.mono hbl.size)
          obtain ⟨a3, k3, rfl, h3, -, -⟩ := o3.shape
          clear b3 o3 ho c0 hbl
          go_wp2_with (at_builtin; go_must (refine wpAppG rfl (.tmp 56) (.tmp 57) 29 rfl w.heap.size _ ys rfl ho3 _ (fourOf (sumOf ys)) rfl _ (src_bts Tryz.underlying29 h3 rfl) (by simp [fourOf]; omega) hbl3.size ?_))
          intro v4 w4 z4 e4 o4 g4'
          obtain ⟨r0, n0⟩ := g4'.keep q0 hnb
          have hbl4 := g4'.below hbl3 ho3 (Nat.le_refl _)
          have HW : Hid (z4 = summed ys) := by
            show _ = _
            rw [e4.out]
            rfl
          have hwl : z4.length ≤ 200010 := by rw [e4.out]; simp [fourOf]; omega
          clear g4' ho3 q0 hbl3 h3
          obtain ⟨aw, cw, rfl, hbw, -, -⟩ := o4.shape
          go_wp2_with fail
          refine (tagOf_any key aw z4 cw _ hk (by omega) hbw).mono ?_
          rintro e w5 ⟨rfl, rfl⟩
          have htl := tagVal_lt key.data.toList z4
          clear hbw
          go_wp2_with fail
          refine (fourBytes_any _ _ htl).mono ?_
          rintro e w6 ⟨v6, rfl, o6, b6⟩
          have ho6 := o4.carry b6
          have hbl6 := hbl4.trans (b6.mono hbl4.size)
          obtain ⟨a6, k6, rfl, h6, -, -⟩ := o6.shape
          clear b6 o6 o4 r0 hbl4
          go_wp2_with (at_builtin; go_must (refine wpAppG rfl (.tmp 65) (.tmp 66) 29 rfl w.heap.size _ z4 rfl ho6 _ (fourOf (tagVal key.data.toList z4)) rfl _ (src_bts Tryz.underlying29 h6 rfl) (by simp [fourOf]; omega) hbl6.size ?_))
          intro v7 w7 z7 e7 o7 g7
          have hbl7 := g7.below hbl6 ho6 (Nat.le_refl _)
          have HR : Hid (z7 = madeOf key.data.toList pk al (pairsOf es)) := by
            show _ = _
            rw [e7.out, madeOf, ← HY3.out, ← HW.out]
            rfl
          obtain rfl := HR.out
          clear g7 ho6 hbl6 h6
          go_wp2
          go_ret
          exact ⟨v7, rfl, o7, hbl7⟩

end Go.Proofs.YtgncohclofdhmaaGreat
