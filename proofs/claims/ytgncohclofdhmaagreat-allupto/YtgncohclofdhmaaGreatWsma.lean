import Derived.Test.YtgncohclofdhmaaGreatWsum2
import Derived.Test.YtgncohclofdhmaaGreatWsum
namespace Go.Proofs.YtgncohclofdhmaaGreat
open Go.RowKit

/-- The two answers of Tag. -/
def tagNum (s : ByteArray) (xs : List UInt8) : Nat := if keyB s.size then tagVal s.data.toList xs else 0
def tagErr (s : ByteArray) : Nat := if keyB s.size then 0 else 1

set_option maxHeartbeats 400000 in
theorem tagOf_any (s : ByteArray) (a : Option Addr) (xs : List UInt8) (cap : Nat) (w : World) (hs : s.size ≤ maxLen) (hm : xs.length ≤ 140737488355328) (hb : Bts w a xs) :
    Calls Tryz.prog 58 #[.string s, .slice a xs.length cap] w fun e w' => e = .returned (.int .i64 (tagVal s.data.toList xs : Nat)) ∧ w' = w := by
  have t1 := tagFrom_lt (h := 0) (by omega) s.data.toList
  have t2 := tagFrom_lt t1 xs
  have HN : Hid (tagVal s.data.toList xs = tagFrom (tagFrom (tagFrom 0 s.data.toList) xs) s.data.toList) := tagVal_steps _ _
  go_enter Tryz.func58, Tryz.ntmps58
  go_wp2_with fail
  refine (tagOfText_any 0 s _ (by omega) hs).mono ?_
  rintro e w' ⟨rfl, rfl⟩
  go_wp2_with fail
  refine (tagOfBytes_any _ a xs cap _ t1 hm hb).mono ?_
  rintro e w' ⟨rfl, rfl⟩
  go_wp2_with fail
  refine (tagOfText_any _ s _ t2 hs).mono ?_
  rintro e w' ⟨rfl, rfl⟩
  go_wp2
  go_ret
  rw [HN.out]
  exact ⟨rfl, rfl⟩

set_option maxHeartbeats 400000 in
theorem Tag_any (s : ByteArray) (a : Option Addr) (xs : List UInt8) (cap : Nat) (w : World) (hs : s.size ≤ maxLen) (hm : xs.length ≤ 140737488355328) (hb : Bts w a xs) :
    Calls Tryz.prog 28 #[.string s, .slice a xs.length cap] w fun e w' => e = .returned (.tuple #[.int .i64 (tagNum s xs : Nat), .int .i64 (tagErr s : Nat)]) ∧ w' = w := by
  have hk := isKey_any s
  cases hkb : keyB s.size
  · have HN : Hid ((tagNum s xs : Nat) = 0 ∧ tagErr s = 1) := by constructor <;> simp [tagNum, tagErr, hkb]
    rw [hkb] at hk
    clear hkb
    have HK := hk
    clear hk
    go_enter Tryz.func28, Tryz.ntmps28
    go_wp2_with (go_at_call 57; refine (HK _ hs).mono ?_; rintro e w' ⟨rfl, rfl⟩)
    go_ret2
    rw [HN.out.1, HN.out.2]
    exact ⟨rfl, rfl⟩
  · have HN : Hid ((tagNum s xs : Nat) = tagVal s.data.toList xs ∧ tagErr s = 0) := by constructor <;> simp [tagNum, tagErr, hkb]
    rw [hkb] at hk
    clear hkb
    have HK := hk
    clear hk
    go_enter Tryz.func28, Tryz.ntmps28
    go_wp2_with fail
    refine (HK _ hs).mono ?_
    rintro e w' ⟨rfl, rfl⟩
    go_wp2_with fail
    refine (tagOf_any s a xs cap _ hs hm hb).mono ?_
    rintro e w' ⟨rfl, rfl⟩
    go_wp2
    go_ret2
    rw [HN.out.1, HN.out.2]
    exact ⟨rfl, rfl⟩

end Go.Proofs.YtgncohclofdhmaaGreat

namespace Go.Proofs.YtgncohclofdhmaaGreat
open Go.RowKit

set_option maxHeartbeats 800000 in
theorem refTag_any (s : ByteArray) (a : Option Addr) (xs : List UInt8) (cap : Nat) (w : World) (hs : s.size ≤ maxLen) (hm : xs.length ≤ 140737488355328 - 4096) (hb : Bts w a xs) :
    Calls Tryz.prog 29 #[.string s, .slice a xs.length cap] w fun e w' => e = .returned (.tuple #[.int .i64 (tagNum s xs : Nat), .int .i64 (tagErr s : Nat)]) ∧ Below w.heap.size w w' := by
  have hk := keyFits_any s
  cases hkb : keyB s.size
  · have HN : Hid ((tagNum s xs : Nat) = 0 ∧ tagErr s = 1) := by constructor <;> simp [tagNum, tagErr, hkb]
    rw [hkb] at hk
    clear hkb
    go_enter Tryz.func29, Tryz.ntmps29
    go_wp2_with (go_at_call 59; refine (hk _ hs).mono ?_; rintro e w' ⟨rfl, rfl⟩)
    go_ret2
    rw [HN.out.1, HN.out.2]
    exact ⟨rfl, Below.refl _ _⟩
  · have HN : Hid ((tagNum s xs : Nat) = tagFrom 0 ([] ++ s.data.toList ++ xs ++ s.data.toList) ∧ tagErr s = 0) := by constructor <;> simp [tagNum, tagErr, hkb, tagVal]
    have hk16 : s.data.toList.length ≤ 16 := by
      simp [keyB] at hkb
      simp
      exact hkb.2
    rw [hkb] at hk
    clear hkb
    have hsz : s.size = s.data.toList.length := by simp
    go_enter Tryz.func29, Tryz.ntmps29
    go_wp2_with fail
    refine (hk _ hs).mono ?_
    rintro e w' ⟨rfl, rfl⟩
    clear hk
    have Hsz : Hid (s.size = s.data.toList.length) := hsz
    clear hsz
    go_wp2_with (at_builtin; refine wpApp rfl (.tmp 13) (.tmp 14) 9 rfl w'.heap.size (.slice none 0 0) [] rfl (Own.nil _ _) _ s.data.toList rfl s.size (src_str _ Tryz.underlying9 s) (by simp only [List.length_nil]; omega) (Nat.le_refl _) ?_)
    intro v1 w1 z1 e1 o1 g1
    have l1 : z1.length = s.data.toList.length := congrArg List.length e1.out
    have b1 := below_own (Below.refl _ _) (Own.nil w'.heap.size w') g1 (Nat.le_refl _)
    have hb1 := hb.carry b1
    have L1 : Hid (z1.length = s.data.toList.length) := l1
    clear g1 l1
    go_wp2_with (at_builtin; refine wpApp rfl (.tmp 16) (.tmp 17) 29 rfl w'.heap.size v1 z1 rfl o1 _ xs rfl xs.length (src_bts Tryz.underlying29 hb1 rfl) (by have := L1.out; omega) b1.size ?_)
    intro v2 w2 z2 e2 o2 g2
    have L2 : Hid (z2.length = s.data.toList.length + xs.length) := by show _ = _; rw [e2.out, List.length_append, L1.out]
    have b2 := below_own b1 o1 g2 (Nat.le_refl _)
    clear g2 o1 hb1
    go_wp2_with (at_builtin; refine wpApp rfl (.tmp 19) (.tmp 20) 9 rfl w'.heap.size v2 z2 rfl o2 _ s.data.toList rfl s.size (src_str _ Tryz.underlying9 s) (by have := L2.out; omega) b2.size ?_)
    intro v3 w3 z3 e3 o3 g3
    have b3 := below_own b2 o2 g3 (Nat.le_refl _)
    have hl : z3.length ≤ 140737488355328 := by rw [e3.out, List.length_append, L2.out]; omega
    have HV : Hid (tagNum s xs = tagFrom 0 z3) := by rw [e3.out, e2.out, e1.out]; exact HN.out.1
    have HE : Hid (tagErr s = 0) := HN.out.2
    clear g3 o2 HN
    obtain ⟨a3, c3, rfl, hb3, -, -⟩ := o3.shape
    clear o3 Hsz hk16 b1 b2 hb
    go_wp2_with (go_at_call 60; refine (reftag_any a3 z3 c3 _ hl hb3).mono ?_; rintro e w4 ⟨rfl, rfl⟩)
    go_ret2
    rw [HV.out, HE.out]
    exact ⟨rfl, b3⟩

end Go.Proofs.YtgncohclofdhmaaGreat

namespace Go.Proofs.YtgncohclofdhmaaGreat
open Go.RowKit

theorem Tryz.info4 : (Tryz.prog.info? 4).map (fun i => (i.zero, i.size, i.bytes)) = some (some (.bool false), 1, 1) := by kernel_rfl

/-- A list of bools of the call's own. -/
def OwnB (B : Nat) (w : World) (v : Value) (bs : List Bool) : Prop := w.ownsRow B 4 1 v bs.length (bs.map Value.bool)

theorem OwnB.shape {B : Nat} {w : World} {v : Value} {bs : List Bool} (h : OwnB B w v bs) (hl : 0 < bs.length) :
    ∃ g cap, v = .slice (some ⟨g, 0, none⟩) bs.length cap ∧ B ≤ g ∧ g < w.heap.size ∧ bs.length ≤ cap ∧ cap ≤ maxLen := by
  rcases h.2 with ⟨_, hn⟩ | ⟨g, cap, cur, rfl, hbg, hg, hnc, hcm, hcs, htake⟩
  · omega
  · refine ⟨g, cap, rfl, hbg, ?_, hnc, hcm⟩
    by_cases hh : g < w.heap.size
    · exact hh
    · rw [Array.getElem?_eq_none (by omega)] at hg; simp at hg

theorem OwnB.cellAt {B : Nat} {w : World} {bs : List Bool} {g n cap : Nat} (h : OwnB B w (.slice (some ⟨g, 0, none⟩) n cap) bs) (hn : n = bs.length) (j : Nat) (hj : j < bs.length) :
    w.cell? ⟨g, j, none⟩ = some (.bool (bs.getD j false)) := by
  subst hn
  have := World.ownsRow.cellAt h j (by omega)
  rw [this]
  simp [hj]

theorem OwnB.frozenAt {B : Nat} {w : World} {bs : List Bool} {g n cap : Nat} (h : OwnB B w (.slice (some ⟨g, 0, none⟩) n cap) bs) (hn : n = bs.length) (j : Nat) :
    w.frozen? ⟨g, j, none⟩ = false := by
  subst hn
  exact World.ownsRow.frozenAt h j

theorem OwnB.stored {B : Nat} {w : World} {bs : List Bool} {g n cap : Nat} (h : OwnB B w (.slice (some ⟨g, 0, none⟩) n cap) bs) (hn : n = bs.length) (j : Nat) (u : Bool) :
    OwnB B (w.setCell ⟨g, j, none⟩ (.bool u)) (.slice (some ⟨g, 0, none⟩) n cap) (bs.set j u) := by
  subst hn
  have := (World.ownsRow.stored h j (.bool u)).1
  unfold OwnB
  rw [List.map_set, List.length_set]
  exact this

theorem wpAppB {w : World} {ops : Array Oper} {rest : List Oper} {o : Oper} {a : Act} {Q : Exit → Act → World → Prop} (hgd : o.guard = none) (s x : Operand)
    (ho : o.op = .call { callee := .builtin .append, args := #[s, x], argTypes := #[82, 82] })
    (B : Nat) (v : Value) (xs : List Bool) (hs : a.eval s = v) (hown : OwnB B w v xs)
    (xv : Value) (ys : List Bool) (hx : a.eval x = xv) (m : Nat) (hsrc : Src Tryz.prog 1 82 xv m (ys.map Value.bool) w)
    (hlen : xs.length + ys.length ≤ 140737488355328) (hB : B ≤ w.heap.size)
    (h : ∀ v' w' zs, Hid (zs = xs ++ ys) → OwnB B w' v' zs → w.grownBy w' v.ownBlock → wpList Tryz.prog ops Q rest (a.put o.dst v') w') : wpList Tryz.prog ops Q (o :: rest) a w := by
  obtain ⟨i0, hi, hz0, hz1, hz2⟩ := info_parts Tryz.info4
  have hm : m = ys.length := by have := hsrc.newsLen; simp at this; omega
  refine wpList_append_any w hgd s x 82 82 ho B 4 i0 (.bool false) 1 1 Tryz.underlying82 hi hz0 hz1 hz2 rfl v xs.length (xs.map Value.bool) hs hown xv m (ys.map Value.bool) hx hsrc (by unfold maxLen; omega) (by omega) hB ?_
  intro v' w' h1 h2 _
  refine h v' w' (xs ++ ys) rfl ?_ h2
  unfold OwnB
  rw [List.map_append, List.length_append, ← hm]
  exact h1

theorem below_ownB {B : Nat} {w0 w w' : World} {v : Value} {xs : List Bool} (hb : Below B w0 w) (hown : OwnB B w v xs) (hg : w.grownBy w' v.ownBlock) (hB : B ≤ w0.heap.size) : Below B w0 w' :=
  hb.grown hg (Nat.le_trans hB hb.size) fun k hk => (World.ownsRow.lt hown k hk).1

theorem bools_one (bs : List Bool) : ∀ u ∈ bs.map Value.bool, u.oneCell' = true := by
  intro u hu
  obtain ⟨b, _, rfl⟩ := List.mem_map.1 hu
  rfl

theorem beq_one (a : Nat) (ha : a < 4294967296) (h : Bool) (e : h = a.testBit 0) : (bits .and .i64 (a : Int) 1 == 1) = h := by
  rw [and64_one a ha, e, Nat.testBit_zero, Bool.eq_iff_iff]
  simp
  omega

theorem all_true (bs : List Bool) (hl : bs.length = 32) (h : ∀ j, j < 32 → bs[j]? = some true) : bs = bitsOf 4294967295 := by
  apply List.ext_getElem?
  intro i
  by_cases hi : i < 32
  · rw [h i hi, bitsOf_get _ i hi]
    have := Nat.testBit_two_pow_sub_one 32 i
    simp [hi] at this
    rw [this]
  · rw [List.getElem?_eq_none (by omega), List.getElem?_eq_none (by simp [bitsOf_length]; omega)]

theorem tail_cells {B : Nat} {w : World} {bs : List Bool} {g n cap : Nat} (h : OwnB B w (.slice (some ⟨g, 0, none⟩) n cap) bs) : ∀ j u, ((bs.drop 1).map Value.bool)[j]? = some u → w.cell? ((⟨g, 1, none⟩ : Addr).add j) = some u := by
  intro j u hj
  rw [Addr.add_lit]
  rw [List.getElem?_map, List.getElem?_drop, Option.map_eq_some_iff] at hj
  obtain ⟨b, h1, rfl⟩ := hj
  have hl := (List.getElem?_eq_some_iff.1 h1).1
  have hn : n = bs.length := by
    rcases h.2 with ⟨h', _⟩ | ⟨g', cap', cur, h', _⟩
    · simp at h'
    · simp at h'; omega
  rw [h.cellAt hn (1 + j) hl, List.getD_eq_getElem?_getD, h1]
  rfl

theorem div_pow_int (x q : Nat) : ((x : Int) / 2 ^ q) = ((x >>> q : Nat) : Int) := by
  rw [Nat.shiftRight_eq_div_pow]
  simp

theorem bit_at (x q : Nat) (hx : x < 4294967296) : (bits .and .i64 ((x : Int) / 2 ^ q) 1 == 1) = x.testBit q := by
  rw [div_pow_int]
  apply beq_one
  · rw [Nat.shiftRight_eq_div_pow]
    exact Nat.lt_of_le_of_lt (Nat.div_le_self _ _) hx
  · rw [Nat.testBit_shiftRight]; rfl

theorem out_bit (m x q : Nat) (hx : x < 256) : (!((bitsOf m)[0]?.getD false == (bits .and .i64 ((x : Int) / 2 ^ q) 1 == 1))) = (m.testBit 0 != x.testBit q) := by
  rw [bit_at x q (by omega), bitsOf_get m 0 (by omega)]
  rfl

set_option maxHeartbeats 2000000 in
theorem refSum_any (a : Option Addr) (xs : List UInt8) (cap : Nat) (w : World) (hm : xs.length ≤ 140737488355328) (hb : Bts w a xs) :
    Calls Tryz.prog 27 #[.slice a xs.length cap] w fun e w' => e = .returned (.int .i64 (sumOf xs : Nat)) ∧ Below w.heap.size w w' := by
  obtain ⟨i0, hi, hz0, hz1, hz2⟩ := info_parts Tryz.info4
  go_enter Tryz.func27, Tryz.ntmps27
  go_wp2_with (at_make; refine wpList_make_full _ rfl (.const (.int .i64 32)) (.const (.int .i64 32)) 82 rfl w.heap.size 4 i0 (.bool false) 1 Tryz.underlying82 hi hz0 hz1 .i64 .i64 32 32 32 rfl rfl rfl rfl (by rw [hz2]; omega) (by simp [maxLen]) (Nat.le_refl _) ?_)
  intro w1 h1 g1
  have b1 : Below w.heap.size w w1 := (Below.refl _ _).grown g1 (Nat.le_refl _) (fun k hk => by cases hk)
  have o1 : OwnB w.heap.size w1 (.slice (some ⟨w.heap.size, 0, none⟩) 32 32) (List.replicate 32 false) := by
    have e : (madeCells #[Value.bool false] 32).toList = (List.replicate 32 false).map Value.bool := by
      rw [List.map_replicate]
      exact toList_madeCells_one (.bool false) 32
    unfold OwnB
    rw [← e]
    simpa using h1
  clear h1 g1 hi hz0 hz1 hz2
  go_wp2
  go_loopw [4] (fun i wr => ∃ (k : Nat) (bs : List Bool), k ≤ 32 ∧ i = .int .i64 k ∧ OwnB w.heap.size wr (.slice (some ⟨w.heap.size, 0, none⟩) 32 32) bs ∧ Hid (bs.length = 32) ∧ Hid (∀ j, j < k → bs[j]? = some true) ∧ Below w.heap.size w wr) (fun i _ => 32 - (intOf i).toNat)
  case atStart => exact ⟨0, _, by omega, rfl, o1, by simp [Hid], fun j hj => absurd hj (Nat.not_lt_zero j), b1⟩
  case round =>
    obtain ⟨k, bs, hk, rfl, ho, HL, HT, hbl⟩ := hrel
    by_cases hlt : k < 32
    · have hc := ho.cellAt HL.out.symm k (by have := HL.out; omega)
      have hf := ho.frozenAt HL.out.symm k
      have hst := ho.stored HL.out.symm k true
      have hbl2 : Below w.heap.size w (wr.setCell ⟨w.heap.size, k, none⟩ (.bool true)) := hbl.setCell (Nat.le_refl _) _
      clear ho
      have HT2 : Hid (∀ j, j < k + 1 → (bs.set k true)[j]? = some true) := by
        intro j hj
        rw [List.getElem?_set]
        by_cases e : k = j
        · rw [if_pos e, if_pos (by have := HL.out; omega)]
        · rw [if_neg e]; exact HT.out j (by omega)
      go_wp2
      go_roundw
      case rel => exact ⟨k + 1, _, by omega, by go_num, hst, by have := HL.out; simpa [Hid] using this, HT2, hbl2⟩
      case measure => simp [intOf]; omega
    · have e32 : k = 32 := by omega
      subst e32
      obtain rfl := all_true bs HL.out HT.out
      clear HL HT hlt hk b1 o1
      go_wp2
      go_loopw [3, 5] (fun r i wr => ∃ (k n : Nat), k ≤ xs.length ∧ i = .int .i64 k ∧ OwnB w.heap.size wr r (bitsOf n) ∧ n < 4294967296 ∧ Hid (n = crcAll (xs.take k)) ∧ Below w.heap.size w wr) (fun _ i _ => xs.length - (intOf i).toNat)
      case atStart => exact ⟨0, 4294967295, by omega, rfl, ho, by omega, rfl, hbl⟩
      clear ho hbl
      case round =>
        obtain ⟨k, n, hk, rfl, ho, hn, HN, hbl⟩ := hrel
        by_cases hlt : k < xs.length
        · obtain ⟨b, off, rfl, hc0⟩ := hb k hlt
          have hlt0 : b < w.heap.size := World.block_lt_of_cell? w _ hc0
          have hx := (xs.getD k 0).toNat_lt
          have HN2 : Hid (refIt n (xs.getD k 0).toNat 8 = crcAll (xs.take (k + 1))) := by
            rw [HN.out, take_snoc xs 0 k hlt, crcAll_snoc, crcByte_ref _ _ hx]; rfl
          clear HN
          generalize (xs.getD k 0).toNat = x at *
          go_wp2
          go_loopw [3, 6] (fun r t wr => ∃ (q m : Nat), q ≤ 8 ∧ t = .int .i64 q ∧ OwnB w.heap.size wr r (bitsOf m) ∧ m < 4294967296 ∧ Hid (m = refIt n x q) ∧ Below w.heap.size w wr) (fun _ t _ => 8 - (intOf t).toNat)
          case atStart => exact ⟨0, n, by omega, rfl, ho, hn, rfl, hbl⟩
          clear ho hbl
          case round =>
            obtain ⟨q, m, hq, rfl, ho, hm2, HM, hbl⟩ := hrel
            by_cases hq8 : q < 8
            · have hcx : wr.cell? ⟨b, off + k, none⟩ = some (.int .u8 (x : Int)) := (hbl.cell (p := ⟨b, off + k, none⟩) hlt0).trans hc0
              obtain ⟨g, cp, rfl, hBg, hgs, hl32, hcm⟩ := ho.shape (by rw [bitsOf_length]; omega)
              rw [bitsOf_length] at ho hl32 ⊢
              have hc1 := ho.cellAt (bitsOf_length m).symm 0 (by rw [bitsOf_length]; omega)
              unfold maxLen at hcm
              have hs1 : ∀ c, Src Tryz.prog 1 82 (.slice (some ⟨g, 1, none⟩) 31 c) 31 (((bitsOf m).drop 1).map Value.bool) wr := fun c =>
                Src.ofSlice wr Tryz.underlying82 ⟨g, 1, none⟩ 31 c _ (by simp [bitsOf_length]) (tail_cells ho) (bools_one _)
              go_wp2_with (at_builtin; refine wpAppB rfl (.tmp 45) (.tmp 47) rfl w.heap.size (.slice none 0 0) [] rfl (World.ownsRow_nil _ _ _ _) _ ((bitsOf m).drop 1) rfl 31 (hs1 _) (by simp [bitsOf_length]) hbl.size ?_)
              intro v2 w2 z2 e2 o2 g2
              have b2 : Below w.heap.size w w2 := hbl.grown g2 hbl.size (fun k hk => by cases hk)
              have hs2 : Src Tryz.prog 1 82 (.slice (some ⟨w2.heap.size, 0, none⟩) 1 1) 1 ([false].map Value.bool) (w2.alloc (.cells #[.bool false] 4)) :=
                Src.ofSlice _ Tryz.underlying82 ⟨w2.heap.size, 0, none⟩ 1 1 _ (by simp) (cell_one_new _ _ _) (bools_one _)
              have o2a : OwnB w.heap.size (w2.alloc (.cells #[.bool false] 4)) v2 z2 := World.ownsRow.alloc o2 _
              have b2a : Below w.heap.size w (w2.alloc (.cells #[.bool false] 4)) := b2.alloc b2.size _
              have L2 : Hid (z2.length = 31) := by show _ = _; rw [e2.out]; simp [bitsOf_length]
              clear hs1 o2 b2 hc1 ho hbl
              go_wp2_with (at_builtin; refine wpAppB rfl (.tmp 49) (.tmp 50) rfl w.heap.size v2 z2 rfl o2a _ [false] rfl 1 hs2 (by have := L2.out; simp; omega) b2a.size ?_)
              intro v3 w3 z3 e3 o3 gg3
              have b3 := below_ownB b2a o2a gg3 (Nat.le_refl _)
              obtain ⟨out, hout⟩ : ∃ out, out = (!((bitsOf m)[0]?.getD false == (bits .and .i64 ((x : Int) / 2 ^ q) 1 == 1))) := ⟨_, rfl⟩
              rw [← hout]
              have HO : Hid (out = (m.testBit 0 != x.testBit q)) := by
                rw [hout]
                exact out_bit m x q hx
              have Z3 : Hid (z3 = togOf m out 0) := by rw [e3.out, e2.out, togOf_start m out hm2]; rfl
              obtain rfl := Z3.out
              obtain ⟨g3, c3, rfl, hBg3, hgs3, hl3, hcm3⟩ := o3.shape (by rw [togOf_length]; omega)
              rw [togOf_length] at o3 hl3 ⊢
              unfold maxLen at hcm3
              clear hout gg3 o2a b2a hs2 L2 e2 e3 Z3 hcx hBg hgs hl32 hcm
              go_wp2
              go_loopw [10] (fun j wr => ∃ p : Nat, p ≤ 32 ∧ j = .int .i64 p ∧ OwnB w.heap.size wr (.slice (some ⟨g3, 0, none⟩) 32 c3) (togOf m out p) ∧ Below w.heap.size w wr) (fun j _ => 32 - (intOf j).toNat)
              case atStart => exact ⟨0, by omega, rfl, o3, b3⟩
              clear o3 b3
              case round =>
                obtain ⟨p, hp, rfl, ho, hbl⟩ := hrel
                by_cases hp32 : p < 32
                · have hc := ho.cellAt (togOf_length m out p).symm p (by rw [togOf_length]; omega)
                  have hf := ho.frozenAt (togOf_length m out p).symm p
                  have hst := ho.stored (togOf_length m out p).symm p (!((togOf m out p).getD p false))
                  have hbit0 := bit_at 3988292384 p (by omega)
                  cases hbit : (out && Nat.testBit 3988292384 p)
                  · have HK : Hid (togOf m out (p + 1) = togOf m out p) := togOf_keep m out p hbit
                    generalize (togOf m out p).getD p false = tb at *
                    cases out
                    · clear hbit hbit0 hst
                      go_wp2
                      go_roundw
                      case rel => exact ⟨p + 1, by omega, by go_num, by rw [HK.out]; exact ho, hbl⟩
                      case measure => simp [intOf]; omega
                    · have hb1 : Nat.testBit 3988292384 p = false := by simpa using hbit
                      have ht : (bits .and .i64 (3988292384 / 2 ^ p) 1 == 1) = false := hbit0.trans hb1
                      clear hbit hb1 hbit0 hst
                      go_wp2
                      go_roundw
                      case rel => exact ⟨p + 1, by omega, by go_num, by rw [HK.out]; exact ho, hbl⟩
                      case measure => simp [intOf]; omega
                  · have HT : Hid (togOf m out (p + 1) = (togOf m out p).set p (!((togOf m out p).getD p false))) := togOf_turn m out p hbit
                    generalize (togOf m out p).getD p false = tb at *
                    obtain ⟨rfl, hb1⟩ : out = true ∧ Nat.testBit 3988292384 p = true := by simpa using hbit
                    have ht : (bits .and .i64 (3988292384 / 2 ^ p) 1 == 1) = true := hbit0.trans hb1
                    have hbl2 : Below w.heap.size w (wr.setCell ⟨g3, p, none⟩ (.bool !tb)) := hbl.setCell hBg3 _
                    clear hbit hb1 hbit0
                    go_wp2
                    go_roundw
                    case rel => exact ⟨p + 1, by omega, by go_num, by rw [HT.out]; exact hst, hbl2⟩
                    case measure => simp [intOf]; omega
                · have hp' : p = 32 := by omega
                  subst hp'
                  have HE : Hid (togOf m out 32 = bitsOf (refBit m (x.testBit q))) := by rw [HO.out]; exact togOf_end m _
                  have HM2 : Hid (refBit m (x.testBit q) = refIt n x (q + 1)) := by rw [HM.out]; rfl
                  have HL2 : refBit m (x.testBit q) < 4294967296 := refBit_lt hm2
                  have ho2 : OwnB w.heap.size wr (.slice (some ⟨g3, 0, none⟩) 32 c3) (bitsOf (refBit m (x.testBit q))) := by rw [← HE.out]; exact ho
                  generalize refBit m (x.testBit q) = m2 at *
                  clear ho
                  go_wp2
                  go_roundw
                  case rel => first | exact ⟨q + 1, m2, by omega, by go_num, ho2, HL2, HM2, hbl⟩ | ((repeat apply Exists.intro); exact ⟨⟨q + 1, m2, by omega, by go_num, ho2, HL2, HM2, hbl⟩, rfl⟩)
                  case measure => simp [intOf]; omega
            · have hq' : q = 8 := by omega
              subst hq'
              have HE : Hid (m = crcAll (xs.take (k + 1))) := HM.out.trans HN2.out
              go_wp2
              go_roundw
              case rel => first | exact ⟨k + 1, m, by omega, by go_num, ho, hm2, HE, hbl⟩ | ((repeat apply Exists.intro); exact ⟨⟨k + 1, m, by omega, by go_num, ho, hm2, HE, hbl⟩, rfl⟩)
              case measure => simp [intOf]; omega
        · have HE : Hid (n ^^^ 4294967295 = sumOf xs) := by
            have := HN.out
            rw [List.take_of_length_le (by omega)] at this
            rw [this]; rfl
          have hM : n ^^^ 4294967295 < 4294967296 := xor_lt hn (by omega)
          have HB : ∀ j, j < 32 → (n ^^^ 4294967295).testBit j = !(n.testBit j) := fun j hj => not_bit n j hj
          have HB' : Hid (∀ j, j < 32 → (n ^^^ 4294967295).testBit j = !(n.testBit j)) := HB
          clear HB HN
          generalize n ^^^ 4294967295 = M at *
          obtain ⟨g, cp, rfl, hBg, hgs, hl32, hcm⟩ := ho.shape (by rw [bitsOf_length]; omega)
          rw [bitsOf_length] at ho hl32 ⊢
          unfold maxLen at hcm
          go_wp2
          go_loopw [11, 12] (fun s i wq => ∃ (t u : Nat), t ≤ 32 ∧ i = .int .i64 ((t : Int) - 1) ∧ s = .int .i64 u ∧ u < 4294967296 ∧ Hid (u = M >>> t) ∧ wq = wr) (fun _ i _ => (intOf i + 1).toNat)
          case atStart => exact ⟨32, 0, by omega, rfl, rfl, by omega, (Nat.shiftRight_eq_zero M 32 hM).symm, rfl⟩
          case round =>
            obtain ⟨t, u, ht, rfl, rfl, hu, HU, rfl⟩ := hrel
            by_cases ht0 : 0 < t
            · obtain ⟨j, rfl⟩ : ∃ j, t = j + 1 := ⟨t - 1, by omega⟩
              have hc := ho.cellAt (bitsOf_length n).symm j (by rw [bitsOf_length]; omega)
              have hS := sum_step M j
              rw [← HU.out, HB'.out j (by omega)] at hS
              have hb2 : M >>> j < 4294967296 := by rw [Nat.shiftRight_eq_div_pow]; exact Nat.lt_of_le_of_lt (Nat.div_le_self _ _) hM
              rw [show (bitsOf n).getD j false = n.testBit j from by rw [List.getD_eq_getElem?_getD, bitsOf_get n j (by omega)]; rfl] at hc
              generalize n.testBit j = tb at *
              obtain ⟨u2, HU2⟩ : ∃ u2, Hid (u2 = M >>> j) := ⟨_, rfl⟩
              rw [← HU2.out] at hS hb2
              have HS : Hid (u2 = 2 * u + if (!tb) = true then 1 else 0) := hS
              have hu2 : 2 * u + 1 < 4294967296 + 1 := by
                have := hS; split at this <;> omega
              clear hS HU
              have ej : ((j + 1 : Nat) : Int) - 1 = (j : Int) := by omega
              rw [ej]
              clear ej
              cases tb
              · have e2 : (2 * (u : Int) + 1) = (u2 : Int) := by have := HS.out; simp at this; omega
                have E2 : Hid ((2 * (u : Int) + 1) = (u2 : Int)) := e2
                clear e2
                go_wp2
                go_roundw
                case rel => exact ⟨j, u2, by omega, rfl, by rw [E2.out], hb2, HU2, trivial⟩
                case measure => simp [intOf]
              · have e2 : (2 * (u : Int)) = (u2 : Int) := by have := HS.out; simp at this; omega
                have E2 : Hid ((2 * (u : Int)) = (u2 : Int)) := e2
                clear e2
                go_wp2
                go_roundw
                case rel => exact ⟨j, u2, by omega, rfl, by rw [E2.out], hb2, HU2, trivial⟩
                case measure => simp [intOf]
            · have : t = 0 := by omega
              subst this
              go_wp2
              go_ret
              exact ⟨ret_int (by rw [HU.out, ← HE.out]; rfl), hbl⟩

end Go.Proofs.YtgncohclofdhmaaGreat
