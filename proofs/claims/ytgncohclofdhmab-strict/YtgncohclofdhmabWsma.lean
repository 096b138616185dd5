import Derived.Test.YtgncohclofdhmabWsum2
import Derived.Test.YtgncohclofdhmabWsum
namespace Go.Proofs.Ytgncohclofdhmab
open Go.RowKit

/-- The two answers of Tag. -/
def tagNum (s : ByteArray) (xs : List UInt8) : Nat := if keyB s.size then tagVal s.data.toList xs else 0
def tagErr (s : ByteArray) : Nat := if keyB s.size then 0 else 1

set_option maxHeartbeats 400000 in
theorem tagOf_any (s : ByteArray) (a : Option Addr) (xs : List UInt8) (cap : Nat) (w : World) (hs : s.size ≤ maxLen) (hm : xs.length ≤ 140737488355328) (hb : Bts w a xs) :
    Calls Try.prog 39 #[.string s, .slice a xs.length cap] w fun e w' => e = .returned (.int .i64 (tagVal s.data.toList xs : Nat)) ∧ w' = w := by
  have t1 := tagFrom_lt (h := 0) (by omega) s.data.toList
  have t2 := tagFrom_lt t1 xs
  have HN : Hid (tagVal s.data.toList xs = tagFrom (tagFrom (tagFrom 0 s.data.toList) xs) s.data.toList) := tagVal_steps _ _
  go_enter Try.func39, Try.ntmps39
  go_wp2_with fail
  refine (tagOfText_any 0 s _ (by omega) hs).mono ?_
  rintro e w' ⟨rfl, rfl⟩
  go_wp2_with fail
  refine (tagOfBytes_any _ a xs cap _ t1 hm hb).mono ?_
  rintro e w' ⟨rfl, rfl⟩
  go_wp2_with fail
  refine (tagOfText_any _ s _ t2 hs).mono ?_
  rintro e w' ⟨rfl, rfl⟩
  go_wp2
  go_ret
  rw [HN.out]
  exact ⟨rfl, rfl⟩

set_option maxHeartbeats 400000 in
theorem Tag_any (s : ByteArray) (a : Option Addr) (xs : List UInt8) (cap : Nat) (w : World) (hs : s.size ≤ maxLen) (hm : xs.length ≤ 140737488355328) (hb : Bts w a xs) :
    Calls Try.prog 18 #[.string s, .slice a xs.length cap] w fun e w' => e = .returned (.tuple #[.int .i64 (tagNum s xs : Nat), .int .i64 (tagErr s : Nat)]) ∧ w' = w := by
  have hk := isKey_any s
  cases hkb : keyB s.size
  · have HN : Hid ((tagNum s xs : Nat) = 0 ∧ tagErr s = 1) := by constructor <;> simp [tagNum, tagErr, hkb]
    rw [hkb] at hk
    clear hkb
    have HK := hk
    clear hk
    go_enter Try.func18, Try.ntmps18
    go_wp2_with (go_at_call 38; refine (HK _ hs).mono ?_; rintro e w' ⟨rfl, rfl⟩)
    go_ret2
    rw [HN.out.1, HN.out.2]
    exact ⟨rfl, rfl⟩
  · have HN : Hid ((tagNum s xs : Nat) = tagVal s.data.toList xs ∧ tagErr s = 0) := by constructor <;> simp [tagNum, tagErr, hkb]
    rw [hkb] at hk
    clear hkb
    have HK := hk
    clear hk
    go_enter Try.func18, Try.ntmps18
    go_wp2_with fail
    refine (HK _ hs).mono ?_
    rintro e w' ⟨rfl, rfl⟩
    go_wp2_with fail
    refine (tagOf_any s a xs cap _ hs hm hb).mono ?_
    rintro e w' ⟨rfl, rfl⟩
    go_wp2
    go_ret2
    rw [HN.out.1, HN.out.2]
    exact ⟨rfl, rfl⟩

end Go.Proofs.Ytgncohclofdhmab

namespace Go.Proofs.Ytgncohclofdhmab
open Go.RowKit

end Go.Proofs.Ytgncohclofdhmab

namespace Go.Proofs.Ytgncohclofdhmab
open Go.RowKit

theorem Try.info4 : (Try.prog.info? 4).map (fun i => (i.zero, i.size, i.bytes)) = some (some (.bool false), 1, 1) := by kernel_rfl

/-- A list of bools of the call's own. -/
def OwnB (B : Nat) (w : World) (v : Value) (bs : List Bool) : Prop := w.ownsRow B 4 1 v bs.length (bs.map Value.bool)

theorem OwnB.shape {B : Nat} {w : World} {v : Value} {bs : List Bool} (h : OwnB B w v bs) (hl : 0 < bs.length) :
    ∃ g cap, v = .slice (some ⟨g, 0, none⟩) bs.length cap ∧ B ≤ g ∧ g < w.heap.size ∧ bs.length ≤ cap ∧ cap ≤ maxLen := by
  rcases h.2 with ⟨_, hn⟩ | ⟨g, cap, cur, rfl, hbg, hg, hnc, hcm, hcs, htake⟩
  · omega
  · refine ⟨g, cap, rfl, hbg, ?_, hnc, hcm⟩
    by_cases hh : g < w.heap.size
    · exact hh
    · rw [Array.getElem?_eq_none (by omega)] at hg; simp at hg

theorem OwnB.cellAt {B : Nat} {w : World} {bs : List Bool} {g n cap : Nat} (h : OwnB B w (.slice (some ⟨g, 0, none⟩) n cap) bs) (hn : n = bs.length) (j : Nat) (hj : j < bs.length) :
    w.cell? ⟨g, j, none⟩ = some (.bool (bs.getD j false)) := by
  subst hn
  have := World.ownsRow.cellAt h j (by omega)
  rw [this]
  simp [hj]

theorem OwnB.frozenAt {B : Nat} {w : World} {bs : List Bool} {g n cap : Nat} (h : OwnB B w (.slice (some ⟨g, 0, none⟩) n cap) bs) (hn : n = bs.length) (j : Nat) :
    w.frozen? ⟨g, j, none⟩ = false := by
  subst hn
  exact World.ownsRow.frozenAt h j

theorem OwnB.stored {B : Nat} {w : World} {bs : List Bool} {g n cap : Nat} (h : OwnB B w (.slice (some ⟨g, 0, none⟩) n cap) bs) (hn : n = bs.length) (j : Nat) (u : Bool) :
    OwnB B (w.setCell ⟨g, j, none⟩ (.bool u)) (.slice (some ⟨g, 0, none⟩) n cap) (bs.set j u) := by
  subst hn
  have := (World.ownsRow.stored h j (.bool u)).1
  unfold OwnB
  rw [List.map_set, List.length_set]
  exact this

theorem below_ownB {B : Nat} {w0 w w' : World} {v : Value} {xs : List Bool} (hb : Below B w0 w) (hown : OwnB B w v xs) (hg : w.grownBy w' v.ownBlock) (hB : B ≤ w0.heap.size) : Below B w0 w' :=
  hb.grown hg (Nat.le_trans hB hb.size) fun k hk => (World.ownsRow.lt hown k hk).1

theorem bools_one (bs : List Bool) : ∀ u ∈ bs.map Value.bool, u.oneCell' = true := by
  intro u hu
  obtain ⟨b, _, rfl⟩ := List.mem_map.1 hu
  rfl

theorem beq_one (a : Nat) (ha : a < 4294967296) (h : Bool) (e : h = a.testBit 0) : (bits .and .i64 (a : Int) 1 == 1) = h := by
  rw [and64_one a ha, e, Nat.testBit_zero, Bool.eq_iff_iff]
  simp
  omega

theorem all_true (bs : List Bool) (hl : bs.length = 32) (h : ∀ j, j < 32 → bs[j]? = some true) : bs = bitsOf 4294967295 := by
  apply List.ext_getElem?
  intro i
  by_cases hi : i < 32
  · rw [h i hi, bitsOf_get _ i hi]
    have := Nat.testBit_two_pow_sub_one 32 i
    simp [hi] at this
    rw [this]
  · rw [List.getElem?_eq_none (by omega), List.getElem?_eq_none (by simp [bitsOf_length]; omega)]

theorem tail_cells {B : Nat} {w : World} {bs : List Bool} {g n cap : Nat} (h : OwnB B w (.slice (some ⟨g, 0, none⟩) n cap) bs) : ∀ j u, ((bs.drop 1).map Value.bool)[j]? = some u → w.cell? ((⟨g, 1, none⟩ : Addr).add j) = some u := by
  intro j u hj
  rw [Addr.add_lit]
  rw [List.getElem?_map, List.getElem?_drop, Option.map_eq_some_iff] at hj
  obtain ⟨b, h1, rfl⟩ := hj
  have hl := (List.getElem?_eq_some_iff.1 h1).1
  have hn : n = bs.length := by
    rcases h.2 with ⟨h', _⟩ | ⟨g', cap', cur, h', _⟩
    · simp at h'
    · simp at h'; omega
  rw [h.cellAt hn (1 + j) hl, List.getD_eq_getElem?_getD, h1]
  rfl

theorem div_pow_int (x q : Nat) : ((x : Int) / 2 ^ q) = ((x >>> q : Nat) : Int) := by
  rw [Nat.shiftRight_eq_div_pow]
  simp

theorem bit_at (x q : Nat) (hx : x < 4294967296) : (bits .and .i64 ((x : Int) / 2 ^ q) 1 == 1) = x.testBit q := by
  rw [div_pow_int]
  apply beq_one
  · rw [Nat.shiftRight_eq_div_pow]
    exact Nat.lt_of_le_of_lt (Nat.div_le_self _ _) hx
  · rw [Nat.testBit_shiftRight]; rfl

theorem out_bit (m x q : Nat) (hx : x < 256) : (!((bitsOf m)[0]?.getD false == (bits .and .i64 ((x : Int) / 2 ^ q) 1 == 1))) = (m.testBit 0 != x.testBit q) := by
  rw [bit_at x q (by omega), bitsOf_get m 0 (by omega)]
  rfl

end Go.Proofs.Ytgncohclofdhmab
