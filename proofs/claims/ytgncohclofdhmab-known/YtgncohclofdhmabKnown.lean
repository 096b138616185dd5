import Derived.Test.YtgncohclofdhmabWkn1
namespace Go.Proofs.Ytgncohclofdhmab
open Go.RowKit

/-- The world behind a string that was turned into bytes; their capacity. -/
def convW (s : ByteArray) (w : World) : World :=
  w.drew.alloc (.cells (bytesRow s (grownCap w s.size 0 5)) 5 ((bytesRow s (grownCap w s.size 0 5)).size, (bytesRow s (grownCap w s.size 0 5)).size + 1))
def convC (s : ByteArray) (w : World) : Nat := grownCap w s.size 0 5

theorem run_conv (s : ByteArray) (w : World) : (convert 9 25 (.string s)).run Try.prog w = .ok (.slice (some ⟨w.heap.size, 0, none⟩) s.size (convC s w)) (convW s w) :=
  run_bytes_of_string w 9 25 5 s Try.underlying9 Try.underlying25 Try.underlying5

theorem conv_below (s : ByteArray) (w : World) : Below w.heap.size w (convW s w) := (Below.refl w.heap.size w).drew.alloc (Nat.le_refl _) _

theorem conv_cap (s : ByteArray) (w : World) (h : s.size ≤ maxLen) : s.size ≤ convC s w ∧ convC s w ≤ maxLen :=
  ⟨grownCap_ge w s.size 0 5, grownCap_le_maxLen w s.size 0 5 h⟩

theorem conv_bts (s : ByteArray) (w : World) : Bts (convW s w) (some ⟨w.heap.size, 0, none⟩) s.data.toList := by
  intro i hi
  refine ⟨w.heap.size, 0, rfl, ?_⟩
  have hs : i < s.size := by rw [str_len] at hi; exact hi
  unfold convW
  rw [Nat.zero_add, cell_of_row _ w.heap.size i _ _ _ (heap_alloc_new w.drew _)]
  have hd : i < s.data.size := hs
  unfold bytesRow
  rw [Array.getElem?_append_left (by simpa using hd)]
  simp
  exact ⟨s.data[i], Array.getElem?_eq_getElem hd, by rw [Array.getElem?_eq_getElem hd]; rfl⟩

theorem Pack_n (a : Option Addr) (xs : List UInt8) (n cap : Nat) (w : World) (hn : n = xs.length) (hm : xs.length ≤ 140737488355328) (hcap : xs.length ≤ cap) (hcm : cap ≤ maxLen) (hb : Bts w a xs) :
    Calls Try.prog 27 #[.slice a n cap] w fun e w' => ∃ v, e = .returned (.tuple #[v, .int .i64 (packErr xs : Nat)]) ∧ Own w.heap.size w' v (packBytes xs) ∧ Below w.heap.size w w' := by
  subst hn
  exact Pack_any a xs cap w hm hcap hcm hb

theorem Unpack_n (a : Option Addr) (xs : List UInt8) (n cap : Nat) (w : World) (hn : n = xs.length) (hm : xs.length ≤ 140737488355328) (hcap : xs.length ≤ cap) (hcm : cap ≤ maxLen) (hb : Bts w a xs) :
    Calls Try.prog 28 #[.slice a n cap] w fun e w' => Answers w w' e (unOf xs) := by
  subst hn
  exact Unpack_any a xs cap w hm hcap hcm hb

theorem Sum_n (a : Option Addr) (xs : List UInt8) (n cap : Nat) (w : World) (s : Nat) (hs : sumOf xs = s) (hn : n = xs.length) (hm : xs.length ≤ 140737488355328) (hb : Bts w a xs) :
    Calls Try.prog 17 #[.slice a n cap] w fun e w' => e = .returned (.int .i64 (s : Nat)) ∧ w' = w := by
  subst hn hs
  exact Sum_any a xs cap w hm hb

/-- The world behind bytes that were turned into bytes: a mark behind the block's last cell. -/
def sameW (a : Addr) (w : World) : World := match w.shape? a.block with
  | some (_, m) => w.freeze ⟨a.block, m, none⟩ 1
  | none => w

theorem run_same (a : Addr) (n c : Nat) (w : World) : (convert 25 25 (.slice (some a) n c)).run Try.prog w = .ok (.slice (some a) n c) (sameW a w) := by
  unfold sameW
  cases h : w.shape? a.block with
  | none => simp [convert, run_underlying Try.underlying25, run_underlying Try.underlying5, markStringish, h]
  | some x => simp [convert, run_underlying Try.underlying25, run_underlying Try.underlying5, markStringish, h]

theorem freeze_heap (w : World) (a : Addr) (n k : Nat) (h : k ≠ a.block) : (w.freeze a n).heap[k]? = w.heap[k]? := by
  unfold World.freeze
  split
  · rfl
  · show (w.heap.modify _ _)[k]? = _
    rw [Array.getElem?_modify, if_neg (fun e => h e.symm)]

theorem freeze_size (w : World) (a : Addr) (n : Nat) : (w.freeze a n).heap.size = w.heap.size := by
  unfold World.freeze
  split
  · rfl
  · exact Array.size_modify

theorem freeze_cell (w : World) (a : Addr) (n : Nat) (x : Addr) : (w.freeze a n).cell? x = w.cell? x := by
  by_cases h : x.block = a.block
  · unfold World.freeze
    split
    · rfl
    · simp only [World.cell?, Array.getElem?_modify, if_pos h.symm]
      cases hx : w.heap[x.block]? with
      | none => rfl
      | some o => cases o <;> rfl
  · exact World.cell?_of_block (freeze_heap w a n x.block h)

theorem same_size (a : Addr) (w : World) : (sameW a w).heap.size = w.heap.size := by
  unfold sameW
  split
  · exact freeze_size ..
  · rfl

theorem same_cell (a : Addr) (w : World) (x : Addr) : (sameW a w).cell? x = w.cell? x := by
  unfold sameW
  split
  · exact freeze_cell ..
  · rfl

theorem same_below (a : Addr) (w : World) (B : Nat) (h : B ≤ a.block) : Below B w (sameW a w) := by
  unfold sameW
  split
  · refine ⟨?_, ?_, ?_, by rw [freeze_size]; exact Nat.le_refl _, fun k hk => freeze_heap _ _ _ _ (by show k ≠ a.block; omega)⟩ <;> (unfold World.freeze; split <;> rfl)
  · exact Below.refl _ _

theorem same_bts {a : Addr} {w : World} {b : Option Addr} {xs : List UInt8} (h : Bts w b xs) : Bts (sameW a w) b xs := by
  intro i hi
  obtain ⟨bk, off, e, hc⟩ := h i hi
  exact ⟨bk, off, e, (same_cell a w _).trans hc⟩

theorem tag_k : tagNum ⟨#[107]⟩ [] = 27864 ∧ tagErr ⟨#[107]⟩ = 0 ∧ tagNum ⟨#[]⟩ [] = 0 ∧ tagErr ⟨#[]⟩ = 1 := by decide +kernel

theorem path_k : pathErr ⟨#[97, 47, 98, 46, 99]⟩ = 0 ∧ pathErr ⟨#[97, 47, 47, 98]⟩ = 4 := by decide +kernel

theorem nine_bts (w : World) : Bts (w.alloc (.cells #[.int .u8 49, .int .u8 50, .int .u8 51, .int .u8 52, .int .u8 53, .int .u8 54, .int .u8 55, .int .u8 56, .int .u8 57] 5)) (some ⟨w.heap.size, 0, none⟩) [49, 50, 51, 52, 53, 54, 55, 56, 57] := by
  intro i hi
  refine ⟨w.heap.size, 0, rfl, ?_⟩
  match i, hi with
  | 0, _ => simp
  | 1, _ => simp
  | 2, _ => simp
  | 3, _ => simp
  | 4, _ => simp
  | 5, _ => simp
  | 6, _ => simp
  | 7, _ => simp
  | 8, _ => simp

theorem one_bts (w : World) : Bts (w.alloc (.cells #[.int .u8 97] 5)) (some ⟨w.heap.size, 0, none⟩) [97] := by
  intro i hi
  refine ⟨w.heap.size, 0, rfl, ?_⟩
  match i, hi with
  | 0, _ => simp

set_option maxRecDepth 100000 in
set_option maxHeartbeats 2000000 in
theorem Known_walk (c : Int) (w : World) (hc : -9223372036854775808 ≤ c) (hc2 : c ≤ 9223372036854775807) :
    Calls Try.prog 9 #[.int .i64 c] w fun e w' => e = .returned (.bool true) ∧ Below w.heap.size w w' := by
  go_enter Try.func9, Try.ntmps9
  go_wp2_with fail
  refine (table_any _).mono ?_
  rintro e w1 ⟨rfl, HT, b1⟩
  have HT' := hide HT
  clear HT
  go_wp2_with fail
  refine (pick_any c 10 _ hc hc2 (by omega) (by omega)).mono ?_
  rintro e w1' ⟨k, rfl, hk, rfl⟩
  obtain ⟨hcb, hcp⟩ := HT'.out k hk
  rw [Nat.mul_comm] at hcb hcp
  obtain ⟨t1, t2, t3, t4⟩ := kTab_at k hk
  obtain ⟨lb, HB⟩ : ∃ lb, Hid (lb = (kTab.getD k ([], [])).1) := ⟨_, rfl⟩
  obtain ⟨lp, HP⟩ : ∃ lp, Hid (lp = (kTab.getD k ([], [])).2) := ⟨_, rfl⟩
  rw [← HB.out] at t1 t2 t3
  rw [← HP.out] at t1 t2 t4
  rw [show kBody k = strOf lb from by rw [HB.out]; rfl] at hcb
  rw [show kPack k = strOf lp from by rw [HP.out]; rfl] at hcp
  have T1 := hide t1
  have T2 := hide t2
  clear t1 t2 HB HP HT'
  have hcv : ∀ (s : ByteArray) w, (convert 9 25 (.string s)).run Try.prog w = .ok (.slice (some ⟨w.heap.size, 0, none⟩) s.size (convC s w)) (convW s w) := run_conv
  go_wp2_with fail
  have hbA : Bts (convW (strOf lb) (w1'.alloc (.cells #[.string (strOf lb), .string (strOf lp)] 57))) (some ⟨w1'.heap.size + 1, 0, none⟩) lb := by
    have h := conv_bts (strOf lb) (w1'.alloc (.cells #[.string (strOf lb), .string (strOf lp)] 57))
    rw [strOf_list] at h
    simpa using h
  have hsb : (strOf lb).size = lb.length := strOf_size lb
  have hsp : (strOf lp).size = lp.length := strOf_size lp
  have hcapA := conv_cap (strOf lb) (w1'.alloc (.cells #[.string (strOf lb), .string (strOf lp)] 57)) (by rw [hsb]; unfold maxLen; omega)
  have bA := (b1.alloc b1.size (.cells #[.string (strOf lb), .string (strOf lp)] 57)).trans ((conv_below (strOf lb) (w1'.alloc (.cells #[.string (strOf lb), .string (strOf lp)] 57))).mono (by have := b1.size; simp; omega))
  have cA0 : (convW (strOf lb) (w1'.alloc (.cells #[.string (strOf lb), .string (strOf lp)] 57))).cell? ⟨w1'.heap.size, 0, none⟩ = some (.string (strOf lb)) :=
    ((conv_below (strOf lb) (w1'.alloc (.cells #[.string (strOf lb), .string (strOf lp)] 57))).cell (p := ⟨w1'.heap.size, 0, none⟩) (by simp)).trans (by simp)
  have cA1 : (convW (strOf lb) (w1'.alloc (.cells #[.string (strOf lb), .string (strOf lp)] 57))).cell? ⟨w1'.heap.size, 1, none⟩ = some (.string (strOf lp)) :=
    ((conv_below (strOf lb) (w1'.alloc (.cells #[.string (strOf lb), .string (strOf lp)] 57))).cell (p := ⟨w1'.heap.size, 1, none⟩) (by simp)).trans (by simp)
  have lA : w1'.heap.size < (convW (strOf lb) (w1'.alloc (.cells #[.string (strOf lb), .string (strOf lp)] 57))).heap.size := by
    have := (conv_below (strOf lb) (w1'.alloc (.cells #[.string (strOf lb), .string (strOf lp)] 57))).size
    simp at this
    omega
  refine (Pack_n (some ⟨w1'.heap.size + 1, 0, none⟩) lb _ _ _ hsb (by omega) (by rw [← hsb]; exact hcapA.1) hcapA.2 hbA).mono ?_
  clear hbA hcapA
  generalize convW (strOf lb) (w1'.alloc (.cells #[.string (strOf lb), .string (strOf lp)] 57)) = wA at *
  rintro e w3 ⟨v3, rfl, o3, b3⟩
  have hpe : packErr lb = 0 := by simp [packErr, t3]
  have hpb : packBytes lb = lp := by simp only [packBytes, t3, if_true]; exact T1.out
  rw [hpe]
  rw [hpb] at o3
  obtain ⟨a3, c3, rfl, hb3, -, -⟩ := o3.shape
  have c30 := (b3.cell (p := ⟨w1'.heap.size, 0, none⟩) lA).trans cA0
  have c31 := (b3.cell (p := ⟨w1'.heap.size, 1, none⟩) lA).trans cA1
  have l3 : w1'.heap.size < w3.heap.size := Nat.lt_of_lt_of_le lA b3.size
  have b13 := bA.trans (b3.mono bA.size)
  clear cA0 cA1 lA b3 bA o3 hpe hpb b1 hcb hcp
  have HSb := hide hsb
  have HSp := hide hsp
  clear hsb hsp
  go_wp2_with fail
  have hbB : Bts (convW (strOf lp) w3) (some ⟨w3.heap.size, 0, none⟩) lp := by
    have h := conv_bts (strOf lp) w3
    rw [strOf_list] at h
    exact h
  have hcapB := conv_cap (strOf lp) w3 (by rw [HSp.out]; unfold maxLen; omega)
  have cB := conv_below (strOf lp) w3
  refine (Unpack_n (some ⟨w3.heap.size, 0, none⟩) lp _ _ _ HSp.out (by omega) (by rw [← HSp.out]; exact hcapB.1) hcapB.2 hbB).mono ?_
  rintro e w5 ⟨v5, rfl, o5, b5⟩
  rw [T2.out] at o5 ⊢
  obtain ⟨a5, c5, rfl, hb5, -, -⟩ := o5.shape
  have b35 : Below w3.heap.size w3 w5 := cB.trans (b5.mono cB.size)
  have c50 := (b35.cell (p := ⟨w1'.heap.size, 0, none⟩) l3).trans c30
  have c51 := (b35.cell (p := ⟨w1'.heap.size, 1, none⟩) l3).trans c31
  have hb35 := hb3.carry b35
  have b15 := b13.trans (b35.mono b13.size)
  have hk1 := run_back lp a3 c3 w5 hb35
  have hk2 := run_back lb a5 c5 w5 hb5
  clear b5 o5 b35 hb3 hb35 c30 c31 hcapB hbB cB b13 l3 hcv
  have hid : ∀ (a : Addr) (n c : Nat) (w : World), (convert 25 25 (.slice (some a) n c)).run Try.prog w = .ok (.slice (some a) n c) (sameW a w) := run_same
  have hsz : ∀ (a : Addr) (w : World), (sameW a w).heap.size = w.heap.size := same_size
  go_wp2_with fail
  refine (Sum_n _ [49, 50, 51, 52, 53, 54, 55, 56, 57] _ _ _ 3421780262 known_sum.1 rfl (by simp) (same_bts (nine_bts w5))).mono ?_
  rintro e w6 ⟨rfl, rfl⟩
  have b16 := (b15.alloc b15.size (.cells #[.int .u8 49, .int .u8 50, .int .u8 51, .int .u8 52, .int .u8 53, .int .u8 54, .int .u8 55, .int .u8 56, .int .u8 57] 5)).trans (same_below ⟨w5.heap.size, 0, none⟩ _ w.heap.size b15.size)
  clear hk1 hk2 c50 c51 hb5
  go_wp2_with fail
  generalize hw6 : sameW ⟨w5.heap.size, 0, none⟩ (w5.alloc (.cells #[.int .u8 49, .int .u8 50, .int .u8 51, .int .u8 52, .int .u8 53, .int .u8 54, .int .u8 55, .int .u8 56, .int .u8 57] 5)) = w6 at *
  have hs6 : w5.heap.size + 1 = w6.heap.size := by rw [← hw6, same_size]; simp
  rw [hs6]
  clear hw6 hs6
  refine (Sum_n _ [97] _ _ _ 3904355907 known_sum.2.1 rfl (by simp) (same_bts (one_bts w6))).mono ?_
  rintro e w7 ⟨rfl, rfl⟩
  have b17 := (b16.alloc b16.size (.cells #[.int .u8 97] 5)).trans (same_below ⟨w6.heap.size, 0, none⟩ _ w.heap.size b16.size)
  go_wp2_with fail
  generalize sameW ⟨w6.heap.size, 0, none⟩ (w6.alloc (.cells #[.int .u8 97] 5)) = w7 at *
  refine (Sum_n none [] _ _ _ 0 known_sum.2.2 rfl (by simp) (Bts.nil _ _)).mono ?_
  rintro e w7' ⟨rfl, rfl⟩
  clear hid hsz b16 b15
  go_wp2_with fail
  refine (Tag_any ⟨#[107]⟩ none [] 0 _ (by decide) (by simp) (Bts.nil _ _)).mono ?_
  rintro e w7'' ⟨rfl, rfl⟩
  rw [tag_k.1, tag_k.2.1]
  go_wp2_with fail
  refine (Tag_any ⟨#[]⟩ none [] 0 _ (by decide) (by simp) (Bts.nil _ _)).mono ?_
  rintro e w8 ⟨rfl, rfl⟩
  rw [tag_k.2.2.1, tag_k.2.2.2]
  go_wp2_with fail
  refine (Path_any ⟨#[97, 47, 98, 46, 99]⟩ _ (by decide)).mono ?_
  rintro e w9 ⟨rfl, rfl⟩
  rw [path_k.1]
  go_wp2_with fail
  refine (Path_any ⟨#[97, 47, 47, 98]⟩ _ (by decide)).mono ?_
  rintro e w10 ⟨rfl, rfl⟩
  rw [path_k.2]
  go_wp2
  go_ret
  exact ⟨rfl, b17⟩

end Go.Proofs.Ytgncohclofdhmab
