import Derived.Test.YtgncohclofdhmabWcut
import Derived.Test.YtgncohclofdhmabWany
import Derived.Test.YtgncohclofdhmabMfile
namespace Go.Proofs.Ytgncohclofdhmab
open Go.RowKit

/-- The key that a string makes. -/
def keyIs (s : ByteArray) : ByteArray := if s.size = 0 then ⟨#[107]⟩ else if 16 < s.size then s.extract 0 16 else s

theorem keyIs_key (s : ByteArray) : keyB (keyIs s).size = true := by
  unfold keyIs
  split
  · rfl
  · split
    · have : (s.extract 0 16).size = 16 := by rw [ByteArray.size_extract]; omega
      rw [this]
      rfl
    · simp [keyB]
      omega

theorem keyB_le {n : Nat} (h : keyB n = true) : n ≤ maxLen := by
  simp [keyB] at h
  unfold maxLen
  omega

set_option maxRecDepth 100000 in
set_option maxHeartbeats 400000 in
theorem keyOf_any (s : ByteArray) (w : World) (hs : s.size ≤ maxLen) :
    Calls Try.prog 35 #[.string s] w fun e w' => e = .returned (.string (keyIs s)) ∧ w' = w := by
  have hs63 : s.size ≤ 9223372036854775807 := by unfold maxLen at hs; omega
  by_cases h0 : s.size = 0
  · have HK : Hid (keyIs s = ⟨#[107]⟩) := by show _ = _; rw [keyIs, if_pos h0]
    have he : s = ByteArray.empty := by
      apply ByteArray.ext
      exact Array.eq_empty_of_size_eq_zero h0
    subst he
    go_enter Try.func35, Try.ntmps35
    go_wp2
    go_ret
    rw [HK.out]
    exact ⟨rfl, rfl⟩
  · have hne : s.toList.isEmpty = false := by
      rw [ByteArray.toList_eq, List.isEmpty_eq_false_iff]
      intro e
      have h1 : s.data.toList.length = 0 := by rw [e]; rfl
      rw [strLen] at h1
      exact h0 h1
    by_cases h1 : 16 < s.size
    · have HK : Hid (keyIs s = s.extract 0 16) := by show _ = _; rw [keyIs, if_neg h0, if_pos h1]
      have h1i : (16 : Int) < (s.size : Int) := by omega
      clear h0
      go_enter Try.func35, Try.ntmps35
      go_wp2
      go_ret
      rw [HK.out]
      exact ⟨rfl, rfl⟩
    · have HK : Hid (keyIs s = s) := by show _ = _; rw [keyIs, if_neg h0, if_neg h1]
      have h1i : ¬ (16 : Int) < (s.size : Int) := by omega
      clear h0
      go_enter Try.func35, Try.ntmps35
      go_wp2
      go_ret
      rw [HK.out]
      exact ⟨rfl, rfl⟩

/-- A block of settings. -/
def CfgBox (w : World) (g : Nat) (key : ByteArray) (al : Int) (pk : Bool) : Prop := w.heap[g]? = some (.cells #[.string key, .int .i64 al, .bool pk] 24 (0, 0))

theorem CfgBox.c0 {w : World} {g : Nat} {key : ByteArray} {al : Int} {pk : Bool} (h : CfgBox w g key al pk) : w.cell? ⟨g, 0, none⟩ = some (.string key) := cell_of_row _ g 0 _ _ _ h
theorem CfgBox.c1 {w : World} {g : Nat} {key : ByteArray} {al : Int} {pk : Bool} (h : CfgBox w g key al pk) : w.cell? ⟨g, 1, none⟩ = some (.int .i64 al) := cell_of_row _ g 1 _ _ _ h
theorem CfgBox.c2 {w : World} {g : Nat} {key : ByteArray} {al : Int} {pk : Bool} (h : CfgBox w g key al pk) : w.cell? ⟨g, 2, none⟩ = some (.bool pk) := cell_of_row _ g 2 _ _ _ h
theorem CfgBox.fr {w : World} {g : Nat} {key : ByteArray} {al : Int} {pk : Bool} (h : CfgBox w g key al pk) (j : Nat) : w.frozen? ⟨g, j, none⟩ = false := by
  have h' : w.heap[g]? = _ := h
  simp [World.frozen?, h']
theorem CfgBox.lt {w : World} {g : Nat} {key : ByteArray} {al : Int} {pk : Bool} (h : CfgBox w g key al pk) : g < w.heap.size := World.block_lt_of_cell? w _ h.c0

theorem CfgBox.new (w : World) (key : ByteArray) (al : Int) (pk : Bool) : CfgBox (w.alloc (.cells #[.string key, .int .i64 al, .bool pk] 24)) w.heap.size key al pk := heap_alloc_new w _

theorem CfgBox.set {w : World} {g : Nat} {key : ByteArray} {al : Int} {pk : Bool} (h : CfgBox w g key al pk) (k2 : ByteArray) (a2 : Int) (p2 : Bool) : CfgBox (((w.setCell ⟨g, 0, none⟩ (.string k2)).setCell ⟨g, 1, none⟩ (.int .i64 a2)).setCell ⟨g, 2, none⟩ (.bool p2)) g k2 a2 p2 := by
  have hl := h.lt
  have h' : w.heap[g]? = _ := h
  rw [Array.getElem?_eq_getElem hl, Option.some.injEq] at h'
  unfold CfgBox
  simp only [World.setCell]
  rw [Array.getElem?_eq_getElem (by simpa using hl), Array.getElem_modify_self, Array.getElem_modify_self, Array.getElem_modify_self, h']
  rfl

theorem CfgBox.carry {w w' : World} {g : Nat} {key : ByteArray} {al : Int} {pk : Bool} (h : CfgBox w g key al pk) (hb : Below w.heap.size w w') : CfgBox w' g key al pk := (hb.block g h.lt).trans h

set_option maxRecDepth 100000 in
set_option maxHeartbeats 1000000 in
theorem config_any (s : ByteArray) (z : Int) (pk : Bool) (w : World) (hs : s.size ≤ maxLen) (hz : -9223372036854775808 ≤ z) (hz2 : z ≤ 9223372036854775807) :
    Calls Try.prog 14 #[.string s, .int .i64 z, .bool pk] w fun e w' => e = .returned (.agg #[.string (keyIs s), .int .i64 (1 + pickN z 16 : Nat), .bool pk]) ∧ Below w.heap.size w w' := by
  have hbA := CfgBox.new w ByteArray.empty 0 false
  have b0 := (Below.refl w.heap.size w).alloc (Nat.le_refl _) (.cells #[.string ByteArray.empty, .int .i64 0, .bool false] 24)
  have f0 := hbA.fr 0
  have f1 := hbA.fr 1
  have f2 := hbA.fr 2
  have c0 := hbA.c0
  have c1 := hbA.c1
  have c2 := hbA.c2
  have HK := hide (keyOf_any s)
  obtain ⟨k, HKk⟩ : ∃ k, Hid (k = keyIs s) := ⟨_, rfl⟩
  have hp := pickN_lt z (n := 16) (by omega)
  have HP := hide (fun W => pick_is z 16 W hz hz2 (by omega) (by simp [maxLen]))
  generalize pickN z 16 = r at *
  rw [← HKk.out] at HK ⊢
  go_enter Try.func14, Try.ntmps14
  go_wp2_with fail
  refine (HK.out _ hs).mono ?_
  rintro e w1 ⟨rfl, rfl⟩
  go_wp2_with fail
  refine (HP.out _).mono ?_
  rintro e w2 ⟨rfl, rfl⟩
  go_wp2
  (try simp only [Exit.inBlock, Exit.then])
  refine bodyPost_ret (v := .agg #[.string k, .int .i64 ((1 + r : Nat) : Int), .bool pk]) ?_ rfl ⟨rfl, ?_⟩
  · have q0 := (hbA.set k ((1 + r : Nat) : Int) pk).c0
    have q1 := (hbA.set k ((1 + r : Nat) : Int) pk).c1
    have q2 := (hbA.set k ((1 + r : Nat) : Int) pk).c2
    rw [results_cell1 rfl]
    go_simp
  · exact (Below.refl _ _).alloc (Nat.le_refl _) _

end Go.Proofs.Ytgncohclofdhmab
