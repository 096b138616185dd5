import Derived.Test.YtgncohclofdhmaaGreatWfl
namespace Go.Proofs.YtgncohclofdhmaaGreat
open Go.RowKit

set_option maxRecDepth 100000 in
set_option maxHeartbeats 2000000 in
theorem refBuild_any (a : Option Addr) (es : List Ent) (cap : Nat) (w : World) (key : ByteArray) (al : Int) (pk : Bool) (hm : es.length ≤ 1000000) (hk : key.size ≤ maxLen) (ha : EntAt w a es) (hg : EntGood w es) :
    Calls Tryz.prog 20 #[.slice a es.length cap, .agg #[.string key, .int .i64 al, .bool pk]] w fun e w' => ∃ v E p, e = .returned (.tuple #[v, .int .i64 (E : Nat), .string p]) ∧ BuildAns es key al pk w.heap.size w' v E p ∧ Below w.heap.size w w' := by
  have b0 := (Below.refl w.heap.size w).alloc (Nat.le_refl _) (.cells #[.string key, .int .i64 al, .bool pk] 49)
  have c00 := cell_new w #[.string key, .int .i64 al, .bool pk] 49 0
  have c01 := cell_new w #[.string key, .int .i64 al, .bool pk] 49 1
  have c02 := cell_new w #[.string key, .int .i64 al, .bool pk] 49 2
  go_enter Tryz.func20, Tryz.ntmps20
  go_wp2_with fail
  refine (faults_any a es cap _ key al pk hm hk (ha.carry b0) (hg.carry b0)).mono ?_
  rintro e w1 ⟨v1, rfl, o1, b1⟩
  obtain ⟨a1, cap1, rfl, hat, -, -⟩ := o1.shape
  have HLE : Hid (∀ f, f ∈ faultsOf es key al → f.1 ≠ 0 ∧ f.2.size ≤ maxLen) := by
    intro f hf
    obtain ⟨h1, h2⟩ := fltAll_path _ _ _ _ _ f hf
    refine ⟨h1, ?_⟩
    rcases h2 with h2 | ⟨i, hi, h2⟩
    · rw [h2]; simp [maxLen]
    · rw [h2]; exact (hg.get i hi).2.2.2
  have HLL : Hid ((faultsOf es key al).length ≤ maxLen) := by
    have h1 := fltAll_len key.size al (fun k => (es.getD k noEnt).path) (fun k => (es.getD k noEnt).body.length) es.length
    have h2 : es.length * (2 * es.length + 2) ≤ 1000000 * (2 * es.length + 2) := Nat.mul_le_mul_right _ hm
    show (fltAll _ _ _ _ _).length ≤ _
    unfold maxLen
    omega
  have hbw1 := b0.trans (b1.mono b0.size)
  have d0 := (b1.cell (p := ⟨w.heap.size, 0, none⟩) (by simp)).trans c00
  have d1 := (b1.cell (p := ⟨w.heap.size, 1, none⟩) (by simp)).trans c01
  have d2 := (b1.cell (p := ⟨w.heap.size, 2, none⟩) (by simp)).trans c02
  rw [show fltAll key.size al (fun k => (es.getD k noEnt).path) (fun k => (es.getD k noEnt).body.length) es.length = faultsOf es key al from rfl] at *
  obtain ⟨L, HL⟩ : ∃ L, Hid (L = faultsOf es key al) := ⟨_, rfl⟩
  rw [← HL.out] at hat HLE HLL
  have hln : (faultsOf es key al).length = L.length := by rw [HL.out]
  rw [hln]
  clear hln o1
  go_wp2_with fail
  refine (least_any a1 L cap1 w1 HLL.out (fun f hf => (HLE.out f hf).2) hat).mono ?_
  rintro e w2 ⟨rfl, b2⟩
  have hw1 : w.heap.size < w1.heap.size := Nat.lt_of_lt_of_le (by simp) b1.size
  have hbw2 := hbw1.trans (b2.mono hbw1.size)
  have e0 := (b2.cell (p := ⟨w.heap.size, 0, none⟩) hw1).trans d0
  have e1 := (b2.cell (p := ⟨w.heap.size, 1, none⟩) hw1).trans d1
  have e2 := (b2.cell (p := ⟨w.heap.size, 2, none⟩) hw1).trans d2
  obtain ⟨x, HX⟩ : ∃ x, Hid (x = leastOf L) := ⟨_, rfl⟩
  rw [← HX.out]
  clear c00 c01 c02 d0 d1 d2 b1 hat
  have hb3 := hbw2.alloc hbw2.size (.cells #[.int .i64 (x.1 : Int), .string x.2] 77)
  by_cases h0 : x.1 = 0
  · have h0b : ((x.1 : Int) != 0) = false := by simp [h0]
    have HLN : Hid (faultsOf es key al = []) := by
      show _ = _
      rw [← HL.out]
      exact leastOf_zero L (fun f hf => (HLE.out f hf).1) (by rw [← HX.out]; exact h0)
    clear h0
    obtain ⟨f1, f2, f3, f4, f5⟩ := fltAll_nil HLN.out
    obtain ⟨an, rfl⟩ : ∃ an : Nat, al = an := ⟨al.toNat, by omega⟩
    have e0' := cell_alloc (.cells #[.int .i64 (x.1 : Int), .string x.2] 77) e0
    have e1' := cell_alloc (.cells #[.int .i64 (x.1 : Int), .string x.2] 77) e1
    have e2' := cell_alloc (.cells #[.int .i64 (x.1 : Int), .string x.2] 77) e2
    have HLim : Hid (∀ e, e ∈ es → e.path.size ≤ 40 ∧ e.body.length ≤ 600) := by
      intro e he
      obtain ⟨i, hi, rfl⟩ := List.mem_iff_getElem.1 he
      have h := f5 i hi
      rw [List.getD_eq_getElem?_getD, List.getElem?_eq_getElem hi, Option.getD_some] at h
      refine ⟨?_, h.2⟩
      have h1 := h.1
      unfold pathB at h1
      rw [Bool.and_eq_true, decide_eq_true_eq] at h1
      have h2 := h1.1
      simpa using h2
    clear f5
    have f1' := hide f1
    clear f1
    go_wp2_with fail
    refine (made_any a es cap _ key an pk f4 (by omega) (by omega) f1'.out HLim.out (ha.carry hb3) (hg.carry hb3)).mono ?_
    rintro e w4 ⟨v4, ix, rfl, HC, HN, o4, b4⟩
    have hb4 := hb3.trans (b4.mono hb3.size)
    obtain ⟨M, HM⟩ : ∃ M, Hid (M = madeOf key.data.toList pk an (pairsOf (ix.map fun i => es.getD i noEnt))) := ⟨_, rfl⟩
    rw [← HM.out] at o4
    obtain ⟨a4, c4, rfl, -, -, -⟩ := o4.shape
    have HAns : Hid (∀ v E p, ((4000 < M.length ∧ v = .slice none 0 0 ∧ E = 8 ∧ p = ByteArray.empty) ∨ (M.length ≤ 4000 ∧ Own w.heap.size w4 v M ∧ E = 0 ∧ p = ByteArray.empty)) → BuildAns es key (an : Int) pk w.heap.size w4 v E p) := by
      intro v E p h
      refine .inr ⟨HLN.out, ix, HC, HN, ?_⟩
      rw [Int.toNat_natCast, ← HM.out]
      exact h
    have o4' : Own w.heap.size w4 (.slice a4 M.length c4) M := o4.mono hb3.size
    have HC' := hide HC
    have HN' := hide HN
    clear HC HN o4 b4
    by_cases h4 : 4000 < M.length
    · have h4i : (4000 : Int) < (M.length : Int) := by omega
      go_wp2
      go_ret3
      exact ⟨_, 8, _, rfl, HAns.out _ _ _ (.inl ⟨h4, rfl, rfl, rfl⟩), hb4⟩
    · have h4i : ¬ (4000 : Int) < (M.length : Int) := by omega
      go_wp2
      go_ret3
      exact ⟨_, 0, _, rfl, HAns.out _ _ _ (.inr ⟨by omega, o4', rfl, rfl⟩), hb4⟩
  · have h0b : ((x.1 : Int) != 0) = true := by simp; omega
    go_wp2
    go_quiet (fail)
    go_wp2
    go_ret3
    refine ⟨_, x.1, x.2, rfl, .inl ⟨?_, rfl, ?_, ?_⟩, below_drewN hb3 _⟩
    · intro hn
      rw [← HL.out] at hn
      apply h0
      rw [HX.out, hn]
      rfl
    · rw [← HL.out, HX.out]
    · rw [← HL.out, HX.out]

end Go.Proofs.YtgncohclofdhmaaGreat
