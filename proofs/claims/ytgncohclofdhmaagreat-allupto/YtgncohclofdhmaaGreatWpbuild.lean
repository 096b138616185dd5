import Derived.Test.YtgncohclofdhmaaGreatWpf
import Derived.Test.YtgncohclofdhmaaGreatWly
namespace Go.Proofs.YtgncohclofdhmaaGreat
open Go.RowKit

/-- The program's Build answers as the document says. -/
def BuildKeeps : Prop := ∀ (a : Option Addr) (es : List Ent) (cap : Nat) (w : World) (key : ByteArray) (al : Int) (pk : Bool), es.length ≤ maxLen → key.size ≤ maxLen → EntAt w a es → EntGood w es →
    Calls Tryz.prog 19 #[.slice a es.length cap, .agg #[.string key, .int .i64 al, .bool pk]] w fun e w' => ∃ v E p, e = .returned (.tuple #[v, .int .i64 (E : Nat), .string p]) ∧ BuildAns es key al pk w.heap.size w' v E p ∧ Below w.heap.size w w'

theorem faults_ne (es : List Ent) (key : ByteArray) (al : Int) (f : Flt) (h : f ∈ faultsOf es key al) : f.1 ≠ 0 := (fltAll_path _ _ _ _ _ f h).1

theorem lexB_none : lexB ByteArray.empty.data.toList ByteArray.empty.data.toList = false := lexB_irrefl _

theorem head_least {es : List Ent} {key : ByteArray} {al : Int} {e : Nat} (h : (e, ByteArray.empty) ∈ fltHead key.size al es.length) (hmin : ∀ f, f ∈ fltHead key.size al es.length → e ≤ f.1) : faultsOf es key al ≠ [] ∧ leastOf (faultsOf es key al) = (e, ByteArray.empty) := by
  have he : e ≤ 3 := by
    obtain ⟨_, h | h | h⟩ := (fltHead_mem _ _ _ _).1 h <;> (simp at h; omega)
  have hm : (e, ByteArray.empty) ∈ faultsOf es key al := List.mem_append.2 (.inl h)
  refine ⟨List.ne_nil_of_mem hm, leastOf_is (faults_ne es key al) hm ?_⟩
  intro f hf
  rcases List.mem_append.1 hf with h1 | h1
  · have h2 := hmin f h1
    have h3 := ((fltHead_mem _ _ _ f).1 h1).1
    by_cases e2 : e = f.1
    · refine .inr ⟨e2, ?_⟩
      rw [h3]
      exact lexB_none
    · exact .inl (by simp only; omega)
  · have := fltFirst_ge h1
    exact .inl (by simp only; omega)

theorem set_least {es : List Ent} {key : ByteArray} {al : Int} (h : setF key al ≠ 0) : faultsOf es key al ≠ [] ∧ leastOf (faultsOf es key al) = (setF key al, ByteArray.empty) := by
  unfold setF at h ⊢
  cases hk : keyB key.size
  · rw [if_pos rfl]
    refine head_least ((fltHead_mem _ _ _ _).2 ⟨rfl, .inl ⟨rfl, hk⟩⟩) ?_
    intro f hf
    obtain ⟨_, h | h | h⟩ := (fltHead_mem _ _ _ _).1 hf <;> omega
  · rw [hk, if_neg (by simp)] at h
    rw [if_neg (by simp)]
    by_cases ha : al < 1 ∨ 16 < al
    · rw [if_pos ha]
      refine head_least ((fltHead_mem _ _ _ _).2 ⟨rfl, .inr (.inl ⟨rfl, ha⟩)⟩) ?_
      intro f hf
      obtain ⟨_, h | h | h⟩ := (fltHead_mem _ _ _ _).1 hf
      · rw [hk] at h; simp at h
      · omega
      · omega
    · rw [if_neg ha] at h
      omega

theorem set_ok {key : ByteArray} {al : Int} (h : setF key al = 0) : keyB key.size = true ∧ 1 ≤ al ∧ al ≤ 16 := by
  unfold setF at h
  cases hk : keyB key.size
  · rw [hk, if_pos rfl] at h; omega
  · rw [hk, if_neg (by simp)] at h
    by_cases ha : al < 1 ∨ 16 < al
    · rw [if_pos ha] at h; omega
    · exact ⟨rfl, by omega, by omega⟩

theorem many_least {es : List Ent} {key : ByteArray} {al : Int} (h : setF key al = 0) (hn : 20 < es.length) : faultsOf es key al ≠ [] ∧ leastOf (faultsOf es key al) = (3, ByteArray.empty) := by
  obtain ⟨h1, h2, h3⟩ := set_ok h
  refine head_least ((fltHead_mem _ _ _ _).2 ⟨rfl, .inr (.inr ⟨rfl, hn⟩)⟩) ?_
  intro f hf
  obtain ⟨_, h | h | h⟩ := (fltHead_mem _ _ _ _).1 hf
  · rw [h1] at h; simp at h
  · omega
  · omega

theorem head_nil {es : List Ent} {key : ByteArray} {al : Int} (h : setF key al = 0) (hn : es.length ≤ 20) : faultsOf es key al = fltFirst (fun k => (es.getD k noEnt).path) (fun k => (es.getD k noEnt).body.length) es.length es.length := by
  obtain ⟨h1, h2, h3⟩ := set_ok h
  unfold faultsOf fltAll fltHead
  rw [h1, if_pos rfl, if_neg (by omega), if_neg (by omega)]
  rfl

theorem LeastAt.congr {F G : Nat → Nat} {n E i0 : Nat} (h : LeastAt F n E i0) (hc : ∀ j, j < n → F j = G j) : LeastAt G n E i0 := by
  rcases h with ⟨h1, h2⟩ | ⟨h1, h2, h3, h4⟩
  · exact .inl ⟨h1, fun j hj => by rw [← hc j hj]; exact h2 j hj⟩
  · refine .inr ⟨h1, h2, by rw [← hc i0 h2]; exact h3, ?_⟩
    intro j hj hne
    rw [← hc j hj] at hne ⊢
    exact h4 j hj hne

theorem map_get {es : List Ent} {ix : List Nat} (j : Nat) (hj : j < ix.length) : (ix.map fun i => es.getD i noEnt).getD j noEnt = es.getD (ix.getD j 0) noEnt := by
  rw [List.getD_eq_getElem?_getD, List.getElem?_map, List.getD_eq_getElem?_getD (l := ix), List.getElem?_eq_getElem hj]
  rfl

/-- What the sorted entries tell is the least fault. -/
theorem entries_least {es : List Ent} {key : ByteArray} {al : Int} {ix : List Nat} {E i0 : Nat} {p : ByteArray} (h : setF key al = 0) (hn : es.length ≤ 20) (hC : Chosen (fun i => (es.getD i noEnt).path.data.toList) es.length ix) (hl : ix.length = es.length)
    (hL : LeastAt (fltAt (ix.map fun i => es.getD i noEnt)) es.length E i0) (hp : E ≠ 0 → p = ((ix.map fun i => es.getD i noEnt).getD i0 noEnt).path) :
    (E = 0 ∧ faultsOf es key al = []) ∨ (E ≠ 0 ∧ faultsOf es key al ≠ [] ∧ leastOf (faultsOf es key al) = (E, p)) := by
  obtain ⟨w1, w2, w3, w4⟩ := hC.ways hl
  have hL2 : LeastAt (fun j => entF (fun k => (es.getD (ix.getD k 0) noEnt).path) (es.getD (ix.getD j 0) noEnt).path (es.getD (ix.getD j 0) noEnt).body.length j) es.length E i0 := by
    refine hL.congr ?_
    intro j hj
    unfold fltAt
    rw [map_get j (by omega)]
    exact entF_congr fun k hk => by rw [map_get k (by omega)]
  rw [head_nil h hn]
  rcases least_sorted (ps := fun k => (es.getD k noEnt).path) (ls := fun k => (es.getD k noEnt).body.length) (g := fun j => ix.getD j 0) w1 w2 w3 w4 hL2 with ⟨e1, e2⟩ | ⟨e1, e2, e3⟩
  · exact .inl ⟨e1, e2⟩
  · have hi0 : i0 < es.length := by
      rcases hL with ⟨h1, _⟩ | ⟨_, h2, _⟩
      · exact absurd h1 e1
      · exact h2
    have hp2 : p = (es.getD (ix.getD i0 0) noEnt).path := by rw [hp e1, map_get i0 (by omega)]
    refine .inr ⟨e1, List.ne_nil_of_mem e2, ?_⟩
    rw [hp2]
    exact leastOf_is (fun f hf => by have := fltFirst_ge hf; omega) e2 e3

set_option maxRecDepth 100000 in
set_option maxHeartbeats 4000000 in
theorem Build_keeps : BuildKeeps := by
  intro a es cap w key al pk hm hk ha hg
  unfold maxLen at hm
  have b0 := (Below.refl w.heap.size w).alloc (Nat.le_refl _) (.cells #[.string key, .int .i64 al, .bool pk] 49)
  have c00 := cell_new w #[.string key, .int .i64 al, .bool pk] 49 0
  have c01 := cell_new w #[.string key, .int .i64 al, .bool pk] 49 1
  have c02 := cell_new w #[.string key, .int .i64 al, .bool pk] 49 2
  have esz : (w.alloc (.cells #[.string key, .int .i64 al, .bool pk] 49)).heap.size = w.heap.size + 1 := by simp
  go_enter Tryz.func19, Tryz.ntmps19
  go_wp2_with fail
  refine (settingsFault_any _ al key pk hk).mono ?_
  rintro e w1 ⟨rfl, b1⟩
  have hb1 := b0.trans (b1.mono b0.size)
  have d0 := (b1.cell (p := ⟨w.heap.size, 0, none⟩) (by rw [esz]; simp)).trans c00
  have d1 := (b1.cell (p := ⟨w.heap.size, 1, none⟩) (by rw [esz]; simp)).trans c01
  have d2 := (b1.cell (p := ⟨w.heap.size, 2, none⟩) (by rw [esz]; simp)).trans c02
  simp at d0 d1 d2
  have sz1 : w.heap.size < w1.heap.size := by have := b1.size; rw [esz] at this; omega
  clear b0 b1 c00 c01 c02 esz
  obtain ⟨sf, HS⟩ : ∃ sf, Hid (sf = setF key al) := ⟨_, rfl⟩
  rw [← HS.out]
  by_cases h0 : sf = 0
  · have h0b : ((sf : Int) != 0) = false := by simp [h0]
    have HS0 : Hid (setF key al = 0) := by show _ = _; rw [← HS.out]; exact h0
    clear h0
    by_cases hn : 20 < es.length
    · have hni : (20 : Int) < (es.length : Int) := by omega
      have HA := hide (many_least HS0.out hn)
      go_wp2
      go_ret3
      exact ⟨_, 3, _, rfl, .inl ⟨HA.out.1, rfl, by rw [HA.out.2], by rw [HA.out.2]; rfl⟩, hb1⟩
    · have hni : ¬ (20 : Int) < (es.length : Int) := by omega
      obtain ⟨f1, f2, f3⟩ := set_ok HS0.out
      obtain ⟨an, rfl⟩ : ∃ an : Nat, al = an := ⟨al.toNat, by omega⟩
      have hk1 := hide f1
      clear f1
      go_wp2_with fail
      refine (sortedEntries_any a es cap _ (by omega) (ha.carry hb1)).mono ?_
      rintro e w2 ⟨v2, ix, rfl, o2, HC, HL, b2⟩
      have hb2 := hb1.trans (b2.mono hb1.size)
      have e0 := (b2.cell (p := ⟨w.heap.size, 0, none⟩) sz1).trans d0
      have e1 := (b2.cell (p := ⟨w.heap.size, 1, none⟩) sz1).trans d1
      have e2 := (b2.cell (p := ⟨w.heap.size, 2, none⟩) sz1).trans d2
      have sz2 : w.heap.size < w2.heap.size := Nat.lt_of_lt_of_le sz1 b2.size
      have HC' := hide HC
      have HL' := hide HL
      clear HC HL d0 d1 d2 b2
      obtain ⟨gs, HG⟩ : ∃ gs, Hid (gs = ix.map fun i => es.getD i noEnt) := ⟨_, rfl⟩
      rw [← HG.out] at o2
      have HGl : Hid (gs.length = es.length) := by show _ = _; rw [HG.out, List.length_map]; exact HL'.out
      have HGm : Hid (∀ e, e ∈ gs → e ∈ es) := by
        intro e he
        rw [HG.out] at he
        obtain ⟨i, hi, rfl⟩ := List.mem_map.1 he
        have := HC'.out.lt i hi
        rw [List.getD_eq_getElem?_getD, List.getElem?_eq_getElem this]
        exact List.getElem_mem this
      have HGs : Hid (∀ i, i < gs.length → (gs.getD i noEnt).path.size ≤ maxLen) := by
        intro i hi
        have hmem : gs.getD i noEnt ∈ gs := by
          rw [List.getD_eq_getElem?_getD, List.getElem?_eq_getElem hi]
          exact List.getElem_mem hi
        exact (hg _ (HGm.out _ hmem)).2.2.2
      obtain ⟨sa, sc, rfl, has, hsc, -⟩ := o2.shape
      have hgl : gs.length ≤ 20 := by rw [HGl.out]; omega
      go_wp2_with fail
      refine (entriesFault_any sa gs sc _ (by omega) hsc has HGs.out).mono ?_
      rintro e w3 ⟨E, i0, p, rfl, HLe, HPe, b3⟩
      have hb3 := hb2.trans (b3.mono hb2.size)
      have g0 := (b3.cell (p := ⟨w.heap.size, 0, none⟩) sz2).trans e0
      have g1 := (b3.cell (p := ⟨w.heap.size, 1, none⟩) sz2).trans e1
      have g2 := (b3.cell (p := ⟨w.heap.size, 2, none⟩) sz2).trans e2
      have has3 := has.carry b3
      have HAns := hide (entries_least (key := key) (al := (an : Int)) (p := p) HS0.out (by omega) HC'.out HL'.out (by rw [← HG.out, ← HGl.out]; exact HLe) (by rw [← HG.out]; exact HPe))
      clear HLe HPe e0 e1 e2 b3 has o2
      by_cases hE : E = 0
      · have hEb : ((E : Int) != 0) = false := by simp [hE]
        have HNil : Hid (faultsOf es key (an : Int) = []) := by
          rcases HAns.out with h | h
          · exact h.2
          · exact absurd hE h.1
        clear hE HAns
        have HLim : Hid (∀ e, e ∈ gs → e.path.size ≤ 40 ∧ e.body.length ≤ 600) := by
          obtain ⟨_, _, _, _, f5⟩ := fltAll_nil HNil.out
          intro e he
          obtain ⟨i, hi, rfl⟩ := List.mem_iff_getElem.1 (HGm.out e he)
          have h := f5 i hi
          rw [List.getD_eq_getElem?_getD, List.getElem?_eq_getElem hi, Option.getD_some] at h
          refine ⟨?_, h.2⟩
          have h1 := h.1
          unfold pathB at h1
          rw [Bool.and_eq_true, decide_eq_true_eq] at h1
          have h2 := h1.1
          simpa using h2
        go_wp2_with fail
        refine (layPackage_any sa gs sc _ key an pk hgl (by omega) (by omega) hk HLim.out has3 (fun e he => (hg.carry hb3) e (HGm.out e he))).mono ?_
        rintro e w4 ⟨v4, rfl, o4, b4⟩
        have hb4 := hb3.trans (b4.mono hb3.size)
        obtain ⟨M, HM⟩ : ∃ M, Hid (M = madeOf key.data.toList pk an (pairsOf gs)) := ⟨_, rfl⟩
        rw [← HM.out] at o4
        obtain ⟨a4, c4, rfl, -, -, -⟩ := o4.shape
        have o4' : Own w.heap.size w4 (.slice a4 M.length c4) M := o4.mono hb3.size
        have HRes : Hid (∀ v E p, ((4000 < M.length ∧ v = .slice none 0 0 ∧ E = 8 ∧ p = ByteArray.empty) ∨ (M.length ≤ 4000 ∧ Own w.heap.size w4 v M ∧ E = 0 ∧ p = ByteArray.empty)) → BuildAns es key (an : Int) pk w.heap.size w4 v E p) := by
          intro v E p h
          refine .inr ⟨HNil.out, ix, HC'.out, HL'.out, ?_⟩
          rw [Int.toNat_natCast, ← HG.out, ← HM.out]
          exact h
        clear o4 b4 g0 g1 g2
        by_cases h4 : 4000 < M.length
        · have h4i : (4000 : Int) < (M.length : Int) := by omega
          go_wp2
          go_ret3
          exact ⟨_, 8, _, rfl, HRes.out _ _ _ (.inl ⟨h4, rfl, rfl, rfl⟩), hb4⟩
        · have h4i : ¬ (4000 : Int) < (M.length : Int) := by omega
          go_wp2
          go_ret3
          exact ⟨_, 0, _, rfl, HRes.out _ _ _ (.inr ⟨by omega, o4', rfl, rfl⟩), hb4⟩
      · have hEb : ((E : Int) != 0) = true := by simp; omega
        have HNe : Hid (faultsOf es key (an : Int) ≠ [] ∧ leastOf (faultsOf es key (an : Int)) = (E, p)) := by
          rcases HAns.out with h | h
          · exact absurd h.1 hE
          · exact h.2
        clear hE HAns
        go_wp2
        go_ret3
        exact ⟨_, E, p, rfl, .inl ⟨HNe.out.1, rfl, by rw [HNe.out.2], by rw [HNe.out.2]⟩, hb3⟩
  · have h0b : ((sf : Int) != 0) = true := by simp; omega
    have HA : Hid (faultsOf es key al ≠ [] ∧ leastOf (faultsOf es key al) = (sf, ByteArray.empty)) := by
      have := set_least (es := es) (key := key) (al := al) (by rw [← HS.out]; exact h0)
      rw [← HS.out] at this
      exact this
    clear h0
    go_wp2
    go_ret3
    exact ⟨_, sf, _, rfl, .inl ⟨HA.out.1, rfl, by rw [HA.out.2], by rw [HA.out.2]; rfl⟩, hb1⟩

end Go.Proofs.YtgncohclofdhmaaGreat
