import Derived.Test.YtgncohclofdhmaaGreatWa32
namespace Go.Proofs.YtgncohclofdhmaaGreat
open Go.RowKit
set_option linter.unusedVariables false

theorem FarAt.to {role role' : Nat → Nat} {K : Nat → Prop} {w w' : World} {e : Value} {n0 : Nat} (h : FarAt role w e n0) (t : Save K w w') (hk2 : ∀ (k : Nat) (cur : Array Value), w.heap[k]? = some (.cells cur 46 (0, 0)) → ¬ K k) (hz : ∀ k, role k = 0 → role' k = 0 ∧ ¬ K k) : FarAt role' w' e n0 := by
  obtain ⟨a, n, c, h1, h2, h3, h4⟩ := h
  refine ⟨a, n, c, h1, h2, h3, fun j hj => ?_⟩
  obtain ⟨b, off, zb, cur, k1, k2, k3, k4, k5, k6⟩ := h4 j hj
  have hb := t.block b (heap_lt k2) (hk2 b cur k2)
  exact ⟨b, off, zb, cur, k1, hb.trans k2, (World.cell?_of_block hb).trans k3, (World.cell?_of_block hb).trans k4, (t.block zb (heap_lt k5) (hz zb k6).2).trans k5, (hz zb k6).1⟩

/-- The invariant behind a step that marked entries and their bodies, and looked at what was handed in. -/
theorem AllInv.listed {B gw n0 t : Nat} {w0 w w5 w6 w7 : World} {role : Nat → Nat} {dv sv bv ev : Value} {ds : List Value} {ls : List Nat} {es : List Value} (h : AllInv B gw n0 t w0 w role dv sv bv ev ds ls es)
    (b : Below w.heap.size w w5) {S : Nat} (hS : w.heap.size ≤ S) (hS5 : S ≤ w5.heap.size) {lv : Value} {lz : List Ent} (hO : OwnE S w5 lv lz) (hE : EntOwn S w5 lz) (hlz : lz.length ≤ 30) (hL : ListedAt B gw S dv sv bv ev lv ls es lz w5 w6)
    (Kx : Nat → Prop) (hKx : ∀ k, Kx k → w.heap.size ≤ k ∧ k < S) (hK8 : ∀ k, Kx k → U8 w6 k) (S7 : Save Kx w6 w7) : ∃ role' bv' ev' ls' es', AllInv B gw n0 (t + 1) w0 w7 role' dv sv bv' ev' ds ls' es' := by
  obtain ⟨wm, bvr, lbs, rn, ev', xs, M, W6, V6, hx4, hfar, S6, hevb⟩ := hL
  have b5 := b.size
  have sm := M.save.size
  have s6 := S6.size
  have s7 := S7.size
  have hgw := h.box.lt
  have hlvb : ∀ k, some k = lv.ownBlock → S ≤ k ∧ k < w5.heap.size := fun k hk => World.ownsRow.lt hO k hk.symm
  have hdvb : ∀ k, some k = dv.ownBlock → k < w.heap.size := fun k hk => (World.ownsRow.lt h.dataR k hk.symm).2
  have hbvb : ∀ k, some k = bv.ownBlock → k < w.heap.size := fun k hk => (World.ownsRow.lt h.bytesR k hk.symm).2
  have hevb0 : ∀ k, some k = ev.ownBlock → k < w.heap.size := fun k hk => (World.ownsRow.lt h.entsR k hk.symm).2
  have SA : Save (fun k => k = gw ∨ some k = bv.ownBlock ∨ some k = ev.ownBlock) w w7 := by
    refine (((Save.of b).join M.save ?_).join S6 ?_).join S7 ?_
    · rintro i hi (e | e | ⟨j, hj, e⟩)
      · exact .inl e
      · exact .inr (.inl e)
      · have hmem : lz.getD j noEnt ∈ lz := by
          rw [List.getD_eq_getElem?_getD, List.getElem?_eq_getElem hj]
          exact List.getElem_mem hj
        have := (World.ownsRow.lt (hE _ hmem).1 i e.symm).1
        omega
    · rintro i hi (e | e | e)
      · exact .inl e
      · exact .inr (.inr e)
      · have := (hlvb i e).1
        omega
    · intro i hi hx
      have := (hKx i hx).1
      omega
  have hu8 : ∀ k, U8 w k → ¬ (k = gw ∨ some k = bv.ownBlock ∨ some k = ev.ownBlock) := by
    rintro k hu (rfl | e | e)
    · exact h.box.not_u8 hu
    · exact h.bytesR.not_u8 k e hu
    · obtain ⟨cur, hc⟩ := hu
      exact h.entsR.ne hc (by decide) e
  have hent : ∀ (k : Nat) (cur : Array Value), w.heap[k]? = some (.cells cur 46 (0, 0)) → ¬ (k = gw ∨ some k = bv.ownBlock ∨ some k = ev.ownBlock) := by
    rintro k cur hc (rfl | e | e)
    · have h' : w.heap[k]? = _ := h.box
      rw [hc] at h'
      simp at h'
    · exact h.bytesR.ne hc (by decide) e
    · exact h.entsR.ne hc (by decide) e
  have hrn0 : ∀ k, k < S → rn k = 0 := by
    intro k hk
    by_cases e : rn k = 0
    · exact e
    · have := (M.lo k e).1
      omega
  have hrn1 : ∀ k, wm.heap.size ≤ k → rn k = 0 := by
    intro k hk
    by_cases e : rn k = 0
    · exact e
    · have := (M.lo k e).2
      omega
  have hr : ∀ k, k < w.heap.size → (fun k => if rn k ≠ 0 then ls.length + rn k else role k) k = role k := by
    intro k hk
    have hn := hrn0 k (by omega)
    simp [hn]
  have hr' : ∀ k, k < w.heap.size → (if rn k ≠ 0 then ls.length + rn k else role k) = role k := hr
  have hlow : ∀ k, k < B → ¬ (k = gw ∨ some k = bv.ownBlock ∨ some k = ev.ownBlock) := by
    rintro k hk (rfl | e | e)
    · have := h.gwB; omega
    · have := (World.ownsRow.lt h.bytesR k e.symm).1; omega
    · have := (World.ownsRow.lt h.entsR k e.symm).1; omega
  have hBw := h.bound
  have L6 : OwnL B w6 bvr (ls ++ lbs) := M.row.save S6 (by
    rintro k hk (e | e | e)
    · subst e
      exact M.row.ne M.box (by decide) hk
    · have he := hevb0 k e
      rcases M.bvb with e2 | e2
      · rw [e2] at hk
        rcases h.entsR.2 with ⟨e3, _⟩ | ⟨g', cap, cur', e3, _, hg', _⟩
        · rw [e3] at e; cases e
        · rw [e3] at e
          have ek : k = g' := by simpa [Value.ownBlock] using e
          subst ek
          exact h.bytesR.ne hg' (by decide) hk
      · have := e2 k hk
        omega
    · have he := hlvb k e
      rcases M.bvb with e2 | e2
      · rw [e2] at hk
        have := hbvb k hk
        omega
      · have := e2 k hk
        omega)
  have L7 : OwnL B w7 bvr (ls ++ lbs) := L6.save S7 (by
    intro k hk hx
    have hx' := hKx k hx
    rcases M.bvb with e2 | e2
    · rw [e2] at hk
      have := hbvb k hk
      omega
    · have := e2 k hk
      omega)
  refine ⟨fun k => if rn k ≠ 0 then ls.length + rn k else role k, bvr, ev', ls ++ lbs, es ++ xs, h.low.trans (SA.below hBw hlow), W6.save S7 (fun hx => by have := (hKx gw hx).1; omega), h.gwB, h.dataR.save SA ?_, ?_, L7, ?_, ?_, V6.save S7 ?_, ?_, ?_, ?_, ?_, ?_, ?_, ?_⟩
  · rintro k hk (e | e | e)
    · exact h.dvFree k hk (.inl e)
    · exact h.dvFree k hk (.inr e)
    · rcases h.entsR.2 with ⟨e3, _⟩ | ⟨g', cap, cur', e3, _, hg', _⟩
      · rw [e3] at e; cases e
      · rw [e3] at e
        have ek : k = g' := by simpa [Value.ownBlock] using e
        subst ek
        exact h.dataR.ne hg' (by decide) hk
  · intro y hy
    obtain ⟨ys, h1, h2, h3⟩ := h.data y hy
    refine ⟨ys, h1.saveK SA fun k _ hu => hu8 k hu, h2, fun k hk => ?_⟩
    show (if rn k ≠ 0 then ls.length + rn k else role k) = 0
    rw [hr' k (World.ownsRow.lt h1 k hk.symm).2]
    exact h3 k hk
  · intro i hi
    rw [List.length_append, M.len] at hi
    by_cases hil : i < ls.length
    · have eg : (ls ++ lbs).getD i 0 = ls.getD i 0 := by rw [List.getD_eq_getElem?_getD, List.getD_eq_getElem?_getD, List.getElem?_append_left hil]
      rw [eg]
      have hL := h.outs i hil
      refine hL.next SA hu8 ?_ hr
      obtain ⟨ss, k1, _⟩ := hL
      rintro (e2 | e2 | e2)
      · have h' : w.heap[gw]? = _ := h.box
        rw [← e2, k1] at h'
        simp at h'
      · exact h.bytesR.ne k1 (by decide) e2
      · exact h.entsR.ne k1 (by decide) e2
    · obtain ⟨m, rfl⟩ : ∃ m, i = ls.length + m := ⟨i - ls.length, by omega⟩
      have hml : m < lbs.length := by rw [M.len]; omega
      have eg : (ls ++ lbs).getD (ls.length + m) 0 = lbs.getD m 0 := by
        rw [List.getD_eq_getElem?_getD, List.getD_eq_getElem?_getD, List.getElem?_append_right (by omega), Nat.add_sub_cancel_left]
      rw [eg]
      obtain ⟨ss, k1, k2, k3⟩ := M.outs m hml
      have hnew := M.new m (by rw [← M.len]; exact hml)
      have hlvE : ∀ k, some k = lv.ownBlock → ∃ cur, w5.heap[k]? = some (.cells cur 46 (0, 0)) := by
        intro k hk
        rcases hO.2 with ⟨e3, _⟩ | ⟨g', cap, cur', e3, _, hg', _⟩
        · rw [e3] at hk; cases hk
        · rw [e3] at hk
          have ek : k = g' := by simpa [Value.ownBlock] using hk
          subst ek
          exact ⟨_, hg'⟩
      have f6 : ∀ k, rn k = m + 1 → U8 wm k → ¬ (k = gw ∨ some k = ev.ownBlock ∨ some k = lv.ownBlock) := by
        rintro k hrk hu (e | e | e)
        · subst e
          exact M.box.not_u8 hu
        · have h1 := hevb0 k e
          have h2 := (M.lo k (by omega)).1
          omega
        · obtain ⟨cur, hc⟩ := hlvE k e
          obtain ⟨cu, hcu⟩ := hu
          have h1 := M.save.block k (heap_lt hc) (by
            rintro (e2 | e2 | ⟨j, hj, e2⟩)
            · have := (hlvb k e).1
              omega
            · have := hbvb k e2
              have := (hlvb k e).1
              omega
            · have hmem : lz.getD j noEnt ∈ lz := by
                rw [List.getD_eq_getElem?_getD, List.getElem?_eq_getElem hj]
                exact List.getElem_mem hj
              rcases (hE _ hmem).1.2 with ⟨e3, _⟩ | ⟨g', cap, cur', e3, _, hg', _⟩
              · rw [e3] at e2; cases e2
              · rw [e3] at e2
                have ek : k = g' := by simpa [Value.ownBlock] using e2
                subst ek
                rw [hc] at hg'
                simp at hg')
          rw [hcu, hc] at h1
          simp at h1
      have f7 : ∀ k, rn k = m + 1 → ¬ Kx k := by
        intro k hrk hx
        have h1 := (M.lo k (by omega)).1
        have h2 := (hKx k hx).2
        omega
      refine ⟨ss, (S7.block _ ?_ ?_).trans ((S6.block _ (heap_lt k1) ?_).trans k1), k2, fun s hs => ⟨?_, ((k3 s hs).2.saveU (k3 s hs).1 S6 f6).saveR ((k3 s hs).1.saveU S6 f6) S7 f7⟩⟩
      · have := heap_lt k1
        omega
      · intro hx
        have := (hKx _ hx).2
        omega
      · rintro (e | e | e)
        · omega
        · have := hevb0 _ e
          omega
        · have := (hlvb _ e).2
          omega
      · refine (((k3 s hs).1.saveU S6 f6).saveR S7 f7).mono fun k _ hrk => ?_
        show (if rn k ≠ 0 then ls.length + rn k else role k) = ls.length + m + 1
        rw [if_pos (by omega), hrk]
        omega
  · intro i hi
    rw [List.length_append, M.len] at hi
    by_cases hil : i < ls.length
    · have eg : (ls ++ lbs).getD i 0 = ls.getD i 0 := by rw [List.getD_eq_getElem?_getD, List.getD_eq_getElem?_getD, List.getElem?_append_left hil]
      rw [eg]
      exact h.sep i hil
    · obtain ⟨m, rfl⟩ : ∃ m, i = ls.length + m := ⟨i - ls.length, by omega⟩
      have hml : m < lbs.length := by rw [M.len]; omega
      have eg : (ls ++ lbs).getD (ls.length + m) 0 = lbs.getD m 0 := by
        rw [List.getD_eq_getElem?_getD, List.getD_eq_getElem?_getD, List.getElem?_append_right (by omega), Nat.add_sub_cancel_left]
      rw [eg]
      intro e
      have := hdvb _ e
      have := M.new m (by rw [← M.len]; exact hml)
      omega
  · intro k hk hx
    have hx' := hKx k hx
    rcases hevb with e2 | e2
    · rw [e2] at hk
      have := hevb0 k hk
      omega
    · have := e2 k hk
      omega
  · intro i hi
    rw [List.length_append, hx4] at hi
    by_cases hil : i < es.length
    · have eg : (es ++ xs).getD i undef = es.getD i undef := by rw [List.getD_eq_getElem?_getD, List.getD_eq_getElem?_getD, List.getElem?_append_left hil]
      rw [eg]
      exact (h.ents i hil).next SA hu8 hent hr
    · obtain ⟨m, rfl⟩ : ∃ m, i = es.length + m := ⟨i - es.length, by omega⟩
      have hml : m < xs.length := by omega
      have eg : (es ++ xs).getD (es.length + m) undef = xs.getD m undef := by
        rw [List.getD_eq_getElem?_getD, List.getD_eq_getElem?_getD, List.getElem?_append_right (by omega), Nat.add_sub_cancel_left]
      have hn : (es.length + m) / 4 * 4 = es.length := by
        have := h.nm
        omega
      rw [eg, hn]
      refine (hfar _ (getD_mem hml)).to S7 ?_ ?_
      · intro k cur hc hx
        obtain ⟨cu, hcu⟩ := hK8 k hx
        rw [hc] at hcu
        simp at hcu
      · intro k hk
        have hk' : wm.heap.size ≤ k ∧ k < w6.heap.size := by
          by_cases e : wm.heap.size ≤ k ∧ k < w6.heap.size
          · exact e
          · rw [if_neg e] at hk
            omega
        refine ⟨?_, fun hx => by have := (hKx k hx).2; omega⟩
        show (if rn k ≠ 0 then ls.length + rn k else role k) = 0
        rw [if_neg (by rw [hrn1 k hk'.1]; simp)]
        exact h.r1 k (by omega)
  · intro k hk
    show (if rn k ≠ 0 then ls.length + rn k else role k) = 0
    rw [hr' k (by omega)]
    exact h.r0 k hk
  · intro k hk
    show (if rn k ≠ 0 then ls.length + rn k else role k) = 0
    rw [if_neg (by rw [hrn1 k (by omega)]; simp)]
    exact h.r1 k (by omega)
  · have := h.nd
    omega
  · have := h.nl
    rw [List.length_append, M.len]
    omega
  · have := h.ne
    rw [List.length_append]
    omega
  · have := h.nm
    rw [List.length_append]
    omega

/-- What came out of Verify. -/
theorem verA_list {key : ByteArray} {p : List UInt8} {B : Nat} {w : World} {v cfg : Value} {E : Nat} (h : VerAnsA key p B w v cfg E) : ∃ lz : List Ent, OwnE B w v lz ∧ EntOwn B w lz ∧ ApartE lz ∧ lz.length ≤ 20 ∧ ∀ e, e ∈ lz → e.body.length ≤ 600 := by
  rcases h with ⟨_, _, rfl, _⟩ | ⟨_, _, _, rfl, _⟩ | ⟨_, es, al, pk, hI, h3, h4, _, _, h5⟩
  · exact ⟨[], OwnE.nil _ _, EntOwn.nil _ _, ApartE.nil, by simp, fun e he => by cases he⟩
  · exact ⟨[], OwnE.nil _ _, EntOwn.nil _ _, ApartE.nil, by simp, fun e he => by cases he⟩
  · refine ⟨es, h3, h4, h5, ?_, fun e he => ?_⟩
    · have := hI.good.len
      rw [pairs_size] at this
      exact this
    · exact hI.good.body _ (List.mem_map.2 ⟨e, he, rfl⟩)

end Go.Proofs.YtgncohclofdhmaaGreat
