import Derived.Test.YtgncohclofdhmaaGreatWgb
import Derived.Test.YtgncohclofdhmaaGreatWgd
import Derived.Test.YtgncohclofdhmaaGreatWrdb
namespace Go.Proofs.YtgncohclofdhmaaGreat
open Go.RowKit
set_option linter.unusedVariables false

/-- What may come up next in a region, read off one operation. -/
theorem ready_dep {md : Region.Mode} {ops : Array Oper} {listed : Array Bool} {i : Nat} {o : Oper} (ho : ops[i]? = some o) (h : i ∈ Region.ready md ops listed) : listed.getD i true = false ∧ ∀ e, e ∈ o.after → Region.binds md e = true → listed.getD e.on false = true := by
  unfold Region.ready at h
  obtain ⟨_, h2⟩ := List.mem_filter.1 h
  rw [ho] at h2
  simp only [Option.map_some, Option.getD_some, Bool.and_eq_true, Bool.not_eq_true'] at h2
  refine ⟨h2.1, fun e he hb => ?_⟩
  have h3 := Array.all_eq_true'.1 h2.2 e he
  rw [hb] at h3
  simpa using h3

/-- Nothing comes up any more: an operation all of whose forerunners are done is done. -/
theorem ready_done {md : Region.Mode} {ops : Array Oper} {listed : Array Bool} {i : Nat} {o : Oper} (ho : ops[i]? = some o) (h : Region.ready md ops listed = []) (hd : ∀ e, e ∈ o.after → Region.binds md e = true → listed.getD e.on false = true) : listed.getD i true = true := by
  cases hl : listed.getD i true with
  | true => rfl
  | false =>
    have hm : i ∈ Region.ready md ops listed := by
      unfold Region.ready
      refine List.mem_filter.2 ⟨List.mem_range.2 (Array.getElem?_eq_some_iff.1 ho).1, ?_⟩
      rw [ho, hl]
      simp only [Option.map_some, Option.getD_some, Bool.not_false, Bool.true_and]
      refine Array.all_eq_true'.2 fun e he => ?_
      cases hb : Region.binds md e with
      | true => rw [hd e he hb]; rfl
      | false => rfl
    rw [h] at hm
    cases hm

/-- How many of a region's operations are not yet done. -/
def openOps (ops : Array Oper) (listed : Array Bool) : Nat := ((List.range ops.size).filter fun i => !listed.getD i true).length

/-- A region's orders, all at once, under an invariant. -/
theorem wpAny_inv {P : Program} {md : Region.Mode} {ops : Array Oper} {Q : Exit → Act → World → Prop} (I : Array Bool → Act → World → Prop)
    (hstep : ∀ listed a w i, I listed a w → i ∈ Region.ready md ops listed → wpOp P ops Q i (I (listed.setIfInBounds i true)) a w)
    (hend : ∀ listed a w, I listed a w → Region.ready md ops listed = [] → Q .normal a w) :
    ∀ fuel listed a w, I listed a w → openOps ops listed ≤ fuel → wpAny P md ops Q fuel listed a w := by
  have sub : ∀ listed i, i ∈ Region.ready md ops listed → i ∈ (List.range ops.size).filter fun i => !listed.getD i true := by
    intro listed i hi
    unfold Region.ready at hi
    obtain ⟨h1, h2⟩ := List.mem_filter.1 hi
    rw [Bool.and_eq_true] at h2
    exact List.mem_filter.2 ⟨h1, h2.1⟩
  intro fuel
  induction fuel with
  | zero =>
    intro listed a w hI hf
    have hn : Region.ready md ops listed = [] := by
      cases hr : Region.ready md ops listed with
      | nil => rfl
      | cons x r =>
        have hm := sub listed x (by rw [hr]; exact List.mem_cons_self)
        have h0 := List.eq_nil_of_length_eq_zero (Nat.le_zero.1 hf)
        rw [h0] at hm
        cases hm
    exact ⟨hn, hend listed a w hI hn⟩
  | succ fuel ih =>
    intro listed a w hI hf
    refine ⟨fun hn => hend listed a w hI hn, fun i hi => ?_⟩
    refine wpOp_mono (fun a' w' hI' => ih _ a' w' hI' ?_) (hstep listed a w i hI hi)
    have hm := sub listed i hi
    have he : ((List.range ops.size).filter fun k => !(listed.setIfInBounds i true).getD k true) = ((List.range ops.size).filter fun k => !listed.getD k true).filter fun k => decide (k ≠ i) := by
      rw [List.filter_filter]
      refine List.filter_congr fun k _ => ?_
      by_cases e : k = i
      · subst e
        have : (listed.setIfInBounds k true).getD k true = true := by
          simp only [Array.getD_eq_getD_getElem?, Array.getElem?_setIfInBounds_self]
          split <;> rfl
        rw [this]
        simp
      · have : (listed.setIfInBounds i true).getD k true = listed.getD k true := by
          simp only [Array.getD_eq_getD_getElem?, Array.getElem?_setIfInBounds_ne (Ne.symm e)]
        rw [this]
        simp [e]
    unfold openOps at hf ⊢
    rw [he]
    have hlt := List.length_filter_lt_length_iff_exists (p := fun k => decide (k ≠ i)).2 ⟨i, hm, by simp⟩
    omega

theorem wpOp_gen {P : Program} {ops : Array Oper} {Q : Exit → Act → World → Prop} {i : Nat} {o : Oper} {J : Act → World → Prop} {a : Act} {w : World} (ho : ops[i]? = some o) (h : ∀ K : Act → World → Prop, (∀ a w, J a w → K a w) → if Region.wanted o (yielded ops a.tmps) = true then Oper.wp P o a w K Q else K (a.put o.dst undef) w) : wpOp P ops Q i J a w := by
  unfold wpOp
  rw [ho]
  have h1 := h J fun _ _ h => h
  simp only
  split
  · rename_i hw
    rw [if_pos hw] at h1
    exact .inl h1
  · rename_i hw
    rw [if_neg hw] at h1
    exact h1

/-- 'append' onto entries that are kept, as a step of a region that draws. -/
theorem step_appE {w : World} {ops : Array Oper} {o : Oper} {a : Act} {K : Act → World → Prop} {Q : Exit → Act → World → Prop} {E : Prop} (hgd : o.guard = none) (s x : Operand)
    (ho : o.op = .call { callee := .builtin .append, args := #[s, x], argTypes := #[44, 44] })
    (B : Nat) (v : Value) (xs : List Ent) (hs : a.eval s = v) (hown : OwnE B w v xs)
    (xv : Value) (ys : List Ent) (m : Nat) (hx : a.eval x = xv) (hsrc : Src Tryz.prog 2 44 xv m (entCells ys) w) (hm0 : 0 < m) (hlen : (xs.length + m) * 40 ≤ 140737488355328)
    (h : ∀ v' w', OwnE B w' v xs → Save (fun k => some k = v.ownBlock) w w' → ShapeE w w' → OutE (fun k => some k = v.ownBlock ∨ w.heap.size ≤ k) w' v' → K (a.put o.dst v') w') :
    if Region.wanted o (yielded ops a.tmps) = true then Oper.wp Tryz.prog o a w K Q else E := by
  have hw : Region.wanted o (yielded ops a.tmps) = true := by simp [Region.wanted, hgd]
  rw [if_pos hw]
  obtain ⟨v', w', hr, h1, h2, h3, h4⟩ := run_append_keepE hown hsrc hm0 hlen o.type
  unfold Oper.wp execOp
  simp only [ho, resolve, invoke, builtin, Sem.run_bind, Sem.run_pure, Result.andThen_ok, List.map_toArray, List.map_cons, List.map_nil, hs, hx, hr]
  exact h v' w' h1 h2 h3 h4

end Go.Proofs.YtgncohclofdhmaaGreat

namespace Go.Proofs.YtgncohclofdhmaaGreat
open Go.RowKit
set_option linter.unusedVariables false

theorem Out.saveU {R K : Nat → Prop} {w w' : World} {s : Value} (h : Out R w s) (t : Save K w w') (hk : ∀ k, R k → U8 w k → ¬ K k) : Out R w' s := by
  cases h with
  | none => exact .none
  | some g n c cur h1 h2 h3 h4 h5 => exact .some g n c cur ((t.block g (heap_lt h1) (hk g h5 ⟨cur, h1⟩)).trans h1) h2 h3 h4 h5

theorem Full.saveU {R K : Nat → Prop} {w w' : World} {s : Value} {v : Nat} (h : Full w s v) (ho : Out R w s) (t : Save K w w') (hk : ∀ k, R k → U8 w k → ¬ K k) : Full w' s v := by
  intro g n c e j hj
  have h1 := h g n c e j hj
  cases ho with
  | none => cases e
  | some g' n' c' cur h2 _ _ _ h5 =>
    have hg : g' = g := by
      simp only [Value.slice.injEq, Option.some.injEq, Addr.mk.injEq] at e
      exact e.1.1
    subst hg
    rw [World.cell?_of_block (t.block g' (heap_lt h2) (hk g' h5 ⟨cur, h2⟩))]
    exact h1

theorem OwnE.saveE {K : Nat → Prop} {B : Nat} {w w' : World} {v : Value} {es : List Ent} (h : OwnE B w v es) (t : Save K w w') (hk : ∀ k, some k = v.ownBlock → ¬ K k) : OwnE B w' v es := by
  refine ⟨h.1, ?_⟩
  rcases h.2 with ⟨rfl, hn⟩ | ⟨g, cap, cur, rfl, hbg, hg, hnc, hcm, hcs, htake⟩
  · exact .inl ⟨rfl, hn⟩
  · exact .inr ⟨g, cap, cur, rfl, hbg, (t.block g (heap_lt hg) (hk g rfl)).trans hg, hnc, hcm, hcs, htake⟩

theorem OwnE.ne {B : Nat} {w : World} {v : Value} {es : List Ent} (h : OwnE B w v es) {g : Nat} {cur : Array Value} {t : TypeId} (hg : w.heap[g]? = some (.cells cur t (0, 0))) (ht : t ≠ 46) : ¬ some g = v.ownBlock := by
  intro e
  rcases h.2 with ⟨rfl, hn⟩ | ⟨g', cap, cur', rfl, hbg, hg', hnc, hcm, hcs, htake⟩
  · cases e
  · have : g = g' := by simpa [Value.ownBlock] using e
    subst this
    rw [hg] at hg'
    simp only [Option.some.injEq, Obj.cells.injEq] at hg'
    exact ht hg'.2.1

theorem ApartE.at {es : List Ent} (h : ApartE es) {i j : Nat} (hi : i < j) (hj : j < es.length) (k : Nat) (h1 : some k = (es.getD i noEnt).val.ownBlock) : ¬ some k = (es.getD j noEnt).val.ownBlock := by
  have hp := List.pairwise_iff_getElem.1 h i j (by omega) hj hi k
  rw [List.getD_eq_getElem?_getD, List.getElem?_eq_getElem (by omega), Option.getD_some] at h1
  rw [List.getD_eq_getElem?_getD, List.getElem?_eq_getElem hj, Option.getD_some]
  exact hp h1

/-- Behind i of the marks that 'listed' sets: w is the world at its start; the entries lz are of its own, from S on. -/
structure Mined (B gw S : Nat) (w : World) (dv sv bv ev : Value) (ls : List Nat) (lz : List Ent) (i : Nat) (wr : World) (bvr : Value) (lbs : List Nat) (rn : Nat → Nat) : Prop where
  box : WBox wr gw dv sv bvr ev
  row : OwnL B wr bvr (ls ++ lbs)
  len : lbs.length = i
  outs : OutsAt rn wr lbs fun m => digN (ls.length + m) 0
  new : ∀ m, m < i → w.heap.size ≤ lbs.getD m 0
  lo : ∀ k, rn k ≠ 0 → S ≤ k ∧ k < wr.heap.size
  free : ∀ j, i ≤ j → j < lz.length → ∀ k, some k = (lz.getD j noEnt).val.ownBlock → rn k = 0
  save : Save (fun k => k = gw ∨ some k = bv.ownBlock ∨ ∃ j, j < i ∧ some k = (lz.getD j noEnt).val.ownBlock) w wr
  bvb : bvr.ownBlock = bv.ownBlock ∨ ∀ k, some k = bvr.ownBlock → w.heap.size ≤ k

theorem Mined.start {B gw S : Nat} {w : World} {dv sv bv ev : Value} {ls : List Nat} {lz : List Ent} (W : WBox w gw dv sv bv ev) (L : OwnL B w bv ls) : Mined B gw S w dv sv bv ev ls lz 0 w bv [] (fun _ => 0) :=
  ⟨W, by rw [List.append_nil]; exact L, rfl, fun i hi => absurd hi (Nat.not_lt_zero i), fun m hm => absurd hm (Nat.not_lt_zero m), fun k hk => absurd rfl hk, fun _ _ _ _ _ => rfl, Save.refl _ _, .inl rfl⟩

theorem Mined.entry {B gw S : Nat} {w : World} {dv sv bv ev : Value} {ls : List Nat} {lz : List Ent} {i : Nat} {wr : World} {bvr : Value} {lbs : List Nat} {rn : Nat → Nat} (h : Mined B gw S w dv sv bv ev ls lz i wr bvr lbs rn)
    (W : WBox w gw dv sv bv ev) (L : OwnL B w bv ls) (hO : EntOwn S w lz) (hA : ApartE lz) (j : Nat) (hij : i ≤ j) (hj : j < lz.length) : Own S wr (lz.getD j noEnt).val (lz.getD j noEnt).body := by
  have hmem : lz.getD j noEnt ∈ lz := by
    rw [List.getD_eq_getElem?_getD, List.getElem?_eq_getElem hj]
    exact List.getElem_mem hj
  refine (hO _ hmem).1.saveK h.save ?_
  rintro k hk hu (e | e | ⟨m, hm, e⟩)
  · subst e; exact W.not_u8 hu
  · exact L.not_u8 k e hu
  · exact hA.at (i := m) (j := j) (by omega) hj k e hk

theorem Mined.ents {B gw S : Nat} {w : World} {dv sv bv ev : Value} {ls : List Nat} {lz : List Ent} {i : Nat} {wr : World} {bvr : Value} {lbs : List Nat} {rn : Nat → Nat} (h : Mined B gw S w dv sv bv ev ls lz i wr bvr lbs rn)
    (W : WBox w gw dv sv bv ev) (L : OwnL B w bv ls) (hO : EntOwn S w lz) (hi : i ≤ lz.length) {v : Value} (hv : OwnE S w v lz) : OwnE S wr v lz := by
  refine hv.saveE h.save ?_
  rintro k hk (e | e | ⟨m, hm, e⟩)
  · subst e
    exact hv.ne W (by decide) hk
  · rcases L.2 with ⟨e2, _⟩ | ⟨g', cap, cur', e2, _, hg', _⟩
    · rw [e2] at e; cases e
    · rw [e2] at e
      have ek : k = g' := by simpa [Value.ownBlock] using e
      subst ek
      exact hv.ne hg' (by decide) hk
  · have hml : m < lz.length := by omega
    have hmem : lz.getD m noEnt ∈ lz := by
      rw [List.getD_eq_getElem?_getD, List.getElem?_eq_getElem hml]
      exact List.getElem_mem hml
    rcases (hO _ hmem).1.2 with ⟨e2, _⟩ | ⟨g', cap, cur', e2, _, hg', _⟩
    · rw [e2] at e; cases e
    · rw [e2] at e
      have ek : k = g' := by simpa [Value.ownBlock] using e
      subst ek
      exact hv.ne hg' (by decide) hk

/-- One mark more. -/
theorem Mined.step {B gw S : Nat} {w : World} {dv sv bv ev : Value} {ls : List Nat} {lz : List Ent} {i : Nat} {wr : World} {bvr : Value} {lbs : List Nat} {rn : Nat → Nat} (h : Mined B gw S w dv sv bv ev ls lz i wr bvr lbs rn)
    (W : WBox w gw dv sv bv ev) (L : OwnL B w bv ls) (hgS : gw < S) (hSw : S ≤ w.heap.size) (hO : EntOwn S w lz) (hA : ApartE lz) (hi : i < lz.length) {p : Value} (hp : p = (lz.getD i noEnt).val)
    {w' : World} {bv' : Value} {lb : Nat} {ss : List Value} (W6 : WBox w' gw dv sv bv' ev) (L6 : OwnL B w' bv' ((ls ++ lbs) ++ [lb])) (k1 : w'.heap[lb]? = some (.cells ss.toArray 29 (0, 0))) (k2 : ss.length = 4) (hlb : wr.heap.size ≤ lb)
    (hOu : ∀ s, s ∈ ss → Out (fun k => some k = p.ownBlock ∨ (wr.heap.size ≤ k ∧ k < w'.heap.size)) w' s ∧ Full w' s (digN (ls ++ lbs).length 0)) (S6 : Save (fun k => k = gw ∨ some k = bvr.ownBlock ∨ some k = p.ownBlock) wr w')
    (hbv : bv'.ownBlock = bvr.ownBlock ∨ ∀ k, some k = bv'.ownBlock → wr.heap.size ≤ k) : ∃ rn', Mined B gw S w dv sv bv ev ls lz (i + 1) w' bv' (lbs ++ [lb]) rn' := by
  classical
  subst hp
  have op := h.entry W L hO hA i (Nat.le_refl _) hi
  have hpb : ∀ k, some k = (lz.getD i noEnt).val.ownBlock → S ≤ k ∧ k < wr.heap.size := fun k hk => World.ownsRow.lt op k hk.symm
  have s6 := S6.size
  have sw := h.save.size
  refine ⟨fun k => if some k = (lz.getD i noEnt).val.ownBlock ∨ (wr.heap.size ≤ k ∧ k < w'.heap.size) then i + 1 else rn k, W6, by rw [← List.append_assoc]; exact L6, by rw [List.length_append, h.len]; rfl, ?_, ?_, ?_, ?_, ?_, ?_⟩
  · intro m hm
    rw [List.length_append, h.len, List.length_singleton] at hm
    by_cases e : m = i
    · subst e
      have eg : (lbs ++ [lb]).getD m 0 = lb := by
        rw [List.getD_eq_getElem?_getD, List.getElem?_append_right (by rw [h.len]; omega), h.len, Nat.sub_self]
        rfl
      rw [eg]
      refine ⟨ss, k1, k2, fun s hs => ⟨(hOu s hs).1.mono fun k _ hx => if_pos hx, ?_⟩⟩
      have h2 := (hOu s hs).2
      rw [List.length_append, h.len] at h2
      exact h2
    · have hml : m < lbs.length := by rw [h.len]; omega
      have eg : (lbs ++ [lb]).getD m 0 = lbs.getD m 0 := by rw [List.getD_eq_getElem?_getD, List.getD_eq_getElem?_getD, List.getElem?_append_left hml]
      rw [eg]
      obtain ⟨ss', h1, h2, h3⟩ := h.outs m hml
      have hfree : ∀ k, rn k = m + 1 → U8 wr k → ¬ (k = gw ∨ some k = bvr.ownBlock ∨ some k = (lz.getD i noEnt).val.ownBlock) := by
        rintro k hr hu (e2 | e2 | e2)
        · subst e2; exact h.box.not_u8 hu
        · exact h.row.not_u8 k e2 hu
        · have := h.free i (Nat.le_refl _) hi k e2
          omega
      refine ⟨ss', (S6.block _ (heap_lt h1) ?_).trans h1, h2, fun s hs => ⟨?_, (h3 s hs).2.saveU (h3 s hs).1 S6 hfree⟩⟩
      · rintro (e2 | e2 | e2)
        · have h' : wr.heap[gw]? = _ := h.box
          rw [← e2, h1] at h'
          simp at h'
        · exact h.row.ne h1 (by decide) e2
        · rcases op.2 with ⟨e3, _⟩ | ⟨g', cap, cur', e3, _, hg', _⟩
          · rw [e3] at e2; cases e2
          · rw [e3] at e2
            have ek : lbs.getD m 0 = g' := by simpa [Value.ownBlock] using e2
            rw [← ek, h1] at hg'
            simp at hg'
      · refine ((h3 s hs).1.saveU S6 hfree).mono fun k hk hr => ?_
        have hl := h.lo k (by omega)
        have hn : ¬ (some k = (lz.getD i noEnt).val.ownBlock ∨ (wr.heap.size ≤ k ∧ k < w'.heap.size)) := by
          rintro (e2 | e2)
          · have := h.free i (Nat.le_refl _) hi k e2
            omega
          · omega
        simp only [hn, if_false]
        exact hr
  · intro m hm
    by_cases e : m = i
    · subst e
      have eg : (lbs ++ [lb]).getD m 0 = lb := by
        rw [List.getD_eq_getElem?_getD, List.getElem?_append_right (by rw [h.len]; omega), h.len, Nat.sub_self]
        rfl
      rw [eg]
      omega
    · have hml : m < lbs.length := by rw [h.len]; omega
      have eg : (lbs ++ [lb]).getD m 0 = lbs.getD m 0 := by rw [List.getD_eq_getElem?_getD, List.getD_eq_getElem?_getD, List.getElem?_append_left hml]
      rw [eg]
      exact h.new m (by omega)
  · intro k hk
    by_cases e : some k = (lz.getD i noEnt).val.ownBlock ∨ (wr.heap.size ≤ k ∧ k < w'.heap.size)
    · rcases e with e | e
      · have := hpb k e
        omega
      · omega
    · simp only [e, if_false] at hk
      have := h.lo k hk
      omega
  · intro j hij hj k hk
    have hn : ¬ (some k = (lz.getD i noEnt).val.ownBlock ∨ (wr.heap.size ≤ k ∧ k < w'.heap.size)) := by
      rintro (e | e)
      · exact hA.at (i := i) (j := j) (by omega) hj k e hk
      · have := (World.ownsRow.lt (h.entry W L hO hA j (by omega) hj) k hk.symm).2
        omega
    simp only [hn, if_false]
    exact h.free j (by omega) hj k hk
  · refine (h.save.mono ?_).join S6 ?_
    · rintro k _ (e | e | ⟨m, hm, e⟩)
      · exact .inl e
      · exact .inr (.inl e)
      · exact .inr (.inr ⟨m, by omega, e⟩)
    · rintro k hk (e | e | e)
      · exact .inl e
      · rcases h.bvb with e2 | e2
        · rw [e2] at e
          exact .inr (.inl e)
        · have := e2 k e
          omega
      · exact .inr (.inr ⟨i, by omega, e⟩)
  · rcases hbv with e | e
    · rw [e]
      exact h.bvb
    · exact .inr fun k hk => by have := e k hk; omega

end Go.Proofs.YtgncohclofdhmaaGreat

namespace Go.Proofs.YtgncohclofdhmaaGreat
open Go.RowKit
set_option linter.unusedVariables false

/-- Two frames part in the slots D alone. -/
structure Agree (D : List Nat) (A0 a : Act) : Prop where
  size : a.tmps.size = A0.tmps.size
  slot : ∀ t, t ∉ D → a.tmps[t]? = A0.tmps[t]?
  defers : a.defers = A0.defers

theorem Agree.refl (D : List Nat) (A0 : Act) : Agree D A0 A0 := ⟨rfl, fun _ _ => rfl, rfl⟩

theorem Agree.put {D : List Nat} {A0 a : Act} (h : Agree D A0 a) {d : Nat} (hd : d ∈ D) (v : Value) : Agree D A0 (a.put (some d) v) := by
  refine ⟨by simp [Act.put, h.size], fun t ht => ?_, h.defers⟩
  have hne : d ≠ t := fun e => ht (e ▸ hd)
  show (a.tmps.setIfInBounds d v)[t]? = _
  rw [Array.getElem?_setIfInBounds_ne hne]
  exact h.slot t ht

theorem Agree.eval {D : List Nat} {A0 a : Act} (h : Agree D A0 a) {t : Nat} (ht : t ∉ D) : a.eval (.tmp t) = A0.eval (.tmp t) := by
  show a.tmps.getD t undef = A0.tmps.getD t undef
  rw [Array.getD_eq_getD_getElem?, Array.getD_eq_getD_getElem?, h.slot t ht]

theorem eval_put_same (a : Act) (d : Nat) (v : Value) (hd : d < a.tmps.size) : (a.put (some d) v).eval (.tmp d) = v := by
  show (a.tmps.setIfInBounds d v).getD d undef = v
  rw [Array.getD_eq_getD_getElem?, Array.getElem?_setIfInBounds_self, if_pos hd]
  rfl

theorem eval_put_ne (a : Act) {d t : Nat} (v : Value) (h : t ≠ d) : (a.put (some d) v).eval (.tmp t) = a.eval (.tmp t) := by
  show (a.tmps.setIfInBounds d v).getD t undef = a.tmps.getD t undef
  rw [Array.getD_eq_getD_getElem?, Array.getD_eq_getD_getElem?, Array.getElem?_setIfInBounds_ne (Ne.symm h)]

/-- A frame, some slots written. -/
def putsD (A0 : Act) (D : List Nat) (f : Nat → Value) : Act := D.foldl (fun a d => a.put (some d) (f d)) A0

theorem putsD_is (f : Nat → Value) : ∀ (D : List Nat) (b : Act), (putsD b D f).defers = b.defers ∧ ∀ t, (putsD b D f).tmps[t]? = if t ∈ D ∧ t < b.tmps.size then some (f t) else b.tmps[t]?
  | [], b => ⟨rfl, fun t => by simp [putsD]⟩
  | d :: D, b => by
    obtain ⟨h1, h2⟩ := putsD_is f D (b.put (some d) (f d))
    have e : putsD b (d :: D) f = putsD (b.put (some d) (f d)) D f := rfl
    rw [e]
    refine ⟨h1, fun t => ?_⟩
    have hs : (b.put (some d) (f d)).tmps.size = b.tmps.size := by simp [Act.put]
    rw [h2 t, hs]
    by_cases hD : t ∈ D ∧ t < b.tmps.size
    · rw [if_pos hD, if_pos ⟨List.mem_cons_of_mem _ hD.1, hD.2⟩]
    · rw [if_neg hD]
      show (b.tmps.setIfInBounds d (f d))[t]? = _
      by_cases ed : d = t
      · subst ed
        rw [Array.getElem?_setIfInBounds_self]
        by_cases hs2 : d < b.tmps.size
        · rw [if_pos hs2, if_pos ⟨List.mem_cons_self, hs2⟩]
        · rw [if_neg hs2, if_neg (fun hx => hs2 hx.2), Array.getElem?_eq_none (by omega)]
      · rw [Array.getElem?_setIfInBounds_ne ed, if_neg]
        rintro ⟨hx, hy⟩
        rcases List.mem_cons.1 hx with e2 | e2
        · exact ed e2.symm
        · exact hD ⟨e2, hy⟩

theorem Agree.puts {D : List Nat} {A0 a : Act} (h : Agree D A0 a) : a = putsD A0 D fun t => a.eval (.tmp t) := by
  obtain ⟨h1, h2⟩ := putsD_is (fun t => a.eval (.tmp t)) D A0
  have ht : a.tmps = (putsD A0 D fun t => a.eval (.tmp t)).tmps := by
    apply Array.ext_getElem?
    intro t
    rw [h2 t]
    by_cases hD : t ∈ D
    · by_cases hs : t < A0.tmps.size
      · rw [if_pos ⟨hD, hs⟩]
        show _ = some (a.tmps.getD t undef)
        rw [Array.getD_eq_getD_getElem?, Array.getElem?_eq_getElem (by rw [h.size]; exact hs)]
        rfl
      · rw [if_neg (fun hx => hs hx.2), Array.getElem?_eq_none (by rw [h.size]; omega), Array.getElem?_eq_none (by omega)]
    · rw [if_neg (fun hx => hD hx.1)]
      exact h.slot t hD
  have hdf : a.defers = (putsD A0 D fun t => a.eval (.tmp t)).defers := h.defers.trans h1.symm
  have e : ∀ (x y : Act), x.tmps = y.tmps → x.defers = y.defers → x = y := by
    rintro ⟨t1, d1⟩ ⟨t2, d2⟩ h1 h2
    simp only at h1 h2
    rw [h1, h2]
  exact e _ _ ht hdf

theorem getD_set_same {listed : Array Bool} {i : Nat} (hi : i < listed.size) : (listed.setIfInBounds i true).getD i false = true := by
  rw [Array.getD_eq_getD_getElem?, Array.getElem?_setIfInBounds_self, if_pos hi]
  rfl

theorem getD_set_ne {listed : Array Bool} {i j : Nat} (h : j ≠ i) : (listed.setIfInBounds i true).getD j false = listed.getD j false := by
  rw [Array.getD_eq_getD_getElem?, Array.getD_eq_getD_getElem?, Array.getElem?_setIfInBounds_ne (Ne.symm h)]

/-- What holds in the midst of a region: of each operation that is done its fact. -/
structure RInv (ops : Array Oper) (D : List Nat) (slot : Nat → Nat) (P : Nat → Value → World → Prop) (F : World → Prop) (A0 : Act) (listed : Array Bool) (a : Act) (w : World) : Prop where
  size : listed.size = ops.size
  agree : Agree D A0 a
  clos : ∀ j o, ops[j]? = some o → listed.getD j false = true → ∀ e, e ∈ o.after → Region.binds .any e = true → listed.getD e.on false = true
  facts : ∀ j, listed.getD j false = true → P j (a.eval (.tmp (slot j))) w
  frame : F w

theorem listed_lt {listed : Array Bool} {j : Nat} (h : listed.getD j false = true) : j < listed.size := by
  by_cases hj : j < listed.size
  · exact hj
  · rw [Array.getD_eq_getD_getElem?, Array.getElem?_eq_none (by omega)] at h
    cases h

theorem RInv.start {ops : Array Oper} {D : List Nat} {slot : Nat → Nat} {P : Nat → Value → World → Prop} {F : World → Prop} (A0 : Act) (w : World) (hF : F w) : RInv ops D slot P F A0 (Array.replicate ops.size false) A0 w := by
  have h0 : ∀ j, ¬ (Array.replicate ops.size false).getD j false = true := by
    intro j h
    rw [Array.getD_eq_getD_getElem?] at h
    by_cases hj : j < ops.size
    · rw [Array.getElem?_eq_getElem (by simpa using hj)] at h
      simp at h
    · rw [Array.getElem?_eq_none (by simpa using hj)] at h
      cases h
  exact ⟨by simp, Agree.refl _ _, fun j o _ h => absurd h (h0 j), fun j h => absurd h (h0 j), hF⟩

theorem RInv.closed {ops : Array Oper} {D : List Nat} {slot : Nat → Nat} {P : Nat → Value → World → Prop} {F : World → Prop} {A0 : Act} {listed : Array Bool} {a : Act} {w : World} (h : RInv ops D slot P F A0 listed a w) {i : Nat} {o : Oper} (ho : ops[i]? = some o) (hr : i ∈ Region.ready .any ops listed) :
    ∀ j o', ops[j]? = some o' → (listed.setIfInBounds i true).getD j false = true → ∀ e, e ∈ o'.after → Region.binds .any e = true → (listed.setIfInBounds i true).getD e.on false = true := by
  have up : ∀ k, listed.getD k false = true → (listed.setIfInBounds i true).getD k false = true := by
    intro k hk
    by_cases e : k = i
    · subst e
      exact getD_set_same (listed_lt hk)
    · rw [getD_set_ne e]
      exact hk
  intro j o' ho' hj e he hb
  by_cases ej : j = i
  · subst ej
    rw [ho] at ho'
    cases ho'
    exact up _ ((ready_dep ho hr).2 e he hb)
  · rw [getD_set_ne ej] at hj
    exact up _ (h.clos j o' ho' hj e he hb)

/-- An operation is done, with a result. -/
theorem RInv.put {ops : Array Oper} {D : List Nat} {slot : Nat → Nat} {P : Nat → Value → World → Prop} {F : World → Prop} {A0 : Act} {listed : Array Bool} {a : Act} {w w' : World} (h : RInv ops D slot P F A0 listed a w) {i : Nat} {o : Oper} (ho : ops[i]? = some o) (hr : i ∈ Region.ready .any ops listed) (v : Value)
    (hd : slot i ∈ D) (hsz : slot i < A0.tmps.size) (hsl : ∀ j, listed.getD j false = true → j ≠ i → slot j ≠ slot i) (hP : P i v w') (hst : ∀ j u, listed.getD j false = true → P j u w → P j u w') (hF : F w') : RInv ops D slot P F A0 (listed.setIfInBounds i true) (a.put (some (slot i)) v) w' := by
  refine ⟨by simp [h.size], h.agree.put hd v, h.closed ho hr, fun j hj => ?_, hF⟩
  by_cases e : j = i
  · subst e
    rw [eval_put_same _ _ _ (by rw [h.agree.size]; exact hsz)]
    exact hP
  · rw [getD_set_ne e] at hj
    rw [eval_put_ne _ _ (hsl j hj e)]
    exact hst j _ hj (h.facts j hj)

/-- An operation is done, without one. -/
theorem RInv.put0 {ops : Array Oper} {D : List Nat} {slot : Nat → Nat} {P : Nat → Value → World → Prop} {F : World → Prop} {A0 : Act} {listed : Array Bool} {a : Act} {w w' : World} (h : RInv ops D slot P F A0 listed a w) {i : Nat} {o : Oper} (ho : ops[i]? = some o) (hr : i ∈ Region.ready .any ops listed)
    (hP : P i (a.eval (.tmp (slot i))) w') (hst : ∀ j u, listed.getD j false = true → P j u w → P j u w') (hF : F w') : RInv ops D slot P F A0 (listed.setIfInBounds i true) a w' := by
  refine ⟨by simp [h.size], h.agree, h.closed ho hr, fun j hj => ?_, hF⟩
  by_cases e : j = i
  · subst e
    exact hP
  · rw [getD_set_ne e] at hj
    exact hst j _ hj (h.facts j hj)

/-- A region under such an invariant. -/
theorem wpAny_rinv {Pr : Program} {ops : Array Oper} {Q : Exit → Act → World → Prop} (D : List Nat) (slot : Nat → Nat) (P : Nat → Value → World → Prop) (F : World → Prop) (A0 : Act) (w0 : World) (hF : F w0)
    (hstep : ∀ listed a w i, RInv ops D slot P F A0 listed a w → i ∈ Region.ready .any ops listed → wpOp Pr ops Q i (RInv ops D slot P F A0 (listed.setIfInBounds i true)) a w)
    (hend : ∀ listed a w, RInv ops D slot P F A0 listed a w → (∀ j, j < ops.size → listed.getD j false = true) → Q .normal a w)
    (hord : ∀ (j : Nat) (o : Oper), ops[j]? = some o → ∀ e, e ∈ o.after → e.on < j) : wpAny Pr .any ops Q ops.size (Array.replicate ops.size false) A0 w0 := by
  refine wpAny_inv (RInv ops D slot P F A0) hstep ?_ _ _ _ _ (RInv.start A0 w0 hF) ?_
  · intro listed a w hI hn
    refine hend listed a w hI ?_
    intro j
    induction j using Nat.strongRecOn with
    | ind j ih =>
      intro hj
      have ho : ops[j]? = some ops[j] := Array.getElem?_eq_getElem hj
      have h1 := ready_done ho hn fun e he _ => ih e.on (hord j _ ho e he) (Nat.lt_trans (hord j _ ho e he) hj)
      rw [Array.getD_eq_getD_getElem?, Array.getElem?_eq_getElem (by rw [hI.size]; exact hj)] at h1 ⊢
      exact h1
  · unfold openOps
    refine Nat.le_trans (List.length_filter_le _ _) ?_
    simp

end Go.Proofs.YtgncohclofdhmaaGreat

namespace Go.Proofs.YtgncohclofdhmaaGreat
open Go.RowKit
set_option linter.unusedVariables false

def oEnt (d : Nat) (op : Op) (ty : TypeId) (pos : String) (af : Array Edge) : Oper := { dst := some d, op := op, type := ty, pos := pos, after := af, guard := none }

def dE (k : Nat) : Edge := { on := k, ground := Ground.data }

def cE (k : Nat) : Edge := { on := k, ground := Ground.chain }

def pE (k : Nat) : Edge := { on := k, ground := Ground.phase }

/-- The region that makes z. -/
def ops4 : Array Oper :=
  #[oEnt 22 (.move (.tmp 0)) 25 "all.go:97" #[],
    oEnt 23 (.nilCheck (.tmp 22)) 0 "all.go:97" #[dE 0],
    oEnt 24 (.fieldAddr 28 (.tmp 23) 3) 0 "all.go:97" #[dE 1],
    oEnt 25 (.load 23 (.tmp 24)) 23 "all.go:97" #[dE 2],
    oEnt 26 (.call { callee := .builtin .len, args := #[.tmp 25], argTypes := #[23] }) 3 "all.go:97" #[dE 3],
    oEnt 27 (.call { callee := .value (.func 15), args := #[.tmp 26, .const (.int .i64 0)], argTypes := #[3, 3] }) 5 "all.go:97" #[dE 4],
    oEnt 28 (.move (.tmp 0)) 25 "all.go:97" #[],
    oEnt 29 (.nilCheck (.tmp 28)) 0 "all.go:97" #[dE 6],
    oEnt 30 (.fieldAddr 28 (.tmp 29) 3) 0 "all.go:97" #[dE 7],
    oEnt 31 (.load 23 (.tmp 30)) 23 "all.go:97" #[dE 8],
    oEnt 32 (.call { callee := .builtin .len, args := #[.tmp 31], argTypes := #[23] }) 3 "all.go:97" #[dE 9],
    oEnt 33 (.call { callee := .value (.func 15), args := #[.tmp 32, .const (.int .i64 1)], argTypes := #[3, 3] }) 5 "all.go:97" #[dE 10, cE 5],
    oEnt 34 (.buildSlice 29 2 #[(0, .tmp 27), (1, .tmp 33)]) 29 "all.go:97" #[dE 5, dE 11],
    oEnt 35 (.build 46 #[(0, .const (.string { data := #[40, 102, 97, 114, 41] })), (1, .tmp 34)]) 46 "all.go:97" #[dE 12],
    oEnt 5 (.alloc 46) 0 "all.go:97" #[],
    { dst := none, op := .store 46 (.tmp 5) (.tmp 35), type := 0, pos := "all.go:97", after := #[dE 14, dE 13, cE 11, pE 0, pE 1, pE 2, pE 3, pE 4, pE 5, pE 6, pE 7, pE 8, pE 9, pE 10, pE 11, pE 12, pE 13, pE 14], guard := none }]

def slot4 (j : Nat) : Nat := if j < 14 then 22 + j else 5

def D4 : List Nat := [22, 23, 24, 25, 26, 27, 28, 29, 30, 31, 32, 33, 34, 35, 5]

/-- Of each operation of that region its fact. -/
def P4 (gw n0 : Nat) (ev : Value) (wm : World) (j : Nat) (v : Value) (w : World) : Prop :=
  match j with
  | 0 | 1 | 6 | 7 => v = .pointer (some ⟨gw, 0, none⟩)
  | 2 | 8 => v = .pointer (some ⟨gw, 3, none⟩)
  | 3 | 9 => v = ev
  | 4 | 10 => v = .int .i64 n0
  | 5 => v = .int .u8 (digN n0 0 : Nat)
  | 11 => v = .int .u8 (digN n0 1 : Nat)
  | 12 => ∃ zb, v = .slice (some ⟨zb, 0, none⟩) 2 2 ∧ wm.heap.size ≤ zb ∧ w.heap[zb]? = some (.cells #[.int .u8 (digN n0 0 : Nat), .int .u8 (digN n0 1 : Nat)] 5 (0, 0))
  | 13 => ∃ zb, v = .agg #[.string farS, .slice (some ⟨zb, 0, none⟩) 2 2] ∧ wm.heap.size ≤ zb ∧ w.heap[zb]? = some (.cells #[.int .u8 (digN n0 0 : Nat), .int .u8 (digN n0 1 : Nat)] 5 (0, 0))
  | 14 => ∃ zx c0 c1, v = .pointer (some ⟨zx, 0, none⟩) ∧ wm.heap.size ≤ zx ∧ w.heap[zx]? = some (.cells #[c0, c1] 46 (0, 0))
  | 15 => ∃ zx zb, v = .pointer (some ⟨zx, 0, none⟩) ∧ wm.heap.size ≤ zx ∧ wm.heap.size ≤ zb ∧ w.heap[zx]? = some (.cells #[.string farS, .slice (some ⟨zb, 0, none⟩) 2 2] 46 (0, 0)) ∧ w.heap[zb]? = some (.cells #[.int .u8 (digN n0 0 : Nat), .int .u8 (digN n0 1 : Nat)] 5 (0, 0))
  | _ => False

theorem ent_set0 {w : World} {g : Nat} {v u : Value} (h : w.heap[g]? = some (.cells #[v, u] 46 (0, 0))) (x : Value) : (w.setCell ⟨g, 0, none⟩ x).heap[g]? = some (.cells #[x, u] 46 (0, 0)) := set_heap h

theorem ent_setB {w : World} {g : Nat} {v u : Value} (h : w.heap[g]? = some (.cells #[v, u] 46 (0, 0))) (x : Value) : (w.setCell ⟨g, 1, none⟩ x).heap[g]? = some (.cells #[v, x] 46 (0, 0)) := set_heap h

theorem evalS {a : Act} {t : Nat} {v : Value} (h : a.eval (.tmp t) = v) : a.tmps[t]?.getD undef = v := by
  rw [← Array.getD_eq_getD_getElem?]
  exact h

theorem RInv.fact {ops : Array Oper} {D : List Nat} {slot : Nat → Nat} {P : Nat → Value → World → Prop} {F : World → Prop} {A0 : Act} {listed : Array Bool} {a : Act} {w : World} (h : RInv ops D slot P F A0 listed a w) {i : Nat} {o : Oper} (ho : ops[i]? = some o) (hr : i ∈ Region.ready .any ops listed) (k : Nat) (hk : dE k ∈ o.after) : P k (a.eval (.tmp (slot k))) w := h.facts k ((ready_dep ho hr).2 _ hk rfl)

theorem not_done {ops : Array Oper} {listed : Array Bool} {i : Nat} {o : Oper} (ho : ops[i]? = some o) (hr : i ∈ Region.ready .any ops listed) (hs : listed.size = ops.size) (hj : listed.getD i false = true) : False := by
  have h1 := (ready_dep ho hr).1
  have hlt : i < listed.size := listed_lt hj
  rw [Array.getD_eq_getD_getElem?, Array.getElem?_eq_getElem hlt, Option.getD_some] at h1 hj
  rw [h1] at hj
  cases hj

theorem ord_of {ops : Array Oper} (h : ((List.range ops.size).all fun j => ((ops[j]?).map fun o => o.after.toList.all fun e => decide (e.on < j)).getD true) = true) : ∀ (j : Nat) (o : Oper), ops[j]? = some o → ∀ e, e ∈ o.after → e.on < j := by
  intro j o ho e he
  have h1 := List.all_eq_true.1 h j (List.mem_range.2 (Array.getElem?_eq_some_iff.1 ho).1)
  rw [ho] at h1
  simp only [Option.map_some, Option.getD_some] at h1
  exact of_decide_eq_true (List.all_eq_true.1 h1 e (Array.mem_toList_iff.2 he))

theorem P4.store {gw n0 : Nat} {ev : Value} {wm : World} {j : Nat} {v : Value} {w : World} {zx : Nat} {c0 c1 u0 u1 : Value} (h : P4 gw n0 ev wm j v w) (hz : w.heap[zx]? = some (.cells #[c0, c1] 46 (0, 0))) (hj : j ≠ 15) : P4 gw n0 ev wm j v ((w.setCell ⟨zx, 0, none⟩ u0).setCell ⟨zx, 1, none⟩ u1) := by
  have key : ∀ (k : Nat) (o : Obj), k ≠ zx → w.heap[k]? = some o → ((w.setCell ⟨zx, 0, none⟩ u0).setCell ⟨zx, 1, none⟩ u1).heap[k]? = some o := fun k o hk hc => (heap_setCell_other _ ⟨zx, 1, none⟩ k u1 hk).trans ((heap_setCell_other w ⟨zx, 0, none⟩ k u0 hk).trans hc)
  have neU : ∀ (k : Nat) (cur : Array Value), w.heap[k]? = some (.cells cur 5 (0, 0)) → k ≠ zx := by
    intro k cur hc e
    subst e
    rw [hz] at hc
    simp at hc
  unfold P4 at h ⊢
  split at h
  all_goals first
    | exact h
    | (obtain ⟨zb, h1, h2, h3⟩ := h; exact ⟨zb, h1, h2, key _ _ (neU _ _ h3) h3⟩)
    | (obtain ⟨zy, x0, x1, h1, h2, h3⟩ := h
       by_cases e : zy = zx
       · subst e
         exact ⟨zy, u0, u1, h1, h2, ent_setB (ent_set0 h3 u0) u1⟩
       · exact ⟨zy, x0, x1, h1, h2, key _ _ e h3⟩)
    | exact absurd rfl hj

theorem P4.below {gw n0 : Nat} {ev : Value} {wm : World} {j : Nat} {v : Value} {w w' : World} (h : P4 gw n0 ev wm j v w) (b : Below w.heap.size w w') : P4 gw n0 ev wm j v w' := by
  unfold P4 at h ⊢
  split at h
  all_goals first
    | exact h
    | (obtain ⟨zb, h1, h2, h3⟩ := h; exact ⟨zb, h1, h2, (b.block _ (heap_lt h3)).trans h3⟩)
    | (obtain ⟨zx, c0, c1, h1, h2, h3⟩ := h; exact ⟨zx, c0, c1, h1, h2, (b.block _ (heap_lt h3)).trans h3⟩)
    | (obtain ⟨zx, zb, h1, h2, h3, h4, h5⟩ := h; exact ⟨zx, zb, h1, h2, h3, (b.block _ (heap_lt h4)).trans h4, (b.block _ (heap_lt h5)).trans h5⟩)

set_option maxRecDepth 100000 in
set_option maxHeartbeats 1000000 in
theorem region4_any {Q : Exit → Act → World → Prop} (A0 : Act) (gw n0 : Nat) (ea : Option Addr) (ec : Nat) (dv sv bv : Value) (wm w0 : World) (hn0 : n0 ≤ 8000000) (h0 : A0.eval (.tmp 0) = .pointer (some ⟨gw, 0, none⟩)) (hsz : A0.tmps.size = 88) (hW : WBox wm gw dv sv bv (.slice ea n0 ec)) (hb0 : Below wm.heap.size wm w0)
    (hQ : ∀ (a : Act) (w : World) (zx zb : Nat), Agree D4 A0 a → a.eval (.tmp 5) = .pointer (some ⟨zx, 0, none⟩) → wm.heap.size ≤ zx → wm.heap.size ≤ zb → w.heap[zx]? = some (.cells #[.string farS, .slice (some ⟨zb, 0, none⟩) 2 2] 46 (0, 0)) → w.heap[zb]? = some (.cells #[.int .u8 (digN n0 0 : Nat), .int .u8 (digN n0 1 : Nat)] 5 (0, 0)) → Below wm.heap.size wm w → Q .normal a w) :
    wpAny Tryz.prog .any ops4 Q ops4.size (Array.replicate ops4.size false) A0 w0 := by
  refine wpAny_rinv D4 slot4 (P4 gw n0 (.slice ea n0 ec) wm) (fun w => Below wm.heap.size wm w) A0 w0 hb0 ?_ ?_ (ord_of (by decide +kernel))
  · intro listed a w i h hr
    have hi : i < 16 := List.mem_range.1 (List.mem_filter.1 hr).1
    have hW1 : WBox w gw dv sv bv (.slice ea n0 ec) := hW.below h.frame
    have c3 := hW1.c3
    have hsl : ∀ i, i < 14 → ∀ j, listed.getD j false = true → j ≠ i → slot4 j ≠ slot4 i := by
      intro i hi j hj hne
      unfold slot4
      rw [if_pos hi]
      split <;> omega
    have s0 : a.eval (.tmp 0) = .pointer (some ⟨gw, 0, none⟩) := (h.agree.eval (by decide)).trans h0
    have HF := hide h.frame
    have HH := hide h
    rcases (show i = 0 ∨ i = 1 ∨ i = 2 ∨ i = 3 ∨ i = 4 ∨ i = 5 ∨ i = 6 ∨ i = 7 ∨ i = 8 ∨ i = 9 ∨ i = 10 ∨ i = 11 ∨ i = 12 ∨ i = 13 ∨ i = 14 ∨ i = 15 by omega) with rfl | rfl | rfl | rfl | rfl | rfl | rfl | rfl | rfl | rfl | rfl | rfl | rfl | rfl | rfl | rfl
    · have ho : ops4[0]? = some (oEnt 22 (.move (.tmp 0)) 25 "all.go:97" #[]) := rfl
      have f0 : a.tmps[0]?.getD undef = .pointer (some ⟨gw, 0, none⟩) := evalS s0
      refine wpOp_gen ho fun K hK => ?_
      have HK := hide fun v (hP : P4 gw n0 (.slice ea n0 ec) wm 0 v w) => hK _ _ (HH.out.put ho hr v (by decide) (by rw [hsz]; decide) (hsl 0 (by decide)) hP (fun _ _ _ p => p) HF.out)
      have hv : P4 gw n0 (.slice ea n0 ec) wm 0 (.pointer (some ⟨gw, 0, none⟩)) w := rfl
      replace HK := hide (HK.out _ hv)
      clear hK h hr hsl hv
      unfold oEnt
      go_simp
      exact HK.out
    · have ho : ops4[1]? = some (oEnt 23 (.nilCheck (.tmp 22)) 0 "all.go:97" #[dE 0]) := rfl
      have f0 : a.tmps[22]?.getD undef = .pointer (some ⟨gw, 0, none⟩) := evalS (h.fact ho hr 0 (by simp [oEnt]))
      refine wpOp_gen ho fun K hK => ?_
      have HK := hide fun v (hP : P4 gw n0 (.slice ea n0 ec) wm 1 v w) => hK _ _ (HH.out.put ho hr v (by decide) (by rw [hsz]; decide) (hsl 1 (by decide)) hP (fun _ _ _ p => p) HF.out)
      have hv : P4 gw n0 (.slice ea n0 ec) wm 1 (.pointer (some ⟨gw, 0, none⟩)) w := rfl
      replace HK := hide (HK.out _ hv)
      clear hK h hr hsl hv
      unfold oEnt
      go_simp
      exact HK.out
    · have ho : ops4[2]? = some (oEnt 24 (.fieldAddr 28 (.tmp 23) 3) 0 "all.go:97" #[dE 1]) := rfl
      have f1 : a.tmps[23]?.getD undef = .pointer (some ⟨gw, 0, none⟩) := evalS (h.fact ho hr 1 (by simp [oEnt]))
      refine wpOp_gen ho fun K hK => ?_
      have HK := hide fun v (hP : P4 gw n0 (.slice ea n0 ec) wm 2 v w) => hK _ _ (HH.out.put ho hr v (by decide) (by rw [hsz]; decide) (hsl 2 (by decide)) hP (fun _ _ _ p => p) HF.out)
      have hv : P4 gw n0 (.slice ea n0 ec) wm 2 (.pointer (some ⟨gw, 3, none⟩)) w := rfl
      replace HK := hide (HK.out _ hv)
      clear hK h hr hsl hv
      unfold oEnt
      go_simp
      exact HK.out
    · have ho : ops4[3]? = some (oEnt 25 (.load 23 (.tmp 24)) 23 "all.go:97" #[dE 2]) := rfl
      have f2 : a.tmps[24]?.getD undef = .pointer (some ⟨gw, 3, none⟩) := evalS (h.fact ho hr 2 (by simp [oEnt]))
      refine wpOp_gen ho fun K hK => ?_
      have HK := hide fun v (hP : P4 gw n0 (.slice ea n0 ec) wm 3 v w) => hK _ _ (HH.out.put ho hr v (by decide) (by rw [hsz]; decide) (hsl 3 (by decide)) hP (fun _ _ _ p => p) HF.out)
      have hv : P4 gw n0 (.slice ea n0 ec) wm 3 (.slice ea n0 ec) w := rfl
      replace HK := hide (HK.out _ hv)
      clear hK h hr hsl hv
      unfold oEnt
      go_simp
      exact HK.out
    · have ho : ops4[4]? = some (oEnt 26 (.call { callee := .builtin .len, args := #[.tmp 25], argTypes := #[23] }) 3 "all.go:97" #[dE 3]) := rfl
      have f3 : a.tmps[25]?.getD undef = .slice ea n0 ec := evalS (h.fact ho hr 3 (by simp [oEnt]))
      refine wpOp_gen ho fun K hK => ?_
      have HK := hide fun v (hP : P4 gw n0 (.slice ea n0 ec) wm 4 v w) => hK _ _ (HH.out.put ho hr v (by decide) (by rw [hsz]; decide) (hsl 4 (by decide)) hP (fun _ _ _ p => p) HF.out)
      have hv : P4 gw n0 (.slice ea n0 ec) wm 4 (.int .i64 n0) w := rfl
      replace HK := hide (HK.out _ hv)
      clear hK h hr hsl hv
      unfold oEnt
      go_simp
      exact HK.out
    · have ho : ops4[5]? = some (oEnt 27 (.call { callee := .value (.func 15), args := #[.tmp 26, .const (.int .i64 0)], argTypes := #[3, 3] }) 5 "all.go:97" #[dE 4]) := rfl
      have f4 : a.tmps[26]?.getD undef = .int .i64 n0 := evalS (h.fact ho hr 4 (by simp [oEnt]))
      refine wpOp_gen ho fun K hK => ?_
      have HK := hide fun v (hP : P4 gw n0 (.slice ea n0 ec) wm 5 v w) => hK _ _ (HH.out.put ho hr v (by decide) (by rw [hsz]; decide) (hsl 5 (by decide)) hP (fun _ _ _ p => p) HF.out)
      have HDi := hide (digit_any n0 0 w (by omega) (by omega))
      clear hK h hr hsl
      unfold oEnt
      go_simp
      go_at_call 15
      refine HDi.out.mono ?_
      rintro e w2 ⟨rfl, rfl⟩
      exact HK.out _ rfl
    · have ho : ops4[6]? = some (oEnt 28 (.move (.tmp 0)) 25 "all.go:97" #[]) := rfl
      have f0 : a.tmps[0]?.getD undef = .pointer (some ⟨gw, 0, none⟩) := evalS s0
      refine wpOp_gen ho fun K hK => ?_
      have HK := hide fun v (hP : P4 gw n0 (.slice ea n0 ec) wm 6 v w) => hK _ _ (HH.out.put ho hr v (by decide) (by rw [hsz]; decide) (hsl 6 (by decide)) hP (fun _ _ _ p => p) HF.out)
      have hv : P4 gw n0 (.slice ea n0 ec) wm 6 (.pointer (some ⟨gw, 0, none⟩)) w := rfl
      replace HK := hide (HK.out _ hv)
      clear hK h hr hsl hv
      unfold oEnt
      go_simp
      exact HK.out
    · have ho : ops4[7]? = some (oEnt 29 (.nilCheck (.tmp 28)) 0 "all.go:97" #[dE 6]) := rfl
      have f6 : a.tmps[28]?.getD undef = .pointer (some ⟨gw, 0, none⟩) := evalS (h.fact ho hr 6 (by simp [oEnt]))
      refine wpOp_gen ho fun K hK => ?_
      have HK := hide fun v (hP : P4 gw n0 (.slice ea n0 ec) wm 7 v w) => hK _ _ (HH.out.put ho hr v (by decide) (by rw [hsz]; decide) (hsl 7 (by decide)) hP (fun _ _ _ p => p) HF.out)
      have hv : P4 gw n0 (.slice ea n0 ec) wm 7 (.pointer (some ⟨gw, 0, none⟩)) w := rfl
      replace HK := hide (HK.out _ hv)
      clear hK h hr hsl hv
      unfold oEnt
      go_simp
      exact HK.out
    · have ho : ops4[8]? = some (oEnt 30 (.fieldAddr 28 (.tmp 29) 3) 0 "all.go:97" #[dE 7]) := rfl
      have f7 : a.tmps[29]?.getD undef = .pointer (some ⟨gw, 0, none⟩) := evalS (h.fact ho hr 7 (by simp [oEnt]))
      refine wpOp_gen ho fun K hK => ?_
      have HK := hide fun v (hP : P4 gw n0 (.slice ea n0 ec) wm 8 v w) => hK _ _ (HH.out.put ho hr v (by decide) (by rw [hsz]; decide) (hsl 8 (by decide)) hP (fun _ _ _ p => p) HF.out)
      have hv : P4 gw n0 (.slice ea n0 ec) wm 8 (.pointer (some ⟨gw, 3, none⟩)) w := rfl
      replace HK := hide (HK.out _ hv)
      clear hK h hr hsl hv
      unfold oEnt
      go_simp
      exact HK.out
    · have ho : ops4[9]? = some (oEnt 31 (.load 23 (.tmp 30)) 23 "all.go:97" #[dE 8]) := rfl
      have f8 : a.tmps[30]?.getD undef = .pointer (some ⟨gw, 3, none⟩) := evalS (h.fact ho hr 8 (by simp [oEnt]))
      refine wpOp_gen ho fun K hK => ?_
      have HK := hide fun v (hP : P4 gw n0 (.slice ea n0 ec) wm 9 v w) => hK _ _ (HH.out.put ho hr v (by decide) (by rw [hsz]; decide) (hsl 9 (by decide)) hP (fun _ _ _ p => p) HF.out)
      have hv : P4 gw n0 (.slice ea n0 ec) wm 9 (.slice ea n0 ec) w := rfl
      replace HK := hide (HK.out _ hv)
      clear hK h hr hsl hv
      unfold oEnt
      go_simp
      exact HK.out
    · have ho : ops4[10]? = some (oEnt 32 (.call { callee := .builtin .len, args := #[.tmp 31], argTypes := #[23] }) 3 "all.go:97" #[dE 9]) := rfl
      have f9 : a.tmps[31]?.getD undef = .slice ea n0 ec := evalS (h.fact ho hr 9 (by simp [oEnt]))
      refine wpOp_gen ho fun K hK => ?_
      have HK := hide fun v (hP : P4 gw n0 (.slice ea n0 ec) wm 10 v w) => hK _ _ (HH.out.put ho hr v (by decide) (by rw [hsz]; decide) (hsl 10 (by decide)) hP (fun _ _ _ p => p) HF.out)
      have hv : P4 gw n0 (.slice ea n0 ec) wm 10 (.int .i64 n0) w := rfl
      replace HK := hide (HK.out _ hv)
      clear hK h hr hsl hv
      unfold oEnt
      go_simp
      exact HK.out
    · have ho : ops4[11]? = some (oEnt 33 (.call { callee := .value (.func 15), args := #[.tmp 32, .const (.int .i64 1)], argTypes := #[3, 3] }) 5 "all.go:97" #[dE 10, cE 5]) := rfl
      have f10 : a.tmps[32]?.getD undef = .int .i64 n0 := evalS (h.fact ho hr 10 (by simp [oEnt]))
      refine wpOp_gen ho fun K hK => ?_
      have HK := hide fun v (hP : P4 gw n0 (.slice ea n0 ec) wm 11 v w) => hK _ _ (HH.out.put ho hr v (by decide) (by rw [hsz]; decide) (hsl 11 (by decide)) hP (fun _ _ _ p => p) HF.out)
      have HDi := hide (digit_any n0 1 w (by omega) (by omega))
      clear hK h hr hsl
      unfold oEnt
      go_simp
      go_at_call 15
      refine HDi.out.mono ?_
      rintro e w2 ⟨rfl, rfl⟩
      exact HK.out _ rfl
    · have ho : ops4[12]? = some (oEnt 34 (.buildSlice 29 2 #[(0, .tmp 27), (1, .tmp 33)]) 29 "all.go:97" #[dE 5, dE 11]) := rfl
      have f5 : a.tmps[27]?.getD undef = .int .u8 (digN n0 0 : Nat) := evalS (h.fact ho hr 5 (by simp [oEnt]))
      have f11 : a.tmps[33]?.getD undef = .int .u8 (digN n0 1 : Nat) := evalS (h.fact ho hr 11 (by simp [oEnt]))
      refine wpOp_gen ho fun K hK => ?_
      have Ba := below_alloc w (.cells #[.int .u8 (digN n0 0 : Nat), .int .u8 (digN n0 1 : Nat)] 5)
      have HK := hide (hK _ _ (HH.out.put ho hr (.slice (some ⟨w.heap.size, 0, none⟩) 2 2) (by decide) (by rw [hsz]; decide) (hsl 12 (by decide)) (w' := w.alloc (.cells #[.int .u8 (digN n0 0 : Nat), .int .u8 (digN n0 1 : Nat)] 5)) ⟨w.heap.size, rfl, HF.out.size, heap_alloc_new w _⟩ (fun _ _ _ p => p.below Ba) (HF.out.trans (Ba.mono HF.out.size))))
      clear hK h hr hsl
      generalize digN n0 0 = d0 at *
      generalize digN n0 1 = d1 at *
      unfold oEnt
      go_simp
      exact HK.out
    · have ho : ops4[13]? = some (oEnt 35 (.build 46 #[(0, .const (.string { data := #[40, 102, 97, 114, 41] })), (1, .tmp 34)]) 46 "all.go:97" #[dE 12]) := rfl
      obtain ⟨zb, f12, z1, z2⟩ := h.fact ho hr 12 (by simp [oEnt])
      have f12' : a.tmps[34]?.getD undef = .slice (some ⟨zb, 0, none⟩) 2 2 := evalS f12
      refine wpOp_gen ho fun K hK => ?_
      have HK := hide (hK _ _ (HH.out.put ho hr (.agg #[.string farS, .slice (some ⟨zb, 0, none⟩) 2 2]) (by decide) (by rw [hsz]; decide) (hsl 13 (by decide)) (w' := w) ⟨zb, rfl, z1, z2⟩ (fun _ _ _ p => p) HF.out))
      clear hK h hr hsl
      unfold oEnt
      go_simp
      exact HK.out
    · have ho : ops4[14]? = some (oEnt 5 (.alloc 46) 0 "all.go:97" #[]) := rfl
      refine wpOp_gen ho fun K hK => ?_
      have Ba := below_alloc w (.cells #[.string ByteArray.empty, .slice none 0 0] 46)
      have hsl2 : ∀ j, listed.getD j false = true → j ≠ 14 → slot4 j ≠ slot4 14 := by
        intro j hj hne
        have hj2 : j < 16 := by have := listed_lt hj; rw [h.size] at this; exact this
        by_cases e : j = 15
        · subst e
          exact absurd (h.clos 15 ({ dst := none, op := .store 46 (.tmp 5) (.tmp 35), type := 0, pos := "all.go:97", after := #[dE 14, dE 13, cE 11, pE 0, pE 1, pE 2, pE 3, pE 4, pE 5, pE 6, pE 7, pE 8, pE 9, pE 10, pE 11, pE 12, pE 13, pE 14], guard := none }) rfl hj (dE 14) (by simp) rfl) (fun hx => not_done ho hr h.size hx)
        · unfold slot4
          rw [if_pos (show j < 14 by omega), if_neg (by omega)]
          omega
      have HK := hide (hK _ _ (HH.out.put ho hr (.pointer (some ⟨w.heap.size, 0, none⟩)) (by decide) (by rw [hsz]; decide) hsl2 (w' := w.alloc (.cells #[.string ByteArray.empty, .slice none 0 0] 46)) ⟨w.heap.size, _, _, rfl, HF.out.size, heap_alloc_new w _⟩ (fun _ _ _ p => p.below Ba) (HF.out.trans (Ba.mono HF.out.size))))
      clear hK h hr hsl hsl2
      unfold oEnt
      go_simp
      exact HK.out
    · have ho : ops4[15]? = some ({ dst := none, op := .store 46 (.tmp 5) (.tmp 35), type := 0, pos := "all.go:97", after := #[dE 14, dE 13, cE 11, pE 0, pE 1, pE 2, pE 3, pE 4, pE 5, pE 6, pE 7, pE 8, pE 9, pE 10, pE 11, pE 12, pE 13, pE 14], guard := none }) := rfl
      obtain ⟨zb, f13, z1, z2⟩ := h.fact ho hr 13 (by simp)
      obtain ⟨zx, x0, x1, f14, y1, y2⟩ := h.fact ho hr 14 (by simp)
      have g13 : a.tmps[35]?.getD undef = .agg #[.string farS, .slice (some ⟨zb, 0, none⟩) 2 2] := evalS f13
      have g14 : a.tmps[5]?.getD undef = .pointer (some ⟨zx, 0, none⟩) := evalS f14
      have hne : zx ≠ zb := fun e => by
        subst e
        rw [y2] at z2
        simp at z2
      have k0 : w.cell? ⟨zx, 0, none⟩ = some x0 := cell_of_row _ _ 0 _ _ _ y2
      have k1 : w.cell? ⟨zx, 1, none⟩ = some x1 := cell_of_row _ _ 1 _ _ _ y2
      have r0 : w.frozen? ⟨zx, 0, none⟩ = false := by simp [World.frozen?, y2]
      have r1 : w.frozen? ⟨zx, 1, none⟩ = false := by simp [World.frozen?, y2]
      have y3 := ent_set0 y2 (.string farS)
      have y4 := ent_setB y3 (.slice (some ⟨zb, 0, none⟩) 2 2)
      have z3 := (heap_setCell_other w ⟨zx, 0, none⟩ zb (.string farS) (Ne.symm hne)).trans z2
      have z4 := (heap_setCell_other (w.setCell ⟨zx, 0, none⟩ (.string farS)) ⟨zx, 1, none⟩ zb (.slice (some ⟨zb, 0, none⟩) 2 2) (Ne.symm hne)).trans z3
      have hF2 := (HF.out.setCell (p := ⟨zx, 0, none⟩) y1 (.string farS)).setCell (p := ⟨zx, 1, none⟩) y1 (.slice (some ⟨zb, 0, none⟩) 2 2)
      refine wpOp_gen ho fun K hK => ?_
      have HK := hide (hK _ _ (HH.out.put0 ho hr (w' := (w.setCell ⟨zx, 0, none⟩ (.string farS)).setCell ⟨zx, 1, none⟩ (.slice (some ⟨zb, 0, none⟩) 2 2)) ⟨zx, zb, f14, y1, z1, y4, z4⟩ (fun j _ hj p => p.store y2 (fun e => by subst e; exact not_done ho hr h.size hj)) hF2))
      clear hK h hr hsl f13 f14 y2 y3 y4 z2 z3 z4 hF2
      go_simp
      exact HK.out
  · intro listed a w h hall
    obtain ⟨zx, zb, h1, h2, h3, h4, h5⟩ := h.facts 15 (hall 15 (by decide))
    exact hQ a w zx zb h.agree h1 h2 h3 h4 h5 h.frame

end Go.Proofs.YtgncohclofdhmaaGreat

namespace Go.Proofs.YtgncohclofdhmaaGreat
open Go.RowKit
set_option linter.unusedVariables false

/-- The region that appends z. -/
def ops5 : Array Oper :=
  #[oEnt 36 (.move (.tmp 1)) 44 "all.go:98" #[],
    oEnt 37 (.move (.tmp 1)) 44 "all.go:98" #[],
    oEnt 38 (.load 46 (.tmp 5)) 46 "all.go:98" #[],
    oEnt 39 (.buildSlice 44 1 #[(0, .tmp 38)]) 44 "all.go:98" #[dE 2],
    oEnt 40 (.call { callee := .builtin .append, args := #[.tmp 37, .tmp 39], argTypes := #[44, 44] }) 44 "all.go:98" #[dE 1, dE 3],
    oEnt 41 (.move (.tmp 1)) 44 "all.go:98" #[],
    oEnt 42 (.load 46 (.tmp 5)) 46 "all.go:98" #[],
    oEnt 43 (.load 46 (.tmp 5)) 46 "all.go:98" #[],
    oEnt 44 (.buildSlice 44 2 #[(0, .tmp 42), (1, .tmp 43)]) 44 "all.go:98" #[dE 6, dE 7],
    oEnt 45 (.call { callee := .builtin .append, args := #[.tmp 41, .tmp 44], argTypes := #[44, 44] }) 44 "all.go:98" #[dE 5, dE 8, cE 4],
    oEnt 46 (.move (.tmp 1)) 44 "all.go:98" #[],
    oEnt 47 (.load 46 (.tmp 5)) 46 "all.go:98" #[],
    oEnt 48 (.load 46 (.tmp 5)) 46 "all.go:98" #[],
    oEnt 49 (.load 46 (.tmp 5)) 46 "all.go:98" #[],
    oEnt 50 (.buildSlice 44 3 #[(0, .tmp 47), (1, .tmp 48), (2, .tmp 49)]) 44 "all.go:98" #[dE 11, dE 12, dE 13],
    oEnt 51 (.call { callee := .builtin .append, args := #[.tmp 46, .tmp 50], argTypes := #[44, 44] }) 44 "all.go:98" #[dE 10, dE 14, cE 9],
    oEnt 52 (.buildSlice 23 4 #[(0, .tmp 36), (1, .tmp 40), (2, .tmp 45), (3, .tmp 51)]) 23 "all.go:98" #[dE 0, dE 4, dE 9, dE 15],
    oEnt 6 (.assign (.tmp 52)) 23 "all.go:98" #[dE 16, cE 15, pE 0, pE 1, pE 2, pE 3, pE 4, pE 5, pE 6, pE 7, pE 8, pE 9, pE 10, pE 11, pE 12, pE 13, pE 14, pE 15, pE 16]]

def slot5 (j : Nat) : Nat := if j < 17 then 36 + j else 6

def D5 : List Nat := [36, 37, 38, 39, 40, 41, 42, 43, 44, 45, 46, 47, 48, 49, 50, 51, 52, 6]

/-- z, as an entry. -/
def zEnt (zb : Nat) : Ent := ⟨farS, some ⟨zb, 0, none⟩, [0, 0], 2⟩

def BuiltZ (zb m : Nat) (wz : World) (v : Value) (w : World) : Prop := ∃ g, v = .slice (some ⟨g, 0, none⟩) m m ∧ wz.heap.size ≤ g ∧ w.heap[g]? = some (.cells (entCells (List.replicate m (zEnt zb))).toArray 46 (0, 0))

def AllZ (lv : Value) (wz : World) (v : Value) (w : World) : Prop := ∃ gA x1 x2 x3, v = .slice (some ⟨gA, 0, none⟩) 4 4 ∧ wz.heap.size ≤ gA ∧ w.heap[gA]? = some (.cells #[lv, x1, x2, x3] 44 (0, 0)) ∧ OutE (fun k => some k = lv.ownBlock ∨ wz.heap.size ≤ k) w x1 ∧ OutE (fun k => some k = lv.ownBlock ∨ wz.heap.size ≤ k) w x2 ∧ OutE (fun k => some k = lv.ownBlock ∨ wz.heap.size ≤ k) w x3

def P5 (zb : Nat) (lv : Value) (wz : World) (j : Nat) (v : Value) (w : World) : Prop :=
  match j with
  | 0 | 1 | 5 | 10 => v = lv
  | 2 | 6 | 7 | 11 | 12 | 13 => v = .agg #[.string farS, .slice (some ⟨zb, 0, none⟩) 2 2]
  | 3 => BuiltZ zb 1 wz v w
  | 8 => BuiltZ zb 2 wz v w
  | 14 => BuiltZ zb 3 wz v w
  | 4 | 9 | 15 => OutE (fun k => some k = lv.ownBlock ∨ wz.heap.size ≤ k) w v
  | 16 | 17 => AllZ lv wz v w
  | _ => False

theorem BuiltZ.next {zb m : Nat} {lv : Value} {wz : World} {v : Value} {w w' : World} (h : BuiltZ zb m wz v w) (hl : ∀ k, some k = lv.ownBlock → k < wz.heap.size) (s : Save (fun k => some k = lv.ownBlock) w w') : BuiltZ zb m wz v w' := by
  obtain ⟨g, h1, h2, h3⟩ := h
  exact ⟨g, h1, h2, (s.block g (heap_lt h3) fun hx => by have := hl g hx; omega).trans h3⟩

theorem AllZ.next {lv : Value} {wz : World} {v : Value} {w w' : World} (h : AllZ lv wz v w) (hl : ∀ k, some k = lv.ownBlock → k < wz.heap.size) (s : Save (fun k => some k = lv.ownBlock) w w') (sh : ShapeE w w') : AllZ lv wz v w' := by
  obtain ⟨gA, x1, x2, x3, h1, h2, h3, h4, h5, h6⟩ := h
  exact ⟨gA, x1, x2, x3, h1, h2, (s.block gA (heap_lt h3) fun hx => by have := hl gA hx; omega).trans h3, h4.shape sh, h5.shape sh, h6.shape sh⟩

theorem P5.next {zb : Nat} {lv : Value} {wz : World} {j : Nat} {v : Value} {w w' : World} (h : P5 zb lv wz j v w) (hl : ∀ k, some k = lv.ownBlock → k < wz.heap.size) (s : Save (fun k => some k = lv.ownBlock) w w') (sh : ShapeE w w') : P5 zb lv wz j v w' := by
  unfold P5 at h ⊢
  split at h
  all_goals first
    | exact h
    | exact BuiltZ.next h hl s
    | exact OutE.shape h sh
    | exact AllZ.next h hl s sh

theorem src_blk {w : World} {g : Nat} (ys : List Ent) (h : w.heap[g]? = some (.cells (entCells ys).toArray 46 (0, 0))) : Src Tryz.prog 2 44 (.slice (some ⟨g, 0, none⟩) ys.length ys.length) ys.length (entCells ys) w := by
  refine Src.ofSlice _ Tryz.underlying44 ⟨g, 0, none⟩ _ _ _ (entCells_length ys) ?_ (entCells_one _)
  intro j u hj
  rw [Addr.add_lit, Nat.zero_add, cell_of_row _ g j _ _ _ h]
  simpa using hj

/-- What holds of the world in the midst of that region. -/
structure F5 (S zx zb : Nat) (lv : Value) (lz : List Ent) (wz w : World) : Prop where
  own : OwnE S w lv lz
  save : Save (fun k => some k = lv.ownBlock) wz w
  shape : ShapeE wz w
  z : w.heap[zx]? = some (.cells #[.string farS, .slice (some ⟨zb, 0, none⟩) 2 2] 46 (0, 0))

theorem F5.next {S zx zb : Nat} {lv : Value} {lz : List Ent} {wz w w' : World} (h : F5 S zx zb lv lz wz w) (hl : ∀ k, some k = lv.ownBlock → k < zx) (o : OwnE S w' lv lz) (s : Save (fun k => some k = lv.ownBlock) w w') (sh : ShapeE w w') : F5 S zx zb lv lz wz w' :=
  ⟨o, h.save.trans s, h.shape.trans sh, (s.block zx (heap_lt h.z) fun hx => by have := hl zx hx; omega).trans h.z⟩

theorem F5.below {S zx zb : Nat} {lv : Value} {lz : List Ent} {wz w w' : World} (h : F5 S zx zb lv lz wz w) (hl : ∀ k, some k = lv.ownBlock → k < zx) (b : Below w.heap.size w w') : F5 S zx zb lv lz wz w' := h.next hl (h.own.carry b) (Save.of b) (ShapeE.of b)

set_option maxRecDepth 100000 in
set_option maxHeartbeats 1000000 in
theorem region5_any {Q : Exit → Act → World → Prop} (A0 : Act) (S zx zb : Nat) (la : Option Addr) (ln lc : Nat) (lz : List Ent) (wz : World) (hlz : lz.length ≤ 1000) (h1 : A0.eval (.tmp 1) = .slice la ln lc) (h5 : A0.eval (.tmp 5) = .pointer (some ⟨zx, 0, none⟩)) (hsz : A0.tmps.size = 88) (hF : F5 S zx zb (.slice la ln lc) lz wz wz) (hl : ∀ k, some k = (.slice la ln lc : Value).ownBlock → k < zx)
    (hQ : ∀ (a : Act) (w : World), Agree D5 A0 a → AllZ (.slice la ln lc) wz (a.eval (.tmp 6)) w → F5 S zx zb (.slice la ln lc) lz wz w → Q .normal a w) :
    wpAny Tryz.prog .any ops5 Q ops5.size (Array.replicate ops5.size false) A0 wz := by
  have hlw : ∀ k, some k = (.slice la ln lc : Value).ownBlock → k < wz.heap.size := fun k hk => Nat.lt_trans (hl k hk) (heap_lt hF.z)
  refine wpAny_rinv D5 slot5 (P5 zb (.slice la ln lc) wz) (F5 S zx zb (.slice la ln lc) lz wz) A0 wz hF ?_ ?_ (ord_of (by decide +kernel))
  · intro listed a w i h hr
    have hi : i < 18 := List.mem_range.1 (List.mem_filter.1 hr).1
    have hsl : ∀ i, i < 18 → ∀ j, listed.getD j false = true → j ≠ i → slot5 j ≠ slot5 i := by
      intro i hi j hj hne
      have hj2 : j < 18 := by have := listed_lt hj; rw [h.size] at this; exact this
      unfold slot5
      split <;> split <;> omega
    have s1 : a.tmps[1]?.getD undef = .slice la ln lc := evalS ((h.agree.eval (by decide)).trans h1)
    have s5 : a.tmps[5]?.getD undef = .pointer (some ⟨zx, 0, none⟩) := evalS ((h.agree.eval (by decide)).trans h5)
    have k0 : w.cell? ⟨zx, 0, none⟩ = some (.string farS) := cell_of_row _ _ 0 _ _ _ h.frame.z
    have k1 : w.cell? ⟨zx, 1, none⟩ = some (.slice (some ⟨zb, 0, none⟩) 2 2) := cell_of_row _ _ 1 _ _ _ h.frame.z
    have HH := hide h
    have HL := hide hl
    have HLW := hide hlw
    rcases (show i = 0 ∨ i = 1 ∨ i = 2 ∨ i = 3 ∨ i = 4 ∨ i = 5 ∨ i = 6 ∨ i = 7 ∨ i = 8 ∨ i = 9 ∨ i = 10 ∨ i = 11 ∨ i = 12 ∨ i = 13 ∨ i = 14 ∨ i = 15 ∨ i = 16 ∨ i = 17 by omega) with rfl | rfl | rfl | rfl | rfl | rfl | rfl | rfl | rfl | rfl | rfl | rfl | rfl | rfl | rfl | rfl | rfl | rfl
    · have ho : ops5[0]? = some (oEnt 36 (.move (.tmp 1)) 44 "all.go:98" #[]) := rfl
      refine wpOp_gen ho fun K hK => ?_
      have HK := hide (hK _ _ (HH.out.put ho hr (.slice la ln lc) (by decide) (by rw [hsz]; decide) (hsl 0 (by decide)) (w' := w) (show P5 zb (.slice la ln lc) wz 0 (.slice la ln lc) w from rfl) (fun _ _ _ p => p) HH.out.frame))
      clear hK h hr hsl hl hlw hF
      unfold oEnt
      go_simp
      exact HK.out
    · have ho : ops5[1]? = some (oEnt 37 (.move (.tmp 1)) 44 "all.go:98" #[]) := rfl
      refine wpOp_gen ho fun K hK => ?_
      have HK := hide (hK _ _ (HH.out.put ho hr (.slice la ln lc) (by decide) (by rw [hsz]; decide) (hsl 1 (by decide)) (w' := w) (show P5 zb (.slice la ln lc) wz 1 (.slice la ln lc) w from rfl) (fun _ _ _ p => p) HH.out.frame))
      clear hK h hr hsl hl hlw hF
      unfold oEnt
      go_simp
      exact HK.out
    · have ho : ops5[2]? = some (oEnt 38 (.load 46 (.tmp 5)) 46 "all.go:98" #[]) := rfl
      refine wpOp_gen ho fun K hK => ?_
      have HK := hide (hK _ _ (HH.out.put ho hr (.agg #[.string farS, .slice (some ⟨zb, 0, none⟩) 2 2]) (by decide) (by rw [hsz]; decide) (hsl 2 (by decide)) (w' := w) (show P5 zb (.slice la ln lc) wz 2 (.agg #[.string farS, .slice (some ⟨zb, 0, none⟩) 2 2]) w from rfl) (fun _ _ _ p => p) HH.out.frame))
      clear hK h hr hsl hl hlw hF
      unfold oEnt
      go_simp
      exact HK.out
    · have ho : ops5[3]? = some (oEnt 39 (.buildSlice 44 1 #[(0, .tmp 38)]) 44 "all.go:98" #[dE 2]) := rfl
      have f2 : a.tmps[38]?.getD undef = .agg #[.string farS, .slice (some ⟨zb, 0, none⟩) 2 2] := evalS (h.fact ho hr 2 (by simp [oEnt]))
      have Ba := below_alloc w (.cells #[.string farS, .slice (some ⟨zb, 0, none⟩) 2 2] 46)
      refine wpOp_gen ho fun K hK => ?_
      have HK := hide (hK _ _ (HH.out.put ho hr (.slice (some ⟨w.heap.size, 0, none⟩) 1 1) (by decide) (by rw [hsz]; decide) (hsl 3 (by decide)) (w' := w.alloc (.cells #[.string farS, .slice (some ⟨zb, 0, none⟩) 2 2] 46)) (show P5 zb (.slice la ln lc) wz 3 (.slice (some ⟨w.heap.size, 0, none⟩) 1 1) _ from ⟨w.heap.size, rfl, HH.out.frame.save.size, heap_alloc_new w _⟩) (fun _ _ _ p => p.next HLW.out (Save.of Ba) (ShapeE.of Ba)) (HH.out.frame.below HL.out Ba)))
      clear hK h hr hsl hl hlw hF Ba
      unfold oEnt
      go_simp
      exact HK.out
    · have ho : ops5[4]? = some (oEnt 40 (.call { callee := .builtin .append, args := #[.tmp 37, .tmp 39], argTypes := #[44, 44] }) 44 "all.go:98" #[dE 1, dE 3]) := rfl
      have fx : a.eval (.tmp 37) = .slice la ln lc := h.fact ho hr 1 (by simp [oEnt])
      obtain ⟨g, fy, g1, g2⟩ := h.fact ho hr 3 (by simp [oEnt])
      have fy' : a.eval (.tmp 39) = .slice (some ⟨g, 0, none⟩) 1 1 := fy
      have sr := src_blk (List.replicate 1 (zEnt zb)) g2
      refine wpOp_gen ho fun K hK => ?_
      refine step_appE rfl (.tmp 37) (.tmp 39) rfl S _ lz fx h.frame.own _ (List.replicate 1 (zEnt zb)) 1 fy' sr (by decide) (by omega) ?_
      intro v' w' o' sv sh ou
      have ss := h.frame.save.size
      exact hK _ _ (HH.out.put ho hr v' (by decide) (by rw [hsz]; decide) (hsl 4 (by decide)) (w' := w') (show P5 zb (.slice la ln lc) wz 4 v' w' from ou.mono fun k _ hx => hx.imp id fun hx => by omega) (fun _ _ _ p => p.next hlw sv sh) (h.frame.next hl o' sv sh))
    · have ho : ops5[5]? = some (oEnt 41 (.move (.tmp 1)) 44 "all.go:98" #[]) := rfl
      refine wpOp_gen ho fun K hK => ?_
      have HK := hide (hK _ _ (HH.out.put ho hr (.slice la ln lc) (by decide) (by rw [hsz]; decide) (hsl 5 (by decide)) (w' := w) (show P5 zb (.slice la ln lc) wz 5 (.slice la ln lc) w from rfl) (fun _ _ _ p => p) HH.out.frame))
      clear hK h hr hsl hl hlw hF
      unfold oEnt
      go_simp
      exact HK.out
    · have ho : ops5[6]? = some (oEnt 42 (.load 46 (.tmp 5)) 46 "all.go:98" #[]) := rfl
      refine wpOp_gen ho fun K hK => ?_
      have HK := hide (hK _ _ (HH.out.put ho hr (.agg #[.string farS, .slice (some ⟨zb, 0, none⟩) 2 2]) (by decide) (by rw [hsz]; decide) (hsl 6 (by decide)) (w' := w) (show P5 zb (.slice la ln lc) wz 6 (.agg #[.string farS, .slice (some ⟨zb, 0, none⟩) 2 2]) w from rfl) (fun _ _ _ p => p) HH.out.frame))
      clear hK h hr hsl hl hlw hF
      unfold oEnt
      go_simp
      exact HK.out
    · have ho : ops5[7]? = some (oEnt 43 (.load 46 (.tmp 5)) 46 "all.go:98" #[]) := rfl
      refine wpOp_gen ho fun K hK => ?_
      have HK := hide (hK _ _ (HH.out.put ho hr (.agg #[.string farS, .slice (some ⟨zb, 0, none⟩) 2 2]) (by decide) (by rw [hsz]; decide) (hsl 7 (by decide)) (w' := w) (show P5 zb (.slice la ln lc) wz 7 (.agg #[.string farS, .slice (some ⟨zb, 0, none⟩) 2 2]) w from rfl) (fun _ _ _ p => p) HH.out.frame))
      clear hK h hr hsl hl hlw hF
      unfold oEnt
      go_simp
      exact HK.out
    · have ho : ops5[8]? = some (oEnt 44 (.buildSlice 44 2 #[(0, .tmp 42), (1, .tmp 43)]) 44 "all.go:98" #[dE 6, dE 7]) := rfl
      have f6 : a.tmps[42]?.getD undef = .agg #[.string farS, .slice (some ⟨zb, 0, none⟩) 2 2] := evalS (h.fact ho hr 6 (by simp [oEnt]))
      have f7 : a.tmps[43]?.getD undef = .agg #[.string farS, .slice (some ⟨zb, 0, none⟩) 2 2] := evalS (h.fact ho hr 7 (by simp [oEnt]))
      have Ba := below_alloc w (.cells #[.string farS, .slice (some ⟨zb, 0, none⟩) 2 2, .string farS, .slice (some ⟨zb, 0, none⟩) 2 2] 46)
      refine wpOp_gen ho fun K hK => ?_
      have HK := hide (hK _ _ (HH.out.put ho hr (.slice (some ⟨w.heap.size, 0, none⟩) 2 2) (by decide) (by rw [hsz]; decide) (hsl 8 (by decide)) (w' := w.alloc (.cells #[.string farS, .slice (some ⟨zb, 0, none⟩) 2 2, .string farS, .slice (some ⟨zb, 0, none⟩) 2 2] 46)) (show P5 zb (.slice la ln lc) wz 8 (.slice (some ⟨w.heap.size, 0, none⟩) 2 2) _ from ⟨w.heap.size, rfl, HH.out.frame.save.size, heap_alloc_new w _⟩) (fun _ _ _ p => p.next HLW.out (Save.of Ba) (ShapeE.of Ba)) (HH.out.frame.below HL.out Ba)))
      clear hK h hr hsl hl hlw hF Ba
      unfold oEnt
      go_simp
      exact HK.out
    · have ho : ops5[9]? = some (oEnt 45 (.call { callee := .builtin .append, args := #[.tmp 41, .tmp 44], argTypes := #[44, 44] }) 44 "all.go:98" #[dE 5, dE 8, cE 4]) := rfl
      have fx : a.eval (.tmp 41) = .slice la ln lc := h.fact ho hr 5 (by simp [oEnt])
      obtain ⟨g, fy, g1, g2⟩ := h.fact ho hr 8 (by simp [oEnt])
      have fy' : a.eval (.tmp 44) = .slice (some ⟨g, 0, none⟩) 2 2 := fy
      have sr := src_blk (List.replicate 2 (zEnt zb)) g2
      refine wpOp_gen ho fun K hK => ?_
      refine step_appE rfl (.tmp 41) (.tmp 44) rfl S _ lz fx h.frame.own _ (List.replicate 2 (zEnt zb)) 2 fy' sr (by decide) (by omega) ?_
      intro v' w' o' sv sh ou
      have ss := h.frame.save.size
      exact hK _ _ (HH.out.put ho hr v' (by decide) (by rw [hsz]; decide) (hsl 9 (by decide)) (w' := w') (show P5 zb (.slice la ln lc) wz 9 v' w' from ou.mono fun k _ hx => hx.imp id fun hx => by omega) (fun _ _ _ p => p.next hlw sv sh) (h.frame.next hl o' sv sh))
    · have ho : ops5[10]? = some (oEnt 46 (.move (.tmp 1)) 44 "all.go:98" #[]) := rfl
      refine wpOp_gen ho fun K hK => ?_
      have HK := hide (hK _ _ (HH.out.put ho hr (.slice la ln lc) (by decide) (by rw [hsz]; decide) (hsl 10 (by decide)) (w' := w) (show P5 zb (.slice la ln lc) wz 10 (.slice la ln lc) w from rfl) (fun _ _ _ p => p) HH.out.frame))
      clear hK h hr hsl hl hlw hF
      unfold oEnt
      go_simp
      exact HK.out
    · have ho : ops5[11]? = some (oEnt 47 (.load 46 (.tmp 5)) 46 "all.go:98" #[]) := rfl
      refine wpOp_gen ho fun K hK => ?_
      have HK := hide (hK _ _ (HH.out.put ho hr (.agg #[.string farS, .slice (some ⟨zb, 0, none⟩) 2 2]) (by decide) (by rw [hsz]; decide) (hsl 11 (by decide)) (w' := w) (show P5 zb (.slice la ln lc) wz 11 (.agg #[.string farS, .slice (some ⟨zb, 0, none⟩) 2 2]) w from rfl) (fun _ _ _ p => p) HH.out.frame))
      clear hK h hr hsl hl hlw hF
      unfold oEnt
      go_simp
      exact HK.out
    · have ho : ops5[12]? = some (oEnt 48 (.load 46 (.tmp 5)) 46 "all.go:98" #[]) := rfl
      refine wpOp_gen ho fun K hK => ?_
      have HK := hide (hK _ _ (HH.out.put ho hr (.agg #[.string farS, .slice (some ⟨zb, 0, none⟩) 2 2]) (by decide) (by rw [hsz]; decide) (hsl 12 (by decide)) (w' := w) (show P5 zb (.slice la ln lc) wz 12 (.agg #[.string farS, .slice (some ⟨zb, 0, none⟩) 2 2]) w from rfl) (fun _ _ _ p => p) HH.out.frame))
      clear hK h hr hsl hl hlw hF
      unfold oEnt
      go_simp
      exact HK.out
    · have ho : ops5[13]? = some (oEnt 49 (.load 46 (.tmp 5)) 46 "all.go:98" #[]) := rfl
      refine wpOp_gen ho fun K hK => ?_
      have HK := hide (hK _ _ (HH.out.put ho hr (.agg #[.string farS, .slice (some ⟨zb, 0, none⟩) 2 2]) (by decide) (by rw [hsz]; decide) (hsl 13 (by decide)) (w' := w) (show P5 zb (.slice la ln lc) wz 13 (.agg #[.string farS, .slice (some ⟨zb, 0, none⟩) 2 2]) w from rfl) (fun _ _ _ p => p) HH.out.frame))
      clear hK h hr hsl hl hlw hF
      unfold oEnt
      go_simp
      exact HK.out
    · have ho : ops5[14]? = some (oEnt 50 (.buildSlice 44 3 #[(0, .tmp 47), (1, .tmp 48), (2, .tmp 49)]) 44 "all.go:98" #[dE 11, dE 12, dE 13]) := rfl
      have f11 : a.tmps[47]?.getD undef = .agg #[.string farS, .slice (some ⟨zb, 0, none⟩) 2 2] := evalS (h.fact ho hr 11 (by simp [oEnt]))
      have f12 : a.tmps[48]?.getD undef = .agg #[.string farS, .slice (some ⟨zb, 0, none⟩) 2 2] := evalS (h.fact ho hr 12 (by simp [oEnt]))
      have f13 : a.tmps[49]?.getD undef = .agg #[.string farS, .slice (some ⟨zb, 0, none⟩) 2 2] := evalS (h.fact ho hr 13 (by simp [oEnt]))
      have Ba := below_alloc w (.cells #[.string farS, .slice (some ⟨zb, 0, none⟩) 2 2, .string farS, .slice (some ⟨zb, 0, none⟩) 2 2, .string farS, .slice (some ⟨zb, 0, none⟩) 2 2] 46)
      refine wpOp_gen ho fun K hK => ?_
      have HK := hide (hK _ _ (HH.out.put ho hr (.slice (some ⟨w.heap.size, 0, none⟩) 3 3) (by decide) (by rw [hsz]; decide) (hsl 14 (by decide)) (w' := w.alloc (.cells #[.string farS, .slice (some ⟨zb, 0, none⟩) 2 2, .string farS, .slice (some ⟨zb, 0, none⟩) 2 2, .string farS, .slice (some ⟨zb, 0, none⟩) 2 2] 46)) (show P5 zb (.slice la ln lc) wz 14 (.slice (some ⟨w.heap.size, 0, none⟩) 3 3) _ from ⟨w.heap.size, rfl, HH.out.frame.save.size, heap_alloc_new w _⟩) (fun _ _ _ p => p.next HLW.out (Save.of Ba) (ShapeE.of Ba)) (HH.out.frame.below HL.out Ba)))
      clear hK h hr hsl hl hlw hF Ba
      unfold oEnt
      go_simp
      exact HK.out
    · have ho : ops5[15]? = some (oEnt 51 (.call { callee := .builtin .append, args := #[.tmp 46, .tmp 50], argTypes := #[44, 44] }) 44 "all.go:98" #[dE 10, dE 14, cE 9]) := rfl
      have fx : a.eval (.tmp 46) = .slice la ln lc := h.fact ho hr 10 (by simp [oEnt])
      obtain ⟨g, fy, g1, g2⟩ := h.fact ho hr 14 (by simp [oEnt])
      have fy' : a.eval (.tmp 50) = .slice (some ⟨g, 0, none⟩) 3 3 := fy
      have sr := src_blk (List.replicate 3 (zEnt zb)) g2
      refine wpOp_gen ho fun K hK => ?_
      refine step_appE rfl (.tmp 46) (.tmp 50) rfl S _ lz fx h.frame.own _ (List.replicate 3 (zEnt zb)) 3 fy' sr (by decide) (by omega) ?_
      intro v' w' o' sv sh ou
      have ss := h.frame.save.size
      exact hK _ _ (HH.out.put ho hr v' (by decide) (by rw [hsz]; decide) (hsl 15 (by decide)) (w' := w') (show P5 zb (.slice la ln lc) wz 15 v' w' from ou.mono fun k _ hx => hx.imp id fun hx => by omega) (fun _ _ _ p => p.next hlw sv sh) (h.frame.next hl o' sv sh))
    · have ho : ops5[16]? = some (oEnt 52 (.buildSlice 23 4 #[(0, .tmp 36), (1, .tmp 40), (2, .tmp 45), (3, .tmp 51)]) 23 "all.go:98" #[dE 0, dE 4, dE 9, dE 15]) := rfl
      have f0 : a.tmps[36]?.getD undef = .slice la ln lc := evalS (h.fact ho hr 0 (by simp [oEnt]))
      have e4 := h.fact ho hr 4 (by simp [oEnt])
      have e9 := h.fact ho hr 9 (by simp [oEnt])
      have e15 := h.fact ho hr 15 (by simp [oEnt])
      have e4' : OutE (fun k => some k = (.slice la ln lc : Value).ownBlock ∨ wz.heap.size ≤ k) w (a.eval (.tmp 40)) := e4
      have e9' : OutE (fun k => some k = (.slice la ln lc : Value).ownBlock ∨ wz.heap.size ≤ k) w (a.eval (.tmp 45)) := e9
      have e15' : OutE (fun k => some k = (.slice la ln lc : Value).ownBlock ∨ wz.heap.size ≤ k) w (a.eval (.tmp 51)) := e15
      obtain ⟨a1, n1, c1, q1, -, -⟩ := e4'.slice
      obtain ⟨a2, n2, c2, q2, -, -⟩ := e9'.slice
      obtain ⟨a3, n3, c3, q3, -, -⟩ := e15'.slice
      rw [q1] at e4'
      rw [q2] at e9'
      rw [q3] at e15'
      have f1 := evalS q1
      have f2 := evalS q2
      have f3 := evalS q3
      have Ba := below_alloc w (.cells #[.slice la ln lc, .slice a1 n1 c1, .slice a2 n2 c2, .slice a3 n3 c3] 44)
      have sh := ShapeE.of Ba
      refine wpOp_gen ho fun K hK => ?_
      have HK := hide (hK _ _ (HH.out.put ho hr (.slice (some ⟨w.heap.size, 0, none⟩) 4 4) (by decide) (by rw [hsz]; decide) (hsl 16 (by decide)) (w' := w.alloc (.cells #[.slice la ln lc, .slice a1 n1 c1, .slice a2 n2 c2, .slice a3 n3 c3] 44)) (show P5 zb (.slice la ln lc) wz 16 (.slice (some ⟨w.heap.size, 0, none⟩) 4 4) _ from ⟨w.heap.size, _, _, _, rfl, HH.out.frame.save.size, heap_alloc_new w _, e4'.shape sh, e9'.shape sh, e15'.shape sh⟩) (fun _ _ _ p => p.next HLW.out (Save.of Ba) sh) (HH.out.frame.below HL.out Ba)))
      clear hK h hr hsl hl hlw hF Ba sh e4 e9 e15 e4' e9' e15' q1 q2 q3
      unfold oEnt
      go_simp
      exact HK.out
    · have ho : ops5[17]? = some (oEnt 6 (.assign (.tmp 52)) 23 "all.go:98" #[dE 16, cE 15, pE 0, pE 1, pE 2, pE 3, pE 4, pE 5, pE 6, pE 7, pE 8, pE 9, pE 10, pE 11, pE 12, pE 13, pE 14, pE 15, pE 16]) := rfl
      have e16 : AllZ (.slice la ln lc) wz (a.eval (.tmp 52)) w := h.fact ho hr 16 (by simp [oEnt])
      obtain ⟨gA, x1, x2, x3, e1, -⟩ := e16
      have f16 := evalS e1
      have e16' : AllZ (.slice la ln lc) wz (a.eval (.tmp 52)) w := h.fact ho hr 16 (by simp [oEnt])
      rw [e1] at e16'
      refine wpOp_gen ho fun K hK => ?_
      have HK := hide (hK _ _ (HH.out.put ho hr (.slice (some ⟨gA, 0, none⟩) 4 4) (by decide) (by rw [hsz]; decide) (hsl 17 (by decide)) (w' := w) (show P5 zb (.slice la ln lc) wz 17 (.slice (some ⟨gA, 0, none⟩) 4 4) w from e16') (fun _ _ _ p => p) HH.out.frame))
      clear hK h hr hsl hl hlw hF e16' e1
      unfold oEnt
      go_simp
      exact HK.out
  · intro listed a w h hall
    exact hQ a w h.agree (h.facts 17 (hall 17 (by decide))) h.frame

end Go.Proofs.YtgncohclofdhmaaGreat

namespace Go.Proofs.YtgncohclofdhmaaGreat
open Go.RowKit
set_option linter.unusedVariables false

theorem Agree.names {D : List Nat} {A0 a : Act} (h : Agree D A0 a) : ∃ f : Nat → Value, a = putsD A0 D f ∧ ∀ t, f t = a.eval (.tmp t) := ⟨fun t => a.eval (.tmp t), h.puts, fun _ => rfl⟩

theorem cell_keep {w : World} {g j : Nat} {u : Value} {cur : Array Value} {t : TypeId} (hg : w.heap[g]? = some (.cells cur t (0, 0))) {b o : Nat} {v : Value} (hc : w.cell? ⟨b, o, none⟩ = some v) (hs : b = g → o = j → v = u) : (w.setCell ⟨g, j, none⟩ u).cell? ⟨b, o, none⟩ = some v := by
  by_cases eb : b = g
  · subst eb
    by_cases eo : o = j
    · subst eo
      have hlt : o < cur.size := by
        rw [cell_of_row _ b o _ _ _ hg] at hc
        exact (Array.getElem?_eq_some_iff.1 hc).1
      rw [set_cell_same hg hlt, hs rfl rfl]
    · rw [set_cell_other hg eo]
      exact hc
  · rw [World.cell?_of_block (heap_setCell_other w ⟨g, j, none⟩ b u eb)]
    exact hc

/-- Entries are z as far as their first m places go. -/
def ZUpto (w : World) (zb : Nat) (x : Value) (m : Nat) : Prop := ∀ g n c, x = .slice (some ⟨g, 0, none⟩) n c → ∀ j, j < n → j < m → w.cell? ⟨g, j * 2, none⟩ = some (.string farS) ∧ w.cell? ⟨g, j * 2 + 1, none⟩ = some (.slice (some ⟨zb, 0, none⟩) 2 2)

/-- In the midst of writing the entries over: k lists are done, of the next i places. -/
structure Fars (R : Nat → Prop) (zx zb gA n0 : Nat) (xs : List Value) (k i : Nat) (w : World) : Prop where
  len : xs.length = 4
  all : w.heap[gA]? = some (.cells xs.toArray 44 (0, 0))
  outs : ∀ x, x ∈ xs → OutE R w x
  done : ∀ m, m < k → ∀ c, ZUpto w zb (xs.getD m undef) c
  part : ZUpto w zb (xs.getD k undef) i
  z : w.heap[zx]? = some (.cells #[.string farS, .slice (some ⟨zb, 0, none⟩) 2 2] 46 (0, 0))
  d : w.heap[zb]? = some (.cells #[.int .u8 (digN n0 0 : Nat), .int .u8 (digN n0 1 : Nat)] 5 (0, 0))

theorem ZUpto.set {w : World} {zb : Nat} {x : Value} {m : Nat} (h : ZUpto w zb x m) {g i : Nat} {cur : Array Value} (hg : w.heap[g]? = some (.cells cur 46 (0, 0))) : ZUpto ((w.setCell ⟨g, i * 2, none⟩ (.string farS)).setCell ⟨g, i * 2 + 1, none⟩ (.slice (some ⟨zb, 0, none⟩) 2 2)) zb x m := by
  intro g' n c e j hj hm
  obtain ⟨h1, h2⟩ := h g' n c e j hj hm
  have hg2 := set_heap (j := i * 2) (u := .string farS) hg
  constructor
  · exact cell_keep hg2 (cell_keep hg h1 fun _ _ => rfl) fun _ e2 => by omega
  · exact cell_keep hg2 (cell_keep hg h2 fun _ e2 => by omega) fun _ _ => rfl

theorem ZUpto.save {R K : Nat → Prop} {w w' : World} {zb : Nat} {x : Value} {m : Nat} (h : ZUpto w zb x m) (ho : OutE R w x) (s : Save K w w') (hk : ∀ (k : Nat) (cur : Array Value), w.heap[k]? = some (.cells cur 46 (0, 0)) → ¬ K k) : ZUpto w' zb x m := by
  intro g n c e j hj hm
  obtain ⟨h1, h2⟩ := h g n c e j hj hm
  cases ho with
  | none => cases e
  | some g' n' c' cur k1 k2 k3 k4 k5 =>
    have eg : g' = g := by
      simp only [Value.slice.injEq, Option.some.injEq, Addr.mk.injEq] at e
      exact e.1.1
    subst eg
    have hb := s.block g' (heap_lt k1) (hk g' cur k1)
    exact ⟨(World.cell?_of_block hb).trans h1, (World.cell?_of_block hb).trans h2⟩

theorem ShapeE.save {K : Nat → Prop} {w w' : World} (s : Save K w w') (hk : ∀ (k : Nat) (cur : Array Value), w.heap[k]? = some (.cells cur 46 (0, 0)) → ¬ K k) : ShapeE w w' := fun k cur h => ⟨cur, (s.block k (heap_lt h) (hk k cur h)).trans h, rfl⟩

theorem ShapeE.set {w : World} {g j : Nat} {u : Value} {cur : Array Value} (hg : w.heap[g]? = some (.cells cur 46 (0, 0))) : ShapeE w (w.setCell ⟨g, j, none⟩ u) := by
  intro k c h
  by_cases e : k = g
  · subst e
    rw [hg] at h
    simp only [Option.some.injEq, Obj.cells.injEq, and_true] at h
    subst h
    exact ⟨_, set_heap hg, by simp⟩
  · exact ⟨c, (heap_setCell_other w ⟨g, j, none⟩ k u e).trans h, rfl⟩

theorem getD_mem {xs : List Value} {k : Nat} (h : k < xs.length) : xs.getD k undef ∈ xs := by
  rw [List.getD_eq_getElem?_getD, List.getElem?_eq_getElem h]
  exact List.getElem_mem h

/-- One place more. -/
theorem Fars.write {R : Nat → Prop} {zx zb gA n0 : Nat} {xs : List Value} {k i : Nat} {w : World} (h : Fars R zx zb gA n0 xs k i w) {g n c : Nat} {cur : Array Value} (hx : xs.getD k undef = .slice (some ⟨g, 0, none⟩) n c) (hg : w.heap[g]? = some (.cells cur 46 (0, 0))) (hn : n ≤ c) (hc : c * 2 ≤ cur.size) (hi : i < n) (hz : g ≠ zx) :
    Fars R zx zb gA n0 xs k (i + 1) ((w.setCell ⟨g, i * 2, none⟩ (.string farS)).setCell ⟨g, i * 2 + 1, none⟩ (.slice (some ⟨zb, 0, none⟩) 2 2)) := by
  have hg2 := set_heap (j := i * 2) (u := .string farS) hg
  have sh : ShapeE w ((w.setCell ⟨g, i * 2, none⟩ (.string farS)).setCell ⟨g, i * 2 + 1, none⟩ (.slice (some ⟨zb, 0, none⟩) 2 2)) := (ShapeE.set hg).trans (ShapeE.set hg2)
  have other : ∀ (b : Nat) (o : Obj), b ≠ g → w.heap[b]? = some o → ((w.setCell ⟨g, i * 2, none⟩ (.string farS)).setCell ⟨g, i * 2 + 1, none⟩ (.slice (some ⟨zb, 0, none⟩) 2 2)).heap[b]? = some o := fun b o hb ho => (heap_setCell_other _ ⟨g, i * 2 + 1, none⟩ b _ hb).trans ((heap_setCell_other w ⟨g, i * 2, none⟩ b _ hb).trans ho)
  have ne : ∀ (b : Nat) (cu : Array Value) (t : TypeId), t ≠ 46 → w.heap[b]? = some (.cells cu t (0, 0)) → b ≠ g := by
    intro b cu t ht hb e
    subst e
    rw [hg] at hb
    simp only [Option.some.injEq, Obj.cells.injEq] at hb
    exact ht hb.2.1.symm
  refine ⟨h.len, other _ _ (ne _ _ _ (by decide) h.all) h.all, fun x hx => (h.outs x hx).shape sh, fun m hm c' => (h.done m hm c').set hg, ?_, other _ _ (Ne.symm hz) h.z, other _ _ (ne _ _ _ (by decide) h.d) h.d⟩
  intro g' n' c' e j hj hm
  by_cases ej : j = i
  · subst ej
    rw [hx] at e
    simp only [Value.slice.injEq, Option.some.injEq, Addr.mk.injEq] at e
    obtain ⟨⟨rfl, _⟩, rfl, rfl⟩ := e
    constructor
    · exact cell_keep hg2 (set_cell_same hg (by omega)) fun _ e2 => by omega
    · exact set_cell_same hg2 (by simp; omega)
  · exact (h.part.set hg) g' n' c' e j hj (by omega)

theorem Fars.save {R K : Nat → Prop} {zx zb gA n0 : Nat} {xs : List Value} {k i : Nat} {w w' : World} (h : Fars R zx zb gA n0 xs k i w) (s : Save K w w') (hE : ∀ (k : Nat) (cur : Array Value), w.heap[k]? = some (.cells cur 46 (0, 0)) → ¬ K k) (hU : ∀ k, U8 w k → ¬ K k) (hA : ¬ K gA) (hk : k < 4) : Fars R zx zb gA n0 xs k i w' := by
  refine ⟨h.len, (s.block gA (heap_lt h.all) hA).trans h.all, fun x hx => (h.outs x hx).shape (ShapeE.save s hE), fun m hm c => (h.done m hm c).save (h.outs _ (getD_mem (by rw [h.len]; omega))) s hE, h.part.save (h.outs _ (getD_mem (by rw [h.len]; omega))) s hE, (s.block zx (heap_lt h.z) (hE zx _ h.z)).trans h.z, (s.block zb (heap_lt h.d) (hU zb ⟨_, h.d⟩)).trans h.d⟩

/-- One list more. -/
theorem Fars.next {R : Nat → Prop} {zx zb gA n0 : Nat} {xs : List Value} {k i : Nat} {w : World} (h : Fars R zx zb gA n0 xs k i w) {a : Option Addr} {n c : Nat} (hx : xs.getD k undef = .slice a n c) (hi : n ≤ i) : Fars R zx zb gA n0 xs (k + 1) 0 w := by
  refine ⟨h.len, h.all, h.outs, fun m hm c' => ?_, fun _ _ _ _ _ _ hm => absurd hm (Nat.not_lt_zero _), h.z, h.d⟩
  by_cases e : m = k
  · subst e
    intro g' n' c2 e j hj _
    have hn : n' = n := by
      rw [hx] at e
      simp only [Value.slice.injEq] at e
      exact e.2.1.symm
    exact h.part g' n' c2 e j hj (by omega)
  · exact h.done m (by omega) c'

/-- All four are done: so each reads as its owner wrote it. -/
theorem Fars.far {R : Nat → Prop} {zx zb gA n0 : Nat} {xs : List Value} {i : Nat} {w : World} (h : Fars R zx zb gA n0 xs 4 i w) {role : Nat → Nat} (hr : role zb = 0) (x : Value) (hx : x ∈ xs) : FarAt role w x n0 := by
  obtain ⟨m, hm, e⟩ := List.mem_iff_getElem.1 hx
  have eg : xs.getD m undef = x := by rw [List.getD_eq_getElem?_getD, List.getElem?_eq_getElem hm, Option.getD_some, e]
  have hz := h.done m (by rw [← h.len]; exact hm)
  rw [eg] at hz
  have ho := h.outs x hx
  cases ho with
  | none => exact ⟨none, 0, 0, rfl, Nat.le_refl _, by simp [maxLen], fun j hj => absurd hj (Nat.not_lt_zero j)⟩
  | some g n c cur h1 h2 h3 h4 h5 =>
    refine ⟨_, n, c, rfl, h2, h4, fun j hj => ?_⟩
    obtain ⟨z1, z2⟩ := hz (j + 1) g n c rfl j hj (by omega)
    exact ⟨g, 0, zb, cur, rfl, h1, by rw [Nat.zero_add]; exact z1, by rw [Nat.zero_add]; exact z2, h.d, hr⟩

/-- 'append' of one list of entries onto a row of them, as a step of a region that draws. -/
theorem step_appX {w : World} {ops : Array Oper} {o : Oper} {a : Act} {K : Act → World → Prop} {Q : Exit → Act → World → Prop} {E : Prop} (hgd : o.guard = none) (s x : Operand)
    (ho : o.op = .call { callee := .builtin .append, args := #[s, x], argTypes := #[23, 23] })
    (B : Nat) (v : Value) (es : List Value) (hs : a.eval s = v) (hown : OwnV 44 B w v es)
    (xv y : Value) (hx : a.eval x = xv) (hsrc : Src Tryz.prog 1 23 xv 1 [y] w)
    (hlen : es.length ≤ 1000000000) (hB : B ≤ w.heap.size)
    (h : ∀ v' w', OwnV 44 B w' v' (es ++ [y]) → w.grownBy w' v.ownBlock → (v'.ownBlock = v.ownBlock ∨ v'.ownBlock = some w.heap.size) → K (a.put o.dst v') w') :
    if Region.wanted o (yielded ops a.tmps) = true then Oper.wp Tryz.prog o a w K Q else E := by
  have hw : Region.wanted o (yielded ops a.tmps) = true := by simp [Region.wanted, hgd]
  rw [if_pos hw]
  obtain ⟨i0, hi, hz0, hz1, hz2⟩ := info_parts (show (Tryz.prog.info? 44).map (fun i => (i.zero, i.size, i.bytes)) = some (some (.slice none 0 0), 1, 24) by kernel_rfl)
  obtain ⟨v', w', hr, h2, h3, h4⟩ := run_append_any (P := Tryz.prog) w B 23 23 o.type 44 i0 (.slice none 0 0) 1 24 Tryz.underlying23 hi hz0 hz1 hz2 rfl v es.length es hown xv 1 [y] hsrc (by unfold maxLen; omega) (by omega) hB
  unfold Oper.wp execOp
  simp only [ho, resolve, invoke, builtin, Sem.run_bind, Sem.run_pure, Result.andThen_ok, List.map_toArray, List.map_cons, List.map_nil, hs, hx, hr]
  refine h v' w' ?_ h3 h4
  unfold OwnV
  rw [List.length_append]
  exact h2

theorem src_rowX (w : World) (y : Value) (hy : y.oneCell' = true) : Src Tryz.prog 1 23 (.slice (some ⟨w.heap.size, 0, none⟩) 1 1) 1 [y] (w.alloc (.cells #[y] 44)) := by
  refine Src.ofSlice _ Tryz.underlying23 ⟨w.heap.size, 0, none⟩ 1 1 _ (by simp) ?_ (by intro u hu; simp at hu; subst hu; exact hy)
  intro j u hj
  rw [Addr.add_lit, Nat.zero_add, cell_of_row _ w.heap.size j _ _ _ (heap_alloc_new w _)]
  simpa using hj

theorem WBox.set3 {w : World} {g : Nat} {dv sv bv ev : Value} (h : WBox w g dv sv bv ev) (u : Value) : WBox (w.setCell ⟨g, 3, none⟩ u) g dv sv bv u := set_heap h

end Go.Proofs.YtgncohclofdhmaaGreat
