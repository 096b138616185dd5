import Derived.Test.YtgncohclofdhmaaGreatWge
import Derived.Deep.RegionLaw
namespace Go.Proofs.YtgncohclofdhmaaGreat
open Go.RowKit
set_option linter.unusedVariables false

/-- What 'listed' leaves behind. -/
def ListedAt (B gw S : Nat) (dv sv bv ev lv : Value) (ls : List Nat) (es : List Value) (lz : List Ent) (w w' : World) : Prop :=
  ∃ (wm : World) (bvr : Value) (lbs : List Nat) (rn : Nat → Nat) (ev' : Value) (xs : List Value), Mined B gw S w dv sv bv ev ls lz lz.length wm bvr lbs rn ∧ WBox w' gw dv sv bvr ev' ∧ OwnV 44 B w' ev' (es ++ xs) ∧ xs.length = 4 ∧
    (∀ a, a ∈ xs → FarAt (fun k => if wm.heap.size ≤ k ∧ k < w'.heap.size then 0 else 1) w' a es.length) ∧ Save (fun k => k = gw ∨ some k = ev.ownBlock ∨ some k = lv.ownBlock) wm w' ∧ (ev'.ownBlock = ev.ownBlock ∨ ∀ k, some k = ev'.ownBlock → wm.heap.size ≤ k)

/-- In the midst of that. -/
structure Lst (B gw : Nat) (dv sv bvr ev lv : Value) (es xs : List Value) (wz : World) (zx zb gA n0 k i : Nat) (wm w : World) (evr : Value) : Prop where
  far : Fars (fun k => some k = lv.ownBlock ∨ wz.heap.size ≤ k) zx zb gA n0 xs k i w
  box : WBox w gw dv sv bvr evr
  row : OwnV 44 B w evr (es ++ xs.take k)
  save : Save (fun k => k = gw ∨ some k = ev.ownBlock ∨ some k = lv.ownBlock) wm w
  sep : ¬ some gA = evr.ownBlock
  evb : evr.ownBlock = ev.ownBlock ∨ ∀ k, some k = evr.ownBlock → wm.heap.size ≤ k

theorem Lst.write {B gw : Nat} {dv sv bvr ev lv : Value} {es xs : List Value} {wz : World} {zx zb gA n0 k i : Nat} {wm w : World} {evr : Value} (h : Lst B gw dv sv bvr ev lv es xs wz zx zb gA n0 k i wm w evr) (hk : k < 4) (hwm : wm.heap.size ≤ wz.heap.size) (hlz : ∀ k, some k = lv.ownBlock → k < zx) (hzz : zx < wz.heap.size)
    {g n c : Nat} (hx : xs.getD k undef = .slice (some ⟨g, 0, none⟩) n c) (hi : i < n) : Lst B gw dv sv bvr ev lv es xs wz zx zb gA n0 k (i + 1) wm ((w.setCell ⟨g, i * 2, none⟩ (.string farS)).setCell ⟨g, i * 2 + 1, none⟩ (.slice (some ⟨zb, 0, none⟩) 2 2)) evr := by
  have ho := h.far.outs _ (getD_mem (k := k) (by rw [h.far.len]; exact hk))
  rw [hx] at ho
  cases ho with
  | some _ _ _ cur h1 h2 h3 h4 h5 =>
    have hz : g ≠ zx := by
      intro e
      subst e
      rcases h5 with e | e
      · have := hlz g e
        omega
      · omega
    have s2 : Save (fun k => k = g) w ((w.setCell ⟨g, i * 2, none⟩ (.string farS)).setCell ⟨g, i * 2 + 1, none⟩ (.slice (some ⟨zb, 0, none⟩) 2 2)) := (Save.set w g (i * 2) _).trans (Save.set _ g (i * 2 + 1) _)
    refine ⟨h.far.write hx h1 h2 h3 hi hz, h.box.save s2 ?_, h.row.save s2 ?_, h.save.join s2 ?_, h.sep, h.evb⟩
    · intro e
      have h' : w.heap[gw]? = _ := h.box
      rw [e, h1] at h'
      simp at h'
    · intro k' hk' e
      subst e
      exact h.row.ne h1 (by decide) hk'
    · intro k' hk' e
      subst e
      rcases h5 with e | e
      · exact .inr (.inr e)
      · omega

theorem Lst.turn {B gw : Nat} {dv sv bvr ev lv : Value} {es xs : List Value} {wz : World} {zx zb gA n0 k i : Nat} {wm w w' : World} {evr : Value} (h : Lst B gw dv sv bvr ev lv es xs wz zx zb gA n0 k i wm w evr) (hk : k < 4) (b : Below w.heap.size w w') : Lst B gw dv sv bvr ev lv es xs wz zx zb gA n0 k i wm w' evr :=
  ⟨h.far.save (Save.of (K := fun _ => False) b) (fun _ _ _ hx => hx) (fun _ _ hx => hx) (fun hx => hx) hk, h.box.below b, h.row.below b, h.save.trans (Save.of b), h.sep, h.evb⟩

theorem take_more {xs : List Value} {k : Nat} (h : k < xs.length) : xs.take (k + 1) = xs.take k ++ [xs.getD k undef] := by
  rw [List.take_add_one, List.getElem?_eq_getElem h, List.getD_eq_getElem?_getD, List.getElem?_eq_getElem h]
  rfl

/-- One list more is laid down. -/
theorem Lst.next {B gw : Nat} {dv sv bvr ev lv : Value} {es xs : List Value} {wz : World} {zx zb gA n0 k i : Nat} {wm w w2 : World} {evr ev2 : Value} (h : Lst B gw dv sv bvr ev lv es xs wz zx zb gA n0 k i wm w evr) (hk : k < 4) {a : Option Addr} {n c : Nat} (hx : xs.getD k undef = .slice a n c) (hi : n ≤ i)
    (hO : OwnV 44 B w2 ev2 ((es ++ xs.take k) ++ [xs.getD k undef])) (hg : w.grownBy w2 evr.ownBlock) (hv : ev2.ownBlock = evr.ownBlock ∨ ev2.ownBlock = some w.heap.size) :
    Lst B gw dv sv bvr ev lv es xs wz zx zb gA n0 (k + 1) 0 wm (w2.setCell ⟨gw, 3, none⟩ ev2) ev2 ∧ WBox w2 gw dv sv bvr evr := by
  have s2 := Save.grown hg
  have hrowE : ∀ (b : Nat) (cur : Array Value), w.heap[b]? = some (.cells cur 46 (0, 0)) → ¬ some b = evr.ownBlock := fun b cur hc => h.row.ne hc (by decide)
  have hrowU : ∀ b, U8 w b → ¬ some b = evr.ownBlock := fun b hu => by
    obtain ⟨cur, hc⟩ := hu
    exact h.row.ne hc (by decide)
  have W2 := h.box.save s2 (h.row.ne h.box (by decide))
  have f2 := h.far.save s2 hrowE hrowU h.sep hk
  have s3 := Save.set w2 gw 3 ev2
  have hb2 : w2.heap[gw]? = _ := W2
  have f3 := f2.save s3 (fun b cur hc e => by
    subst e
    rw [hb2] at hc
    simp at hc) (fun b hu e => by
    subst e
    exact W2.not_u8 hu) (fun e => by
    have h' := f2.all
    rw [e, hb2] at h'
    simp at h') hk
  have hlt := heap_lt h.far.all
  refine ⟨⟨f3.next hx hi, W2.set3 ev2, ?_, ?_, ?_, ?_⟩, W2⟩
  · rw [take_more (by rw [h.far.len]; exact hk), ← List.append_assoc]
    refine hO.save s3 fun b hb e => ?_
    subst e
    exact hO.ne hb2 (by decide) hb
  · refine (h.save.join s2 ?_).join s3 ?_
    · intro b hb e
      rcases h.evb with e2 | e2
      · rw [e2] at e
        exact .inr (.inl e)
      · have := e2 b e
        omega
    · intro b hb e
      exact .inl e
  · rcases hv with e | e
    · rw [e]
      exact h.sep
    · rw [e]
      intro e2
      have := Option.some.inj e2
      omega
  · rcases hv with e | e
    · rw [e]
      exact h.evb
    · refine .inr fun b hb => ?_
      rw [e] at hb
      have h1 := Option.some.inj hb
      have h2 := h.save.size
      omega

theorem Fars.cell {R : Nat → Prop} {zx zb gA n0 : Nat} {xs : List Value} {k i : Nat} {w : World} (h : Fars R zx zb gA n0 xs k i w) (hk : k < 4) {v : Value} (hx : xs.getD k undef = v) : w.cell? ⟨gA, k, none⟩ = some v := by
  have hl : k < xs.length := by rw [h.len]; exact hk
  rw [cell_of_row _ gA k _ _ _ h.all, ← hx, List.getD_eq_getElem?_getD, List.getElem?_eq_getElem hl]
  simp [hl]

theorem Fars.blk {R : Nat → Prop} {zx zb gA n0 : Nat} {xs : List Value} {k i : Nat} {w : World} (h : Fars R zx zb gA n0 xs k i w) (hk : k < 4) {a : Option Addr} {n c : Nat} (hx : xs.getD k undef = .slice a n c) (hi : i < n) : ∃ g u0 u1, a = some ⟨g, 0, none⟩ ∧ w.cell? ⟨g, i * 2, none⟩ = some u0 ∧ w.cell? ⟨g, i * 2 + 1, none⟩ = some u1 ∧ ∀ j, w.frozen? ⟨g, j, none⟩ = false := by
  have ho := h.outs _ (getD_mem (k := k) (by rw [h.len]; exact hk))
  rw [hx] at ho
  cases ho with
  | none => omega
  | some g _ _ cur h1 h2 h3 h4 h5 =>
    refine ⟨g, cur[i * 2]'(by omega), cur[i * 2 + 1]'(by omega), rfl, ?_, ?_, fun j => by simp [World.frozen?, h1]⟩
    · rw [cell_of_row _ g _ _ _ _ h1, Array.getElem?_eq_getElem]
    · rw [cell_of_row _ g _ _ _ _ h1, Array.getElem?_eq_getElem]

set_option maxRecDepth 100000 in
set_option maxHeartbeats 1000000 in
theorem listed_any (B gw S : Nat) (w : World) (dv sv bv ev lv : Value) (ls : List Nat) (es : List Value) (lz : List Ent) (W : WBox w gw dv sv bv ev) (L : OwnL B w bv ls) (V : OwnV 44 B w ev es) (hBw : B ≤ w.heap.size) (hgS : gw < S) (hSw : S ≤ w.heap.size) (hO : OwnE S w lv lz) (hE : EntOwn S w lz) (hA : ApartE lz)
    (hlz : lz.length ≤ 1000) (hbl : ∀ e, e ∈ lz → e.body.length ≤ 4000) (hll : ls.length ≤ 60000000) (hel : es.length ≤ 8000000) :
    Calls Tryz.prog 39 #[.pointer (some ⟨gw, 0, none⟩), lv] w fun e w' => (∃ u, e = .returned u) ∧ ListedAt B gw S dv sv bv ev lv ls es lz w w' := by
  obtain ⟨n, HN⟩ : ∃ n, Hid (n = lz.length) := ⟨_, rfl⟩
  obtain ⟨la, lc, hlv, -, hnc, hncm⟩ := hO.shape
  rw [← HN.out] at hlv hlz hnc
  subst hlv
  have HM0 := hide (Mined.start (S := S) (lz := lz) W L)
  have HE := hide hE
  have HA := hide hA
  have HO := hide hO
  have Hbl := hide hbl
  clear hE hA hO hbl
  go_enter Tryz.func39, Tryz.ntmps39
  go_wp2
  go_loopw [4] (fun i wr => ∃ (k : Nat) (bvr : Value) (lbs : List Nat) (rn : Nat → Nat), k ≤ n ∧ i = .int .i64 k ∧ Hid (Mined B gw S w dv sv bv ev ls lz k wr bvr lbs rn)) (fun i _ => n - (intOf i).toNat)
  case atStart => exact ⟨0, _, _, _, by omega, rfl, HM0⟩
  case round =>
    obtain ⟨k, bvr, lbs, rn, hk, rfl, HM⟩ := hrel
    by_cases hlt : k < n
    · have hk1 : k < lz.length := by have := HN.out; omega
      have hki : (k : Int) < (n : Int) := by omega
      have ow := HM.out.ents W L HE.out (by omega) HO.out
      obtain ⟨la', lc', e, hat, -, -⟩ := ow.shape
      simp only [Value.slice.injEq] at e
      obtain ⟨rfl, -, rfl⟩ := e
      obtain ⟨b, off, rfl, c1, c2⟩ := hat k hk1
      have op := HM.out.entry W L HE.out HA.out k (Nat.le_refl _) hk1
      have hmem : lz.getD k noEnt ∈ lz := by
        rw [List.getD_eq_getElem?_getD, List.getElem?_eq_getElem hk1]
        exact List.getElem_mem hk1
      have hbk := Hbl.out _ hmem
      have HP : Hid ((lz.getD k noEnt).val = (lz.getD k noEnt).val) := rfl
      obtain ⟨p, Hp⟩ : ∃ p, Hid (p = (lz.getD k noEnt).val) := ⟨_, rfl⟩
      rw [← Hp.out] at c2 op
      have hlen : (ls ++ lbs).length ≤ 60001000 := by rw [List.length_append, HM.out.len]; omega
      have KM := hide (mine_any gw wr dv sv bvr ev S B p _ (ls ++ lbs) HM.out.box HM.out.row (Nat.le_trans hBw HM.out.save.size) op (by omega) (by omega))
      clear c1 ow hat op HP hmem
      go_wp2_with fail
      refine KM.out.mono ?_
      rintro e w2 ⟨⟨u, rfl⟩, bv', lb, ss, W6, L6, q1, q2, q3, q4, S6, hbv⟩
      obtain ⟨rn', hM⟩ := HM.out.step W L hgS hSw HE.out HA.out hk1 Hp.out W6 L6 q1 q2 q3 q4 S6 hbv
      have HM2 := hide hM
      clear hM W6 L6 q1 q2 q3 q4 S6 hbv KM c2
      go_wp2
      go_roundw
      case rel => first | exact ⟨k + 1, _, _, _, by omega, by go_num, HM2⟩ | ((repeat apply Exists.intro); exact ⟨⟨k + 1, _, _, _, by omega, by go_num, HM2⟩, rfl⟩)
      case measure => simp [intOf]; omega
    · obtain rfl : k = n := by omega
      have hki : ¬ (k : Int) < (k : Int) := by omega
      obtain ⟨m, Hm⟩ : ∃ m, Hid (m = es.length) := ⟨_, rfl⟩
      obtain ⟨ea, ec, hev, -, -⟩ := V.len
      rw [← Hm.out] at hev hel
      subst hev
      have hn : k ≤ lz.length := by have := HN.out; omega
      have hBm : B ≤ wr.heap.size := Nat.le_trans hBw HM.out.save.size
      have ow := HM.out.ents W L HE.out hn HO.out
      have hlvw : ∀ k', some k' = (Value.slice la k lc).ownBlock → k' < wr.heap.size := fun k' hk' => (World.ownsRow.lt ow k' hk'.symm).2
      have VW : OwnV 44 B wr (.slice ea m ec) es := V.save HM.out.save (by
        rintro k' hk' (e | e | ⟨j, hj, e⟩)
        · subst e
          exact V.ne W (by decide) hk'
        · rcases L.2 with ⟨e2, _⟩ | ⟨g', cap, cur', e2, _, hg', _⟩
          · rw [e2] at e; cases e
          · rw [e2] at e
            have ek : k' = g' := by simpa [Value.ownBlock] using e
            subst ek
            exact V.ne hg' (by decide) hk'
        · have hjl : j < lz.length := by omega
          have hmem : lz.getD j noEnt ∈ lz := by
            rw [List.getD_eq_getElem?_getD, List.getElem?_eq_getElem hjl]
            exact List.getElem_mem hjl
          rcases (HE.out _ hmem).1.2 with ⟨e2, _⟩ | ⟨g', cap, cur', e2, _, hg', _⟩
          · rw [e2] at e; cases e
          · rw [e2] at e
            have ek : k' = g' := by simpa [Value.ownBlock] using e
            subst ek
            exact V.ne hg' (by decide) hk')
      have HOw := hide ow
      have HVW := hide VW
      have Hlv := hide hlvw
      have HEnd : Hid (∀ (w' : World) (ev' : Value) (xs : List Value), WBox w' gw dv sv bvr ev' → OwnV 44 B w' ev' (es ++ xs) → xs.length = 4 → (∀ a, a ∈ xs → FarAt (fun k => if wr.heap.size ≤ k ∧ k < w'.heap.size then 0 else 1) w' a m) → Save (fun b => b = gw ∨ some b = (Value.slice ea m ec).ownBlock ∨ some b = (Value.slice la k lc).ownBlock) wr w' → (ev'.ownBlock = (Value.slice ea m ec).ownBlock ∨ ∀ b, some b = ev'.ownBlock → wr.heap.size ≤ b) → ListedAt B gw S dv sv bv (.slice ea m ec) (.slice la k lc) ls es lz w w') := by
        intro w' ev' xs h1 h2 h3 h4 h5 h6
        have hM := HM.out
        rw [HN.out] at hM
        rw [Hm.out] at h4
        exact ⟨wr, bvr, lbs, rn, ev', xs, hM, h1, h2, h3, h4, h5, h6⟩
      clear ow VW hlvw V hn
      go_upto_region 4 with fail
      refine wp_region_any (by kernel_rfl) ?_
      refine region4_any _ gw m ea ec dv sv bvr wr _ hel (by rfl) (by rfl) HM.out.box ((Below.refl _ _).drew) ?_
      intro a4 w4 zx zb hag h5 hzx hzb hz hd b4
      obtain ⟨f4, rfl, hf4⟩ := hag.names
      have f5 := (hf4 5).trans h5
      simp only [putsD, D4, List.foldl_cons, List.foldl_nil, f5, Act.put, List.setIfInBounds_toArray, List.set_cons_succ, List.set_cons_zero]
      clear hag h5 hf4
      go_upto_region 5 with fail
      refine wp_region_any (by kernel_rfl) ?_
      have hF5 : F5 S zx zb (.slice la k lc) lz w4.drew w4.drew := ⟨HOw.out.carry b4.drew, Save.refl _ _, fun _ cur h => ⟨cur, h, rfl⟩, hz⟩
      have hlz5 : ∀ k', some k' = (Value.slice la k lc).ownBlock → k' < zx := fun k' hk' => by have := Hlv.out k' hk'; omega
      refine region5_any _ S zx zb la k lc lz w4.drew (by have := HN.out; omega) (by rfl) (by rfl) (by rfl) hF5 hlz5 ?_
      intro a5 w5 hag hall hF
      obtain ⟨f5', rfl, hf5⟩ := hag.names
      obtain ⟨gA, x1, x2, x3, e6, hgA, hblk, o1, o2, o3⟩ := hall
      have f6 := (hf5 6).trans e6
      simp only [putsD, D5, List.foldl_cons, List.foldl_nil, f6, Act.put, List.setIfInBounds_toArray, List.set_cons_succ, List.set_cons_zero]
      clear hag e6 hf5
      have hzz : zx < w4.drew.heap.size := heap_lt hz
      have hwm : wr.heap.size ≤ w4.drew.heap.size := b4.drew.size
      obtain ⟨xs, Hxs⟩ : ∃ xs : List Value, Hid (xs = [.slice la k lc, x1, x2, x3]) := ⟨_, rfl⟩
      have W4 := HM.out.box.below b4.drew
      have V4 := HVW.out.below b4.drew
      have HLst : Hid (Lst B gw dv sv bvr (.slice ea m ec) (.slice la k lc) es xs w4.drew zx zb gA m 0 0 wr w5 (.slice ea m ec)) := by
        have hd5 : w5.heap[zb]? = _ := (hF.save.block zb (heap_lt hd) fun hx => by have := Hlv.out zb hx; omega).trans hd
        have ow5 := hF.own
        have hE4 := hF5.own
        refine ⟨⟨by rw [Hxs.out]; rfl, by rw [Hxs.out]; exact hblk, ?_, fun _ hm => absurd hm (Nat.not_lt_zero _), fun _ _ _ _ _ _ hm => absurd hm (Nat.not_lt_zero _), hF.z, hd5⟩, W4.save hF.save (hE4.ne W4 (by decide)), ?_, (Save.of b4.drew).join hF.save (fun _ _ hx => .inr (.inr hx)), ?_, .inl rfl⟩
        · intro x hx
          rw [Hxs.out] at hx
          simp only [List.mem_cons, List.not_mem_nil, or_false] at hx
          rcases hx with rfl | rfl | rfl | rfl
          · exact ow5.out.mono fun _ _ h => .inl h
          · exact o1
          · exact o2
          · exact o3
        · rw [List.take_zero, List.append_nil]
          refine V4.save hF.save fun k' hk' hx => ?_
          rcases hE4.2 with ⟨e2, _⟩ | ⟨g', cap, cur', e2, _, hg', _⟩
          · rw [e2] at hx; cases hx
          · rw [e2] at hx
            have ek : k' = g' := by simpa [Value.ownBlock] using hx
            subst ek
            exact V4.ne hg' (by decide) hk'
        · intro e
          have := (World.ownsRow.lt HVW.out gA e.symm).2
          omega
      clear hF hF5 o1 o2 o3 hblk W4 V4 hz hd b4 hgA HM HOw HVW HO HE HA HM0 Hbl W L
      generalize w4.drew = wz at *
      generalize wr = wm at *
      go_wp2
      go_loopw [7, 8] (fun kv _ wr => ∃ (k2 : Nat) (evr : Value), k2 ≤ 4 ∧ kv = .int .i64 k2 ∧ Hid (Lst B gw dv sv bvr (.slice ea m ec) (.slice la k lc) es xs wz zx zb gA m k2 0 wm wr evr)) (fun kv _ _ => 4 - (intOf kv).toNat)
      case atStart => exact ⟨0, _, by omega, rfl, HLst⟩
      case round =>
        obtain ⟨k2, evr, hk2, rfl, HL⟩ := hrel
        by_cases hlt2 : k2 < 4
        · have hk2i : (k2 : Int) < 4 := by omega
          obtain ⟨xa, xn, xc, hx, hxn, hxm⟩ := (HL.out.far.outs _ (getD_mem (k := k2) (by rw [HL.out.far.len]; exact hlt2))).slice
          have HX := hide hx
          clear hx
          unfold maxLen at hxm
          generalize wr = w6 at *
          go_wp2
          go_loopw [8] (fun iv wr => ∃ i : Nat, i ≤ xn ∧ iv = .int .i64 i ∧ Hid (Lst B gw dv sv bvr (.slice ea m ec) (.slice la k lc) es xs wz zx zb gA m k2 i wm wr evr)) (fun iv _ => xn - (intOf iv).toNat)
          case atStart => exact ⟨0, by omega, rfl, HL⟩
          case round =>
            obtain ⟨i, hi, rfl, HI⟩ := hrel
            have cA := HI.out.far.cell hlt2 HX.out
            by_cases hlt3 : i < xn
            · have hii : (i : Int) < (xn : Int) := by omega
              obtain ⟨g, u0, u1, rfl, q0, q1, hfr⟩ := HI.out.far.blk hlt2 HX.out hlt3
              have fr0 := hfr (i * 2)
              have fr1 := hfr (i * 2 + 1)
              have z0 : wr.cell? ⟨zx, 0, none⟩ = some (.string farS) := cell_of_row _ _ 0 _ _ _ HI.out.far.z
              have z1 : wr.cell? ⟨zx, 1, none⟩ = some (.slice (some ⟨zb, 0, none⟩) 2 2) := cell_of_row _ _ 1 _ _ _ HI.out.far.z
              have HN3 := hide ((HI.out.turn hlt2 ((Below.refl _ _).drew)).write hlt2 hwm hlz5 hzz HX.out hlt3)
              clear hfr
              go_upto_region 12 with fail
              go_region
              all_goals (go_wp2; go_roundw)
              all_goals first
                | exact ⟨i + 1, by omega, by go_num, HN3⟩
                | ((repeat apply Exists.intro); exact ⟨⟨i + 1, by omega, by go_num, HN3⟩, rfl⟩)
                | (simp [intOf]; omega)
            · have hii : ¬ (i : Int) < (xn : Int) := by omega
              have hin : xn ≤ i := by omega
              obtain ⟨ra, rc, hev, -, -⟩ := HI.out.row.len
              obtain ⟨rn', Hrn⟩ : ∃ rn', Hid (rn' = (es ++ xs.take k2).length) := ⟨_, rfl⟩
              rw [← Hrn.out] at hev
              subst hev
              have hlen : (es ++ xs.take k2).length ≤ 1000000000 := by
                have h1 := List.length_take_le k2 xs
                rw [List.length_append, ← Hm.out]
                omega
              have Bx : Below wr.heap.size wr (wr.drew.alloc (.cells #[.slice xa xn xc] 44)) := ((Below.refl _ _).drew).alloc (by exact Nat.le_refl _) _
              have HI3 := hide (HI.out.turn hlt2 Bx)
              have sD3 := src_rowX wr.drew (.slice xa xn xc) rfl
              have oD3 := HI3.out.row
              have hB3 : B ≤ (wr.drew.alloc (.cells #[.slice xa xn xc] 44)).heap.size := by
                have h1 := HI.out.save.size
                have h2 := Bx.size
                omega
              have c3 := HI.out.box.c3
              have c33 := HI3.out.box.c3
              have c3a : (wr.alloc (.cells #[.slice xa xn xc] 44)).cell? ⟨gw, 3, none⟩ = some (.slice ra rn' rc) := c33
              clear Bx
              go_upto_region 13 with fail
              go_region_law (refine step_appX rfl (.tmp 79) (.tmp 84) rfl B _ (es ++ xs.take k2) (by simp [Act.eval]) oD3 _ _ (by simp [Act.eval]) sD3 hlen hB3 ?_; intro v4 w4 o4 g4 e4; rw [← HX.out] at o4; have HNx := hide (HI3.out.next hlt2 HX.out hin o4 g4 e4); clear e4 g4; obtain ⟨a4, c4, hv4, -, -⟩ := o4.len; obtain ⟨qn, Hqn⟩ : ∃ qn, Hid (qn = ((es ++ xs.take k2) ++ [xs.getD k2 undef]).length) := ⟨_, rfl⟩; rw [← Hqn.out] at hv4; subst hv4; have c34 := HNx.out.2.c3; have f34 := HNx.out.2.fr 3; clear o4)
              all_goals
                have HNy := hide HNx.out.1
                clear HNx sD3 oD3 HI3 HI
                go_wp2
                go_roundw
              all_goals first
                | exact ⟨k2 + 1, _, by omega, by go_num, HNy⟩
                | ((repeat apply Exists.intro); exact ⟨⟨k2 + 1, _, by omega, by go_num, HNy⟩, rfl⟩)
                | (simp [intOf]; omega)
        · obtain rfl : k2 = 4 := by omega
          have HE : Hid (ListedAt B gw S dv sv bv (.slice ea m ec) (.slice la k lc) ls es lz w wr) := by
            have h := HL.out
            have hrow := h.row
            rw [List.take_of_length_le (by rw [h.far.len]; exact Nat.le_refl _)] at hrow
            refine HEnd.out wr evr xs h.box hrow h.far.len ?_ h.save h.evb
            intro a ha
            exact h.far.far (role := fun k => if wm.heap.size ≤ k ∧ k < wr.heap.size then 0 else 1) (if_pos ⟨hzb, heap_lt h.far.d⟩) a ha
          go_wp2
          refine bodyPost_end (v := ?_) ?_ rfl ⟨⟨_, rfl⟩, HE.out⟩
          rotate_left
          · simp only [results]
            simp
            rfl

end Go.Proofs.YtgncohclofdhmaaGreat
