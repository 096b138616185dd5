import Derived.Test.YtgncohclofdhmaaGreatWgc
import Derived.Test.YtgncohclofdhmaaGreatWsma
import Derived.Test.YtgncohclofdhmaaGreatPacks
import Derived.Test.YtgncohclofdhmaaGreatWuna
import Derived.Test.YtgncohclofdhmaaGreatWvb
import Derived.Test.YtgncohclofdhmaaGreatWpbuild
namespace Go.Proofs.YtgncohclofdhmaaGreat
open Go.RowKit
set_option linter.unusedVariables false

set_option maxRecDepth 100000 in
set_option maxHeartbeats 4000000 in
theorem simple_keeps (B gw n0 : Nat) (w0 : World) (sv : Value) (hn0 : n0 ≤ 2000000) : SimpleKeeps B gw n0 w0 sv := by
  intro t w role dv bv ev ds ls es ki ai bi al s key pk ht hs hkey hai1 hai2 hbi1 hbi2 hal1 hal2 h hk1 hk4 y hy
  obtain ⟨xs, hO, hxl, hrl⟩ := h.data y hy
  have Ba := below_alloc w (.cells #[.int .i64 ki, .int .i64 ai, .int .i64 bi, .string s, .string key, .int .i64 al, .bool pk] 33)
  have hbx : (w.alloc (.cells #[.int .i64 ki, .int .i64 ai, .int .i64 bi, .string s, .string key, .int .i64 al, .bool pk] 33)).heap[w.heap.size]? = some (.cells #[.int .i64 ki, .int .i64 ai, .int .i64 bi, .string s, .string key, .int .i64 al, .bool pk] 33 (0, 0)) := heap_alloc_new w _
  have H1 := hide (h.below Ba)
  have hO1 := hO.carry Ba
  obtain ⟨ya, yc, rfl, hb, hyc, hycm⟩ := hO.shape
  replace hb := hb.carry Ba
  have hlt : w.heap.size < (w.alloc (.cells #[.int .i64 ki, .int .i64 ai, .int .i64 bi, .string s, .string key, .int .i64 al, .bool pk] 33)).heap.size := by simp
  have hll : ls.length ≤ 60000000 := by have := h.nl; omega
  have c0 : (w.alloc (.cells #[.int .i64 ki, .int .i64 ai, .int .i64 bi, .string s, .string key, .int .i64 al, .bool pk] 33)).cell? ⟨w.heap.size, 0, none⟩ = some (.int .i64 ki) := cell_of_row _ _ 0 _ _ _ hbx
  have c4 : (w.alloc (.cells #[.int .i64 ki, .int .i64 ai, .int .i64 bi, .string s, .string key, .int .i64 al, .bool pk] 33)).cell? ⟨w.heap.size, 4, none⟩ = some (.string key) := cell_of_row _ _ 4 _ _ _ hbx
  clear hbx h hO Ba hy hrl
  obtain rfl | rfl | rfl | rfl : ki = 1 ∨ ki = 2 ∨ ki = 3 ∨ ki = 4 := by omega
  · go_enter Tryz.func11, Tryz.ntmps11
    go_wp2_with fail
    generalize w.alloc (.cells #[.int .i64 1, .int .i64 ai, .int .i64 bi, .string s, .string key, .int .i64 al, .bool pk] 33) = W1 at *
    refine (roomy_any ya xs yc W1 (by omega) hb).mono ?_
    rintro e w2 ⟨g, c, rfl, hR, b2⟩
    obtain ⟨hgl, hg2, hc1, hcm, hbx2, -, -⟩ := hR.parts
    have k0 := (b2.cell (p := ⟨w.heap.size, 0, none⟩) hlt).trans c0
    have k4 := (b2.cell (p := ⟨w.heap.size, 4, none⟩) hlt).trans c4
    clear c0 c4
    have hb2 := hb.carry b2
    go_wp2_with fail
    refine (Sum_any (some ⟨g, 0, none⟩) xs c w2 (by omega) hbx2).mono ?_
    rintro e w3 ⟨rfl, hw⟩
    replace hw := hw.symm
    subst hw
    go_wp2_with fail
    refine (refSum_any ya xs yc w2 (by omega) hb2).mono ?_
    rintro e w3 ⟨rfl, b3⟩
    go_wp2_with fail
    refine (still_any W1.heap.size g c xs ya yc w3 (by omega) (hR.below b3) (hb2.carry b3)).mono ?_
    rintro e w4 ⟨rfl, sv4⟩
    have b4 : Below W1.heap.size W1 w4 := (b2.trans (b3.mono b2.size)).trans (sv4.below (Nat.le_trans b2.size b3.size) (fun k hk e => by omega))
    have HI := hide (H1.out.idle b4)
    clear b4 sv4
    go_wp2
    go_ret
    exact ⟨rfl, _, _, _, _, _, _, _, HI.out⟩
  · go_enter Tryz.func11, Tryz.ntmps11
    go_wp2_with fail
    generalize w.alloc (.cells #[.int .i64 2, .int .i64 ai, .int .i64 bi, .string s, .string key, .int .i64 al, .bool pk] 33) = W1 at *
    refine (roomy_any ya xs yc W1 (by omega) hb).mono ?_
    rintro e w2 ⟨g, c, rfl, hR, b2⟩
    obtain ⟨hgl, hg2, hc1, hcm, hbx2, -, -⟩ := hR.parts
    have k0 := (b2.cell (p := ⟨w.heap.size, 0, none⟩) hlt).trans c0
    have k4 := (b2.cell (p := ⟨w.heap.size, 4, none⟩) hlt).trans c4
    clear c0 c4
    have hb2 := hb.carry b2
    go_wp2_with fail
    refine (Tag_any key (some ⟨g, 0, none⟩) xs c w2 hkey (by omega) hbx2).mono ?_
    rintro e w3 ⟨rfl, hw⟩
    replace hw := hw.symm
    subst hw
    go_wp2_with fail
    refine (refTag_any key ya xs yc w2 hkey (by omega) hb2).mono ?_
    rintro e w3 ⟨rfl, b3⟩
    go_wp2_with fail
    refine (still_any W1.heap.size g c xs ya yc w3 (by omega) (hR.below b3) (hb2.carry b3)).mono ?_
    rintro e w4 ⟨rfl, sv4⟩
    have b4 : Below W1.heap.size W1 w4 := (b2.trans (b3.mono b2.size)).trans (sv4.below (Nat.le_trans b2.size b3.size) (fun k hk e => by omega))
    have HI := hide (H1.out.idle b4)
    clear b4 sv4
    go_wp2
    go_ret
    exact ⟨rfl, _, _, _, _, _, _, _, HI.out⟩
  · go_enter Tryz.func11, Tryz.ntmps11
    go_wp2_with fail
    generalize w.alloc (.cells #[.int .i64 3, .int .i64 ai, .int .i64 bi, .string s, .string key, .int .i64 al, .bool pk] 33) = W1 at *
    refine (roomy_any ya xs yc W1 (by omega) hb).mono ?_
    rintro e w2 ⟨g, c, rfl, hR, b2⟩
    obtain ⟨hgl, hg2, hc1, hcm, hbx2, -, -⟩ := hR.parts
    have k0 := (b2.cell (p := ⟨w.heap.size, 0, none⟩) hlt).trans c0
    have k4 := (b2.cell (p := ⟨w.heap.size, 4, none⟩) hlt).trans c4
    clear c0 c4
    have hb2 := hb.carry b2
    go_wp2_with fail
    refine (Pack_any (some ⟨g, 0, none⟩) xs c w2 (by omega) (by omega) hcm hbx2).mono ?_
    rintro e w3 ⟨p, rfl, o3, b3⟩
    go_wp2_with fail
    refine (refPack_any ya xs yc w3 (by omega) hyc hycm (hb2.carry b3)).mono ?_
    rintro e w4 ⟨q, rfl, o4, b4⟩
    have hpl : (packBytes xs).length ≤ 140737488355300 := by
      unfold packBytes
      split
      · have := packOf_length xs; omega
      · simp
    have o3' := o3.carry b4
    obtain ⟨pa, pc, rfl, hbp, -, -⟩ := o3'.shape
    obtain ⟨qa, qc, rfl, hbq, -, -⟩ := o4.shape
    go_wp2_with fail
    refine (sameBytes_any pa qa (packBytes xs) (packBytes xs) pc qc _ (by omega) (by omega) hbp hbq).mono ?_
    rintro e w5 ⟨rfl, b5⟩
    rw [eqB_true]
    have b25 := (b3.trans (b4.mono b3.size)).trans (b5.mono (Nat.le_trans b3.size b4.size))
    have b15 := b2.trans (b25.mono b2.size)
    have o5 := o3'.carry b5
    have hR5 := hR.below b25
    have H5 := hide (H1.out.below b15)
    have hO5 := hO1.carry b15
    clear b3 b4 b5 o3 o3' o4 hbp hbq hb2 hbx2 k4
    clear k0
    go_wp2_with fail
    refine (mine_any gw w5 dv sv bv ev w2.heap.size B _ (packBytes xs) ls H5.out.box H5.out.bytesR H5.out.bound o5 (by omega) (by omega)).mono ?_
    rintro e w6 ⟨⟨u, rfl⟩, bv', lb, ss, W6, L6, q1, q2, q3, q4, S6, hbv⟩
    have hg8 : U8 w5 g := by
      obtain ⟨-, -, -, -, -, -, cur, hc, -⟩ := hR5.parts
      exact ⟨cur, hc⟩
    have hng : ∀ k, (k < w2.heap.size ∧ U8 w5 k) → ¬ (k = gw ∨ some k = bv.ownBlock ∨ some k = (Value.slice pa ((packBytes xs)).length pc).ownBlock) := by
      rintro k ⟨hk, hu⟩ (rfl | e | e)
      · exact H5.out.box.not_u8 hu
      · exact H5.out.bytesR.not_u8 k e hu
      · have := (World.ownsRow.lt o5 k e.symm).1
        omega
    have hR6 := hR5.save S6 (hng g ⟨hg2, hg8⟩)
    have hO6 := hO5.saveK S6 fun k hk hu => hng k ⟨by have := (World.ownsRow.lt hO1 k hk.symm).2; have := b2.size; omega, hu⟩
    obtain ⟨_, _, e, hb6, -, -⟩ := hO6.shape
    simp only [Value.slice.injEq, true_and] at e
    obtain ⟨rfl, rfl⟩ := e
    have hg6 : U8 w6 g := by
      obtain ⟨-, -, -, -, -, -, cur, hc, -⟩ := hR6.parts
      exact ⟨cur, hc⟩
    go_wp2_with fail
    refine (still_any W1.heap.size g c xs _ _ w6 (by omega) hR6 hb6).mono ?_
    rintro e w7 ⟨rfl, S7⟩
    have HI := hide (H1.out.mined b15 o5 b2.size b25.size (fun k => k = g) (fun k hk => by subst hk; exact ⟨hgl, hg2⟩) W6 L6 q1 q2 q3 q4 S6 S7 hbv)
    obtain ⟨role', hA⟩ := HI.out
    have HA := hide hA
    clear hA HI S6 S7 W6 L6 q1 q2 q3 q4 hR6 hO6 hO5 hR5 o5 H5
    go_wp2
    go_ret
    exact ⟨rfl, _, _, _, _, _, _, _, HA.out⟩
  · go_enter Tryz.func11, Tryz.ntmps11
    go_wp2_with fail
    generalize w.alloc (.cells #[.int .i64 4, .int .i64 ai, .int .i64 bi, .string s, .string key, .int .i64 al, .bool pk] 33) = W1 at *
    refine (roomy_any ya xs yc W1 (by omega) hb).mono ?_
    rintro e w2 ⟨g, c, rfl, hR, b2⟩
    obtain ⟨hgl, hg2, hc1, hcm, hbx2, -, -⟩ := hR.parts
    have k0 := (b2.cell (p := ⟨w.heap.size, 0, none⟩) hlt).trans c0
    have k4 := (b2.cell (p := ⟨w.heap.size, 4, none⟩) hlt).trans c4
    clear c0 c4
    have hb2 := hb.carry b2
    go_wp2_with fail
    refine (Unpack_any (some ⟨g, 0, none⟩) xs c w2 (by omega) (by omega) hcm hbx2).mono ?_
    rintro e w3 ⟨p, rfl, o3, b3⟩
    go_wp2_with fail
    refine (refUnpack_any ya xs yc w3 (by omega) hyc hycm (hb2.carry b3)).mono ?_
    rintro e w4 ⟨q, rfl, o4, b4⟩
    have hpl : (unOf xs).1.length ≤ 600 := unOf_length xs
    have o3' := o3.carry b4
    obtain ⟨pa, pc, rfl, hbp, -, -⟩ := o3'.shape
    obtain ⟨qa, qc, rfl, hbq, -, -⟩ := o4.shape
    go_wp2_with fail
    refine (sameBytes_any pa qa (unOf xs).1 (unOf xs).1 pc qc _ (by omega) (by omega) hbp hbq).mono ?_
    rintro e w5 ⟨rfl, b5⟩
    rw [eqB_true]
    have b25 := (b3.trans (b4.mono b3.size)).trans (b5.mono (Nat.le_trans b3.size b4.size))
    have b15 := b2.trans (b25.mono b2.size)
    have o5 := o3'.carry b5
    have hR5 := hR.below b25
    have H5 := hide (H1.out.below b15)
    have hO5 := hO1.carry b15
    clear b3 b4 b5 o3 o3' o4 hbp hbq hb2 hbx2 k4
    clear k0
    go_wp2_with fail
    refine (mine_any gw w5 dv sv bv ev w2.heap.size B _ (unOf xs).1 ls H5.out.box H5.out.bytesR H5.out.bound o5 (by omega) (by omega)).mono ?_
    rintro e w6 ⟨⟨u, rfl⟩, bv', lb, ss, W6, L6, q1, q2, q3, q4, S6, hbv⟩
    have hg8 : U8 w5 g := by
      obtain ⟨-, -, -, -, -, -, cur, hc, -⟩ := hR5.parts
      exact ⟨cur, hc⟩
    have hng : ∀ k, (k < w2.heap.size ∧ U8 w5 k) → ¬ (k = gw ∨ some k = bv.ownBlock ∨ some k = (Value.slice pa ((unOf xs).1).length pc).ownBlock) := by
      rintro k ⟨hk, hu⟩ (rfl | e | e)
      · exact H5.out.box.not_u8 hu
      · exact H5.out.bytesR.not_u8 k e hu
      · have := (World.ownsRow.lt o5 k e.symm).1
        omega
    have hR6 := hR5.save S6 (hng g ⟨hg2, hg8⟩)
    have hO6 := hO5.saveK S6 fun k hk hu => hng k ⟨by have := (World.ownsRow.lt hO1 k hk.symm).2; have := b2.size; omega, hu⟩
    obtain ⟨_, _, e, hb6, -, -⟩ := hO6.shape
    simp only [Value.slice.injEq, true_and] at e
    obtain ⟨rfl, rfl⟩ := e
    have hg6 : U8 w6 g := by
      obtain ⟨-, -, -, -, -, -, cur, hc, -⟩ := hR6.parts
      exact ⟨cur, hc⟩
    go_wp2_with fail
    refine (still_any W1.heap.size g c xs _ _ w6 (by omega) hR6 hb6).mono ?_
    rintro e w7 ⟨rfl, S7⟩
    have HI := hide (H1.out.mined b15 o5 b2.size b25.size (fun k => k = g) (fun k hk => by subst hk; exact ⟨hgl, hg2⟩) W6 L6 q1 q2 q3 q4 S6 S7 hbv)
    obtain ⟨role', hA⟩ := HI.out
    have HA := hide hA
    clear hA HI S6 S7 W6 L6 q1 q2 q3 q4 hR6 hO6 hO5 hR5 o5 H5
    go_wp2
    go_ret
    exact ⟨rfl, _, _, _, _, _, _, _, HA.out⟩

end Go.Proofs.YtgncohclofdhmaaGreat

namespace Go.Proofs.YtgncohclofdhmaaGreat
open Go.RowKit
set_option linter.unusedVariables false

/-- What 'more' leaves behind. -/
def MoreAt (B gw : Nat) (dv sv bv ev : Value) (ds : List Value) (zs : List UInt8) (E : Nat) (w w' : World) : Prop :=
  (E ≠ 0 ∧ w' = w) ∨ (E = 0 ∧ ∃ dv' y, WBox w' gw dv' sv bv ev ∧ OwnV 29 B w' dv' (ds ++ [y]) ∧ Own w.heap.size w' y zs ∧ Save (fun k => k = gw ∨ some k = dv.ownBlock) w w' ∧ (dv'.ownBlock = dv.ownBlock ∨ ∀ k, some k = dv'.ownBlock → w.heap.size ≤ k))

/-- The invariant behind a step that marked one list, perhaps laid down one for later steps, and looked at what was handed in. -/
theorem AllInv.mined2 {B gw n0 t : Nat} {w0 w w5 w6 w7 w8 : World} {role : Nat → Nat} {dv sv bv ev : Value} {ds : List Value} {ls : List Nat} {es : List Value} (h : AllInv B gw n0 t w0 w role dv sv bv ev ds ls es)
    (b : Below w.heap.size w w5) {S : Nat} {p : Value} {xs : List UInt8} (hp : Own S w5 p xs) (hS : w.heap.size ≤ S) (hS5 : S ≤ w5.heap.size) (Kx : Nat → Prop) (hKx : ∀ k, Kx k → w.heap.size ≤ k ∧ k < S)
    {bv' : Value} {lb : Nat} {ss : List Value} (W6 : WBox w6 gw dv sv bv' ev) (L6 : OwnL B w6 bv' (ls ++ [lb])) (k1 : w6.heap[lb]? = some (.cells ss.toArray 29 (0, 0))) (k2 : ss.length = 4) (hlb : w5.heap.size ≤ lb)
    (hO : ∀ s, s ∈ ss → Out (fun k => some k = p.ownBlock ∨ (w5.heap.size ≤ k ∧ k < w6.heap.size)) w6 s ∧ Full w6 s (digN ls.length 0)) (S6 : Save (fun k => k = gw ∨ some k = bv.ownBlock ∨ some k = p.ownBlock) w5 w6)
    (hbv : bv'.ownBlock = bv.ownBlock ∨ ∀ k, some k = bv'.ownBlock → w5.heap.size ≤ k) {zs : List UInt8} {E : Nat} (hM : MoreAt B gw dv sv bv' ev ds zs E w6 w7) (hz : zs.length ≤ 2000000) (S8 : Save Kx w7 w8) :
    ∃ role' dv' ds', AllInv B gw n0 (t + 1) w0 w8 role' dv' sv bv' ev ds' (ls ++ [lb]) es := by
  rcases hM with ⟨-, rfl⟩ | ⟨-, dv', y, W7, D7, o7, S7, hdv⟩
  · obtain ⟨role', hA⟩ := h.mined b hp hS hS5 Kx hKx W6 L6 k1 k2 hlb hO S6 S8 hbv
    exact ⟨role', _, _, hA⟩
  · have hpb : ∀ k, some k = p.ownBlock → S ≤ k ∧ k < w5.heap.size := fun k hk => World.ownsRow.lt hp k hk.symm
    have hgw := h.box.lt
    have b5 := b.size
    have s6 := S6.size
    have s7 := S7.size
    have s8 := S8.size
    have hdvl : ∀ k, some k = dv.ownBlock → k < w.heap.size := fun k hk => (World.ownsRow.lt h.dataR k hk.symm).2
    have hKL : ∀ k, some k = bv'.ownBlock → ¬ Kx k := by
      intro k hk hx
      have hx' := hKx k hx
      rcases hbv with e | e
      · rw [e] at hk
        have := (World.ownsRow.lt h.bytesR k hk.symm).2
        omega
      · have := e k hk
        omega
    have hKD : ∀ k, some k = dv'.ownBlock → ¬ Kx k := by
      intro k hk hx
      have hx' := hKx k hx
      rcases hdv with e | e
      · rw [e] at hk
        have := hdvl k hk
        omega
      · have := e k hk
        omega
    have SA : Save (fun k => k = gw ∨ some k = dv.ownBlock ∨ some k = bv.ownBlock) w w8 := by
      refine (((Save.of b).join S6 ?_).join S7 ?_).join S8 ?_
      · rintro i hi (e | e | e)
        · exact .inl e
        · exact .inr (.inr e)
        · have := (hpb i e).1; omega
      · rintro i hi (e | e)
        · exact .inl e
        · exact .inr (.inl e)
      · intro i hi hx
        have := (hKx i hx).1
        omega
    have hR7 : ∀ k, (some k = p.ownBlock ∨ (w5.heap.size ≤ k ∧ k < w6.heap.size)) → ¬ (k = gw ∨ some k = dv.ownBlock) := by
      rintro k (e | e) (e2 | e2)
      · have := (hpb k e).1
        omega
      · have := (hpb k e).1
        have := hdvl k e2
        omega
      · omega
      · have := hdvl k e2
        omega
    have hR : ∀ k, (some k = p.ownBlock ∨ (w5.heap.size ≤ k ∧ k < w6.heap.size)) → ¬ Kx k := by
      rintro k (e | e) hx
      · have := (hKx k hx).2
        have := (hpb k e).1
        omega
      · have := (hKx k hx).2
        omega
    have lb6 := heap_lt k1
    have k7 : w7.heap[lb]? = some (.cells ss.toArray 29 (0, 0)) := (S7.block lb lb6 (by
      rintro (e | e)
      · omega
      · have := hdvl lb e
        omega)).trans k1
    have y8 := o7.saveK S8 fun k hk _ hx => by
      have := (hKx k hx).2
      have := (World.ownsRow.lt o7 k hk.symm).1
      omega
    have L7 : OwnL B w7 bv' (ls ++ [lb]) := L6.save S7 (by
      rintro k hk (e | e)
      · subst e
        exact L6.ne W6 (by decide) hk
      · rcases hbv with e2 | e2
        · rw [e2] at hk
          exact h.dvFree k e (.inr hk)
        · have := e2 k hk
          have := hdvl k e
          omega)
    obtain ⟨role', hA⟩ := h.next1 SA (dv' := dv') (bv' := bv') (ds' := ds ++ [y]) (lb := lb) (W7.save S8 fun hx => by have := (hKx gw hx).1; omega) (D7.save S8 hKD) (by simp) (hdv.imp id fun e k hk => by have := e k hk; omega)
      (fun k => some k = p.ownBlock ∨ (w5.heap.size ≤ k ∧ k < w6.heap.size)) (by
        rintro k (e | e)
        · have := hpb k e
          omega
        · omega) (by
        intro z hz'
        rcases List.mem_append.1 hz' with hz' | hz'
        · exact .inl hz'
        · obtain rfl : z = y := by simpa using hz'
          refine .inr ⟨zs, y8.mono (by have := h.bound; omega), hz, fun k hk => ?_⟩
          have := World.ownsRow.lt o7 k hk.symm
          refine ⟨by omega, ?_⟩
          rintro (e | e)
          · have := (hpb k e).2
            omega
          · omega) (L7.save S8 hKL) (by omega) (by
        intro e
        rcases hdv with e2 | e2
        · rw [e2] at e
          have := hdvl lb e
          omega
        · have := e2 lb e
          omega) ⟨ss, (S8.block lb (by omega) fun hx => by have := (hKx lb hx).2; omega).trans k7, k2, fun s hs => ⟨((hO s hs).1.saveR S7 hR7).saveR S8 hR, ((hO s hs).2.saveR (hO s hs).1 S7 hR7).saveR ((hO s hs).1.saveR S7 hR7) S8 hR⟩⟩
    exact ⟨role', _, _, hA⟩

end Go.Proofs.YtgncohclofdhmaaGreat

namespace Go.Proofs.YtgncohclofdhmaaGreat
open Go.RowKit
set_option linter.unusedVariables false

/-- What came out is the caller's own. -/
theorem build_own {es : List Ent} {key : ByteArray} {al : Int} {pk : Bool} {B : Nat} {w : World} {v : Value} {E : Nat} {p : ByteArray} (h : BuildAns es key al pk B w v E p) : ∃ xs, Own B w v xs ∧ xs.length ≤ 4000 := by
  rcases h with ⟨_, rfl, _⟩ | ⟨_, ix, _, _, ⟨_, rfl, _⟩ | ⟨h1, h2, _⟩⟩
  · exact ⟨[], Own.nil _ _, by simp⟩
  · exact ⟨[], Own.nil _ _, by simp⟩
  · exact ⟨_, h2, h1⟩

theorem drop_own {key path : ByteArray} {p : List UInt8} {B : Nat} {w : World} {v : Value} {E : Nat} (h : DropAns key path p B w v E) : ∃ xs, Own B w v xs ∧ xs.length ≤ 4000 := by
  rcases h with ⟨_, _, rfl⟩ | ⟨_, _, _, rfl⟩ | ⟨_, l, al, pk, _, ⟨_, _, rfl⟩ | ⟨_, fs, q, _, h⟩⟩
  · exact ⟨[], Own.nil _ _, by simp⟩
  · exact ⟨[], Own.nil _ _, by simp⟩
  · exact ⟨[], Own.nil _ _, by simp⟩
  · exact build_own h

theorem repl_own {key : ByteArray} {p : List UInt8} {xp : ByteArray} {xb : List UInt8} {B : Nat} {w : World} {v : Value} {E : Nat} {q : ByteArray} (h : ReplAns key p xp xb B w v E q) : ∃ xs, Own B w v xs ∧ xs.length ≤ 4000 := by
  rcases h with ⟨_, _, rfl, _⟩ | ⟨_, _, _, rfl, _⟩ | ⟨_, l, al, pk, _, fs, _, h⟩
  · exact ⟨[], Own.nil _ _, by simp⟩
  · exact ⟨[], Own.nil _ _, by simp⟩
  · exact build_own h

theorem find_own {key path : ByteArray} {p : List UInt8} {B : Nat} {w : World} {v : Value} {E : Nat} (h : FindAns key path p B w v E) : ∃ xs, Own B w v xs ∧ xs.length ≤ 4000 := by
  obtain ⟨-, xs, a, a', c, c', e, -, -, -, hl⟩ := find_same h h
  rcases h with ⟨_, _, rfl⟩ | ⟨_, _, _, rfl⟩ | ⟨_, l, al, pk, _, ⟨_, _, rfl⟩ | ⟨b, _, h, _⟩⟩
  · exact ⟨[], Own.nil _ _, by simp⟩
  · exact ⟨[], Own.nil _ _, by simp⟩
  · exact ⟨[], Own.nil _ _, by simp⟩
  · refine ⟨b, h, ?_⟩
    obtain ⟨a2, c2, e2, -, -, -⟩ := h.shape
    rw [e] at e2
    simp only [Value.slice.injEq] at e2
    omega

/-- 'looks' at one kind of step. -/
def LookOne (K : Int) (B gw n0 : Nat) (w0 : World) (sv : Value) : Prop := ∀ (t : Nat) (w : World) (role : Nat → Nat) (dv bv ev : Value) (ds : List Value) (ls : List Nat) (es : List Value) (ai bi al : Int) (s key : ByteArray) (pk : Bool), t < 2000000 → s.size ≤ maxLen → key.size ≤ maxLen →
    -9223372036854775808 ≤ ai → ai ≤ 9223372036854775807 → -9223372036854775808 ≤ bi → bi ≤ 9223372036854775807 → -9223372036854775808 ≤ al → al ≤ 9223372036854775807 →
    AllInv B gw n0 t w0 w role dv sv bv ev ds ls es → ∀ y, y ∈ ds →
    Calls Tryz.prog 12 #[.pointer (some ⟨gw, 0, none⟩), .agg #[.int .i64 K, .int .i64 ai, .int .i64 bi, .string s, .string key, .int .i64 al, .bool pk], y] w fun e w' => e = .returned (.bool true) ∧ ∃ (role' : Nat → Nat) (dv' bv' ev' : Value) (ds' : List Value) (ls' : List Nat) (es' : List Value), AllInv B gw n0 (t + 1) w0 w' role' dv' sv bv' ev' ds' ls' es'

theorem looks_of (B gw n0 : Nat) (w0 : World) (sv : Value) (h7 : LookOne 7 B gw n0 w0 sv) (h8 : LookOne 8 B gw n0 w0 sv) (h9 : LookOne 9 B gw n0 w0 sv) (h10 : LookOne 10 B gw n0 w0 sv) : LooksKeeps B gw n0 w0 sv := by
  intro t w role dv bv ev ds ls es ki ai bi al s key pk ht hs hkey hai1 hai2 hbi1 hbi2 hal1 hal2 h hk1 hk2
  obtain rfl | rfl | rfl | rfl : ki = 7 ∨ ki = 8 ∨ ki = 9 ∨ ki = 10 := by omega
  · exact h7 t w role dv bv ev ds ls es ai bi al s key pk ht hs hkey hai1 hai2 hbi1 hbi2 hal1 hal2 h
  · exact h8 t w role dv bv ev ds ls es ai bi al s key pk ht hs hkey hai1 hai2 hbi1 hbi2 hal1 hal2 h
  · exact h9 t w role dv bv ev ds ls es ai bi al s key pk ht hs hkey hai1 hai2 hbi1 hbi2 hal1 hal2 h
  · exact h10 t w role dv bv ev ds ls es ai bi al s key pk ht hs hkey hai1 hai2 hbi1 hbi2 hal1 hal2 h

end Go.Proofs.YtgncohclofdhmaaGreat

namespace Go.Proofs.YtgncohclofdhmaaGreat
open Go.RowKit
set_option linter.unusedVariables false

/-- What the document's Find answers. -/
def RefFindKeeps : Prop := ∀ (a : Option Addr) (p : List UInt8) (cap : Nat) (w : World) (key path : ByteArray), p.length ≤ 140737488355328 → key.size ≤ maxLen → p.length ≤ cap → cap ≤ maxLen → Bts w a p →
    Calls Tryz.prog 41 #[.slice a p.length cap, .string path, .string key] w fun e w' => ∃ v E, e = .returned (.tuple #[v, .int .i64 (E : Nat)]) ∧ FindAns key path p w.heap.size w' v E ∧ Below w.heap.size w w'

/-- What the document's Drop answers. -/
def RefDropKeeps : Prop := ∀ (a : Option Addr) (p : List UInt8) (cap : Nat) (w : World) (key path : ByteArray), p.length ≤ 140737488355328 → key.size ≤ maxLen → p.length ≤ cap → cap ≤ maxLen → Bts w a p →
    Calls Tryz.prog 44 #[.slice a p.length cap, .string path, .string key] w fun e w' => ∃ v E, e = .returned (.tuple #[v, .int .i64 (E : Nat)]) ∧ DropAns key path p w.heap.size w' v E ∧ Below w.heap.size w w'

set_option maxRecDepth 100000 in
set_option maxHeartbeats 600000 in
theorem look_find (B gw n0 : Nat) (w0 : World) (sv : Value) (hn0 : n0 ≤ 2000000) (HP : FindKeeps) (HR : RefFindKeeps) : LookOne 8 B gw n0 w0 sv := by
  intro t w role dv bv ev ds ls es ai bi al s key pk ht hs hkey hai1 hai2 hbi1 hbi2 hal1 hal2 h y hy
  obtain ⟨xs, hO, hxl, hrl⟩ := h.data y hy
  have Ba := below_alloc w (.cells #[.int .i64 8, .int .i64 ai, .int .i64 bi, .string s, .string key, .int .i64 al, .bool pk] 33)
  have hbx : (w.alloc (.cells #[.int .i64 8, .int .i64 ai, .int .i64 bi, .string s, .string key, .int .i64 al, .bool pk] 33)).heap[w.heap.size]? = some (.cells #[.int .i64 8, .int .i64 ai, .int .i64 bi, .string s, .string key, .int .i64 al, .bool pk] 33 (0, 0)) := heap_alloc_new w _
  have H1 := hide (h.below Ba)
  have hO1 := hO.carry Ba
  obtain ⟨ya, yc, rfl, hb, hyc, hycm⟩ := hO.shape
  replace hb := hb.carry Ba
  have hlt : w.heap.size < (w.alloc (.cells #[.int .i64 8, .int .i64 ai, .int .i64 bi, .string s, .string key, .int .i64 al, .bool pk] 33)).heap.size := by simp
  have hll : ls.length ≤ 60000000 := by have := h.nl; omega
  have hdl : ds.length ≤ 4000000 := by have := h.nd; omega
  have c0 : (w.alloc (.cells #[.int .i64 8, .int .i64 ai, .int .i64 bi, .string s, .string key, .int .i64 al, .bool pk] 33)).cell? ⟨w.heap.size, 0, none⟩ = some (.int .i64 8) := cell_of_row _ _ 0 _ _ _ hbx
  have c3 : (w.alloc (.cells #[.int .i64 8, .int .i64 ai, .int .i64 bi, .string s, .string key, .int .i64 al, .bool pk] 33)).cell? ⟨w.heap.size, 3, none⟩ = some (.string s) := cell_of_row _ _ 3 _ _ _ hbx
  have c4 : (w.alloc (.cells #[.int .i64 8, .int .i64 ai, .int .i64 bi, .string s, .string key, .int .i64 al, .bool pk] 33)).cell? ⟨w.heap.size, 4, none⟩ = some (.string key) := cell_of_row _ _ 4 _ _ _ hbx
  clear hbx h hO Ba hy hrl
  have HP' := hide HP
  have HR' := hide HR
  clear HP HR
  go_enter Tryz.func12, Tryz.ntmps12
  go_wp2_with fail
  generalize w.alloc (.cells #[.int .i64 8, .int .i64 ai, .int .i64 bi, .string s, .string key, .int .i64 al, .bool pk] 33) = W1 at *
  refine (roomy_any ya xs yc W1 (by omega) hb).mono ?_
  rintro e w2 ⟨g, c, rfl, hR, b2⟩
  obtain ⟨hgl, hg2, hc1, hcm, hbx2, -, -⟩ := hR.parts
  have k0 := (b2.cell (p := ⟨w.heap.size, 0, none⟩) hlt).trans c0
  have k3 := (b2.cell (p := ⟨w.heap.size, 3, none⟩) hlt).trans c3
  have k4 := (b2.cell (p := ⟨w.heap.size, 4, none⟩) hlt).trans c4
  have hlt2 : w.heap.size < w2.heap.size := Nat.lt_of_lt_of_le hlt b2.size
  clear c0 c3 c4
  have hb2 := hb.carry b2
  go_wp2_with fail
  refine (HP'.out (some ⟨g, 0, none⟩) xs c w2 key s (by omega) hkey hs (by omega) hcm hbx2).mono ?_
  rintro e w3 ⟨p, E1, rfl, A3, b3⟩
  have k3' := (b3.cell (p := ⟨w.heap.size, 3, none⟩) hlt2).trans k3
  have k4' := (b3.cell (p := ⟨w.heap.size, 4, none⟩) hlt2).trans k4
  have HA3 := hide A3
  clear A3 k3 k4
  go_wp2_with fail
  refine (HR'.out ya xs yc w3 key s (by omega) hkey hyc hycm (hb2.carry b3)).mono ?_
  rintro e w4 ⟨q, E2, rfl, A4, b4⟩
  obtain ⟨rfl, bs, pa, qa, pc, qc, rfl, rfl, hbp, hbq, hbl⟩ := find_same HA3.out A4
  obtain ⟨ps, o3, hpl⟩ := find_own HA3.out
  obtain ⟨qs, o4, hql⟩ := find_own A4
  have hbp4 := hbp.carry b4
  clear A4 HA3 HP' HR' hbp k3' k4'
  go_wp2_with fail
  refine (sameBytes_any pa qa bs bs pc qc _ (by omega) (by omega) hbp4 hbq).mono ?_
  rintro e w5 ⟨rfl, b5⟩
  rw [eqB_true]
  have b25 := (b3.trans (b4.mono b3.size)).trans (b5.mono (Nat.le_trans b3.size b4.size))
  have b15 := b2.trans (b25.mono b2.size)
  have o5 := (o3.carry b4).carry b5
  have q5 := o4.carry b5
  have p3 : Hid (∀ k, some k = (Value.slice pa bs.length pc).ownBlock → k < w3.heap.size) := fun k hk => (World.ownsRow.lt o3 k hk.symm).2
  have hR5 := hR.below b25
  have H5 := hide (H1.out.below b15)
  have hO5 := hO1.carry b15
  clear b4 b5 o3 o4 hbp4 hbq hb2 hbx2 b3
  have hbs2 : Hid (bs.length = qs.length) := by
    show _ = _
    obtain ⟨_, _, e, -, -, -⟩ := q5.shape
    simp only [Value.slice.injEq] at e
    exact e.2.1
  go_wp2_with fail
  refine (mine_any gw w5 dv sv bv ev w2.heap.size B _ ps ls H5.out.box H5.out.bytesR H5.out.bound o5 (by omega) (by omega)).mono ?_
  rintro e w6 ⟨⟨u, rfl⟩, bv', lb, ss, W6, L6, q1, q2, q3, q4, S6, hbv⟩
  have hg8 : U8 w5 g := by
    obtain ⟨-, -, -, -, -, -, cur, hc, -⟩ := hR5.parts
    exact ⟨cur, hc⟩
  have hng : ∀ k, ((k < w2.heap.size ∨ w3.heap.size ≤ k) ∧ U8 w5 k) → ¬ (k = gw ∨ some k = bv.ownBlock ∨ some k = (Value.slice pa bs.length pc).ownBlock) := by
    rintro k ⟨hk, hu⟩ (rfl | e | e)
    · exact H5.out.box.not_u8 hu
    · exact H5.out.bytesR.not_u8 k e hu
    · have := (World.ownsRow.lt o5 k e.symm).1
      have := p3.out k e
      omega
  have hR6 := hR5.save S6 (hng g ⟨.inl hg2, hg8⟩)
  have hO6 := hO5.saveK S6 fun k hk hu => hng k ⟨.inl (by have := (World.ownsRow.lt hO1 k hk.symm).2; have := b2.size; omega), hu⟩
  obtain ⟨_, _, e, hb7, -, -⟩ := hO6.shape
  simp only [Value.slice.injEq, true_and] at e
  obtain ⟨rfl, rfl⟩ := e
  have hR7 := hR6
  go_wp2_with fail
  refine (still_any W1.heap.size g c xs _ _ w6 (by omega) hR7 hb7).mono ?_
  rintro e w8 ⟨rfl, S8⟩
  have HI := hide (H1.out.mined b15 o5 b2.size b25.size (fun k => k = g) (fun k hk => by subst hk; exact ⟨hgl, hg2⟩) W6 L6 q1 q2 q3 q4 S6 S8 hbv)
  obtain ⟨role', hA⟩ := HI.out
  have HA := hide hA
  clear hA HI S6 S8 W6 L6 q1 q2 q3 q4 hR6 hO6 hO5 hR5 o5 H5 hR7
  go_wp2
  go_ret
  exact ⟨rfl, _, _, _, _, _, _, _, HA.out⟩

set_option maxRecDepth 100000 in
set_option maxHeartbeats 600000 in
theorem look_drop (B gw n0 : Nat) (w0 : World) (sv : Value) (hn0 : n0 ≤ 2000000) (HP : DropKeeps) (HR : RefDropKeeps) : LookOne 10 B gw n0 w0 sv := by
  intro t w role dv bv ev ds ls es ai bi al s key pk ht hs hkey hai1 hai2 hbi1 hbi2 hal1 hal2 h y hy
  obtain ⟨xs, hO, hxl, hrl⟩ := h.data y hy
  have Ba := below_alloc w (.cells #[.int .i64 10, .int .i64 ai, .int .i64 bi, .string s, .string key, .int .i64 al, .bool pk] 33)
  have hbx : (w.alloc (.cells #[.int .i64 10, .int .i64 ai, .int .i64 bi, .string s, .string key, .int .i64 al, .bool pk] 33)).heap[w.heap.size]? = some (.cells #[.int .i64 10, .int .i64 ai, .int .i64 bi, .string s, .string key, .int .i64 al, .bool pk] 33 (0, 0)) := heap_alloc_new w _
  have H1 := hide (h.below Ba)
  have hO1 := hO.carry Ba
  obtain ⟨ya, yc, rfl, hb, hyc, hycm⟩ := hO.shape
  replace hb := hb.carry Ba
  have hlt : w.heap.size < (w.alloc (.cells #[.int .i64 10, .int .i64 ai, .int .i64 bi, .string s, .string key, .int .i64 al, .bool pk] 33)).heap.size := by simp
  have hll : ls.length ≤ 60000000 := by have := h.nl; omega
  have hdl : ds.length ≤ 4000000 := by have := h.nd; omega
  have c0 : (w.alloc (.cells #[.int .i64 10, .int .i64 ai, .int .i64 bi, .string s, .string key, .int .i64 al, .bool pk] 33)).cell? ⟨w.heap.size, 0, none⟩ = some (.int .i64 10) := cell_of_row _ _ 0 _ _ _ hbx
  have c3 : (w.alloc (.cells #[.int .i64 10, .int .i64 ai, .int .i64 bi, .string s, .string key, .int .i64 al, .bool pk] 33)).cell? ⟨w.heap.size, 3, none⟩ = some (.string s) := cell_of_row _ _ 3 _ _ _ hbx
  have c4 : (w.alloc (.cells #[.int .i64 10, .int .i64 ai, .int .i64 bi, .string s, .string key, .int .i64 al, .bool pk] 33)).cell? ⟨w.heap.size, 4, none⟩ = some (.string key) := cell_of_row _ _ 4 _ _ _ hbx
  clear hbx h hO Ba hy hrl
  have HP' := hide HP
  have HR' := hide HR
  clear HP HR
  go_enter Tryz.func12, Tryz.ntmps12
  go_wp2_with fail
  generalize w.alloc (.cells #[.int .i64 10, .int .i64 ai, .int .i64 bi, .string s, .string key, .int .i64 al, .bool pk] 33) = W1 at *
  refine (roomy_any ya xs yc W1 (by omega) hb).mono ?_
  rintro e w2 ⟨g, c, rfl, hR, b2⟩
  obtain ⟨hgl, hg2, hc1, hcm, hbx2, -, -⟩ := hR.parts
  have k0 := (b2.cell (p := ⟨w.heap.size, 0, none⟩) hlt).trans c0
  have k3 := (b2.cell (p := ⟨w.heap.size, 3, none⟩) hlt).trans c3
  have k4 := (b2.cell (p := ⟨w.heap.size, 4, none⟩) hlt).trans c4
  have hlt2 : w.heap.size < w2.heap.size := Nat.lt_of_lt_of_le hlt b2.size
  clear c0 c3 c4
  have hb2 := hb.carry b2
  go_wp2_with fail
  refine (HP'.out (some ⟨g, 0, none⟩) xs c w2 key s (by omega) hkey hs (by omega) hcm hbx2).mono ?_
  rintro e w3 ⟨p, E1, rfl, A3, b3⟩
  have k3' := (b3.cell (p := ⟨w.heap.size, 3, none⟩) hlt2).trans k3
  have k4' := (b3.cell (p := ⟨w.heap.size, 4, none⟩) hlt2).trans k4
  have HA3 := hide A3
  clear A3 k3 k4
  go_wp2_with fail
  refine (HR'.out ya xs yc w3 key s (by omega) hkey hyc hycm (hb2.carry b3)).mono ?_
  rintro e w4 ⟨q, E2, rfl, A4, b4⟩
  obtain ⟨rfl, bs, pa, qa, pc, qc, rfl, rfl, hbp, hbq, hbl⟩ := drop_same HA3.out A4
  obtain ⟨ps, o3, hpl⟩ := drop_own HA3.out
  obtain ⟨qs, o4, hql⟩ := drop_own A4
  have hbp4 := hbp.carry b4
  clear A4 HA3 HP' HR' hbp k3' k4'
  go_wp2_with fail
  refine (sameBytes_any pa qa bs bs pc qc _ (by omega) (by omega) hbp4 hbq).mono ?_
  rintro e w5 ⟨rfl, b5⟩
  rw [eqB_true]
  have b25 := (b3.trans (b4.mono b3.size)).trans (b5.mono (Nat.le_trans b3.size b4.size))
  have b15 := b2.trans (b25.mono b2.size)
  have o5 := (o3.carry b4).carry b5
  have q5 := o4.carry b5
  have p3 : Hid (∀ k, some k = (Value.slice pa bs.length pc).ownBlock → k < w3.heap.size) := fun k hk => (World.ownsRow.lt o3 k hk.symm).2
  have hR5 := hR.below b25
  have H5 := hide (H1.out.below b15)
  have hO5 := hO1.carry b15
  clear b4 b5 o3 o4 hbp4 hbq hb2 hbx2 b3
  have hbs2 : Hid (bs.length = qs.length) := by
    show _ = _
    obtain ⟨_, _, e, -, -, -⟩ := q5.shape
    simp only [Value.slice.injEq] at e
    exact e.2.1
  go_wp2_with fail
  refine (mine_any gw w5 dv sv bv ev w2.heap.size B _ ps ls H5.out.box H5.out.bytesR H5.out.bound o5 (by omega) (by omega)).mono ?_
  rintro e w6 ⟨⟨u, rfl⟩, bv', lb, ss, W6, L6, q1, q2, q3, q4, S6, hbv⟩
  have hg8 : U8 w5 g := by
    obtain ⟨-, -, -, -, -, -, cur, hc, -⟩ := hR5.parts
    exact ⟨cur, hc⟩
  have hng : ∀ k, ((k < w2.heap.size ∨ w3.heap.size ≤ k) ∧ U8 w5 k) → ¬ (k = gw ∨ some k = bv.ownBlock ∨ some k = (Value.slice pa bs.length pc).ownBlock) := by
    rintro k ⟨hk, hu⟩ (rfl | e | e)
    · exact H5.out.box.not_u8 hu
    · exact H5.out.bytesR.not_u8 k e hu
    · have := (World.ownsRow.lt o5 k e.symm).1
      have := p3.out k e
      omega
  have hR6 := hR5.save S6 (hng g ⟨.inl hg2, hg8⟩)
  have hO6 := hO5.saveK S6 fun k hk hu => hng k ⟨.inl (by have := (World.ownsRow.lt hO1 k hk.symm).2; have := b2.size; omega), hu⟩
  have Q6 := q5.saveK S6 fun k hk hu => hng k ⟨.inr (World.ownsRow.lt q5 k hk.symm).1, hu⟩
  obtain ⟨_, _, e, hbq6, -, -⟩ := Q6.shape
  simp only [Value.slice.injEq] at e
  obtain ⟨rfl, -, rfl⟩ := e
  have D6 : OwnV 29 B w6 dv ds := H5.out.dataR.save S6 fun k hk hx => by
    rcases hx with e | e | e
    · exact H5.out.dvFree k hk (.inl e)
    · exact H5.out.dvFree k hk (.inr e)
    · have := (World.ownsRow.lt o5 k e.symm).1
      have := (World.ownsRow.lt H1.out.dataR k hk.symm).2
      have := b2.size
      omega
  have hB6 : B ≤ w6.heap.size := Nat.le_trans H5.out.bound S6.size
  have KM := hide (more_any gw w6 dv sv bv' ev B ds _ qs qc E1 W6 D6 hB6 (by omega) (by omega) hbq6)
  rw [← hbs2.out] at KM
  go_wp2_with fail
  refine KM.out.mono ?_
  rintro e w7 ⟨⟨u7, rfl⟩, hM⟩
  have HM : Hid (MoreAt B gw dv sv bv' ev ds qs E1 w6 w7) := hM
  have S7 : Save (fun k => k = gw ∨ some k = dv.ownBlock) w6 w7 := by
    rcases hM with ⟨-, rfl⟩ | ⟨-, _, _, _, _, _, S7, _⟩
    · exact Save.refl _ _
    · exact S7
  clear hM KM
  have hnd : ∀ k, U8 w6 k → ¬ (k = gw ∨ some k = dv.ownBlock) := by
    rintro k hu (rfl | e)
    · exact W6.not_u8 hu
    · obtain ⟨cur, hc⟩ := hu
      exact D6.ne hc (by decide) e
  have hg6 : U8 w6 g := by
    obtain ⟨-, -, -, -, -, -, cur, hc, -⟩ := hR6.parts
    exact ⟨cur, hc⟩
  have hR7 := hR6.save S7 (hnd g hg6)
  have hO7 := hO6.saveK S7 fun k _ hu => hnd k hu
  obtain ⟨_, _, e, hb7, -, -⟩ := hO7.shape
  simp only [Value.slice.injEq, true_and] at e
  obtain ⟨rfl, rfl⟩ := e
  go_wp2_with fail
  refine (still_any W1.heap.size g c xs _ _ w7 (by omega) hR7 hb7).mono ?_
  rintro e w8 ⟨rfl, S8⟩
  have HI := hide (H1.out.mined2 b15 o5 b2.size b25.size (fun k => k = g) (fun k hk => by subst hk; exact ⟨hgl, hg2⟩) W6 L6 q1 q2 q3 q4 S6 hbv HM.out (by omega) S8)
  obtain ⟨role', dv', ds', hA⟩ := HI.out
  have HA := hide hA
  clear hA HI S6 S8 W6 L6 q1 q2 q3 q4 hR6 hO6 hO5 hR5 o5 H5 hR7 hO7 S7 HM D6 Q6
  go_wp2
  go_ret
  exact ⟨rfl, _, _, _, _, _, _, _, HA.out⟩

end Go.Proofs.YtgncohclofdhmaaGreat

namespace Go.Proofs.YtgncohclofdhmaaGreat
open Go.RowKit
set_option linter.unusedVariables false

theorem SetAt.save {K : Nat → Prop} {lo hi : Nat} {w w' : World} {g c : Nat} {es fs : List Ent} (h : SetAt lo hi w g c es fs) (t : Save K w w') (hk : ∀ k, lo ≤ k → k < hi → ¬ K k) : SetAt lo hi w' g c es fs := by
  refine ⟨⟨h.row.1, ?_⟩, h.blk, h.like, fun f hf => ?_, h.apart⟩
  · rcases h.row.2 with ⟨e, _⟩ | ⟨g', cap, cur, e, hbg, hg, hnc, hcm, hcs, htake⟩
    · cases e
    · have e' := e
      simp only [Value.slice.injEq, Option.some.injEq, Addr.mk.injEq] at e'
      obtain ⟨⟨rfl, _⟩, _, _⟩ := e'
      exact .inr ⟨g, cap, cur, e, hbg, (t.block g (heap_lt hg) (hk g hbg h.blk)).trans hg, hnc, hcm, hcs, htake⟩
  · have hr := h.room f hf
    exact hr.save t (hk _ hr.blk.1 hr.blk.2.1)

theorem SetAt.entAt {lo hi : Nat} {w : World} {g c : Nat} {es fs : List Ent} (h : SetAt lo hi w g c es fs) : EntAt w (some ⟨g, 0, none⟩) fs := by
  obtain ⟨hr, -⟩ := h.rowFrom rfl
  obtain ⟨cur, h1, h2, h3⟩ := hr
  intro i hi
  obtain ⟨e1, e2⟩ := h3 i (Nat.zero_le _) hi
  refine ⟨g, 0, rfl, ?_, ?_⟩
  · rw [Nat.zero_add, cell_of_row _ g _ _ _ _ h1]
    exact e1
  · rw [Nat.zero_add, cell_of_row _ g _ _ _ _ h1]
    exact e2

theorem SetAt.entGood {lo hi : Nat} {w : World} {g c : Nat} {es fs : List Ent} (h : SetAt lo hi w g c es fs) : EntGood w fs := by
  intro f hf
  obtain ⟨k, h1, h2, h3, h4⟩ := h.room f hf
  obtain ⟨-, -, k1, k2, k3, -, -⟩ := h2.parts
  rw [h1]
  exact ⟨k3, by omega, k2, h4⟩

/-- Sets of entries in a row that came in. -/
def SetsAt (w : World) (sa : Option Addr) (sn : Nat) (E : Nat → List Ent) : Prop := ∀ i, i < sn → ∃ b off a c, sa = some ⟨b, off, none⟩ ∧ w.cell? ⟨b, off + i, none⟩ = some (.slice a (E i).length c) ∧ EntAt w a (E i) ∧ EntGood w (E i) ∧ (E i).length ≤ c ∧ c ≤ maxLen ∧ (E i).length ≤ 1000000 ∧ ∀ e, e ∈ E i → e.body.length ≤ 2000000

theorem SetsAt.carry {w w' : World} {sa : Option Addr} {sn : Nat} {E : Nat → List Ent} (h : SetsAt w sa sn E) (hb : Below w.heap.size w w') : SetsAt w' sa sn E := by
  intro i hi
  obtain ⟨b, off, a, c, h1, h2, h3, h4, h5⟩ := h i hi
  exact ⟨b, off, a, c, h1, (hb.cell (p := ⟨b, off + i, none⟩) (World.block_lt_of_cell? w _ h2)).trans h2, h3.carry hb, h4.carry hb, h5⟩

end Go.Proofs.YtgncohclofdhmaaGreat

namespace Go.Proofs.YtgncohclofdhmaaGreat
open Go.RowKit
set_option linter.unusedVariables false

/-- What the document's Build answers. -/
def RefBuildKeeps : Prop := ∀ (a : Option Addr) (es : List Ent) (cap : Nat) (w : World) (key : ByteArray) (al : Int) (pk : Bool), es.length ≤ 1000000 → key.size ≤ maxLen → EntAt w a es → EntGood w es →
    Calls Tryz.prog 20 #[.slice a es.length cap, .agg #[.string key, .int .i64 al, .bool pk]] w fun e w' => ∃ v E p, e = .returned (.tuple #[v, .int .i64 (E : Nat), .string p]) ∧ BuildAns es key al pk w.heap.size w' v E p ∧ Below w.heap.size w w'

set_option maxRecDepth 100000 in
set_option maxHeartbeats 600000 in
theorem built_keeps (B gw n0 : Nat) (w0 : World) (sa : Option Addr) (sn sc : Nat) (E : Nat → List Ent) (hn0 : n0 ≤ 2000000) (hB : B = w0.heap.size) (hsn : sn ≤ sc) (hscm : sc ≤ maxLen) (hS : SetsAt w0 sa sn E) (HP : BuildKeeps) (HR : RefBuildKeeps) : BuiltKeeps B gw n0 w0 (.slice sa sn sc) := by
  intro t w role dv bv ev ds ls es ki ai bi al s key pk ht hs hkey hai1 hai2 hbi1 hbi2 hal1 hal2 h
  have Ba := below_alloc w (.cells #[.int .i64 ki, .int .i64 ai, .int .i64 bi, .string s, .string key, .int .i64 al, .bool pk] 33)
  have hbx : (w.alloc (.cells #[.int .i64 ki, .int .i64 ai, .int .i64 bi, .string s, .string key, .int .i64 al, .bool pk] 33)).heap[w.heap.size]? = some (.cells #[.int .i64 ki, .int .i64 ai, .int .i64 bi, .string s, .string key, .int .i64 al, .bool pk] 33 (0, 0)) := heap_alloc_new w _
  have H1 := hide (h.below Ba)
  have hll : ls.length ≤ 60000000 := by have := h.nl; omega
  have hdl : ds.length ≤ 4000000 := by have := h.nd; omega
  have hlt : w.heap.size < (w.alloc (.cells #[.int .i64 ki, .int .i64 ai, .int .i64 bi, .string s, .string key, .int .i64 al, .bool pk] 33)).heap.size := by simp
  have c1 : (w.alloc (.cells #[.int .i64 ki, .int .i64 ai, .int .i64 bi, .string s, .string key, .int .i64 al, .bool pk] 33)).cell? ⟨w.heap.size, 1, none⟩ = some (.int .i64 ai) := cell_of_row _ _ 1 _ _ _ hbx
  have c4 : (w.alloc (.cells #[.int .i64 ki, .int .i64 ai, .int .i64 bi, .string s, .string key, .int .i64 al, .bool pk] 33)).cell? ⟨w.heap.size, 4, none⟩ = some (.string key) := cell_of_row _ _ 4 _ _ _ hbx
  have c5 : (w.alloc (.cells #[.int .i64 ki, .int .i64 ai, .int .i64 bi, .string s, .string key, .int .i64 al, .bool pk] 33)).cell? ⟨w.heap.size, 5, none⟩ = some (.int .i64 al) := cell_of_row _ _ 5 _ _ _ hbx
  have c6 : (w.alloc (.cells #[.int .i64 ki, .int .i64 ai, .int .i64 bi, .string s, .string key, .int .i64 al, .bool pk] 33)).cell? ⟨w.heap.size, 6, none⟩ = some (.bool pk) := cell_of_row _ _ 6 _ _ _ hbx
  have d1 := H1.out.box.c1
  have HS0 := hide hS
  have HL := hide (show Below w0.heap.size w0 (w.alloc (.cells #[.int .i64 ki, .int .i64 ai, .int .i64 bi, .string s, .string key, .int .i64 al, .bool pk] 33)) from hB ▸ H1.out.low)
  have HP' := hide HP
  have HR' := hide HR
  clear hbx h Ba hS HP HR
  unfold maxLen at hscm
  by_cases h0 : sn = 0
  · have hsb : ((sn : Int) == 0) = true := by rw [beq_iff_eq]; omega
    go_enter Tryz.func9, Tryz.ntmps9
    go_upto_region 2 with fail
    generalize w.alloc (.cells #[.int .i64 ki, .int .i64 ai, .int .i64 bi, .string s, .string key, .int .i64 al, .bool pk] 33) = W1 at *
    have HI3 := hide (H1.out.idle (Below.refl _ _))
    go_wp2
    go_ret
    exact ⟨rfl, _, _, _, _, _, _, _, HI3.out⟩
  · have hsb : ((sn : Int) == 0) = false := by rw [beq_eq_false_iff_ne]; omega
    have hpl := lpickN_lt ai (n := sn) (by omega)
    obtain ⟨sb, soff, ea, ec, rfl, cY0, hEA, hEG, hec, hecm, hel, hbl⟩ := HS0.out (lpickN ai sn) hpl
    have cY := (HL.out.cell (p := ⟨sb, soff + lpickN ai sn, none⟩) (World.block_lt_of_cell? w0 _ cY0)).trans cY0
    clear cY0
    have HPk : Hid (∀ W, Calls Tryz.prog 10 #[.int .i64 ai, .int .i64 (sn : Nat)] W fun e w' => e = .returned (.int .i64 (lpickN ai sn : Nat)) ∧ w' = W) := fun W => lpick_is ai sn W hai1 hai2 (by omega) (by unfold maxLen; omega)
    obtain ⟨gs, Hgs⟩ : ∃ gs, Hid (gs = E (lpickN ai sn)) := ⟨_, rfl⟩
    rw [← Hgs.out] at cY hEA hEG hec hel hbl
    generalize lpickN ai sn = pn at *
    obtain ⟨gn, HGn⟩ : ∃ gn, Hid (gn = gs.length) := ⟨_, rfl⟩
    rw [← HGn.out] at cY hec hel
    have hpi : (pn : Int) < (sn : Int) := by omega
    have HEA := hide hEA
    have HEG := hide hEG
    have Hbl := hide hbl
    clear hEA hEG hbl HS0
    go_enter Tryz.func9, Tryz.ntmps9
    go_upto_region 3 with fail
    generalize w.alloc (.cells #[.int .i64 ki, .int .i64 ai, .int .i64 bi, .string s, .string key, .int .i64 al, .bool pk] 33) = W1 at *
    go_quiet ((go_at_call 10; exact Calls.quiet_of_same (unhide HPk _)))
    have bd := below_drewN (Below.refl W1.heap.size W1) nq
    have H2 := hide (H1.out.below bd)
    have HL2 := hide (HL.out.trans (bd.mono HL.out.size))
    have k4 := (bd.cell (p := ⟨w.heap.size, 4, none⟩) hlt).trans c4
    have k5 := (bd.cell (p := ⟨w.heap.size, 5, none⟩) hlt).trans c5
    have k6 := (bd.cell (p := ⟨w.heap.size, 6, none⟩) hlt).trans c6
    generalize W1.drewN nq = W2 at *
    clear c1 c4 c5 c6 d1 cY HPk bd H1 HL
    go_upto_region 5 with fail
    have Bc := below_alloc W2 (.cells #[.string key, .int .i64 al, .bool pk] 49)
    have e0 : (W2.alloc (.cells #[.string key, .int .i64 al, .bool pk] 49)).cell? ⟨W2.heap.size, 0, none⟩ = some (.string key) := cell_new W2 _ _ 0
    have e1 : (W2.alloc (.cells #[.string key, .int .i64 al, .bool pk] 49)).cell? ⟨W2.heap.size, 1, none⟩ = some (.int .i64 al) := cell_new W2 _ _ 1
    have e2 : (W2.alloc (.cells #[.string key, .int .i64 al, .bool pk] 49)).cell? ⟨W2.heap.size, 2, none⟩ = some (.bool pk) := cell_new W2 _ _ 2
    have hlt3 : W2.heap.size < (W2.alloc (.cells #[.string key, .int .i64 al, .bool pk] 49)).heap.size := by simp
    have H3 := hide (H2.out.below Bc)
    have HL3 := hide (HL2.out.trans (Bc.mono HL2.out.size))
    clear Bc H2 HL2 k4 k5 k6
    generalize W2.alloc (.cells #[.string key, .int .i64 al, .bool pk] 49) = W3 at *
    have KS := hide (set_any ea gs ec W3 (by have := HGn.out; omega) (fun e he => by have := Hbl.out e he; omega) (HEA.out.carry HL3.out) (HEG.out.carry HL3.out))
    rw [← HGn.out] at KS
    go_wp2_with fail
    refine KS.out.mono ?_
    rintro e w4 ⟨g, c, fs, rfl, SA, b4⟩
    have f0 := (b4.cell (p := ⟨W2.heap.size, 0, none⟩) hlt3).trans e0
    have f1 := (b4.cell (p := ⟨W2.heap.size, 1, none⟩) hlt3).trans e1
    have f2 := (b4.cell (p := ⟨W2.heap.size, 2, none⟩) hlt3).trans e2
    have hlt4 : W2.heap.size < w4.heap.size := Nat.lt_of_lt_of_le hlt3 b4.size
    have HFl : Hid (fs.length = gn) := by
      show _ = _
      rw [HGn.out]
      exact SA.like.len.symm
    have KB := hide (HP'.out (some ⟨g, 0, none⟩) fs c w4 key al pk (by have := HFl.out; unfold maxLen; omega) hkey SA.entAt SA.entGood)
    rw [HFl.out] at KB
    have HSA := hide SA
    clear SA KS e0 e1 e2 HP'
    go_wp2_with fail
    refine KB.out.mono ?_
    rintro e w5 ⟨p, E1, px, rfl, A5, b5⟩
    have i0 := (b5.cell (p := ⟨W2.heap.size, 0, none⟩) hlt4).trans f0
    have i1 := (b5.cell (p := ⟨W2.heap.size, 1, none⟩) hlt4).trans f1
    have i2 := (b5.cell (p := ⟨W2.heap.size, 2, none⟩) hlt4).trans f2
    have HA5 := hide A5
    have b35 := b4.trans (b5.mono b4.size)
    have HL5 := hide (HL3.out.trans (b35.mono HL3.out.size))
    have KR := hide (HR'.out ea gs ec w5 key al pk (by have := HGn.out; omega) hkey (HEA.out.carry HL5.out) (HEG.out.carry HL5.out))
    rw [← HGn.out] at KR
    clear A5 KB f0 f1 f2 HR'
    go_wp2_with fail
    refine KR.out.mono ?_
    rintro e w6 ⟨q, E2, qx, rfl, A6, b6⟩
    obtain ⟨hE12, hx12, bs, qa, pa, qc, pc, rfl, rfl, hbq, hbp, hbsl⟩ := ans_same HSA.out.like A6 HA5.out
    subst hE12 hx12
    obtain ⟨ps, o5, hpl⟩ := build_own HA5.out
    obtain ⟨qs, o6, hql⟩ := build_own A6
    have hbp6 := hbp.carry b6
    clear A6 HA5 KR hbp i0 i1 i2
    go_wp2_with fail
    refine (sameBytes_any pa qa bs bs pc qc _ (by omega) (by omega) hbp6 hbq).mono ?_
    rintro e w7 ⟨rfl, b7⟩
    rw [eqB_true]
    have b47 := (b5.trans (b6.mono b5.size)).trans (b7.mono (Nat.le_trans b5.size b6.size))
    have b37 := b4.trans (b47.mono b4.size)
    have o7 := (o5.carry b6).carry b7
    have q7 := o6.carry b7
    have p5 : Hid (∀ k, some k = (Value.slice pa bs.length pc).ownBlock → k < w5.heap.size) := fun k hk => (World.ownsRow.lt o5 k hk.symm).2
    have H7 := hide (H3.out.below b37)
    have SA7 := hide (HSA.out.save (Save.of (K := fun _ => False) b47) fun _ _ _ hx => hx)
    clear b5 b6 b7 o5 o6 hbp6 hbq HSA HL5 b35
    have hbs2 : Hid (bs.length = qs.length) := by
      show _ = _
      obtain ⟨_, _, e, -, -, -⟩ := q7.shape
      simp only [Value.slice.injEq] at e
      exact e.2.1
    go_wp2_with fail
    refine (mine_any gw w7 dv _ bv ev w4.heap.size B _ ps ls H7.out.box H7.out.bytesR H7.out.bound o7 (by omega) (by omega)).mono ?_
    rintro e w8 ⟨⟨u, rfl⟩, bv', lb, ss, W8, L8, q1, q2, q3, q4, S8, hbv⟩
    have hgw3 := H3.out.box.lt
    have hbv3 : ∀ k, some k = bv.ownBlock → B ≤ k ∧ k < W3.heap.size := fun k hk => World.ownsRow.lt H3.out.bytesR k hk.symm
    have hdv3 : ∀ k, some k = dv.ownBlock → B ≤ k ∧ k < W3.heap.size := fun k hk => World.ownsRow.lt H3.out.dataR k hk.symm
    have hp7 : ∀ k, some k = (Value.slice pa bs.length pc).ownBlock → w4.heap.size ≤ k := fun k hk => (World.ownsRow.lt o7 k hk.symm).1
    have hgwB := H3.out.gwB
    have hB3 := H3.out.bound
    have s34 := b4.size
    have s47 := b47.size
    have SA8 := hide (SA7.out.save S8 (by
      rintro k k1 k2 (e | e | e)
      · omega
      · have := (hbv3 k e).2; omega
      · have := hp7 k e; omega))
    have Q8 := q7.saveK S8 (by
      rintro k hk hu (e | e | e)
      · subst e; exact H7.out.box.not_u8 hu
      · exact H7.out.bytesR.not_u8 k e hu
      · have := p5.out k e
        have := (World.ownsRow.lt q7 k hk.symm).1
        omega)
    obtain ⟨_, _, e, hbq8, -, -⟩ := Q8.shape
    simp only [Value.slice.injEq] at e
    obtain ⟨rfl, -, rfl⟩ := e
    have D8 : OwnV 29 B w8 dv ds := H7.out.dataR.save S8 (by
      rintro k hk (e | e | e)
      · exact H7.out.dvFree k hk (.inl e)
      · exact H7.out.dvFree k hk (.inr e)
      · have := hp7 k e
        have := (hdv3 k hk).2
        omega)
    have hB8 : B ≤ w8.heap.size := Nat.le_trans H7.out.bound S8.size
    have L78 : Hid (Below B w7 w8) := S8.below H7.out.bound (by
      rintro k hk (e | e | e)
      · omega
      · have := (hbv3 k e).1; omega
      · have := hp7 k e; omega)
    have KM := hide (more_any gw w8 dv _ bv' ev B ds _ qs qc E2 W8 D8 hB8 (by omega) (by omega) hbq8)
    rw [← hbs2.out] at KM
    have Hbv := hide hbv3
    have Hdv := hide hdv3
    have Hp := hide hp7
    clear hbv3 hdv3 hp7
    go_wp2_with fail
    refine KM.out.mono ?_
    rintro e w9 ⟨⟨u7, rfl⟩, hM⟩
    have HM : Hid (MoreAt B gw dv (.slice (some ⟨sb, soff, none⟩) sn sc) bv' ev ds qs E2 w8 w9) := hM
    have S9 : Save (fun k => k = gw ∨ some k = dv.ownBlock) w8 w9 := by
      rcases hM with ⟨-, rfl⟩ | ⟨-, _, _, _, _, _, S9, _⟩
      · exact Save.refl _ _
      · exact S9
    clear hM KM
    have SA9 := hide (SA8.out.save S9 (by
      rintro k k1 k2 (e | e)
      · omega
      · have := (Hdv.out k e).2; omega))
    have L89 : Hid (Below B w8 w9) := S9.below hB8 (by
      rintro k hk (e | e)
      · omega
      · have := (Hdv.out k e).1; omega)
    have L09 : Hid (Below w0.heap.size w0 w9) := by
      have h1 := (H7.out.low.trans L78.out).trans L89.out
      rw [hB] at h1
      exact h1
    have KT := hide (setStill_any W3.heap.size w4.heap.size g c gs fs ea ec w0 w9 (by have := HGn.out; omega) (fun e he => by have := Hbl.out e he; omega) SA9.out (by omega) L09.out (by have := HGn.out; omega) (by have := S8.size; have := S9.size; omega) HEA.out HEG.out)
    rw [← HGn.out] at KT
    go_wp2_with fail
    refine KT.out.mono ?_
    rintro e w10 ⟨rfl, S10⟩
    have HI := hide (H3.out.mined2 b37 o7 s34 s47 (fun k => W3.heap.size ≤ k ∧ k < w4.heap.size) (fun k hk => hk) W8 L8 q1 q2 q3 q4 S8 hbv HM.out (by omega) S10)
    obtain ⟨role', dv', ds', hA⟩ := HI.out
    have HA := hide hA
    clear hA HI S8 S9 S10 W8 L8 q1 q2 q3 q4 o7 H7 HM D8 Q8 KT
    go_wp2
    go_ret
    exact ⟨rfl, _, _, _, _, _, _, _, HA.out⟩

end Go.Proofs.YtgncohclofdhmaaGreat
