import Derived.Test.YtgncohclofdhmaaGreatWa24
namespace Go.Proofs.YtgncohclofdhmaaGreat
open Go.RowKit
set_option linter.unusedVariables false

set_option maxRecDepth 100000 in
set_option maxHeartbeats 600000 in
theorem look_repl (B gw n0 : Nat) (w0 : World) (sa : Option Addr) (sn sc : Nat) (E : Nat → List Ent) (hn0 : n0 ≤ 2000000) (hB : B = w0.heap.size) (hsn : sn ≤ sc) (hscm : sc ≤ maxLen) (hS : SetsAt w0 sa sn E) (HP : ReplKeeps) (HR : RefReplKeeps) : LookOne 9 B gw n0 w0 (.slice sa sn sc) := by
  intro t w role dv bv ev ds ls es ai bi al s key pk ht hs hkey hai1 hai2 hbi1 hbi2 hal1 hal2 h y hy
  obtain ⟨xs, hO, hxl, hrl⟩ := h.data y hy
  have Ba := below_alloc w (.cells #[.int .i64 9, .int .i64 ai, .int .i64 bi, .string s, .string key, .int .i64 al, .bool pk] 33)
  have hbx : (w.alloc (.cells #[.int .i64 9, .int .i64 ai, .int .i64 bi, .string s, .string key, .int .i64 al, .bool pk] 33)).heap[w.heap.size]? = some (.cells #[.int .i64 9, .int .i64 ai, .int .i64 bi, .string s, .string key, .int .i64 al, .bool pk] 33 (0, 0)) := heap_alloc_new w _
  have H1 := hide (h.below Ba)
  have hO1 := hO.carry Ba
  obtain ⟨ya, yc, rfl, hb, hyc, hycm⟩ := hO.shape
  replace hb := hb.carry Ba
  have hlt : w.heap.size < (w.alloc (.cells #[.int .i64 9, .int .i64 ai, .int .i64 bi, .string s, .string key, .int .i64 al, .bool pk] 33)).heap.size := by simp
  have hll : ls.length ≤ 60000000 := by have := h.nl; omega
  have hdl : ds.length ≤ 4000000 := by have := h.nd; omega
  have c0 : (w.alloc (.cells #[.int .i64 9, .int .i64 ai, .int .i64 bi, .string s, .string key, .int .i64 al, .bool pk] 33)).cell? ⟨w.heap.size, 0, none⟩ = some (.int .i64 9) := cell_of_row _ _ 0 _ _ _ hbx
  have c3 : (w.alloc (.cells #[.int .i64 9, .int .i64 ai, .int .i64 bi, .string s, .string key, .int .i64 al, .bool pk] 33)).cell? ⟨w.heap.size, 3, none⟩ = some (.string s) := cell_of_row _ _ 3 _ _ _ hbx
  have c4 : (w.alloc (.cells #[.int .i64 9, .int .i64 ai, .int .i64 bi, .string s, .string key, .int .i64 al, .bool pk] 33)).cell? ⟨w.heap.size, 4, none⟩ = some (.string key) := cell_of_row _ _ 4 _ _ _ hbx
  clear h hO Ba hy hrl
  have HP' := hide HP
  have HR' := hide HR
  have HS := hide hS
  clear HP HR hS
  go_enter Tryz.func12, Tryz.ntmps12
  go_wp2_with fail
  generalize w.alloc (.cells #[.int .i64 9, .int .i64 ai, .int .i64 bi, .string s, .string key, .int .i64 al, .bool pk] 33) = W1 at *
  refine (roomy_any ya xs yc W1 (by omega) hb).mono ?_
  rintro e w2 ⟨g, c, rfl, hR, b2⟩
  obtain ⟨hgl, hg2, hc1, hcm, hbx2, -, -⟩ := hR.parts
  have k0 := (b2.cell (p := ⟨w.heap.size, 0, none⟩) hlt).trans c0
  have k3 := (b2.cell (p := ⟨w.heap.size, 3, none⟩) hlt).trans c3
  have k4 := (b2.cell (p := ⟨w.heap.size, 4, none⟩) hlt).trans c4
  have hlt2 : w.heap.size < w2.heap.size := Nat.lt_of_lt_of_le hlt b2.size
  clear c0 c3 c4
  have kall := (b2.block w.heap.size hlt).trans hbx
  have hb2 := hb.carry b2
  have H2 := hide (H1.out.below b2)
  have KR := hide (replaced_any B gw n0 t w0 w2 role dv bv ev ds ls es sa sn sc E 9 ai bi al s key pk ya xs yc g c hn0 ht hB hsn hscm HS.out HP'.out HR'.out hs hkey hbi1 hbi2 H2.out hxl hb2 hyc hycm hbx2 (by omega) hcm)
  clear HP' HR' HS k3 k4
  have k1 : w2.cell? ⟨w.heap.size, 1, none⟩ = some (.int .i64 ai) := cell_of_row _ _ 1 _ _ _ kall
  have k2 : w2.cell? ⟨w.heap.size, 2, none⟩ = some (.int .i64 bi) := cell_of_row _ _ 2 _ _ _ kall
  have k3 : w2.cell? ⟨w.heap.size, 3, none⟩ = some (.string s) := cell_of_row _ _ 3 _ _ _ kall
  have k4 : w2.cell? ⟨w.heap.size, 4, none⟩ = some (.string key) := cell_of_row _ _ 4 _ _ _ kall
  have k5 : w2.cell? ⟨w.heap.size, 5, none⟩ = some (.int .i64 al) := cell_of_row _ _ 5 _ _ _ kall
  have k6 : w2.cell? ⟨w.heap.size, 6, none⟩ = some (.bool pk) := cell_of_row _ _ 6 _ _ _ kall
  clear kall hbx
  go_wp2_with fail
  refine KR.out.mono ?_
  rintro e w7 ⟨rfl, w5, w6, S, p, ps, bv', lb, ss, qs, E2, b25, o5, hS2, hS5, W6, L6, q1, q2, q3, q4, S6, hbv, hM, hql⟩
  have b15 := b2.trans (b25.mono b2.size)
  have hR5 := hR.below b25
  have H5 := hide (H1.out.below b15)
  have hO5 := hO1.carry b15
  have hg8 : U8 w5 g := by
    obtain ⟨-, -, -, -, -, -, cur, hc, -⟩ := hR5.parts
    exact ⟨cur, hc⟩
  have hng : ∀ k, (k < w2.heap.size ∧ U8 w5 k) → ¬ (k = gw ∨ some k = bv.ownBlock ∨ some k = p.ownBlock) := by
    rintro k ⟨hk, hu⟩ (rfl | e | e)
    · exact H5.out.box.not_u8 hu
    · exact H5.out.bytesR.not_u8 k e hu
    · have := (World.ownsRow.lt o5 k e.symm).1
      omega
  have hR6 := hR5.save S6 (hng g ⟨hg2, hg8⟩)
  have hO6 := hO5.saveK S6 fun k hk hu => hng k ⟨by have := (World.ownsRow.lt hO1 k hk.symm).2; have := b2.size; omega, hu⟩
  have D6 : OwnV 29 B w6 dv ds := H5.out.dataR.save S6 fun k hk hx => by
    rcases hx with e | e | e
    · exact H5.out.dvFree k hk (.inl e)
    · exact H5.out.dvFree k hk (.inr e)
    · have := (World.ownsRow.lt o5 k e.symm).1
      have := (World.ownsRow.lt H1.out.dataR k hk.symm).2
      have := b2.size
      omega
  have HM := hide hM
  have S7 : Save (fun k => k = gw ∨ some k = dv.ownBlock) w6 w7 := by
    rcases hM with ⟨-, rfl⟩ | ⟨-, _, _, _, _, _, S7, _⟩
    · exact Save.refl _ _
    · exact S7
  clear hM
  have hnd : ∀ k, U8 w6 k → ¬ (k = gw ∨ some k = dv.ownBlock) := by
    rintro k hu (rfl | e)
    · exact W6.not_u8 hu
    · obtain ⟨cur, hc⟩ := hu
      exact D6.ne hc (by decide) e
  have hg6 : U8 w6 g := by
    obtain ⟨-, -, -, -, -, -, cur, hc, -⟩ := hR6.parts
    exact ⟨cur, hc⟩
  have hR7 := hR6.save S7 (hnd g hg6)
  have hO7 := hO6.saveK S7 fun k _ hu => hnd k hu
  obtain ⟨_, _, e, hb7, -, -⟩ := hO7.shape
  simp only [Value.slice.injEq, true_and] at e
  obtain ⟨rfl, rfl⟩ := e
  go_wp2_with fail
  refine (still_any W1.heap.size g c xs _ _ w7 (by omega) hR7 hb7).mono ?_
  rintro e w8 ⟨rfl, S8⟩
  have HI := hide (H1.out.mined2 b15 o5 (Nat.le_trans b2.size hS2) hS5 (fun k => k = g) (fun k hk => by subst hk; exact ⟨hgl, by omega⟩) W6 L6 q1 q2 q3 q4 S6 hbv HM.out hql S8)
  obtain ⟨role', dv', ds', hA⟩ := HI.out
  have HA := hide hA
  clear hA HI S6 S8 W6 L6 q1 q2 q3 q4 hR6 hO6 hO5 hR5 o5 H5 hR7 hO7 S7 HM D6 KR H2
  go_wp2
  go_ret
  exact ⟨rfl, _, _, _, _, _, _, _, HA.out⟩

end Go.Proofs.YtgncohclofdhmaaGreat
