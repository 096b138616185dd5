import Derived.Test.YtgncohclofdhmaaWedit2
import Derived.Deep.RegionWith
import Derived.BigRegion
import Derived.Deep.DeepCutAuto
namespace Go.Proofs.Ytgncohclofdhmaa
open Go.RowKit

theorem repl_any {key : ByteArray} {p : List UInt8} {xp : ByteArray} {xb : List UInt8} {B : Nat} {w : World} {v : Value} {E : Nat} {q : ByteArray} (h : ReplAns key p xp xb B w v E q) : ReplAns key p xp xb 0 w v E q := by
  rcases h with h | h | ⟨h1, l, al, pk, h2, fs, h3, h4⟩
  · exact .inl h
  · exact .inr (.inl h)
  · exact .inr (.inr ⟨h1, l, al, pk, h2, fs, h3, ans_mono h4 (Nat.zero_le _)⟩)

set_option maxRecDepth 100000 in
set_option maxHeartbeats 4000000 in
theorem Replaces_walk (HV : ReplKeeps) (a : Option Addr) (p : List UInt8) (cap : Nat) (w : World) (key xp : ByteArray) (xa : Option Addr) (xb : List UInt8) (xc : Nat) (hm : p.length ≤ 140737488351232) (hks : key.size ≤ maxLen) (hcap : p.length ≤ cap) (hcm : cap ≤ maxLen) (hb : Bts w a p)
    (hxp : xp.size ≤ maxLen) (hxb : Bts w xa xb) (hxl : xb.length ≤ 140737488351232) (hxc : xb.length ≤ xc) (hxm : xc ≤ maxLen) :
    Calls Try.prog 10 #[.slice a p.length cap, .agg #[.string xp, .slice xa xb.length xc], .string key] w fun e w' => e = .returned (.bool true) ∧ Below w.heap.size w w' := by
  have B0 := (Below.refl w.heap.size w).alloc (Nat.le_refl _) (.cells #[.string xp, .slice xa xb.length xc] 50)
  have ex : (w.alloc (.cells #[.string xp, .slice xa xb.length xc] 50)).heap[w.heap.size]? = some (.cells #[.string xp, .slice xa xb.length xc] 50 (0, 0)) := heap_alloc_new w _
  have hsx : w.heap.size < (w.alloc (.cells #[.string xp, .slice xa xb.length xc] 50)).heap.size := by simp
  have hb1 := hb.carry B0
  have hx1 := hxb.carry B0
  obtain ⟨n, HN⟩ : ∃ n, Hid (n = p.length) := ⟨_, rfl⟩
  obtain ⟨m, HM⟩ : ∃ m, Hid (m = xb.length) := ⟨_, rfl⟩
  rw [← HM.out] at B0 ex hsx hb1 hx1
  rw [← HN.out, ← HM.out]
  go_enter Try.func10, Try.ntmps10
  go_upto_region 1 with fail
  generalize w.alloc (.cells #[.string xp, .slice xa m xc] 50) = W1 at *
  have c0 : W1.cell? ⟨w.heap.size, 0, none⟩ = some (.string xp) := cell_of_row _ _ 0 _ _ _ ex
  have c1 : W1.cell? ⟨w.heap.size, 1, none⟩ = some (.slice xa m xc) := cell_of_row _ _ 1 _ _ _ ex
  have c0w := c0
  have c1w := c1
  have KO : Hid (∀ W v, Below W1.heap.size W1 W → (v = .slice a n cap ∨ v = .slice xa m xc) → Calls Try.prog 15 #[v] W fun e w' => ∃ u, e = .returned u ∧ (v = .slice a n cap → Own W.heap.size w' u p) ∧ (v = .slice xa m xc → Own W.heap.size w' u xb) ∧ Below W.heap.size W w') := by
    intro W v hW hv
    by_cases hA : v = .slice a n cap
    · have h := own_any a p cap W (by omega) (hb1.carry hW)
      rw [← HN.out] at h
      rw [hA]
      refine h.mono ?_
      rintro e w' ⟨u, h1, h2, h3⟩
      refine ⟨u, h1, fun _ => h2, ?_, h3⟩
      intro e2
      have h4 := own_any xa xb xc W (by omega) (hx1.carry hW)
      simp only [Value.slice.injEq] at e2
      obtain ⟨rfl, e3, rfl⟩ := e2
      have : p = xb := (hb1.carry hW).only (hx1.carry hW) (by rw [← HN.out, e3, HM.out])
      rw [← this]
      exact h2
    · have hB : v = .slice xa m xc := by
        rcases hv with h | h
        · exact absurd h hA
        · exact h
      have h := own_any xa xb xc W (by omega) (hx1.carry hW)
      rw [← HM.out] at h
      rw [hB]
      refine h.mono ?_
      rintro e w' ⟨u, h1, h2, h3⟩
      exact ⟨u, h1, fun e2 => absurd (hB.trans e2) hA, fun _ => h2, h3⟩
  have KR := hide (fun W (hW : Below W1.heap.size W1 W) => refReplace_any a p cap W key xp xa xb xc (by omega) hks hcap hcm (hb1.carry hW) hxp (hx1.carry hW) hxc hxm)
  rw [← HN.out, ← HM.out] at KR
  go_cut [7, 8, 9] (fun s7 s8 s9 wx => ∃ (v : Value) (E : Nat) (q : ByteArray), s7 = v ∧ s8 = .int .i64 (E : Int) ∧ s9 = .string q ∧ Hid (ReplAns key p xp xb 0 wx v E q) ∧ Below W1.heap.size W1 wx)
  case first =>
    go_region_with (first
      | (go_at_call 15; refine (unhide KO _ _ (by first | exact hBc | exact hBc.drew | exact hBc.drew.drew | exact Below.refl _ _ | exact (Below.refl _ _).drew | exact (Below.refl _ _).drew.drew) (by first | exact .inl rfl | exact .inr rfl)).mono ?_; rintro e wN ⟨u, rfl, hA, hB, bN⟩; have hBc : Below W1.heap.size W1 wN := (by first | exact bN | exact (Below.refl _ _).drew.trans bN | exact (Below.refl _ _).drew.drew.trans bN | exact hBc.trans (bN.mono hBc.size) | exact hBc.drew.trans (bN.mono hBc.size)); (first | (have oA := hA rfl; obtain ⟨ua, uca, rfl, hbA, hcA, hmA⟩ := oA.shape; (try have hbB := hbB.carry bN); clear hA hB oA) | (have oB := hB rfl; obtain ⟨ub, ucb, rfl, hbB, hcB, hmB⟩ := oB.shape; (try have hbA := hbA.carry bN); clear hA hB oB)); have c0 := (hBc.cell (p := ⟨w.heap.size, 0, none⟩) hsx).trans c0w; have c1 := (hBc.cell (p := ⟨w.heap.size, 1, none⟩) hsx).trans c1w)
      | (go_at_call 35; refine (HV ua p uca _ key xp ub xb ucb (by omega) hks hcA hmA (by exact hbA) hxp (by exact hbB) hcB hmB).mono ?_; rintro e w5 ⟨v5, E5, q5, rfl, A5, b5⟩))
    all_goals (go_wp2_with fail; go_meet)
    all_goals exact ⟨v5, E5, q5, rfl, rfl, rfl, hide (repl_any A5), by first | exact hBc.trans (b5.mono hBc.size) | exact hBc.drew.trans (b5.mono hBc.size)⟩
  case rest =>
    obtain ⟨v, E, q, rfl, rfl, rfl, HA, hbl⟩ := hcut
    have d0 := (hbl.cell (p := ⟨w.heap.size, 0, none⟩) hsx).trans c0
    have d1 := (hbl.cell (p := ⟨w.heap.size, 1, none⟩) hsx).trans c1
    have B2 := B0.trans (hbl.mono B0.size)
    go_wp2_with fail
    refine (KR.out _ hbl).mono ?_
    rintro e w4 ⟨v4, E4, q4, rfl, A4, b4⟩
    obtain ⟨rfl, rfl, xs, x, x', k, k', rfl, rfl, t1, t2, t3⟩ := repl_same HA.out A4
    have T1 := t1.carry b4
    have B4 := B2.trans (b4.mono B2.size)
    clear HA A4 KR KO t1 d0 d1
    go_wp2_with fail
    refine (sameBytes_any x x' xs xs k k' w4 (by omega) (by omega) T1 t2).mono ?_
    rintro e w5 ⟨rfl, b5⟩
    rw [eqB_true]
    have B5 := B4.trans (b5.mono B4.size)
    go_wp2
    go_ret
    exact ⟨rfl, B5⟩

end Go.Proofs.Ytgncohclofdhmaa
