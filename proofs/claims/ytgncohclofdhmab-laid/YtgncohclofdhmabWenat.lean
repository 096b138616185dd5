import Derived.Test.YtgncohclofdhmabMread
import Derived.Test.YtgncohclofdhmabWnum
import Derived.Test.YtgncohclofdhmabWstr
import Derived.Test.YtgncohclofdhmabWbd
import Derived.Test.YtgncohclofdhmabWuna
import Derived.Test.YtgncohclofdhmabMall
import Derived.Test.YtgncohclofdhmabWsame2
import Derived.Deep.QuietTactic
import Derived.BigQuiet
import Derived.Deep.DeepCutAuto
namespace Go.Proofs.Ytgncohclofdhmab
open Go.RowKit

theorem strOf_self (p : ByteArray) : strOf p.data.toList = p := by
  unfold strOf
  apply ByteArray.ext
  simp

set_option maxRecDepth 100000 in
set_option maxHeartbeats 4000000 in
theorem entryAt_any (bk off : Nat) (xs : List UInt8) (cap : Nat) (w : World) (p key : ByteArray) (ab : Option Addr) (b : List UInt8) (bc al n0 pd L m : Nat) (pk : Bool) (F : EntFacts xs pk al n0 p.data.toList b pd L m) (hpost : n0 + 7 + p.size + pd + L < xs.length) (hl : xs.length ≤ 100000) (hcap : xs.length ≤ cap) (hcm : cap ≤ maxLen)
    (hp : p.size ≤ 40) (hbl : b.length ≤ 600) (hal : 1 ≤ al) (hal2 : al ≤ 16) (hb : Bts w (some ⟨bk, off, none⟩) xs) (hbb : Bts w ab b) :
    Calls Try.prog 21 #[.slice (some ⟨bk, off, none⟩) xs.length cap, .int .i64 n0, .agg #[.string p, .slice ab b.length bc], .agg #[.string key, .int .i64 al, .bool pk]] w
      fun e w' => e = .returned (.int .i64 ((n0 + 7 + p.size + pd + L : Nat) : Int)) ∧ Below w.heap.size w w' := by
  unfold maxLen at hcm
  have HPl := hide (strLen p)
  have HF := hide F
  clear F
  have k0 : ((w.alloc (.cells #[.string p, .slice ab b.length bc] 30)).alloc (.cells #[.string key, .int .i64 al, .bool pk] 24)).cell? ⟨w.heap.size, 0, none⟩ = some (.string p) := cell_alloc _ (cell_new w _ _ 0)
  have k1 : ((w.alloc (.cells #[.string p, .slice ab b.length bc] 30)).alloc (.cells #[.string key, .int .i64 al, .bool pk] 24)).cell? ⟨w.heap.size, 1, none⟩ = some (.slice ab b.length bc) := cell_alloc _ (cell_new w _ _ 1)
  have esz : (w.alloc (.cells #[.string p, .slice ab b.length bc] 30)).heap.size = w.heap.size + 1 := by simp
  have k2 : ((w.alloc (.cells #[.string p, .slice ab b.length bc] 30)).alloc (.cells #[.string key, .int .i64 al, .bool pk] 24)).cell? ⟨w.heap.size + 1, 1, none⟩ = some (.int .i64 al) := by
    have h := cell_new (w.alloc (.cells #[.string p, .slice ab b.length bc] 30)) #[.string key, .int .i64 al, .bool pk] 24 1
    rw [esz] at h
    exact h
  have k3 : ((w.alloc (.cells #[.string p, .slice ab b.length bc] 30)).alloc (.cells #[.string key, .int .i64 al, .bool pk] 24)).cell? ⟨w.heap.size + 1, 2, none⟩ = some (.bool pk) := by
    have h := cell_new (w.alloc (.cells #[.string p, .slice ab b.length bc] 30)) #[.string key, .int .i64 al, .bool pk] 24 2
    rw [esz] at h
    exact h
  have bw := ((Below.refl w.heap.size w).alloc (Nat.le_refl _) (.cells #[.string p, .slice ab b.length bc] 30)).alloc (by simp) (.cells #[.string key, .int .i64 al, .bool pk] 24)
  have hb0 := hb.carry bw
  have hbb0 := hbb.carry bw
  clear esz hb hbb
  go_enter Try.func21, Try.ntmps21
  go_upto_region 2 with fail
  generalize (w.alloc (.cells #[.string p, .slice ab b.length bc] 30)).alloc (.cells #[.string key, .int .i64 al, .bool pk] 24) = W0 at *
  have HN1 : Hid (∀ k, Calls Try.prog 20 #[.slice (some ⟨bk, off, none⟩) xs.length cap, .int .i64 n0, .int .i64 1] (W0.drewN k) fun e w' => e = .returned (.int .i64 (p.size : Nat)) ∧ w' = W0.drewN k) := by
    intro k
    exact number_is _ xs cap _ _ _ n0 1 p.size rfl rfl (by rw [HF.out.f1, strLen]) (by omega) (by omega) (by omega) (hb0.carry (below_drewN (Below.refl _ _) k))
  have HCv : Hid (∀ k n c, n = p.size → (convert 25 9 (.slice (some ⟨bk, off + (n0 + 1), none⟩) n c)).run Try.prog (W0.drewN k) = .ok (.string p) (W0.drewN k)) := by
    intro k n c hn
    have h1 := hb0.sub (n0 + 1) p.size
    have h2 := HF.out.f6
    rw [strLen] at h2
    rw [h2] at h1
    have h3 := run_back p.data.toList _ c (W0.drewN k) (h1.carry (below_drewN (Below.refl _ _) k))
    rw [strLen, strOf_self] at h3
    rw [hn]
    exact h3
  have hcv := HCv.out
  have e1 : (n0 : Int) + 1 + (p.size : Int) ≤ (xs.length : Int) := by omega
  have e2 : n0 + 1 < cap := by omega
  have e3 : ¬ cap = n0 + 1 := by omega
  have e4 : decide ((xs.length : Int) < (n0 : Int) + 1 + (p.size : Int)) = false := decide_eq_false (by omega)
  have e5 : decide (xs.length < n0 + 1 + p.size) = false := decide_eq_false (by omega)
  have e6 : (n0 : Int) + 1 ≤ (n0 : Int) + 1 + (p.size : Int) := by omega
  have e7 : (n0 : Int) + 1 + (p.size : Int) ≤ (cap : Int) := by omega
  go_quiet ((go_at_call 20; exact Calls.quiet_of_same (unhide HN1 _)))
  have hb1 := hb0.carry (below_drewN (Below.refl W0.heap.size W0) nq)
  have hbb1 := hbb0.carry (below_drewN (Below.refl W0.heap.size W0) nq)
  have bw1 := below_drewN bw nq
  have c0 : (W0.drewN nq).cell? ⟨w.heap.size, 0, none⟩ = some (.string p) := k0
  have c1 : (W0.drewN nq).cell? ⟨w.heap.size, 1, none⟩ = some (.slice ab b.length bc) := k1
  have c2 : (W0.drewN nq).cell? ⟨w.heap.size + 1, 1, none⟩ = some (.int .i64 al) := k2
  have c3 : (W0.drewN nq).cell? ⟨w.heap.size + 1, 2, none⟩ = some (.bool pk) := k3
  generalize W0.drewN nq = W1 at *
  clear hcv HCv HN1 k0 k1 k2 k3 hb0 hbb0 bw e1 e2 e3 e4 e5 e6 e7
  have f2 := HF.out.f2
  have f3 := HF.out.f3
  have f4 := HF.out.f4
  have f5 := HF.out.f5
  rw [strLen] at f2 f3 f4 f5
  have F3 := hide f3
  clear f3
  go_wp2_with fail
  refine (number_is _ xs cap _ _ _ (n0 + 1 + p.size) 1 m (by omega) rfl f2 (by omega) (by omega) (by omega) hb1).mono ?_
  rintro e W1 ⟨rfl, rfl⟩
  go_wp2_with fail
  refine (number_is _ xs cap _ _ _ (n0 + 1 + p.size + 3) 2 L (by omega) rfl f4 (by omega) (by omega) (by omega) hb1).mono ?_
  rintro e W1 ⟨rfl, rfl⟩
  go_wp2_with fail
  refine (number_is _ xs cap _ _ _ (n0 + 1 + p.size + 5) 1 pd (by omega) rfl f5 (by omega) (by omega) (by omega) hb1).mono ?_
  rintro e W1 ⟨rfl, rfl⟩
  clear f2 f4 f5
  have HN3 : Hid (∀ k, Calls Try.prog 20 #[.slice (some ⟨bk, off, none⟩) xs.length cap, .int .i64 ((n0 : Int) + 1 + (p.size : Int) + 1), .int .i64 2] (W1.drewN k) fun e w' => e = .returned (.int .i64 (b.length : Nat)) ∧ w' = W1.drewN k) := by
    intro k
    exact number_is _ xs cap _ _ _ (n0 + 1 + p.size + 1) 2 b.length (by omega) rfl F3.out (by omega) (by omega) (by omega) (hb1.carry (below_drewN (Below.refl _ _) k))
  have e1 : decide ((L : Int) < 0) = false := decide_eq_false (by omega)
  have e2 : decide ((pd : Int) < 0) = false := decide_eq_false (by omega)
  have e3 : decide ((m : Int) < 0) = false := decide_eq_false (by omega)
  go_upto_region 8 with fail
  go_quiet ((go_at_call 20; exact Calls.quiet_of_same (unhide HN3 _)))
  have hb2 := hb1.carry (below_drewN (Below.refl W1.heap.size W1) nq)
  have hbb2 := hbb1.carry (below_drewN (Below.refl W1.heap.size W1) nq)
  have bw2 := below_drewN bw1 nq
  have d1 : (W1.drewN nq).cell? ⟨w.heap.size, 1, none⟩ = some (.slice ab b.length bc) := c1
  have d2 : (W1.drewN nq).cell? ⟨w.heap.size + 1, 1, none⟩ = some (.int .i64 al) := c2
  have d3 : (W1.drewN nq).cell? ⟨w.heap.size + 1, 2, none⟩ = some (.bool pk) := c3
  generalize W1.drewN nq = W2 at *
  clear HN3 c0 c1 c2 c3 hb1 hbb1 bw1 e1 e2 e3
  have e8 : ¬ ((xs.length : Int) < (n0 : Int) + 1 + (p.size : Int) + 6 + (pd : Int) + (L : Int)) := by omega
  have h8 := HF.out.f8
  rw [strLen] at h8
  have H8 := hide h8
  clear h8
  go_wp2
  go_loop [13] (fun i => ∃ j : Nat, j ≤ pd ∧ i = .int .i64 j) (fun i => pd - (intOf i).toNat)
  case atStart => exact ⟨0, by omega, rfl⟩
  case round =>
    obtain ⟨j, hj, rfl⟩ := hrel
    by_cases hjp : j < pd
    · obtain ⟨b', off', e', hc⟩ := hb2 (n0 + 1 + p.size + 6 + j) (by omega)
      simp only [Option.some.injEq, Addr.mk.injEq, and_true] at e'
      obtain ⟨rfl, rfl⟩ := e'
      have hz := H8.out j hjp
      rw [show n0 + 1 + p.size + 6 + j = n0 + 7 + p.size + j from by omega, hz, show n0 + 7 + p.size + j = n0 + 1 + p.size + 6 + j from by omega] at hc
      have hjl : (n0 : Int) + 1 + (p.size : Int) + 6 + (j : Int) < (xs.length : Int) := by omega
      go_wp2
      go_round
      case rel => exact ⟨j + 1, by omega, by go_num⟩
      case measure => simp [intOf]; omega
    · obtain rfl : j = pd := by omega
      have f7 := HF.out.f7
      rw [strLen] at f7
      have hlb := hb2.sub (n0 + 7 + p.size + j) L
      rw [f7, show n0 + 7 + p.size + j = n0 + 1 + p.size + 6 + j from by omega] at hlb
      have hLl := HF.out.f12
      have e9 : n0 + 1 + p.size + 6 + j < cap := by omega
      have e10 : ¬ cap = n0 + 1 + p.size + 6 + j := by omega
      have e11 : (n0 : Int) + 1 + (p.size : Int) + 6 + (j : Int) ≤ (n0 : Int) + 1 + (p.size : Int) + 6 + (j : Int) + (L : Int) := by omega
      have e12 : (n0 : Int) + 1 + (p.size : Int) + 6 + (j : Int) + (L : Int) ≤ (cap : Int) := by omega
      by_cases hm : m = 0
      · obtain ⟨g1, g2, g3⟩ := HF.out.f10 hm
        rw [g3] at hlb hLl
        have hmb : ((m : Int) == 0) = true := by simp [hm]
        have HSm : Hid (∀ n c, n = L → Calls Try.prog 12 #[.slice (some ⟨bk, off + (n0 + 1 + p.size + 6 + j), none⟩) n c, .slice ab b.length bc] W2 fun e w' => e = .returned (.bool true) ∧ Below W2.heap.size W2 w') := by
          intro n c hn
          have h := same_any (some ⟨bk, off + (n0 + 1 + p.size + 6 + j), none⟩) ab b b c bc W2 (by omega) (by omega) hlb hbb2
          rw [eqB_true] at h
          rw [hn, hLl]
          exact h
        have hmod : (((n0 : Int) + 1 + (p.size : Int) + 6 + (j : Int)) % (al : Int) != 0) = false := by
          rw [strLen] at g1
          have : (((n0 + 7 + p.size + j) % al : Nat) : Int) = ((n0 : Int) + 1 + (p.size : Int) + 6 + (j : Int)) % (al : Int) := by
            rw [Int.natCast_emod]
            congr 1
            omega
          rw [bne_eq_false_iff_eq, ← this, g1]
          rfl
        have hge : decide (al ≤ j) = false := decide_eq_false (by omega)
        clear g1 g2 g3 hm hlb
        go_wp2_with fail
        refine (HSm.out _ _ (by omega)).mono ?_
        rintro e W3 ⟨rfl, b3⟩
        have q2 := (b3.cell (p := ⟨w.heap.size + 1, 1, none⟩) (World.block_lt_of_cell? _ _ d2)).trans d2
        have bw3 := bw2.trans (b3.mono bw2.size)
        clear HSm b3 d1 d2 d3
        go_wp2
        go_ret
        exact ⟨ret_int (by omega), bw3⟩
      · obtain ⟨g1, g2, g3, g4, g5⟩ := HF.out.f11 hm
        subst g1
        subst g2
        subst g3
        rw [g4] at hlb hLl
        have HUn : Hid (∀ n c, n = L → L ≤ c → c ≤ maxLen → Calls Try.prog 28 #[.slice (some ⟨bk, off + (n0 + 1 + p.size + 6), none⟩) n c] W2 fun e w' => ∃ v, e = .returned (.tuple #[v, .int .i64 0]) ∧ Own W2.heap.size w' v b ∧ Below W2.heap.size W2 w') := by
          intro n c hn h1 h2
          have h := Unpack_any (some ⟨bk, off + (n0 + 1 + p.size + 6), none⟩) (packOf b) c W2 (by omega) (by omega) h2 hlb
          rw [← hLl] at h
          rw [hn]
          refine h.mono ?_
          rintro e w' ⟨v, h3, h4, h5⟩
          rw [unOf_packOf b hbl] at h3 h4
          exact ⟨v, h3, h4, h5⟩
        have hge : decide (b.length ≤ L) = false := decide_eq_false (by omega)
        clear hm hlb g4
        go_wp2_with fail
        refine (HUn.out _ _ (by omega) (by omega) (by unfold maxLen; omega)).mono ?_
        rintro e W3 ⟨v3, rfl, o3, b3⟩
        obtain ⟨a3, k3, rfl, h3, -, -⟩ := o3.shape
        have q1 := (b3.cell (p := ⟨w.heap.size, 1, none⟩) (World.block_lt_of_cell? _ _ d1)).trans d1
        have q3 := (b3.cell (p := ⟨w.heap.size + 1, 2, none⟩) (World.block_lt_of_cell? _ _ d3)).trans d3
        have bw3 := bw2.trans (b3.mono bw2.size)
        have hbb3 := hbb2.carry b3
        clear HUn b3 d1 d2 d3 o3
        go_wp2_with fail
        refine (same_any a3 ab b b k3 bc W3 (by omega) (by omega) h3 hbb3).mono ?_
        rintro e W4 ⟨rfl, b4⟩
        rw [eqB_true]
        have r1 := (b4.cell (p := ⟨w.heap.size, 1, none⟩) (World.block_lt_of_cell? _ _ q1)).trans q1
        have r3 := (b4.cell (p := ⟨w.heap.size + 1, 2, none⟩) (World.block_lt_of_cell? _ _ q3)).trans q3
        have bw4 := bw3.trans (b4.mono bw3.size)
        clear b4 q1 q3 h3 hbb3
        go_wp2
        go_ret
        exact ⟨ret_int (by omega), bw4⟩

end Go.Proofs.Ytgncohclofdhmab
