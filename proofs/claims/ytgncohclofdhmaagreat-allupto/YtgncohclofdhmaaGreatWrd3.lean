import Derived.Test.YtgncohclofdhmaaGreatWrda
import Derived.Deep.DeepCutAuto
namespace Go.Proofs.YtgncohclofdhmaaGreat
open Go.RowKit

/-- The entry's number of bytes, its parts named. -/
theorem dec_parts (r : List UInt8) : decMeth r 0 = (r.getD (1 + numAt r 0 1) 0).toNat ∧ decLaid r 0 = numAt r (1 + numAt r 0 1 + 3) 2 ∧ decPad r 0 = (r.getD (1 + numAt r 0 1 + 5) 0).toNat ∧ decAt r 0 = 1 + numAt r 0 1 + 6 + decPad r 0 ∧ decNext r 0 = 1 + numAt r 0 1 + 6 + decPad r 0 + decLaid r 0 := by
  refine ⟨?_, ?_, ?_, ?_, ?_⟩
  · unfold decMeth
    rw [numAt_byte, Nat.zero_add]
  · unfold decLaid
    rw [Nat.zero_add]
  · unfold decPad
    rw [numAt_byte, Nat.zero_add]
  · unfold decAt
    omega
  · unfold decNext decAt
    omega

theorem rd_bad1 {r : List UInt8} (h : r.length < numAt r 0 1 + 7) : rdBad r = true := by unfold rdBad; simp [h]
theorem rd_bad2 {r : List UInt8} (h : r.length < decNext r 0) : rdBad r = true := by unfold rdBad; simp [h]

/-- What reading the body answers. -/
def rdAns (r : List UInt8) : List UInt8 × Nat := if decMeth r 0 = 1 then unOf (decBytes r 0) else (decBytes r 0, 0)

theorem rd_ans {r : List UInt8} (h1 : numAt r 0 1 + 7 ≤ r.length) (h2 : decNext r 0 ≤ r.length) : rdBad r = decide ((rdAns r).2 ≠ 0) ∧ rdBody r = (rdAns r).1 := by
  have e1 : decide (r.length < numAt r 0 1 + 7) = false := decide_eq_false (by omega)
  have e2 : decide (r.length < decNext r 0) = false := decide_eq_false (by omega)
  unfold rdBad rdBody rdAns
  rw [e1, e2, Bool.false_or, Bool.false_or]
  by_cases h : decMeth r 0 = 1
  · rw [if_pos h, if_pos h]
    simp [h]
  · rw [if_neg h, if_neg h]
    simp [h]

set_option maxRecDepth 100000 in
set_option maxHeartbeats 4000000 in
theorem readEntry_keeps : EntKeeps := by
  intro a r cap w hl hcap hcm hb
  unfold maxLen at hcm
  have sr : EBox (w.alloc (.cells #[.string ⟨#[]⟩, .slice none 0 0] 46)) w.heap.size ⟨#[]⟩ (.slice none 0 0) := heap_alloc_new w _
  have B1 := (Below.refl w.heap.size w).alloc (Nat.le_refl _) (.cells #[.string ⟨#[]⟩, .slice none 0 0] 46)
  have hb1 := hb.carry B1
  have sz1 : w.heap.size + 1 = (w.alloc (.cells #[.string ⟨#[]⟩, .slice none 0 0] 46)).heap.size := by simp
  clear hb
  go_enter Tryz.func106, Tryz.ntmps106
  go_upto_region 1 with fail
  generalize w.alloc (.cells #[.string ⟨#[]⟩, .slice none 0 0] 46) = W1 at *
  have d0 := sr.c0
  have d1 := sr.c1
  have f0 := sr.fr 0
  have f1 := sr.fr 1
  have HBad : Hid (rdBad r = true → ∀ w', EntAns r w w' (.returned (.tuple #[.agg #[.string ⟨#[]⟩, .slice none 0 0], .int .i64 0]))) := fun h _ => .inl ⟨h, rfl⟩
  have X := sr.set ⟨#[]⟩ (.slice none 0 0)
  have BB := (B1.setCell (p := ⟨w.heap.size, 0, none⟩) (Nat.le_refl _) (.string ⟨#[]⟩)).setCell (p := ⟨w.heap.size, 1, none⟩) (Nat.le_refl _) (.slice none 0 0)
  by_cases h0 : r.length = 0
  · have HA := hide (HBad.out (rd_bad1 (by omega)))
    have h0b : ((r.length : Int) == 0) = true := by rw [beq_iff_eq]; omega
    clear h0
    go_wp2
    refine bodyPost_ret (v := .tuple #[.agg #[.string ⟨#[]⟩, .slice none 0 0], .int .i64 0]) ?_ rfl ⟨HA.out _, BB⟩
    have k0 := X.c0
    have k1 := X.c1
    rw [results_fst rfl]
    go_simp
  · have h0b : ((r.length : Int) == 0) = false := by rw [beq_eq_false_iff_ne]; omega
    obtain ⟨b0, off, rfl, c0⟩ := hb1 0 (by omega)
    obtain ⟨q1, q2, q3, q4, q5⟩ := dec_parts r
    have HP : Hid (decPath r 0 = (r.drop 1).take (numAt r 0 1)) := rfl
    have hn : (r.getD 0 0).toNat = numAt r 0 1 := (numAt_byte r 0).symm
    have hn2 := (r.getD 0 0).toNat_lt
    have HB1 := hide (fun h => HBad.out (rd_bad1 (r := r) h))
    have HB2 := hide (fun h => HBad.out (rd_bad2 (r := r) h))
    have HB3 := hide (fun h h' => rd_ans (r := r) h h')
    have HD : Hid (decBytes r 0 = (r.drop (decAt r 0)).take (decLaid r 0)) := rfl
    rw [hn, Nat.add_zero] at c0
    rw [hn] at hn2
    clear hn
    generalize numAt r 0 1 = n at *
    have i0 : (0 : Int) < (r.length : Int) := by omega
    by_cases h1 : r.length < n + 7
    · have HA := hide (HB1.out h1)
      have h1i : (r.length : Int) < 1 + (n : Int) + 6 := by omega
      have h1b : decide ((r.length : Int) < 1 + (n : Int) + 6) = true := decide_eq_true h1i
      go_wp2
      refine bodyPost_ret (v := .tuple #[.agg #[.string ⟨#[]⟩, .slice none 0 0], .int .i64 0]) ?_ rfl ⟨HA.out _, BB⟩
      have k0 := X.c0
      have k1 := X.c1
      rw [results_fst rfl]
      go_simp
    · have h1i : ¬ (r.length : Int) < 1 + (n : Int) + 6 := by omega
      have hS : Hid (∀ (k' n' c' : Nat), k' = 1 + n + 3 → n' = 2 → Calls Tryz.prog 105 #[.slice (some ⟨b0, off + k', none⟩) n' c'] W1 (fun e w' => e = .returned (.int .i64 (decLaid r 0 : Nat)) ∧ w' = W1)) := by
        intro k' n' c' hk hn
        rw [q2, hk]
        exact pnum_at b0 off (1 + n + 3) 2 r n' c' W1 hn (by omega) (by omega) hb1
      have hS2 : decLaid r 0 < 65536 := by rw [q2]; exact numAt_lt r (1 + n + 3) 2
      obtain ⟨b0', off', e, c1⟩ := hb1 (1 + n) (by omega)
      cases e
      obtain ⟨b0', off', e, c2⟩ := hb1 (1 + n + 5) (by omega)
      cases e
      rw [← q1] at c1
      rw [← q3] at c2
      have hm2 := (r.getD (1 + n) 0).toNat_lt
      have hp2 := (r.getD (1 + n + 5) 0).toNat_lt
      rw [← q1] at hm2
      rw [← q3] at hp2
      clear q1 q2 q3
      have HR : Hid (rdAns r = if decMeth r 0 = 1 then unOf (decBytes r 0) else (decBytes r 0, 0)) := rfl
      rw [q4] at HD
      rw [q5] at HB2 HB3
      have HQ5 := hide q5
      clear q4 q5
      generalize decLaid r 0 = S at *
      generalize decPad r 0 = pd at *
      generalize decMeth r 0 = m at *
      have i1 : ((1 : Int) + (n : Int) + 3) ≤ 1 + (n : Int) + 5 := by omega
      have i2 : ((1 : Int) + (n : Int) + 5) ≤ (cap : Int) := by omega
      have i3 : 1 + n + 3 < cap := by omega
      have i4 : ¬ cap = 1 + n + 3 := by omega
      go_wp2_with fail
      refine (hS.out _ _ _ (by omega) (by omega)).mono ?_
      rintro e w' ⟨rfl, rfl⟩
      clear hS i1 i2 i3 i4
      have i5 : (1 : Int) + (n : Int) + 5 < (r.length : Int) := by omega
      by_cases h2 : r.length < 1 + n + 6 + pd + S
      · have HA := hide (HB2.out h2)
        have h2b : decide ((r.length : Int) < 1 + (n : Int) + 6 + (pd : Int) + (S : Int)) = true := decide_eq_true (by omega)
        go_wp2
        refine bodyPost_ret (v := .tuple #[.agg #[.string ⟨#[]⟩, .slice none 0 0], .int .i64 0]) ?_ rfl ⟨HA.out _, BB⟩
        have k0 := X.c0
        have k1 := X.c1
        rw [results_fst rfl]
        go_simp
      · have h2b : decide ((r.length : Int) < 1 + (n : Int) + 6 + (pd : Int) + (S : Int)) = false := decide_eq_false (by omega)
        obtain ⟨HZ1, HZ2⟩ := HB3.out (by omega) (by omega)
        have HZ := hide HZ1
        have HY := hide HZ2
        clear HZ1 HZ2 HB1 HB2 HB3
        have HLl : Hid ((decBytes r 0).length = S) := by
          show _ = _
          rw [HD.out, List.length_take, List.length_drop]
          omega
        have HRB : Hid (∀ W, Below w'.heap.size w' W → ∀ (ad : Option Addr) (n' c' : Nat), n' = S → S ≤ c' → c' ≤ maxLen → ((∃ k' : Nat, ad = some ⟨b0, off + k', none⟩ ∧ k' = 1 + n + 6 + pd) ∨ S = 0) → Calls Tryz.prog 107 #[.int .i64 m, .slice ad n' c'] W (fun e w2 => Answers W w2 e (rdAns r))) := by
          intro W hW ad n' c' hn hc hc2 had
          have hB : Bts W ad (decBytes r 0) := by
            rcases had with h | h
            · obtain ⟨k', rfl, rfl⟩ := h
              rw [HD.out]
              exact (hb1.carry hW).sub _ _
            · have : decBytes r 0 = [] := List.eq_nil_of_length_eq_zero (by rw [HLl.out]; exact h)
              rw [this]
              exact Bts.nil _ _
          have h := readBody_any m ad (decBytes r 0) c' W (by omega) (by rw [HLl.out]; omega) (by rw [HLl.out]; exact hc) hc2 hB
          rw [HLl.out] at h
          rw [hn, HR.out]
          exact h
        obtain ⟨P, HPp⟩ : ∃ P, Hid (P = strOf (decPath r 0)) := ⟨_, rfl⟩
        have HGood : Hid ((rdAns r).2 = 0 → ∀ w2 v, Own w.heap.size w2 v (rdAns r).1 → EntAns r w w2 (.returned (.tuple #[.agg #[.string P, v], .int .i64 ((1 + n + 6 + pd + S : Nat) : Int)]))) := by
          intro h w2 v ho
          refine .inr ⟨by rw [HZ.out]; simp [h], v, by rw [HY.out]; exact ho, ?_⟩
          rw [HPp.out, HQ5.out]
        have HBadE : Hid ((rdAns r).2 ≠ 0 → ∀ w2, EntAns r w w2 (.returned (.tuple #[.agg #[.string ⟨#[]⟩, .slice none 0 0], .int .i64 0]))) := fun h => HBad.out (by rw [HZ.out]; simp [h])
        have HCv : Hid (∀ W, Below w'.heap.size w' W → ∀ n' c', n' = n → (convert 29 9 (.slice (some ⟨b0, off + 1, none⟩) n' c')).run Tryz.prog W = .ok (.string P) W) := by
          intro W hW n' c' hn
          have h1 := (hb1.carry hW).sub 1 n
          have h3 := run_back _ _ c' W h1
          rw [← HP.out, ← HPp.out] at h3
          have h4 : (decPath r 0).length = n := by rw [HP.out, List.length_take, List.length_drop]; omega
          rw [h4] at h3
          rw [hn]
          exact h3
        generalize rdAns r = R at *
        clear HBad HZ HY HD HR HLl HPp HP HQ5
        have u1 : (1 : Int) + (n : Int) < (r.length : Int) := by omega
        have u2 : ((1 : Int) + (n : Int) + 6 + (pd : Int)) ≤ 1 + (n : Int) + 6 + (pd : Int) + (S : Int) := by omega
        have u3 : ((1 : Int) + (n : Int) + 6 + (pd : Int) + (S : Int)) ≤ (cap : Int) := by omega
        have hsz : w.heap.size ≤ w'.heap.size := B1.size
        by_cases hc : 1 + n + 6 + pd < cap
        · have hc2 : ¬ cap = 1 + n + 6 + pd := by omega
          go_upto_region 12 with fail
          go_cut [9, 10] (fun s9 s10 wx => ∃ (xa : Option Addr) (xc : Nat), s9 = .slice xa R.1.length xc ∧ s10 = .int .i64 (R.2 : Nat) ∧ Own w'.heap.size wx (.slice xa R.1.length xc) R.1 ∧ Below w'.heap.size w' wx)
          case first =>
            have qw : IntKind.i64.wrap (m : Int) = m := by rw [IntKind.wrap_i64]; omega
            clear HCv HGood HBadE X BB sr d0 d1 f0 f1 c0 c2 sz1 B1 hsz
            go_region_with (go_at_call 107; refine (unhide HRB _ (by first | exact Below.refl _ _ | exact (Below.refl _ _).drew | exact (Below.refl _ _).drew.drew | exact below_drewN (Below.refl _ _) _) _ _ _ (by omega) (by omega) (by unfold maxLen; omega) (.inl ⟨_, rfl, by omega⟩)).mono ?_; rintro e w2 ⟨v2, rfl, o2, b2⟩; obtain ⟨xa, xc, rfl, -, -, -⟩ := o2.shape)
            all_goals (go_wp2_with fail; go_meet)
            all_goals exact ⟨xa, xc, rfl, rfl, o2, by first | exact b2 | exact (Below.refl _ _).drew.trans b2 | exact (Below.refl _ _).drew.drew.trans b2⟩
          case rest =>
            obtain ⟨xa, xc, rfl, rfl, oR, b6⟩ := hcut
            have sr6 := sr.carry b6
            have B6 := B1.trans (b6.mono B1.size)
            have hcv := HCv.out _ b6
            clear HCv HRB d0 d1 f0 f1 X BB sr c0 c1 c2
            have d0 := sr6.c0
            have d1 := sr6.c1
            have f0 := sr6.fr 0
            have f1 := sr6.fr 1
            by_cases hE : R.2 = 0
            · have hEb : ((R.2 : Int) != 0) = false := by simp [hE]
              have HA := hide (HGood.out hE)
              have X := sr6.set P (.slice xa R.1.length xc)
              have BB := (B6.setCell (p := ⟨w.heap.size, 0, none⟩) (Nat.le_refl _) (.string P)).setCell (p := ⟨w.heap.size, 1, none⟩) (Nat.le_refl _) (.slice xa R.1.length xc)
              have OO := ((oR.setOther (k := w.heap.size) (j := 0) (.string P) (by omega)).setOther (k := w.heap.size) (j := 1) (.slice xa R.1.length xc) (by omega)).mono hsz
              have v1 : (1 : Int) ≤ 1 + (n : Int) := by omega
              have v2 : (1 : Int) + (n : Int) ≤ (cap : Int) := by omega
              have v3 : 1 < cap := by omega
              have v4 : ¬ cap = 1 := by omega
              clear hE HGood HBadE
              go_wp2
              refine bodyPost_ret (v := .tuple #[.agg #[.string P, .slice xa R.1.length xc], .int .i64 ((1 + n + 6 + pd + S : Nat) : Int)]) ?_ rfl ⟨HA.out _ _ OO, BB⟩
              have k0 := X.c0
              have k1 := X.c1
              rw [results_fst rfl]
              go_simp
            · have hEb : ((R.2 : Int) != 0) = true := by simp [hE]
              have HA := hide (HBadE.out hE)
              have X := sr6.set ⟨#[]⟩ (.slice none 0 0)
              have BB := (B6.setCell (p := ⟨w.heap.size, 0, none⟩) (Nat.le_refl _) (.string ⟨#[]⟩)).setCell (p := ⟨w.heap.size, 1, none⟩) (Nat.le_refl _) (.slice none 0 0)
              clear hE HGood HBadE
              go_wp2
              refine bodyPost_ret (v := .tuple #[.agg #[.string ⟨#[]⟩, .slice none 0 0], .int .i64 0]) ?_ rfl ⟨HA.out _, BB⟩
              have k0 := X.c0
              have k1 := X.c1
              rw [results_fst rfl]
              go_simp
        · obtain rfl : cap = 1 + n + 6 + pd := by omega
          have hS0 : Hid (S = 0) := by show _ = _; omega
          clear hc
          go_upto_region 12 with fail
          go_cut [9, 10] (fun s9 s10 wx => ∃ (xa : Option Addr) (xc : Nat), s9 = .slice xa R.1.length xc ∧ s10 = .int .i64 (R.2 : Nat) ∧ Own w'.heap.size wx (.slice xa R.1.length xc) R.1 ∧ Below w'.heap.size w' wx)
          case first =>
            have qw : IntKind.i64.wrap (m : Int) = m := by rw [IntKind.wrap_i64]; omega
            clear HCv HGood HBadE X BB sr d0 d1 f0 f1 c0 c2 sz1 B1 hsz
            go_region_with (go_at_call 107; refine (unhide HRB _ (by first | exact Below.refl _ _ | exact (Below.refl _ _).drew | exact (Below.refl _ _).drew.drew | exact below_drewN (Below.refl _ _) _) _ _ _ (by omega) (by omega) (by unfold maxLen; omega) (.inr hS0.out)).mono ?_; rintro e w2 ⟨v2, rfl, o2, b2⟩; obtain ⟨xa, xc, rfl, -, -, -⟩ := o2.shape)
            all_goals (go_wp2_with fail; go_meet)
            all_goals exact ⟨xa, xc, rfl, rfl, o2, by first | exact b2 | exact (Below.refl _ _).drew.trans b2 | exact (Below.refl _ _).drew.drew.trans b2⟩
          case rest =>
            obtain ⟨xa, xc, rfl, rfl, oR, b6⟩ := hcut
            have sr6 := sr.carry b6
            have B6 := B1.trans (b6.mono B1.size)
            have hcv := HCv.out _ b6
            clear HCv HRB d0 d1 f0 f1 X BB sr c0 c1 c2
            have d0 := sr6.c0
            have d1 := sr6.c1
            have f0 := sr6.fr 0
            have f1 := sr6.fr 1
            by_cases hE : R.2 = 0
            · have hEb : ((R.2 : Int) != 0) = false := by simp [hE]
              have HA := hide (HGood.out hE)
              have X := sr6.set P (.slice xa R.1.length xc)
              have BB := (B6.setCell (p := ⟨w.heap.size, 0, none⟩) (Nat.le_refl _) (.string P)).setCell (p := ⟨w.heap.size, 1, none⟩) (Nat.le_refl _) (.slice xa R.1.length xc)
              have OO := ((oR.setOther (k := w.heap.size) (j := 0) (.string P) (by omega)).setOther (k := w.heap.size) (j := 1) (.slice xa R.1.length xc) (by omega)).mono hsz
              have v1 : (1 : Int) ≤ 1 + (n : Int) := by omega
              have v2 : (1 : Int) + (n : Int) ≤ 1 + (n : Int) + 6 + (pd : Int) := by omega
              have v3 : 1 < 1 + n + 6 + pd := by omega
              have v4 : ¬ 1 + n + 6 + pd = 1 := by omega
              clear hE HGood HBadE
              go_wp2
              refine bodyPost_ret (v := .tuple #[.agg #[.string P, .slice xa R.1.length xc], .int .i64 ((1 + n + 6 + pd + S : Nat) : Int)]) ?_ rfl ⟨HA.out _ _ OO, BB⟩
              have k0 := X.c0
              have k1 := X.c1
              rw [results_fst rfl]
              go_simp
            · have hEb : ((R.2 : Int) != 0) = true := by simp [hE]
              have HA := hide (HBadE.out hE)
              have X := sr6.set ⟨#[]⟩ (.slice none 0 0)
              have BB := (B6.setCell (p := ⟨w.heap.size, 0, none⟩) (Nat.le_refl _) (.string ⟨#[]⟩)).setCell (p := ⟨w.heap.size, 1, none⟩) (Nat.le_refl _) (.slice none 0 0)
              clear hE HGood HBadE
              go_wp2
              refine bodyPost_ret (v := .tuple #[.agg #[.string ⟨#[]⟩, .slice none 0 0], .int .i64 0]) ?_ rfl ⟨HA.out _, BB⟩
              have k0 := X.c0
              have k1 := X.c1
              rw [results_fst rfl]
              go_simp

end Go.Proofs.YtgncohclofdhmaaGreat
