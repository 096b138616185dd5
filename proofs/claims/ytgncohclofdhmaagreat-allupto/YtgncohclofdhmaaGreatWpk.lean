import Derived.Test.YtgncohclofdhmaaGreatWsum
import Derived.Test.YtgncohclofdhmaaGreatMall
import Derived.Deep.QuietTactic
import Derived.BigQuiet
namespace Go.Proofs.YtgncohclofdhmaaGreat
open Go.RowKit

/-- Two bytes of a list, in the world of a round. -/
theorem Bts.two {w wr : World} {a : Option Addr} {xs : List UInt8} (hb : Bts w a xs) (hbl : Below w.heap.size w wr) (i j : Nat) (hi : i < xs.length) (hj : j < xs.length) :
    ∃ b off, a = some ⟨b, off, none⟩ ∧ wr.cell? ⟨b, off + i, none⟩ = some (.int .u8 ((xs.getD i 0).toNat : Int)) ∧ wr.cell? ⟨b, off + j, none⟩ = some (.int .u8 ((xs.getD j 0).toNat : Int)) := by
  obtain ⟨b, off, e1, h1⟩ := (hb.carry hbl) i hi
  obtain ⟨b', off', e2, h2⟩ := (hb.carry hbl) j hj
  rw [e1] at e2
  simp at e2
  obtain ⟨rfl, rfl⟩ := e2
  exact ⟨b, off, e1, h1, h2⟩

theorem fits_more {xs : List UInt8} {i d k : Nat} (h : Fits xs i d k) (hl : i + k < xs.length) (e : xs.getD (i + k) 0 = xs.getD (i + k - d) 0) : Fits xs i d (k + 1) := by
  refine ⟨h.1, by omega, ?_⟩
  intro j hj
  by_cases hjk : j = k
  · subst hjk; exact e
  · exact h.2.2 j (by omega)

theorem byte_eq {x y : UInt8} (h : ((x.toNat : Int) == (y.toNat : Int)) = true) : x = y := by
  have : x.toNat = y.toNat := by have := beq_iff_eq.1 h; omega
  exact UInt8.toNat_inj.1 this

theorem byte_ne {x y : UInt8} (h : ((x.toNat : Int) == (y.toNat : Int)) = false) : x ≠ y := by
  rintro rfl
  simp at h

set_option maxHeartbeats 1000000 in
theorem fitLength_any (a : Option Addr) (xs : List UInt8) (cap : Nat) (i d : Nat) (w : World) (hm : xs.length ≤ 140737488355328) (hb : Bts w a xs) (h1 : 1 ≤ d) (h2 : d ≤ i) (h3 : i ≤ xs.length) :
    Calls Tryz.prog 103 #[.slice a xs.length cap, .int .i64 i, .int .i64 d] w fun e w' => ∃ n : Nat, e = .returned (.int .i64 n) ∧ n ≤ 66 ∧ Fits xs i d n ∧ (n = 66 ∨ ¬ Fits xs i d (n + 1)) ∧ Below w.heap.size w w' := by
  go_enter Tryz.func103, Tryz.ntmps103
  go_wp2
  go_loopw [7] (fun n wr => ∃ k : Nat, k ≤ 66 ∧ n = .int .i64 k ∧ Fits xs i d k ∧ Below w.heap.size w wr) (fun n _ => 66 - (intOf n).toNat)
  case atStart => exact ⟨0, by omega, rfl, ⟨h2, by omega, fun k hk => absurd hk (Nat.not_lt_zero k)⟩, Below.refl _ _⟩
  case round =>
    obtain ⟨k, hk, rfl, HF, hbl⟩ := hrel
    have hlen := HF.2.1
    have HF' : Hid (Fits xs i d k) := HF
    clear HF
    by_cases hk66 : k < 66
    · by_cases hl : i + k < xs.length
      · obtain ⟨b, off, rfl, hc1, hc2⟩ := hb.two hbl (i + k) (i + k - d) hl (by omega)
        have hd1 : decide ((k : Int) < 66) = true := by simp; omega
        have hd2 : decide ((i : Int) + k < xs.length) = true := by simp; omega
        have HQ : Hid ((((xs.getD (i + k) 0).toNat : Int) == ((xs.getD (i + k - d) 0).toNat : Int)) = true → Fits xs i d (k + 1)) := by
          intro h
          exact fits_more HF'.out hl (byte_eq h)
        have HQ2 : Hid ((((xs.getD (i + k) 0).toNat : Int) == ((xs.getD (i + k - d) 0).toNat : Int)) = false → ¬ Fits xs i d (k + 1)) := by
          intro h hf
          exact byte_ne h (hf.2.2 k (by omega))
        generalize xs.getD (i + k) 0 = x at *
        generalize xs.getD (i + k - d) 0 = y at *
        go_wp2
        go_quiet (fail)
        go_wp2
        · have h : ((x.toNat : Int) == (y.toNat : Int)) = true := by assumption
          have hn := HQ.out h
          have hb2 := below_drewN hbl nq
          go_roundw
          case rel => exact ⟨k + 1, by omega, by go_num, hn, hb2⟩
          case measure => simp [intOf]; omega
        · have h : ((x.toNat : Int) == (y.toNat : Int)) = false := by assumption
          have hn := HQ2.out h
          have hb2 := below_drewN hbl nq
          go_ret
          exact ⟨k, rfl, hk, HF'.out, .inr hn, hb2⟩
      · have hd1 : decide ((k : Int) < 66) = true := by simp; omega
        have hd2 : decide ((i : Int) + k < xs.length) = false := by simp; omega
        have HN : ¬ Fits xs i d (k + 1) := fun h => by have := h.2.1; omega
        have HN' : Hid (¬ Fits xs i d (k + 1)) := HN
        clear HN
        go_wp2
        go_quiet (fail)
        go_wp2
        have hb2 := below_drewN hbl nq
        go_ret
        exact ⟨k, rfl, hk, HF'.out, .inr HN'.out, hb2⟩
    · have hd1 : decide ((k : Int) < 66) = false := by simp; omega
      go_wp2
      go_quiet (fail)
      go_wp2
      have hb2 := below_drewN hbl nq
      go_ret
      exact ⟨k, rfl, hk, HF'.out, .inl (by omega), hb2⟩

set_option maxHeartbeats 1000000 in
theorem fits_any (a : Option Addr) (xs : List UInt8) (cap : Nat) (i d n : Nat) (w : World) (hm : xs.length ≤ 140737488355328) (hb : Bts w a xs) (h1 : d ≤ 256) (h2 : n ≤ 66) (h3 : i ≤ xs.length) :
    Calls Tryz.prog 104 #[.slice a xs.length cap, .int .i64 i, .int .i64 d, .int .i64 n] w fun e w' => e = .returned (.bool (fitB xs i d n)) ∧ Below w.heap.size w w' := by
  by_cases hdi : d ≤ i
  · by_cases hin : i + n ≤ xs.length
    · go_enter Tryz.func104, Tryz.ntmps104
      go_wp2
      go_loopw [9] (fun k wr => ∃ j : Nat, j ≤ n ∧ k = .int .i64 ((i : Int) + j) ∧ Fits xs i d j ∧ Below w.heap.size w wr) (fun k _ => i + n - (intOf k).toNat)
      case atStart => exact ⟨0, by omega, by go_num, ⟨hdi, by omega, fun k hk => absurd hk (Nat.not_lt_zero k)⟩, Below.refl _ _⟩
      case round =>
        obtain ⟨k, hk, rfl, HF, hbl⟩ := hrel
        have HF' : Hid (Fits xs i d k) := HF
        clear HF
        by_cases hl : k < n
        · obtain ⟨b, off, rfl, hc1, hc2⟩ := hb.two hbl (i + k) (i + k - d) (by omega) (by omega)
          have HQ : Hid ((((xs.getD (i + k) 0).toNat : Int) == ((xs.getD (i + k - d) 0).toNat : Int)) = true → Fits xs i d (k + 1)) := by
            intro h
            exact fits_more HF'.out (by omega) (byte_eq h)
          have HQ2 : Hid ((((xs.getD (i + k) 0).toNat : Int) == ((xs.getD (i + k - d) 0).toNat : Int)) = false → fitB xs i d n = false) := by
            intro h
            rw [fitB_not]
            intro hf
            exact byte_ne h (hf.2.2 k (by omega))
          generalize xs.getD (i + k) 0 = x at *
          generalize xs.getD (i + k - d) 0 = y at *
          go_wp2
          go_quiet (fail)
          go_wp2
          · have h : ((x.toNat : Int) != (y.toNat : Int)) = true := by assumption
            have hn := HQ2.out (by simpa [bne] using h)
            have hb2 := below_drewN hbl nq
            have HE : Hid (fitB xs i d n = false) := hn
            go_ret
            exact ⟨ret_bool HE.out.symm, hb2⟩
          · have h : ((x.toNat : Int) != (y.toNat : Int)) = false := by assumption
            have hn := HQ.out (by simpa [bne] using h)
            have hb2 := below_drewN hbl nq
            go_roundw
            case rel => exact ⟨k + 1, by omega, by go_num, hn, hb2⟩
            case measure => simp [intOf]; omega
        · have : k = n := by omega
          subst this
          have HE : Hid (fitB xs i d k = true) := (fitB_iff _ _ _ _).2 HF'.out
          go_wp2
          go_ret
          exact ⟨ret_bool HE.out.symm, hbl⟩
    · have HE : Hid (fitB xs i d n = false) := (fitB_not _ _ _ _).2 fun h => by have := h.2.1; omega
      go_enter Tryz.func104, Tryz.ntmps104
      go_wp2
      go_ret
      exact ⟨ret_bool HE.out.symm, Below.refl _ _⟩
  · have HE : Hid (fitB xs i d n = false) := (fitB_not _ _ _ _).2 fun h => by have := h.1; omega
    go_enter Tryz.func104, Tryz.ntmps104
    go_wp2
    go_ret
    exact ⟨ret_bool HE.out.symm, Below.refl _ _⟩

end Go.Proofs.YtgncohclofdhmaaGreat

namespace Go.Proofs.YtgncohclofdhmaaGreat
open Go.RowKit

theorem ret_two {k l : IntKind} {a b c d : Int} (h : a = c) (g : b = d) : Ending.returned (.tuple #[.int k a, .int l b]) = .returned (.tuple #[.int k c, .int l d]) := by rw [h, g]

/-- The best of the first D distances. -/
structure Best (xs : List UInt8) (i D best dist : Nat) : Prop where
  le : best ≤ 66
  max : ∀ d n, 1 ≤ d → d ≤ D → n ≤ 66 → Fits xs i d n → n ≤ best
  fit : 0 < best → 1 ≤ dist ∧ dist ≤ D ∧ Fits xs i dist best ∧ ∀ d, 1 ≤ d → Fits xs i d best → dist ≤ d

theorem Best.start (xs : List UInt8) (i : Nat) : Best xs i 0 0 0 := ⟨by omega, fun d n h1 h2 => by omega, fun h => by omega⟩

theorem fit_le {xs : List UInt8} {i d n m : Nat} (h : n = 66 ∨ ¬ Fits xs i d (n + 1)) (hm : m ≤ 66) (hf : Fits xs i d m) : m ≤ n := by
  rcases h with h | h
  · omega
  · by_cases hh : m ≤ n
    · exact hh
    · exact absurd (hf.less (by omega)) h

theorem Best.better {xs : List UInt8} {i D best dist n : Nat} (h : Best xs i D best dist) (hn : n ≤ 66) (hf : Fits xs i (D + 1) n) (hx : n = 66 ∨ ¬ Fits xs i (D + 1) (n + 1)) (hb : best < n) : Best xs i (D + 1) n (D + 1) := by
  refine ⟨hn, ?_, ?_⟩
  · intro d m h1 h2 h3 h4
    by_cases e : d = D + 1
    · subst e; exact fit_le hx h3 h4
    · have := h.max d m h1 (by omega) h3 h4; omega
  · intro _
    refine ⟨by omega, by omega, hf, ?_⟩
    intro d h1 h2
    by_cases e : d ≤ D
    · have := h.max d n h1 e hn h2; omega
    · omega

theorem Best.same {xs : List UInt8} {i D best dist n : Nat} (h : Best xs i D best dist) (hx : n = 66 ∨ ¬ Fits xs i (D + 1) (n + 1)) (hb : ¬ best < n) : Best xs i (D + 1) best dist := by
  refine ⟨h.le, ?_, ?_⟩
  · intro d m h1 h2 h3 h4
    by_cases e : d = D + 1
    · subst e; have := fit_le hx h3 h4; omega
    · exact h.max d m h1 (by omega) h3 h4
  · intro h0
    obtain ⟨a, b, c, d⟩ := h.fit h0
    exact ⟨a, by omega, c, d⟩

theorem Best.done {xs : List UInt8} {i D best dist : Nat} (h : Best xs i D best dist) (hD : D = 256 ∨ D = i) (h256 : D ≤ 256) : copyOf xs i = if best < 3 then (0, 0) else (best, dist) := by
  refine copyOf_best h.le ?_ ?_
  · intro d n h1 h2 h3 h4
    by_cases e : d ≤ D
    · exact h.max d n h1 e h3 h4
    · have := h4.1; omega
  · intro h3
    obtain ⟨a, b, c, d⟩ := h.fit (by omega)
    exact ⟨a, by omega, c, d⟩

set_option maxRecDepth 100000 in
set_option maxHeartbeats 1000000 in
theorem bestCopy_any (a : Option Addr) (xs : List UInt8) (cap : Nat) (i : Nat) (w : World) (hm : xs.length ≤ 140737488355328) (hb : Bts w a xs) (h3 : i ≤ xs.length) :
    Calls Tryz.prog 85 #[.slice a xs.length cap, .int .i64 i] w fun e w' => ∃ n d : Nat, e = .returned (.tuple #[.int .i64 n, .int .i64 d]) ∧ n ≤ 66 ∧ (0 < n → 1 ≤ d ∧ d ≤ 256) ∧ (copyOf xs i = if n < 3 then (0, 0) else (n, d)) ∧ Below w.heap.size w w' := by
  go_enter Tryz.func85, Tryz.ntmps85
  go_wp2
  go_loopw [6, 7, 8] (fun b t d wr => ∃ best dist D : Nat, D ≤ 256 ∧ D ≤ i ∧ b = .int .i64 best ∧ t = .int .i64 dist ∧ d = .int .i64 ((D : Int) + 1) ∧ Best xs i D best dist ∧ Below w.heap.size w wr) (fun _ _ d _ => 257 - (intOf d).toNat)
  case atStart => exact ⟨0, 0, 0, by omega, by omega, rfl, rfl, rfl, Best.start xs i, Below.refl _ _⟩
  case round =>
    obtain ⟨best, dist, D, hD, hDi, rfl, rfl, rfl, HB, hbl⟩ := hrel
    by_cases hc : D < 256 ∧ D < i
    · obtain ⟨hc1, hc2⟩ := hc
      have HB' : Hid (Best xs i D best dist) := HB
      clear HB
      go_wp2_with fail
      have ed : ((D : Int) + 1) = ((D + 1 : Nat) : Int) := by omega
      rw [ed]
      clear ed
      refine (fitLength_any a xs cap i (D + 1) _ hm (hb.carry hbl) (by omega) (by omega) h3).mono ?_
      rintro e w1 ⟨n, rfl, hn, HF, HX, hb1⟩
      have hbl2 := hbl.trans (hb1.mono hbl.size)
      by_cases hlt : best < n
      · have HB2 := HB'.out.better hn HF HX hlt
        have HB3 : Hid (Best xs i (D + 1) n (D + 1)) := HB2
        clear HB2 HF HX hb1
        go_wp2
        go_roundw
        case rel => exact ⟨n, D + 1, D + 1, by omega, by omega, rfl, by go_num, by go_num, HB3.out, hbl2⟩
        case measure => simp [intOf]; omega
      · have HB2 := HB'.out.same HX hlt
        have HB3 : Hid (Best xs i (D + 1) best dist) := HB2
        clear HB2 HF HX hb1
        go_wp2
        go_roundw
        case rel => exact ⟨best, dist, D + 1, by omega, by omega, rfl, rfl, by go_num, HB3.out, hbl2⟩
        case measure => simp [intOf]; omega
    · have HE := HB.done (by omega) hD
      have HE' : Hid (copyOf xs i = if best < 3 then (0, 0) else (best, dist)) := HE
      have hle := HB.le
      have hf := HB.fit
      have HF : Hid (0 < best → 1 ≤ dist ∧ dist ≤ 256) := fun h => ⟨(hf h).1, by have := (hf h).2.1; omega⟩
      clear HE hf HB
      go_wp2
      all_goals
        go_ret2
        exact ⟨best, dist, rfl, hle, HF.out, HE'.out, hbl⟩

set_option maxRecDepth 100000 in
set_option maxHeartbeats 1000000 in
theorem copyAt_any (a : Option Addr) (xs : List UInt8) (cap : Nat) (i : Nat) (w : World) (hm : xs.length ≤ 140737488355328) (hb : Bts w a xs) (h3 : i ≤ xs.length) :
    Calls Tryz.prog 87 #[.slice a xs.length cap, .int .i64 i] w fun e w' => e = .returned (.tuple #[.int .i64 (copyOf xs i).1, .int .i64 (copyOf xs i).2]) ∧ Below w.heap.size w w' := by
  go_enter Tryz.func87, Tryz.ntmps87
  go_wp2
  go_loopw [6, 7, 8] (fun n _ _ wr => ∃ f : Nat, f ≤ 64 ∧ n = .int .i64 ((f : Int) + 2) ∧ Hid (copyOf xs i = copyGo xs i f) ∧ Below w.heap.size w wr) (fun n _ _ _ => (intOf n).toNat)
  case atStart => exact ⟨64, by omega, rfl, rfl, Below.refl _ _⟩
  case round =>
    obtain ⟨f, hf, rfl, HC, hbl⟩ := hrel
    by_cases hf0 : 0 < f
    · obtain ⟨g, rfl⟩ : ∃ g, f = g + 1 := ⟨f - 1, by omega⟩
      have eg : (((g + 1 : Nat) : Int) + 2) = (g : Int) + 3 := by omega
      rw [eg]
      clear eg
      have hge : decide ((3 : Int) ≤ (g : Int) + 3) = true := by simp; omega
      go_wp2
      go_loopw [7, 8] (fun d _ wr => ∃ D : Nat, D ≤ 256 ∧ d = .int .i64 ((D : Int) + 1) ∧ Hid (∀ d', 1 ≤ d' → d' ≤ D → ¬ Fits xs i d' (g + 3)) ∧ Below w.heap.size w wr) (fun d _ _ => 257 - (intOf d).toNat)
      case atStart => exact ⟨0, by omega, rfl, fun d' h1 h2 => by omega, hbl⟩
      case round =>
        obtain ⟨D, hD, rfl, HD, hbl2⟩ := hrel
        by_cases hD2 : D < 256
        · go_wp2_with fail
          rw [show ((D : Int) + 1) = ((D + 1 : Nat) : Int) from by omega, show ((g : Int) + 3) = ((g + 3 : Nat) : Int) from by omega]
          refine (fits_any a xs cap i (D + 1) (g + 3) _ hm (hb.carry hbl2) (by omega) (by omega) h3).mono ?_
          rintro e w1 ⟨rfl, hb1⟩
          have hbl3 := hbl2.trans (hb1.mono hbl2.size)
          clear hb1
          cases hfit : fitB xs i (D + 1) (g + 3)
          · have HD2 : Hid (∀ d', 1 ≤ d' → d' ≤ D + 1 → ¬ Fits xs i d' (g + 3)) := by
              intro d' h1 h2
              by_cases e : d' = D + 1
              · subst e; exact (fitB_not _ _ _ _).1 hfit
              · exact HD.out d' h1 (by omega)
            clear hfit
            go_wp2
            go_roundw
            case rel => first | exact ⟨D + 1, by omega, by go_num, HD2, hbl3⟩ | ((repeat apply Exists.intro); exact ⟨⟨D + 1, by omega, by go_num, HD2, hbl3⟩, rfl⟩)
            case measure => simp [intOf]; omega
          · have HE : Hid (copyOf xs i = (g + 3, D + 1)) := by
              rw [HC.out]
              exact copyGo_hit (by omega) (by omega) ((fitB_iff _ _ _ _).1 hfit) (fun d' h1 h2 => HD.out d' h1 (by omega))
            clear hfit
            go_wp2
            go_ret2
            exact ⟨ret_two (by rw [HE.out]; rfl) (by rw [HE.out]; rfl), hbl3⟩
        · have HM : Hid (copyOf xs i = copyGo xs i g) := by
            rw [HC.out]
            exact copyGo_miss (fun d h1 h2 => HD.out d h1 (by omega))
          go_wp2
          go_roundw
          case rel => first | exact ⟨g, by omega, by go_num, HM, hbl2⟩ | ((repeat apply Exists.intro); exact ⟨⟨g, by omega, by go_num, HM, hbl2⟩, rfl⟩)
          case measure => simp [intOf]; omega
    · have : f = 0 := by omega
      subst this
      have HE : Hid (copyOf xs i = (0, 0)) := HC.out
      go_wp2
      go_ret2
      exact ⟨ret_two (by rw [HE.out]; rfl) (by rw [HE.out]; rfl), hbl⟩

end Go.Proofs.YtgncohclofdhmaaGreat

namespace Go.Proofs.YtgncohclofdhmaaGreat
open Go.RowKit

/-- A part of a list of bytes. -/
theorem Bts.sub {w : World} {b off : Nat} {xs : List UInt8} (h : Bts w (some ⟨b, off, none⟩) xs) (k n : Nat) : Bts w (some ⟨b, off + k, none⟩) ((xs.drop k).take n) := by
  intro i hi
  have hl : k + i < xs.length ∧ i < n := by simp at hi; omega
  obtain ⟨b', off', e, hc⟩ := h (k + i) hl.1
  simp at e
  obtain ⟨rfl, rfl⟩ := e
  refine ⟨b, off + k, rfl, ?_⟩
  have e2 : ((xs.drop k).take n).getD i 0 = xs.getD (k + i) 0 := by
    rw [List.getD_eq_getElem?_getD, List.getD_eq_getElem?_getD, List.getElem?_take, if_pos hl.2, List.getElem?_drop]
  rw [e2, Nat.add_assoc]
  exact hc

theorem Bts.from {w : World} {b off : Nat} {xs : List UInt8} (h : Bts w (some ⟨b, off, none⟩) xs) (k : Nat) : Bts w (some ⟨b, off + k, none⟩) (xs.drop k) := by
  have := h.sub k (xs.drop k).length
  rw [List.take_of_length_le (Nat.le_refl _)] at this
  exact this

theorem byte_val {z : Int} (h0 : 0 ≤ z) (h1 : z ≤ 255) : ((UInt8.ofNat z.toNat).toNat : Int) = z := by
  rw [UInt8.toNat_ofNat']
  omega

/-- One byte more: a block of its own. -/
theorem src_one (w : World) {z : Int} (h0 : 0 ≤ z) (h1 : z ≤ 255) :
    Src Tryz.prog 1 29 (.slice (some ⟨w.heap.size, 0, none⟩) 1 1) 1 (cells [UInt8.ofNat z.toNat]) (w.alloc (.cells #[.int .u8 z] 5)) := by
  have e : cells [UInt8.ofNat z.toNat] = [.int .u8 z] := by
    simp only [cells, cell, List.map_cons, List.map_nil]
    rw [byte_val h0 h1]
  rw [e]
  refine Src.ofSlice _ Tryz.underlying29 ⟨w.heap.size, 0, none⟩ 1 1 _ (by simp) (cell_one_new _ _ _) ?_
  intro u hu
  simp at hu
  subst hu
  rfl

theorem Own.alloc {B : Nat} {w : World} {v : Value} {xs : List UInt8} (h : Own B w v xs) (o : Obj) : Own B (w.alloc o) v xs := World.ownsRow.alloc h o

set_option maxRecDepth 100000 in
set_option maxHeartbeats 1000000 in
theorem literalPieces_any (a : Option Addr) (xs : List UInt8) (cap : Nat) (w : World) (hm : xs.length ≤ 1000000) (hcap : xs.length ≤ cap) (hcm : cap ≤ maxLen) (hb : Bts w a xs) :
    Calls Tryz.prog 86 #[.slice a xs.length cap] w fun e w' => ∃ v, e = .returned v ∧ Own w.heap.size w' v (runOf xs) ∧ Below w.heap.size w w' := by
  unfold maxLen at hcm
  go_enter Tryz.func86, Tryz.ntmps86
  go_wp2
  go_loopw [3, 4, 5] (fun v f _ wr => ∃ (k : Nat) (zs : List UInt8), k ≤ xs.length + 127 ∧ f = .int .i64 k ∧ Own w.heap.size wr v zs ∧ Hid (zs ++ runOf (xs.drop k) = runOf xs) ∧ Hid (zs.length ≤ 2 * xs.length) ∧ Below w.heap.size w wr) (fun _ f _ _ => xs.length + 127 - (intOf f).toNat)
  case atStart => exact ⟨0, [], by omega, rfl, Own.nil _ _, by simp [Hid], by simp [Hid], Below.refl _ _⟩
  case round =>
    obtain ⟨k, zs, hk, rfl, ho, HR, HL, hbl⟩ := hrel
    by_cases hlt : k < xs.length
    · obtain ⟨b, off, rfl, hc⟩ := hb k hlt
      clear hc
      have hstep : Hid (runOf (xs.drop k) = UInt8.ofNat (min (xs.length - k) 128 - 1) :: ((xs.drop k).take 128 ++ runOf (xs.drop (k + 128)))) := by
        have := runOf_step (l := xs.drop k) (by simp; omega)
        rw [List.length_drop, List.drop_drop] at this
        exact this
      have HM : Hid (zs.length + (runOf (xs.drop k)).length ≤ 2 * xs.length) := by
        have h1 := congrArg List.length HR.out
        rw [List.length_append] at h1
        have h2 := runOf_length xs
        show _ ≤ _
        omega
      by_cases hn : 128 < xs.length - k
      · have hs1 := src_one wr (z := 127) (by omega) (by omega)
        have hn' : (128 : Int) < (xs.length : Int) - k := by omega
        have ho1 := ho.alloc (.cells #[.int .u8 127] 5)
        have hbl1 := hbl.alloc hbl.size (.cells #[.int .u8 127] 5)
        go_wp2_with (at_builtin; refine wpApp rfl (.tmp 18) (.tmp 22) 29 rfl w.heap.size _ zs rfl ho1 _ _ rfl 1 hs1 (by have := HL.out; simp; omega) hbl1.size ?_)
        intro v2 w2 z2 e2 o2 g2
        have b2 := below_own hbl1 ho1 g2 (Nat.le_refl _)
        have hb2 := (hb.carry b2).sub k 128
        have L2 : Hid (z2.length = zs.length + 1) := by show _ = _; rw [e2.out]; simp
        have hs2 : ∀ n c, n = 128 → Src Tryz.prog 1 29 (.slice (some ⟨b, off + k, none⟩) n c) n (cells ((xs.drop k).take 128)) w2 := fun n c hn => src_bts Tryz.underlying29 hb2 (by simp; omega)
        clear g2 ho1 hbl1 hs1 ho hb2
        go_wp2_with (at_builtin; refine wpApp rfl (.tmp 24) (.tmp 30) 29 rfl w.heap.size _ z2 rfl o2 _ ((xs.drop k).take 128) rfl _ (hs2 _ _ (by omega)) (by have := HL.out; have := L2.out; simp; omega) b2.size ?_)
        intro v3 w3 z3 e3 o3 g3
        have b3 := below_own b2 o2 g3 (Nat.le_refl _)
        have HR2 : Hid (z3 ++ runOf (xs.drop (k + 128)) = runOf xs) := by
          rw [e3.out, e2.out, ← HR.out, hstep.out, show min (xs.length - k) 128 - 1 = 127 from by omega]
          simp [Hid]
        have HL2 : Hid (z3.length ≤ 2 * xs.length) := by
          have h1 := congrArg List.length HR2.out
          rw [List.length_append] at h1
          have h2 := runOf_length xs
          show _ ≤ _
          omega
        clear g3 o2 b2 hs2
        go_wp2
        go_roundw
        case rel => exact ⟨k + 128, z3, by omega, by go_num, o3, HR2, HL2, b3⟩
        case measure => simp [intOf]; omega
      · have hn' : ¬ (128 : Int) < (xs.length : Int) - k := by omega
        have hs1 := src_one wr (z := (xs.length : Int) - k - 1) (by omega) (by omega)
        have ho1 := ho.alloc (.cells #[.int .u8 ((xs.length : Int) - k - 1)] 5)
        have hbl1 := hbl.alloc hbl.size (.cells #[.int .u8 ((xs.length : Int) - k - 1)] 5)
        go_wp2_with (at_builtin; refine wpApp rfl (.tmp 18) (.tmp 22) 29 rfl w.heap.size _ zs rfl ho1 _ _ rfl 1 hs1 (by have := HL.out; simp; omega) hbl1.size ?_)
        intro v2 w2 z2 e2 o2 g2
        have b2 := below_own hbl1 ho1 g2 (Nat.le_refl _)
        have hb2 := (hb.carry b2).from k
        have L2 : Hid (z2.length = zs.length + 1) := by show _ = _; rw [e2.out]; simp
        have hs2 : ∀ n c, n = xs.length - k → Src Tryz.prog 1 29 (.slice (some ⟨b, off + k, none⟩) n c) n (cells (xs.drop k)) w2 := fun n c hn => src_bts Tryz.underlying29 hb2 (by simp; omega)
        clear g2 ho1 hbl1 hs1 ho hb2
        go_wp2_with (at_builtin; go_must (refine wpApp rfl (.tmp 24) (.tmp 30) 29 rfl w.heap.size _ z2 rfl o2 _ (xs.drop k) rfl _ (hs2 _ _ (by omega)) (by have := HL.out; have := L2.out; simp; omega) b2.size ?_))
        intro v3 w3 z3 e3 o3 g3
        have b3 := below_own b2 o2 g3 (Nat.le_refl _)
        have HR2 : Hid (z3 ++ runOf (xs.drop (k + 128)) = runOf xs) := by
          rw [e3.out, e2.out, ← HR.out, hstep.out, show min (xs.length - k) 128 - 1 = ((xs.length : Int) - k - 1).toNat from by omega, List.take_of_length_le (by simp; omega)]
          simp [Hid]
        have HL2 : Hid (z3.length ≤ 2 * xs.length) := by
          have h1 := congrArg List.length HR2.out
          rw [List.length_append] at h1
          have h2 := runOf_length xs
          show _ ≤ _
          omega
        clear g3 o2 b2 hs2
        go_wp2
        go_roundw
        case rel => exact ⟨k + 128, z3, by omega, by go_num, o3, HR2, HL2, b3⟩
        case measure => simp [intOf]; omega
    · have : xs.drop k = [] := List.drop_of_length_le (by omega)
      have HE : Hid (zs = runOf xs) := by
        have h := HR.out
        rw [this, runOf_nil, List.append_nil] at h
        exact h
      obtain rfl := HE.out
      clear HR HL HE this
      go_wp2
      go_ret
      exact ⟨_, rfl, ho, hbl⟩

end Go.Proofs.YtgncohclofdhmaaGreat

namespace Go.Proofs.YtgncohclofdhmaaGreat
open Go.RowKit

set_option maxRecDepth 100000 in
set_option maxHeartbeats 1000000 in
theorem run_any (w0 w : World) (v : Value) (ys : List UInt8) (a : Option Addr) (xs : List UInt8) (cap : Nat) (hm : xs.length ≤ 1000000) (hym : ys.length ≤ 1000000) (hcap : xs.length ≤ cap) (hcm : cap ≤ maxLen)
    (hb : Bts w0 a xs) (hbl : Below w0.heap.size w0 w) (ho : Own w0.heap.size w v ys) :
    Calls Tryz.prog 88 #[v, .slice a xs.length cap] w fun e w' => ∃ v', e = .returned v' ∧ Own w0.heap.size w' v' (ys ++ runOf xs) ∧ Below w0.heap.size w0 w' := by
  unfold maxLen at hcm
  go_enter Tryz.func88, Tryz.ntmps88
  go_wp2
  go_loopw [0, 1, 5] (fun o l _ wr => ∃ (n c : Nat) (al : Option Addr) (ls zs : List UInt8), n ≤ c ∧ c ≤ 9223372036854775807 ∧ l = .slice al n c ∧ Hid (n = ls.length) ∧ n ≤ 1000000 ∧ Bts w0 al ls ∧ Own w0.heap.size wr o zs ∧ Hid (zs ++ runOf ls = ys ++ runOf xs) ∧ Below w0.heap.size w0 wr) (fun _ l _ _ => match l with | .slice _ n _ => n | _ => 0)
  case atStart => exact ⟨xs.length, cap, a, xs, ys, hcap, hcm, rfl, rfl, hm, hb, ho, rfl, hbl⟩
  case round =>
    clear hbl ho
    obtain ⟨n, c, al, ls, zs, hnc, hc63, rfl, HN, hn6, hbl0, ho, HR, hbl⟩ := hrel
    have HM : Hid (zs.length ≤ ys.length + 2 * xs.length) := by
      have h1 := congrArg List.length HR.out
      rw [List.length_append, List.length_append] at h1
      have h2 := runOf_length xs
      show _ ≤ _
      omega
    by_cases hlt : 0 < n
    · obtain ⟨b, off, rfl, hc⟩ := hbl0 0 (by rw [← HN.out]; exact hlt)
      clear hc
      have hstep : Hid (runOf ls = UInt8.ofNat (min ls.length 128 - 1) :: (ls.take 128 ++ runOf (ls.drop 128))) := runOf_step (by have := HN.out; omega)
      by_cases hn : 128 < n
      · have hs1 := src_one wr (z := 127) (by omega) (by omega)
        have hn' : (128 : Int) < (n : Int) := by omega
        have ho1 := ho.alloc (.cells #[.int .u8 127] 5)
        have hbl1 := hbl.alloc hbl.size (.cells #[.int .u8 127] 5)
        go_wp2_with (at_builtin; refine wpApp rfl (.tmp 13) (.tmp 17) 29 rfl w0.heap.size _ zs rfl ho1 _ _ rfl 1 hs1 (by have := HM.out; simp; omega) hbl1.size ?_)
        intro v2 w2 z2 e2 o2 g2
        have b2 := below_own hbl1 ho1 g2 (Nat.le_refl _)
        have hb2 := (hbl0.carry b2).sub 0 128
        have L2 : Hid (z2.length = zs.length + 1) := by show _ = _; rw [e2.out]; simp
        have hs2 : ∀ m c, m = 128 → Src Tryz.prog 1 29 (.slice (some ⟨b, off, none⟩) m c) m (cells (ls.take 128)) w2 := fun m c hm => src_bts Tryz.underlying29 hb2 (by have := HN.out; simp; omega)
        clear g2 ho1 hbl1 hs1 ho hb2
        go_wp2_with (at_builtin; go_must (refine wpApp rfl (.tmp 19) (.tmp 22) 29 rfl w0.heap.size _ z2 rfl o2 _ (ls.take 128) rfl _ (hs2 _ _ (by omega)) (by have := HM.out; have := L2.out; simp; omega) b2.size ?_))
        intro v3 w3 z3 e3 o3 g3
        have b3 := below_own b2 o2 g3 (Nat.le_refl _)
        have HR2 : Hid (z3 ++ runOf (ls.drop 128) = ys ++ runOf xs) := by
          rw [e3.out, e2.out, ← HR.out, hstep.out, show min ls.length 128 - 1 = 127 from by have := HN.out; omega]
          simp [Hid]
        have hb3 := hbl0.from 128
        have HN2 : Hid (n - 128 = (ls.drop 128).length) := by show _ = _; rw [List.length_drop, ← HN.out]
        clear g3 o2 b2 hs2
        go_wp2
        go_roundw
        case rel => exact ⟨n - 128, c - 128, _, ls.drop 128, z3, by omega, by omega, rfl, HN2, by omega, hb3, o3, HR2, b3⟩
        case measure => simp; omega
      · have hn' : ¬ (128 : Int) < (n : Int) := by omega
        have hs1 := src_one wr (z := (n : Int) - 1) (by omega) (by omega)
        have ho1 := ho.alloc (.cells #[.int .u8 ((n : Int) - 1)] 5)
        have hbl1 := hbl.alloc hbl.size (.cells #[.int .u8 ((n : Int) - 1)] 5)
        go_wp2_with (at_builtin; refine wpApp rfl (.tmp 13) (.tmp 17) 29 rfl w0.heap.size _ zs rfl ho1 _ _ rfl 1 hs1 (by have := HM.out; simp; omega) hbl1.size ?_)
        intro v2 w2 z2 e2 o2 g2
        have b2 := below_own hbl1 ho1 g2 (Nat.le_refl _)
        have hb2 := hbl0.carry b2
        have L2 : Hid (z2.length = zs.length + 1) := by show _ = _; rw [e2.out]; simp
        have hs2 : ∀ m c, m = n → Src Tryz.prog 1 29 (.slice (some ⟨b, off, none⟩) m c) m (cells ls) w2 := fun m c hm => src_bts Tryz.underlying29 hb2 (by have := HN.out; omega)
        clear g2 ho1 hbl1 hs1 ho hb2
        go_wp2_with (at_builtin; go_must (refine wpApp rfl (.tmp 19) (.tmp 22) 29 rfl w0.heap.size _ z2 rfl o2 _ ls rfl _ (hs2 _ _ (by omega)) (by have := HM.out; have := L2.out; have := HN.out; omega) b2.size ?_))
        intro v3 w3 z3 e3 o3 g3
        have b3 := below_own b2 o2 g3 (Nat.le_refl _)
        have HR2 : Hid (z3 ++ runOf [] = ys ++ runOf xs) := by
          have h1 : ls.drop 128 = [] := List.drop_of_length_le (by have := HN.out; omega)
          have h2 : ls.take 128 = ls := List.take_of_length_le (by have := HN.out; omega)
          rw [e3.out, e2.out, ← HR.out, hstep.out, h1, h2, show min ls.length 128 - 1 = ((n : Int) - 1).toNat from by have := HN.out; omega]
          simp [Hid]
        clear g3 o2 b2 hs2
        by_cases hcn : c = n
        · subst hcn
          go_wp2
          go_roundw
          case rel => exact ⟨0, 0, some ⟨b, off, none⟩, [], z3, by omega, by omega, by simp, rfl, by omega, Bts.nil _ _, o3, HR2, b3⟩
          case measure => simp; omega
        · have hcn' : 0 < c - n := by omega
          go_wp2
          go_roundw
          case rel => exact ⟨0, c - n, some ⟨b, off + n, none⟩, [], z3, by omega, by omega, by simp, rfl, by omega, Bts.nil _ _, o3, HR2, b3⟩
          case measure => simp; omega
    · have h0 : ls = [] := List.eq_nil_of_length_eq_zero (by have := HN.out; omega)
      have HE : Hid (zs = ys ++ runOf xs) := by
        have h := HR.out
        rw [h0, runOf_nil, List.append_nil] at h
        exact h
      obtain rfl := HE.out
      clear HR HE h0
      go_wp2
      go_ret
      exact ⟨_, rfl, ho, hbl⟩

end Go.Proofs.YtgncohclofdhmaaGreat

namespace Go.Proofs.YtgncohclofdhmaaGreat
open Go.RowKit

theorem literalPieces_n (a : Option Addr) (xs : List UInt8) (n cap : Nat) (w : World) (hn : n = xs.length) (hm : xs.length ≤ 1000000) (hcap : xs.length ≤ cap) (hcm : cap ≤ maxLen) (hb : Bts w a xs) :
    Calls Tryz.prog 86 #[.slice a n cap] w fun e w' => ∃ v, e = .returned v ∧ Own w.heap.size w' v (runOf xs) ∧ Below w.heap.size w w' := by
  subst hn
  exact literalPieces_any a xs cap w hm hcap hcm hb

theorem run_n (w0 w : World) (v : Value) (ys : List UInt8) (a : Option Addr) (xs : List UInt8) (n cap : Nat) (hn : n = xs.length) (hm : xs.length ≤ 1000000) (hym : ys.length ≤ 1000000) (hcap : xs.length ≤ cap) (hcm : cap ≤ maxLen)
    (hb : Bts w0 a xs) (hbl : Below w0.heap.size w0 w) (ho : Own w0.heap.size w v ys) :
    Calls Tryz.prog 88 #[v, .slice a n cap] w fun e w' => ∃ v', e = .returned v' ∧ Own w0.heap.size w' v' (ys ++ runOf xs) ∧ Below w0.heap.size w0 w' := by
  subst hn
  exact run_any w0 w v ys a xs cap hm hym hcap hcm hb hbl ho

/-- Two bytes more. -/
theorem src_two (w : World) {y z : Int} (g0 : 0 ≤ y) (g1 : y ≤ 255) (h0 : 0 ≤ z) (h1 : z ≤ 255) :
    Src Tryz.prog 1 29 (.slice (some ⟨w.heap.size, 0, none⟩) 2 2) 2 (cells [UInt8.ofNat y.toNat, UInt8.ofNat z.toNat]) (w.alloc (.cells #[.int .u8 y, .int .u8 z] 5)) := by
  have e : cells [UInt8.ofNat y.toNat, UInt8.ofNat z.toNat] = [.int .u8 y, .int .u8 z] := by
    simp only [cells, cell, List.map_cons, List.map_nil]
    rw [byte_val h0 h1, byte_val g0 g1]
  rw [e]
  refine Src.ofSlice _ Tryz.underlying29 ⟨w.heap.size, 0, none⟩ 2 2 _ (by simp) ?_ ?_
  · intro j u hj
    rw [Addr.add_lit]
    match j, hj with
    | 0, hj => simp at hj; subst hj; simp
    | 1, hj => simp at hj; subst hj; simp
  · intro u hu
    simp at hu
    rcases hu with rfl | rfl <;> rfl

theorem Own.shape2 {w : World} {v : Value} {xs : List UInt8} {B : Nat} (h : Own B w v xs) : ∃ a cap, v = .slice a xs.length cap := by
  obtain ⟨a, cap, e, _⟩ := h.shape
  exact ⟨a, cap, e⟩

set_option maxRecDepth 100000 in
set_option maxHeartbeats 1000000 in
theorem packBody_any (a : Option Addr) (xs : List UInt8) (cap : Nat) (w : World) (hm : xs.length ≤ 100000) (hcap : xs.length ≤ cap) (hcm : cap ≤ maxLen) (hb : Bts w a xs) :
    Calls Tryz.prog 61 #[.slice a xs.length cap] w fun e w' => ∃ v, e = .returned v ∧ Own w.heap.size w' v (packOf xs) ∧ Below w.heap.size w w' := by
  unfold maxLen at hcm
  go_enter Tryz.func61, Tryz.ntmps61
  go_wp2
  go_loopw [3, 4, 5] (fun v fi ai wr => ∃ (i b f : Nat) (zs : List UInt8), b ≤ i ∧ i ≤ xs.length ∧ fi = .int .i64 b ∧ ai = .int .i64 i ∧ Own w.heap.size wr v zs ∧ Hid (xs.length ≤ i + f) ∧ Hid (zs ++ packGo xs f i b = packOf xs) ∧ Hid (zs.length ≤ 2 * b) ∧ Below w.heap.size w wr) (fun _ _ ai _ => xs.length - (intOf ai).toNat)
  case atStart => exact ⟨0, 0, xs.length, [], by omega, by omega, rfl, rfl, Own.nil _ _, by simp [Hid], rfl, by simp [Hid], Below.refl _ _⟩
  case round =>
    obtain ⟨i, b, f, zs, hbi, hil, rfl, rfl, ho, HF, HP, HL, hbl⟩ := hrel
    by_cases hlt : i < xs.length
    · obtain ⟨bk, off, rfl, hc⟩ := hb i hlt
      clear hc
      obtain ⟨f', rfl⟩ : ∃ f', f = f' + 1 := ⟨f - 1, by have := HF.out; omega⟩
      go_wp2_with fail
      refine (bestCopy_any (some ⟨bk, off, none⟩) xs cap i _ (by omega) (hb.carry hbl) hil).mono ?_
      rintro e w1 ⟨n, d, rfl, hn, hd, HC, b1⟩
      have hbl1 := hbl.trans (b1.mono hbl.size)
      have ho1 := ho.carry b1
      have HC' : Hid (copyOf xs i = if n < 3 then (0, 0) else (n, d)) := HC
      clear HC ho hbl b1
      by_cases h3 : n < 3
      · have HP2 : Hid (zs ++ packGo xs f' (i + 1) b = packOf xs) := by
          have h := HP.out
          rw [packGo_lit xs f' i b hlt (by rw [HC'.out, if_pos h3])] at h
          exact h
        have HF2 : Hid (xs.length ≤ i + 1 + f') := by have := HF.out; show _ ≤ _; omega
        clear HP HF HC' hd
        go_wp2
        go_roundw
        case rel => exact ⟨i + 1, b, f', zs, by omega, by omega, rfl, by go_num, ho1, HF2, HP2, HL, hbl1⟩
        case measure => simp [intOf]; omega
      · obtain ⟨hd1, hd2⟩ := hd (by omega)
        have HE : Hid (copyOf xs i = (n, d)) := by rw [HC'.out, if_neg h3]; rfl
        have hfit : i + n ≤ xs.length := by
          have := copyOf_spec xs i
          rw [HE.out] at this
          rcases this with h | h
          · simp at h; omega
          · exact h.2.2.2.2.2.1
        clear HC'
        have hseg : ((xs.drop b).take (i - b)).length = i - b := by simp; omega
        have HSeg : Hid ((xs.drop b).take (i - b) = (xs.take i).drop b) := by
          show _ = _
          rw [List.drop_take]
        have hbs := (hb.carry hbl1).sub b (i - b)
        generalize (xs.drop b).take (i - b) = seg at *
        go_wp2_with fail
        refine (literalPieces_n (some ⟨bk, off + b, none⟩) seg (i - b) (cap - b) _ hseg.symm (by omega) (by omega) (by unfold maxLen; omega) hbs).mono ?_
        rintro e w2 ⟨v2, rfl, o2, b2⟩
        have hbl2 := hbl1.trans (b2.mono hbl1.size)
        have ho2 := ho1.carry b2
        obtain ⟨a2, c2, rfl, hbt2, -, -⟩ := o2.shape
        have hrl := runOf_length seg
        clear o2 b2 ho1 hbl1 hbs
        have HS : Hid (seg.length = i - b) := hseg
        clear hseg
        go_wp2_with (at_builtin; go_must (refine wpApp rfl (.tmp 29) (.tmp 30) 29 rfl w.heap.size _ zs rfl ho2 _ (runOf seg) rfl _ (src_bts Tryz.underlying29 hbt2 rfl) (by have := HL.out; have := HS.out; omega) hbl2.size ?_))
        intro v3 w3 z3 e3 o3 g3
        have b3 := below_own hbl2 ho2 g3 (Nat.le_refl _)
        have L3 : Hid (z3.length ≤ 2 * i) := by
          show _ ≤ _
          rw [e3.out, List.length_append]
          have := HL.out
          have := HS.out
          omega
        clear g3 ho2 hbl2 hbt2 hrl
        have hs3 := src_two w3 (y := 128 + (n : Int) - 3) (z := (d : Int) - 1) (by omega) (by omega) (by omega) (by omega)
        have o3a := o3.alloc (.cells #[.int .u8 (128 + (n : Int) - 3), .int .u8 ((d : Int) - 1)] 5)
        have b3a := b3.alloc b3.size (.cells #[.int .u8 (128 + (n : Int) - 3), .int .u8 ((d : Int) - 1)] 5)
        clear o3 b3
        go_wp2_with (at_builtin; go_must (refine wpApp rfl (.tmp 32) (.tmp 40) 29 rfl w.heap.size _ z3 rfl o3a _ _ rfl 2 hs3 (by have := L3.out; simp; omega) b3a.size ?_))
        intro v4 w4 z4 e4 o4 g4
        have b4 := below_own b3a o3a g4 (Nat.le_refl _)
        have HP2 : Hid (z4 ++ packGo xs f' (i + n) (i + n) = packOf xs) := by
          rw [← HP.out, packGo_copy xs f' i b hlt (by rw [HE.out]; show n ≠ 0; omega), HE.out, e4.out, e3.out, HSeg.out, show (128 + (n : Int) - 3).toNat = 128 + n - 3 from by omega]
          simp [Hid]
        have HF2 : Hid (xs.length ≤ i + n + f') := by have := HF.out; show _ ≤ _; omega
        have HL2 : Hid (z4.length ≤ 2 * (i + n)) := by
          show _ ≤ _
          rw [e4.out, List.length_append]
          have := L3.out
          simp
          omega
        clear g4 o3a b3a hs3 HP HF
        go_wp2
        go_roundw
        case rel => exact ⟨i + n, i + n, f', z4, by omega, by omega, by go_num, by go_num, o4, HF2, HP2, HL2, b4⟩
        case measure => simp [intOf]; omega
    · have HP2 : Hid (zs ++ runOf (xs.drop b) = packOf xs) := by
        have h := HP.out
        rw [packGo_end xs f i b (by omega)] at h
        exact h
      clear HP HF
      obtain ⟨tl, HT⟩ : ∃ tl, Hid (tl = xs.drop b) := ⟨_, rfl⟩
      have HTL : Hid (tl.length = xs.length - b) := by show _ = _; rw [HT.out]; simp
      have HRL : Hid ((runOf tl).length ≤ 2 * xs.length) := by
        have := runOf_length tl
        have := HTL.out
        show _ ≤ _
        omega
      have HP3 : Hid (zs ++ runOf tl = packOf xs) := by rw [HT.out]; exact HP2.out
      clear HP2
      have hcl : ∀ (A : Option Addr) (N C : Nat), N = xs.length - b → N ≤ C → C ≤ maxLen → Bts wr A tl →
          Calls Tryz.prog 86 #[.slice A N C] wr fun e w' => ∃ v, e = .returned v ∧ Own wr.heap.size w' v (runOf tl) ∧ Below wr.heap.size wr w' :=
        fun A N C h1 h2 h3 h4 => literalPieces_n A tl N C wr (by rw [← HTL.out] at h1; exact h1) (by have := HTL.out; omega) (by have := HTL.out; omega) h3 h4
      have HCL := hide hcl
      clear hcl
      by_cases h0 : xs.length = 0
      · have hi0 : i = 0 := by omega
        have hx : tl = [] := List.eq_nil_of_length_eq_zero (by have := HTL.out; omega)
        have hbn : ∀ A, Bts wr A tl := fun A => by rw [hx]; exact Bts.nil _ _
        have hbn' := hide hbn
        have h0' : xs.length < 1 := by omega
        have hb0 : b = 0 := by omega
        subst hi0 hb0
        clear hbn hx
        go_wp2_with fail
        refine (unhide HCL _ _ _ (by omega) (by omega) (by unfold maxLen; omega) (unhide hbn' _)).mono ?_
        rintro e w2 ⟨v2, rfl, o2, b2⟩
        have hbl2 := hbl.trans (b2.mono hbl.size)
        have ho2 := ho.carry b2
        obtain ⟨a2, c2, rfl, hbt2, -, -⟩ := o2.shape
        clear o2 b2 ho hbl
        go_wp2_with (at_builtin; go_must (refine wpApp rfl (.tmp 50) (.tmp 51) 29 rfl w.heap.size _ zs rfl ho2 _ (runOf tl) rfl _ (src_bts Tryz.underlying29 hbt2 rfl) (by have := HL.out; have := HRL.out; omega) hbl2.size ?_))
        intro v3 w3 z3 e3 o3 g3
        have b3 := below_own hbl2 ho2 g3 (Nat.le_refl _)
        have HZ : Hid (z3 = packOf xs) := by rw [e3.out]; exact HP3.out
        obtain rfl := HZ.out
        clear g3 ho2 hbl2 hbt2 HP3 HZ e3
        go_wp2
        go_ret
        exact ⟨v3, rfl, o3, b3⟩
      · obtain ⟨bk, off, rfl, hc⟩ := hb 0 (by omega)
        clear hc
        by_cases hcb : b < cap
        · have hbs : Bts wr (some ⟨bk, off + b, none⟩) tl := by rw [HT.out]; exact (hb.carry hbl).from b
          go_wp2_with fail
          refine (unhide HCL _ _ _ (by omega) (by omega) (by unfold maxLen; omega) hbs).mono ?_
          rintro e w2 ⟨v2, rfl, o2, b2⟩
          have hbl2 := hbl.trans (b2.mono hbl.size)
          have ho2 := ho.carry b2
          obtain ⟨a2, c2, rfl, hbt2, -, -⟩ := o2.shape
          clear o2 b2 ho hbl
          go_wp2_with (at_builtin; go_must (refine wpApp rfl (.tmp 50) (.tmp 51) 29 rfl w.heap.size _ zs rfl ho2 _ (runOf tl) rfl _ (src_bts Tryz.underlying29 hbt2 rfl) (by have := HL.out; have := HRL.out; omega) hbl2.size ?_))
          intro v3 w3 z3 e3 o3 g3
          have b3 := below_own hbl2 ho2 g3 (Nat.le_refl _)
          have HZ : Hid (z3 = packOf xs) := by rw [e3.out]; exact HP3.out
          obtain rfl := HZ.out
          clear g3 ho2 hbl2 hbt2 HP3 HZ e3
          go_wp2
          go_ret
          exact ⟨v3, rfl, o3, b3⟩
        · have hx : tl = [] := List.eq_nil_of_length_eq_zero (by have := HTL.out; omega)
          have hbn : ∀ A, Bts wr A tl := fun A => by rw [hx]; exact Bts.nil _ _
          have hbn' := hide hbn
          clear hx hbn
          go_wp2_with fail
          refine (unhide HCL _ _ _ (by omega) (by omega) (by unfold maxLen; omega) (unhide hbn' _)).mono ?_
          rintro e w2 ⟨v2, rfl, o2, b2⟩
          have hbl2 := hbl.trans (b2.mono hbl.size)
          have ho2 := ho.carry b2
          obtain ⟨a2, c2, rfl, hbt2, -, -⟩ := o2.shape
          clear o2 b2 ho hbl
          go_wp2_with (at_builtin; go_must (refine wpApp rfl (.tmp 50) (.tmp 51) 29 rfl w.heap.size _ zs rfl ho2 _ (runOf tl) rfl _ (src_bts Tryz.underlying29 hbt2 rfl) (by have := HL.out; have := HRL.out; omega) hbl2.size ?_))
          intro v3 w3 z3 e3 o3 g3
          have b3 := below_own hbl2 ho2 g3 (Nat.le_refl _)
          have HZ : Hid (z3 = packOf xs) := by rw [e3.out]; exact HP3.out
          obtain rfl := HZ.out
          clear g3 ho2 hbl2 hbt2 HP3 HZ e3
          go_wp2
          go_ret
          exact ⟨v3, rfl, o3, b3⟩

end Go.Proofs.YtgncohclofdhmaaGreat

namespace Go.Proofs.YtgncohclofdhmaaGreat
open Go.RowKit

set_option maxRecDepth 100000 in
set_option maxHeartbeats 1000000 in
theorem packed_any (a : Option Addr) (xs : List UInt8) (cap : Nat) (w : World) (hm : xs.length ≤ 100000) (hcap : xs.length ≤ cap) (hcm : cap ≤ maxLen) (hb : Bts w a xs) :
    Calls Tryz.prog 62 #[.slice a xs.length cap] w fun e w' => ∃ v, e = .returned v ∧ Own w.heap.size w' v (packOf xs) ∧ Below w.heap.size w w' := by
  unfold maxLen at hcm
  go_enter Tryz.func62, Tryz.ntmps62
  go_wp2
  go_loopw [3, 4, 5] (fun v fi ai wr => ∃ (i b f : Nat) (zs : List UInt8), b ≤ i ∧ i ≤ xs.length ∧ fi = .int .i64 b ∧ ai = .int .i64 i ∧ Own w.heap.size wr v zs ∧ Hid (xs.length ≤ i + f) ∧ Hid (zs ++ packGo xs f i b = packOf xs) ∧ Hid (zs.length ≤ 2 * b) ∧ Below w.heap.size w wr) (fun _ _ ai _ => xs.length - (intOf ai).toNat)
  case atStart => exact ⟨0, 0, xs.length, [], by omega, by omega, rfl, rfl, Own.nil _ _, by simp [Hid], rfl, by simp [Hid], Below.refl _ _⟩
  case round =>
    obtain ⟨i, b, f, zs, hbi, hil, rfl, rfl, ho, HF, HP, HL, hbl⟩ := hrel
    by_cases hlt : i < xs.length
    · obtain ⟨bk, off, rfl, hc⟩ := hb i hlt
      clear hc
      obtain ⟨f', rfl⟩ : ∃ f', f = f' + 1 := ⟨f - 1, by have := HF.out; omega⟩
      go_wp2_with fail
      refine (copyAt_any (some ⟨bk, off, none⟩) xs cap i _ (by omega) (hb.carry hbl) hil).mono ?_
      rintro e w1 ⟨rfl, b1⟩
      have hbl1 := hbl.trans (b1.mono hbl.size)
      have ho1 := ho.carry b1
      clear ho hbl b1
      have hsp := copyOf_spec xs i
      obtain ⟨n, d, HE⟩ : ∃ n d, Hid (copyOf xs i = (n, d)) := ⟨_, _, rfl⟩
      rw [HE.out] at hsp ⊢
      by_cases h3 : n = 0
      · subst h3
        have HP2 : Hid (zs ++ packGo xs f' (i + 1) b = packOf xs) := by
          have h := HP.out
          rw [packGo_lit xs f' i b hlt (by rw [HE.out])] at h
          exact h
        have HF2 : Hid (xs.length ≤ i + 1 + f') := by have := HF.out; show _ ≤ _; omega
        clear HP HF HE hsp
        go_wp2
        go_roundw
        case rel => exact ⟨i + 1, b, f', zs, by omega, by omega, rfl, by go_num, ho1, HF2, HP2, HL, hbl1⟩
        case measure => simp [intOf]; omega
      · obtain ⟨hn3, hn, hd1, hd2, hfit⟩ : 3 ≤ n ∧ n ≤ 66 ∧ 1 ≤ d ∧ d ≤ 256 ∧ i + n ≤ xs.length := by
          rcases hsp with h | h
          · simp at h; omega
          · exact ⟨h.1, h.2.1, h.2.2.1, h.2.2.2.1, h.2.2.2.2.2.1⟩
        clear hsp
        have h3' : ((n : Int) == 0) = false := by simp; omega
        have hseg : ((xs.drop b).take (i - b)).length = i - b := by simp; omega
        have HSeg : Hid ((xs.drop b).take (i - b) = (xs.take i).drop b) := by
          show _ = _
          rw [List.drop_take]
        have hbs := hb.sub b (i - b)
        generalize (xs.drop b).take (i - b) = seg at *
        go_wp2_with fail
        refine (run_n w _ _ zs (some ⟨bk, off + b, none⟩) seg (i - b) (cap - b) hseg.symm (by omega) (by have := HL.out; omega) (by omega) (by unfold maxLen; omega) hbs hbl1 ho1).mono ?_
        rintro e w3 ⟨v3, rfl, o3, b3⟩
        obtain ⟨z3, e3⟩ : ∃ z3, Hid (z3 = zs ++ runOf seg) := ⟨_, rfl⟩
        rw [← e3.out] at o3
        have L3 : Hid (z3.length ≤ 2 * i) := by
          have := runOf_length seg
          show _ ≤ _
          rw [e3.out, List.length_append]
          have := HL.out
          omega
        clear ho1 hbl1 hbs hseg
        have hs3 := src_two w3 (y := 128 + (n : Int) - 3) (z := (d : Int) - 1) (by omega) (by omega) (by omega) (by omega)
        have o3a := o3.alloc (.cells #[.int .u8 (128 + (n : Int) - 3), .int .u8 ((d : Int) - 1)] 5)
        have b3a := b3.alloc b3.size (.cells #[.int .u8 (128 + (n : Int) - 3), .int .u8 ((d : Int) - 1)] 5)
        clear o3 b3
        go_wp2_with (at_builtin; go_must (refine wpApp rfl (.tmp 28) (.tmp 36) 29 rfl w.heap.size _ z3 rfl o3a _ _ rfl 2 hs3 (by have := L3.out; simp; omega) b3a.size ?_))
        intro v4 w4 z4 e4 o4 g4
        have b4 := below_own b3a o3a g4 (Nat.le_refl _)
        have HP2 : Hid (z4 ++ packGo xs f' (i + n) (i + n) = packOf xs) := by
          rw [← HP.out, packGo_copy xs f' i b hlt (by rw [HE.out]; exact h3), HE.out, e4.out, e3.out, HSeg.out, show (128 + (n : Int) - 3).toNat = 128 + n - 3 from by omega]
          simp [Hid]
        have HF2 : Hid (xs.length ≤ i + n + f') := by have := HF.out; show _ ≤ _; omega
        have HL2 : Hid (z4.length ≤ 2 * (i + n)) := by
          show _ ≤ _
          rw [e4.out, List.length_append]
          have := L3.out
          simp
          omega
        clear g4 o3a b3a hs3 HP HF
        go_wp2
        go_roundw
        case rel => exact ⟨i + n, i + n, f', z4, by omega, by omega, by go_num, by go_num, o4, HF2, HP2, HL2, b4⟩
        case measure => simp [intOf]; omega
    · obtain ⟨tl, HT⟩ : ∃ tl, Hid (tl = xs.drop b) := ⟨_, rfl⟩
      have HP3 : Hid (zs ++ runOf tl = packOf xs) := by
        have h := HP.out
        rw [packGo_end xs f i b (by omega)] at h
        rw [HT.out]
        exact h
      clear HP HF
      have HTL : Hid (tl.length = xs.length - b) := by show _ = _; rw [HT.out]; simp
      have hcl : ∀ (V : Value) (A : Option Addr) (N C : Nat), N = xs.length - b → N ≤ C → C ≤ maxLen → Bts w A tl → Own w.heap.size wr V zs →
          Calls Tryz.prog 88 #[V, .slice A N C] wr fun e w' => ∃ v, e = .returned v ∧ Own w.heap.size w' v (zs ++ runOf tl) ∧ Below w.heap.size w w' :=
        fun V A N C h1 h2 h3 h4 h5 => run_n w wr V zs A tl N C (by rw [← HTL.out] at h1; exact h1) (by have := HTL.out; omega) (by have := HL.out; omega) (by have := HTL.out; omega) h3 h4 hbl h5
      have HCL := hide hcl
      clear hcl
      by_cases h0 : xs.length = 0
      · have hi0 : i = 0 := by omega
        have hx : tl = [] := List.eq_nil_of_length_eq_zero (by have := HTL.out; omega)
        have hbn : ∀ A, Bts w A tl := fun A => by rw [hx]; exact Bts.nil _ _
        have hbn' := hide hbn
        have h0' : xs.length < 1 := by omega
        have hb0 : b = 0 := by omega
        subst hi0 hb0
        clear hbn hx
        go_wp2_with fail
        refine (unhide HCL _ _ _ _ (by omega) (by omega) (by unfold maxLen; omega) (unhide hbn' _) ho).mono ?_
        rintro e w2 ⟨v2, rfl, o2, b2⟩
        have HZ : Hid (zs ++ runOf tl = packOf xs) := HP3
        rw [HZ.out] at o2
        clear ho hbl HP3 HZ
        go_wp2
        go_ret
        exact ⟨v2, rfl, o2, b2⟩
      · obtain ⟨bk, off, rfl, hc⟩ := hb 0 (by omega)
        clear hc
        by_cases hcb : b < cap
        · have hbs : Bts w (some ⟨bk, off + b, none⟩) tl := by rw [HT.out]; exact hb.from b
          go_wp2_with fail
          refine (unhide HCL _ _ _ _ (by omega) (by omega) (by unfold maxLen; omega) hbs ho).mono ?_
          rintro e w2 ⟨v2, rfl, o2, b2⟩
          have HZ : Hid (zs ++ runOf tl = packOf xs) := HP3
          rw [HZ.out] at o2
          clear ho hbl HP3 HZ
          go_wp2
          go_ret
          exact ⟨v2, rfl, o2, b2⟩
        · have hx : tl = [] := List.eq_nil_of_length_eq_zero (by have := HTL.out; omega)
          have hbn : ∀ A, Bts w A tl := fun A => by rw [hx]; exact Bts.nil _ _
          have hbn' := hide hbn
          clear hx hbn
          go_wp2_with fail
          refine (unhide HCL _ _ _ _ (by omega) (by omega) (by unfold maxLen; omega) (unhide hbn' _) ho).mono ?_
          rintro e w2 ⟨v2, rfl, o2, b2⟩
          have HZ : Hid (zs ++ runOf tl = packOf xs) := HP3
          rw [HZ.out] at o2
          clear ho hbl HP3 HZ
          go_wp2
          go_ret
          exact ⟨v2, rfl, o2, b2⟩

/-- The answers of Pack. -/
def packBytes (xs : List UInt8) : List UInt8 := if xs.length ≤ 600 then packOf xs else []
def packErr (xs : List UInt8) : Nat := if xs.length ≤ 600 then 0 else 7

set_option maxRecDepth 100000 in
set_option maxHeartbeats 400000 in
theorem Pack_any (a : Option Addr) (xs : List UInt8) (cap : Nat) (w : World) (hm : xs.length ≤ 140737488355328) (hcap : xs.length ≤ cap) (hcm : cap ≤ maxLen) (hb : Bts w a xs) :
    Calls Tryz.prog 30 #[.slice a xs.length cap] w fun e w' => ∃ v, e = .returned (.tuple #[v, .int .i64 (packErr xs : Nat)]) ∧ Own w.heap.size w' v (packBytes xs) ∧ Below w.heap.size w w' := by
  by_cases h : xs.length ≤ 600
  · have HB : Hid (packBytes xs = packOf xs ∧ packErr xs = 0) := ⟨by simp [packBytes, h], by simp [packErr, h]⟩
    rw [HB.out.1, HB.out.2]
    go_enter Tryz.func30, Tryz.ntmps30
    go_wp2_with (go_at_call 61; refine (packBody_any a xs cap _ (by omega) hcap hcm hb).mono ?_; rintro e w' ⟨v, rfl, o, b⟩)
    go_ret2
    exact ⟨v, rfl, o, b⟩
  · have HB : Hid (packBytes xs = [] ∧ packErr xs = 7) := ⟨by simp [packBytes, h], by simp [packErr, h]⟩
    rw [HB.out.1, HB.out.2]
    go_enter Tryz.func30, Tryz.ntmps30
    go_wp2
    go_ret2
    exact ⟨_, rfl, Own.nil _ _, Below.refl _ _⟩

set_option maxRecDepth 100000 in
set_option maxHeartbeats 400000 in
theorem refPack_any (a : Option Addr) (xs : List UInt8) (cap : Nat) (w : World) (hm : xs.length ≤ 140737488355328) (hcap : xs.length ≤ cap) (hcm : cap ≤ maxLen) (hb : Bts w a xs) :
    Calls Tryz.prog 31 #[.slice a xs.length cap] w fun e w' => ∃ v, e = .returned (.tuple #[v, .int .i64 (packErr xs : Nat)]) ∧ Own w.heap.size w' v (packBytes xs) ∧ Below w.heap.size w w' := by
  by_cases h : xs.length ≤ 600
  · have HB : Hid (packBytes xs = packOf xs ∧ packErr xs = 0) := ⟨by simp [packBytes, h], by simp [packErr, h]⟩
    rw [HB.out.1, HB.out.2]
    go_enter Tryz.func31, Tryz.ntmps31
    go_wp2_with (go_at_call 62; refine (packed_any a xs cap _ (by omega) hcap hcm hb).mono ?_; rintro e w' ⟨v, rfl, o, b⟩)
    go_ret2
    exact ⟨v, rfl, o, b⟩
  · have HB : Hid (packBytes xs = [] ∧ packErr xs = 7) := ⟨by simp [packBytes, h], by simp [packErr, h]⟩
    rw [HB.out.1, HB.out.2]
    go_enter Tryz.func31, Tryz.ntmps31
    go_wp2
    go_ret2
    exact ⟨_, rfl, Own.nil _ _, Below.refl _ _⟩

end Go.Proofs.YtgncohclofdhmaaGreat
