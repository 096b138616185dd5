import Derived.Test.YtggakcalcmjolabWpack1
namespace Go.Proofs.Ytggakcalcmjolab
open Go.RowKit

theorem ret_two {k l : IntKind} {a b c d : Int} (h : a = c) (g : b = d) : Ending.returned (.tuple #[.int k a, .int l b]) = .returned (.tuple #[.int k c, .int l d]) := by rw [h, g]

/-- The best of the first D distances. -/
structure Best (xs : List UInt8) (i D best dist : Nat) : Prop where
  le : best ≤ 66
  max : ∀ d n, 1 ≤ d → d ≤ D → n ≤ 66 → Fits xs i d n → n ≤ best
  fit : 0 < best → 1 ≤ dist ∧ dist ≤ D ∧ Fits xs i dist best ∧ ∀ d, 1 ≤ d → Fits xs i d best → dist ≤ d

theorem Best.start (xs : List UInt8) (i : Nat) : Best xs i 0 0 0 := ⟨by omega, fun d n h1 h2 => by omega, fun h => by omega⟩

theorem fit_le {xs : List UInt8} {i d n m : Nat} (h : n = 66 ∨ ¬ Fits xs i d (n + 1)) (hm : m ≤ 66) (hf : Fits xs i d m) : m ≤ n := by
  rcases h with h | h
  · omega
  · by_cases hh : m ≤ n
    · exact hh
    · exact absurd (hf.less (by omega)) h

theorem Best.better {xs : List UInt8} {i D best dist n : Nat} (h : Best xs i D best dist) (hn : n ≤ 66) (hf : Fits xs i (D + 1) n) (hx : n = 66 ∨ ¬ Fits xs i (D + 1) (n + 1)) (hb : best < n) : Best xs i (D + 1) n (D + 1) := by
  refine ⟨hn, ?_, ?_⟩
  · intro d m h1 h2 h3 h4
    by_cases e : d = D + 1
    · subst e; exact fit_le hx h3 h4
    · have := h.max d m h1 (by omega) h3 h4; omega
  · intro _
    refine ⟨by omega, by omega, hf, ?_⟩
    intro d h1 h2
    by_cases e : d ≤ D
    · have := h.max d n h1 e hn h2; omega
    · omega

theorem Best.same {xs : List UInt8} {i D best dist n : Nat} (h : Best xs i D best dist) (hx : n = 66 ∨ ¬ Fits xs i (D + 1) (n + 1)) (hb : ¬ best < n) : Best xs i (D + 1) best dist := by
  refine ⟨h.le, ?_, ?_⟩
  · intro d m h1 h2 h3 h4
    by_cases e : d = D + 1
    · subst e; have := fit_le hx h3 h4; omega
    · exact h.max d m h1 (by omega) h3 h4
  · intro h0
    obtain ⟨a, b, c, d⟩ := h.fit h0
    exact ⟨a, by omega, c, d⟩

theorem Best.done {xs : List UInt8} {i D best dist : Nat} (h : Best xs i D best dist) (hD : D = 256 ∨ D = i) (h256 : D ≤ 256) : copyOf xs i = if best < 3 then (0, 0) else (best, dist) := by
  refine copyOf_best h.le ?_ ?_
  · intro d n h1 h2 h3 h4
    by_cases e : d ≤ D
    · exact h.max d n h1 e h3 h4
    · have := h4.1; omega
  · intro h3
    obtain ⟨a, b, c, d⟩ := h.fit (by omega)
    exact ⟨a, by omega, c, d⟩

set_option maxRecDepth 100000 in
set_option maxHeartbeats 1000000 in
theorem bestCopy_any (a : Option Addr) (xs : List UInt8) (cap : Nat) (i : Nat) (w : World) (hm : xs.length ≤ 140737488355328) (hb : Bts w a xs) (h3 : i ≤ xs.length) :
    Calls Try.prog 50 #[.slice a xs.length cap, .int .i64 i] w fun e w' => ∃ n d : Nat, e = .returned (.tuple #[.int .i64 n, .int .i64 d]) ∧ n ≤ 66 ∧ (0 < n → 1 ≤ d ∧ d ≤ 256) ∧ (copyOf xs i = if n < 3 then (0, 0) else (n, d)) ∧ Below w.heap.size w w' := by
  go_enter Try.func50, Try.ntmps50
  go_wp2
  go_loopw [6, 7, 8] (fun b t d wr => ∃ best dist D : Nat, D ≤ 256 ∧ D ≤ i ∧ b = .int .i64 best ∧ t = .int .i64 dist ∧ d = .int .i64 ((D : Int) + 1) ∧ Best xs i D best dist ∧ Below w.heap.size w wr) (fun _ _ d _ => 257 - (intOf d).toNat)
  case atStart => exact ⟨0, 0, 0, by omega, by omega, rfl, rfl, rfl, Best.start xs i, Below.refl _ _⟩
  case round =>
    obtain ⟨best, dist, D, hD, hDi, rfl, rfl, rfl, HB, hbl⟩ := hrel
    by_cases hc : D < 256 ∧ D < i
    · obtain ⟨hc1, hc2⟩ := hc
      have HB' : Hid (Best xs i D best dist) := HB
      clear HB
      go_wp2_with fail
      have ed : ((D : Int) + 1) = ((D + 1 : Nat) : Int) := by omega
      rw [ed]
      clear ed
      refine (fitLength_any a xs cap i (D + 1) _ hm (hb.carry hbl) (by omega) (by omega) h3).mono ?_
      rintro e w1 ⟨n, rfl, hn, HF, HX, hb1⟩
      have hbl2 := hbl.trans (hb1.mono hbl.size)
      by_cases hlt : best < n
      · have HB2 := HB'.out.better hn HF HX hlt
        have HB3 : Hid (Best xs i (D + 1) n (D + 1)) := HB2
        clear HB2 HF HX hb1
        go_wp2
        go_roundw
        case rel => exact ⟨n, D + 1, D + 1, by omega, by omega, rfl, by go_num, by go_num, HB3.out, hbl2⟩
        case measure => simp [intOf]; omega
      · have HB2 := HB'.out.same HX hlt
        have HB3 : Hid (Best xs i (D + 1) best dist) := HB2
        clear HB2 HF HX hb1
        go_wp2
        go_roundw
        case rel => exact ⟨best, dist, D + 1, by omega, by omega, rfl, rfl, by go_num, HB3.out, hbl2⟩
        case measure => simp [intOf]; omega
    · have HE := HB.done (by omega) hD
      have HE' : Hid (copyOf xs i = if best < 3 then (0, 0) else (best, dist)) := HE
      have hle := HB.le
      have hf := HB.fit
      have HF : Hid (0 < best → 1 ≤ dist ∧ dist ≤ 256) := fun h => ⟨(hf h).1, by have := (hf h).2.1; omega⟩
      clear HE hf HB
      go_wp2
      all_goals
        go_ret2
        exact ⟨best, dist, rfl, hle, HF.out, HE'.out, hbl⟩

end Go.Proofs.Ytggakcalcmjolab
