import Derived.Test.YtgncohclofdhmaaGreatProg
import Derived.Test.YtgncohclofdhmaaGreatB
import Derived.Test.YtgncohclofdhmaaGreatMall
import Derived.LoopTactic
namespace Go.Proofs.YtgncohclofdhmaaGreat
open Go.RowKit

theorem ret_int {k : IntKind} {a b : Int} (h : a = b) : Ending.returned (.int k a) = .returned (.int k b) := by rw [h]
theorem ret_bool {a b : Bool} (h : a = b) : Ending.returned (.bool a) = .returned (.bool b) := by rw [h]

theorem Tryz.info5 : (Tryz.prog.info? 5).map (fun i => (i.zero, i.size, i.bytes)) = some (some (.int .u8 0), 1, 1) := by kernel_rfl

/-- 'append' of whatever yields bytes onto a list of bytes of the call's own. -/
theorem wpAppG {w : World} {ops : Array Oper} {rest : List Oper} {o : Oper} {a : Act} {Q : Exit → Act → World → Prop} (hgd : o.guard = none) (s x : Operand) (tx : TypeId)
    (ho : o.op = .call { callee := .builtin .append, args := #[s, x], argTypes := #[29, tx] })
    (B : Nat) (v : Value) (xs : List UInt8) (hs : a.eval s = v) (hown : Own B w v xs)
    (xv : Value) (ys : List UInt8) (hx : a.eval x = xv) (m : Nat) (hsrc : Src Tryz.prog 1 tx xv m (cells ys) w)
    (hlen : xs.length + ys.length ≤ 140737488355328) (hB : B ≤ w.heap.size)
    (h : ∀ v' w' zs, Hid (zs = xs ++ ys) → Own B w' v' zs → Grows w w' v v' → wpList Tryz.prog ops Q rest (a.put o.dst v') w') : wpList Tryz.prog ops Q (o :: rest) a w := by
  obtain ⟨i0, hi, hz0, hz1, hz2⟩ := info_parts Tryz.info5
  have hm : m = ys.length := by have := hsrc.newsLen; simp [cells_length] at this; omega
  refine wpList_append_any w hgd s x 29 tx ho B 5 i0 (.int .u8 0) 1 1 Tryz.underlying29 hi hz0 hz1 hz2 rfl v xs.length (cells xs) hs hown xv m (cells ys) hx hsrc (by unfold maxLen; omega) (by omega) hB ?_
  intro v' w' h1 h2 h3
  refine h v' w' (xs ++ ys) rfl ?_ ⟨h2, ?_⟩
  · unfold Own
    rw [cells_append, List.length_append, ← hm]
    exact h1
  · rcases h3 with e | e
    · exact .inl e
    · exact .inr ⟨_, e, Nat.le_refl _⟩

theorem wpApp {w : World} {ops : Array Oper} {rest : List Oper} {o : Oper} {a : Act} {Q : Exit → Act → World → Prop} (hgd : o.guard = none) (s x : Operand) (tx : TypeId)
    (ho : o.op = .call { callee := .builtin .append, args := #[s, x], argTypes := #[29, tx] })
    (B : Nat) (v : Value) (xs : List UInt8) (hs : a.eval s = v) (hown : Own B w v xs)
    (xv : Value) (ys : List UInt8) (hx : a.eval x = xv) (m : Nat) (hsrc : Src Tryz.prog 1 tx xv m (cells ys) w)
    (hlen : xs.length + ys.length ≤ 140737488355328) (hB : B ≤ w.heap.size)
    (h : ∀ v' w' zs, Hid (zs = xs ++ ys) → Own B w' v' zs → w.grownBy w' v.ownBlock → wpList Tryz.prog ops Q rest (a.put o.dst v') w') : wpList Tryz.prog ops Q (o :: rest) a w :=
  wpAppG hgd s x tx ho B v xs hs hown xv ys hx m hsrc hlen hB fun v' w' zs h1 h2 h3 => h v' w' zs h1 h2 h3.by_

set_option maxHeartbeats 400000 in
theorem tagStep_any (h b : Nat) (w : World) (h1 : h < 4294967291) (b1 : b < 256) :
    Calls Tryz.prog 102 #[.int .i64 h, .int .u8 b] w fun e w' => e = .returned (.int .i64 (tagStepOf h b)) ∧ w' = w := by
  go_enter Tryz.func102, Tryz.ntmps102
  go_wp2
  go_ret
  exact ⟨ret_int (tagStep_int h b), rfl⟩

set_option maxHeartbeats 400000 in
theorem isKey_any (s : ByteArray) (w : World) (hs : s.size ≤ maxLen) :
    Calls Tryz.prog 57 #[.string s] w fun e w' => e = .returned (.bool (keyB s.size)) ∧ w' = w := by
  unfold maxLen at hs
  go_enter Tryz.func57, Tryz.ntmps57
  go_wp2
  all_goals
    go_ret
    refine ⟨ret_bool ?_, rfl⟩
    rw [Bool.eq_iff_iff]
    simp [keyB]
    omega

set_option maxHeartbeats 400000 in
theorem keyFits_any (s : ByteArray) (w : World) (hs : s.size ≤ maxLen) :
    Calls Tryz.prog 59 #[.string s] w fun e w' => e = .returned (.bool (keyB s.size)) ∧ w' = w := by
  unfold maxLen at hs
  go_enter Tryz.func59, Tryz.ntmps59
  go_wp2
  all_goals
    go_ret
    refine ⟨ret_bool ?_, rfl⟩
    rw [Bool.eq_iff_iff]
    simp [keyB]
    omega

theorem crc_odd (s : Nat) (hs : s < 4294967296) (h : (bits .and .i64 (s : Int) 1 == 1) = true) : bits .xor .i64 ((s : Int) / 2) 3988292384 = (crcBit s : Nat) := by
  have h2 : s % 2 = 1 := by
    rw [and64_one s hs, beq_iff_eq] at h
    omega
  have e := xor64 (s / 2) 3988292384 (by omega) (by omega)
  unfold crcBit
  rw [if_pos h2, ← e]
  simp

theorem crc_even (s : Nat) (hs : s < 4294967296) (h : (bits .and .i64 (s : Int) 1 == 1) = false) : (s : Int) / 2 = (crcBit s : Nat) := by
  have h2 : ¬ s % 2 = 1 := by
    rw [and64_one s hs, beq_eq_false_iff_ne] at h
    omega
  unfold crcBit
  rw [if_neg h2]
  simp

set_option maxHeartbeats 400000 in
theorem sumStep_any (r b : Nat) (w : World) (h0 : r < 4294967296) (b1 : b < 256) :
    Calls Tryz.prog 56 #[.int .i64 r, .int .u8 b] w fun e w' => e = .returned (.int .i64 (crcByte r b : Nat)) ∧ w' = w := by
  have hx := xor64 r b h0 (by omega)
  have hxl : r ^^^ b < 4294967296 := xor_lt h0 (by omega)
  have HC : ∀ k, crcIt k (r ^^^ b) < 4294967296 := crcIt_lt hxl
  have HX : Hid (bits .xor .i64 (r : Int) (b : Int) = ((r ^^^ b : Nat) : Int)) := hx
  clear hx hxl
  go_enter Tryz.func56, Tryz.ntmps56
  go_wp2
  go_loop [0, 5] (fun q i => ∃ k s : Nat, k ≤ 8 ∧ s < 4294967296 ∧ i = .int .i64 k ∧ q = .int .i64 s ∧ Hid (s = crcIt k (r ^^^ b))) (fun _ i => 8 - (intOf i).toNat)
  case atStart => exact ⟨0, r ^^^ b, by omega, HC 0, rfl, by rw [HX.out], rfl⟩
  case round =>
    obtain ⟨k, s, hk, hs, rfl, rfl, HS⟩ := hrel
    by_cases hlt : k < 8
    · have HN : ∀ t : Nat, t = crcBit s → Hid (t = crcIt (k + 1) (r ^^^ b)) := fun t ht => by rw [ht, HS.out]; rfl
      have HL : crcBit s < 4294967296 := crcBit_lt hs
      clear HC
      go_wp2
      · have h2 : (bits .and .i64 (s : Int) 1 == 1) = true := by assumption
        go_round
        case rel => exact ⟨k + 1, crcBit s, by omega, HL, by go_num, congrArg _ (crc_odd s hs h2), HN _ rfl⟩
        case measure => simp [intOf]; omega
      · have h2 : (bits .and .i64 (s : Int) 1 == 1) = false := by assumption
        go_round
        case rel => exact ⟨k + 1, crcBit s, by omega, HL, by go_num, congrArg _ (crc_even s hs h2), HN _ rfl⟩
        case measure => simp [intOf]; omega
    · have h8 : k = 8 := by omega
      go_wp2
      go_ret
      exact ⟨ret_int (by rw [HS.out, h8]; rfl), rfl⟩

end Go.Proofs.YtgncohclofdhmaaGreat
