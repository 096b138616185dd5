import Derived.Test.YtgncohclofdhmaaGreatWsum
import Derived.Test.YtgncohclofdhmaaGreatWpk
namespace Go.Proofs.YtgncohclofdhmaaGreat
open Go.RowKit
set_option linter.unusedVariables false

/-! All: what owners write into lists that came out. -/

/-- Digit d of a number, the lowest first. -/
def digN (i d : Nat) : Nat := i / 251 ^ d % 251

theorem digN_lt (i d : Nat) : digN i d < 251 := Nat.mod_lt _ (by omega)

/-- A block of bytes. -/
def U8 (w : World) (k : Nat) : Prop := ∃ cur, w.heap[k]? = some (.cells cur 5 (0, 0))

/-- Of what was there nothing has turned but bytes in blocks of which R says so; and these are blocks of bytes still, of their size. -/
structure Touch (R : Nat → Prop) (w w' : World) : Prop where
  os : w'.os = w.os
  tape : w'.tape = w.tape
  output : w'.output = w.output
  size : w.heap.size ≤ w'.heap.size
  block : ∀ k : Nat, k < w.heap.size → ¬ (R k ∧ U8 w k) → w'.heap[k]? = w.heap[k]?
  shape : ∀ (k : Nat) (cur : Array Value), w.heap[k]? = some (.cells cur 5 (0, 0)) → ∃ cur' : Array Value, w'.heap[k]? = some (.cells cur' 5 (0, 0)) ∧ cur'.size = cur.size

theorem heap_lt {w : World} {k : Nat} {o : Obj} (h : w.heap[k]? = some o) : k < w.heap.size := by
  by_cases hh : k < w.heap.size
  · exact hh
  · rw [Array.getElem?_eq_none (by omega)] at h
    cases h

theorem Touch.of {R : Nat → Prop} {w w' : World} (h : Below w.heap.size w w') : Touch R w w' :=
  ⟨h.os, h.tape, h.output, h.size, fun k hk _ => h.block k hk, fun k cur hc => ⟨cur, (h.block k (heap_lt hc)).trans hc, rfl⟩⟩

theorem Touch.refl (R : Nat → Prop) (w : World) : Touch R w w := Touch.of (Below.refl _ _)

theorem Touch.trans {R : Nat → Prop} {w w1 w2 : World} (h : Touch R w w1) (k : Touch R w1 w2) : Touch R w w2 := by
  refine ⟨k.os.trans h.os, k.tape.trans h.tape, k.output.trans h.output, Nat.le_trans h.size k.size, ?_, ?_⟩
  · intro i hi hn
    have e := h.block i hi hn
    refine (k.block i (Nat.lt_of_lt_of_le hi h.size) ?_).trans e
    rintro ⟨hr, cur, hc⟩
    exact hn ⟨hr, cur, by rw [← e]; exact hc⟩
  · intro i cur hc
    obtain ⟨c1, h1, e1⟩ := h.shape i cur hc
    obtain ⟨c2, h2, e2⟩ := k.shape i c1 h1
    exact ⟨c2, h2, e2.trans e1⟩

theorem Touch.mono {R R' : Nat → Prop} {w w' : World} (h : Touch R w w') (hr : ∀ k, R k → R' k) : Touch R' w w' :=
  ⟨h.os, h.tape, h.output, h.size, fun k hk hn => h.block k hk fun hx => hn ⟨hr k hx.1, hx.2⟩, h.shape⟩

theorem Touch.below {R : Nat → Prop} {B : Nat} {w w' : World} (h : Touch R w w') (hB : B ≤ w.heap.size) (hr : ∀ k, k < B → ¬ R k) : Below B w w' :=
  ⟨h.os, h.tape, h.output, h.size, fun k hk => h.block k (by omega) fun hx => hr k hk hx.1⟩

theorem Touch.cell {R : Nat → Prop} {w w' : World} {x : Addr} {u : Value} (h : Touch R w w') (hc : w.cell? x = some u) (hn : ¬ (R x.block ∧ U8 w x.block)) : w'.cell? x = some u :=
  (World.cell?_of_block (h.block _ (World.block_lt_of_cell? w _ hc) hn)).trans hc

theorem set_heap {w : World} {g j : Nat} {u : Value} {cur : Array Value} {t : TypeId} (h : w.heap[g]? = some (.cells cur t (0, 0))) : (w.setCell ⟨g, j, none⟩ u).heap[g]? = some (.cells (cur.setIfInBounds j u) t (0, 0)) := by
  have hl := heap_lt h
  rw [Array.getElem?_eq_getElem hl, Option.some.injEq] at h
  simp only [World.setCell]
  rw [Array.getElem?_eq_getElem (by simpa using hl), Array.getElem_modify_self, h]
  rfl

theorem Touch.set {R : Nat → Prop} {w : World} {g : Nat} (hr : R g) (hu : U8 w g) (j : Nat) (u : Value) : Touch R w (w.setCell ⟨g, j, none⟩ u) := by
  obtain ⟨cur, hc⟩ := hu
  refine ⟨rfl, rfl, rfl, by simp, ?_, ?_⟩
  · intro k _ hn
    refine heap_setCell_other w ⟨g, j, none⟩ k u ?_
    rintro rfl
    exact hn ⟨hr, cur, hc⟩
  · intro k c hk
    by_cases e : k = g
    · subst e
      rw [hc] at hk
      simp only [Option.some.injEq, Obj.cells.injEq, and_true] at hk
      subst hk
      exact ⟨_, set_heap hc, by simp⟩
    · exact ⟨c, (heap_setCell_other w ⟨g, j, none⟩ k u e).trans hk, rfl⟩

/-- A list of bytes that came out: none; or bytes from the beginning of a block on, of which R says so. -/
inductive Out (R : Nat → Prop) (w : World) : Value → Prop
  | none : Out R w (.slice none 0 0)
  | some (g n c : Nat) (cur : Array Value) : w.heap[g]? = some (.cells cur 5 (0, 0)) → n ≤ c → c ≤ cur.size → c ≤ maxLen → R g → Out R w (.slice (some ⟨g, 0, none⟩) n c)

/-- It reads so. -/
def Full (w : World) (s : Value) (v : Nat) : Prop := ∀ g n c, s = .slice (some ⟨g, 0, none⟩) n c → ∀ j, j < n → w.cell? ⟨g, j, none⟩ = some (.int .u8 (v : Int))

theorem Out.touch {R R' : Nat → Prop} {w w' : World} {s : Value} (h : Out R w s) (t : Touch R' w w') : Out R w' s := by
  cases h with
  | none => exact .none
  | some g n c cur h1 h2 h3 h4 h5 =>
    obtain ⟨cur', e1, e2⟩ := t.shape g cur h1
    exact .some g n c cur' e1 h2 (by omega) h4 h5

theorem Out.slice {R : Nat → Prop} {w : World} {s : Value} (h : Out R w s) : ∃ a n c, s = .slice a n c ∧ n ≤ c ∧ c ≤ maxLen := by
  cases h with
  | none => exact ⟨_, _, _, rfl, Nat.le_refl _, by simp [maxLen]⟩
  | some g n c cur h1 h2 h3 h4 h5 => exact ⟨_, _, _, rfl, h2, h4⟩

theorem Full.keep {R : Nat → Prop} {w w' : World} {s : Value} {v : Nat} (h : Full w s v) (t : Touch R w w') (ho : ∀ g n c, s = .slice (some ⟨g, 0, none⟩) n c → ¬ R g) : Full w' s v := by
  intro g n c e j hj
  exact t.cell (h g n c e j hj) fun hx => ho g n c e hx.1

theorem set_cell_same {w : World} {g j : Nat} {u : Value} {cur : Array Value} {t : TypeId} (h : w.heap[g]? = some (.cells cur t (0, 0))) (hj : j < cur.size) : (w.setCell ⟨g, j, none⟩ u).cell? ⟨g, j, none⟩ = some u := by
  rw [cell_of_row _ g j _ _ _ (set_heap h)]
  simp [hj]

theorem set_cell_other {w : World} {g j k : Nat} {u : Value} {cur : Array Value} {t : TypeId} (h : w.heap[g]? = some (.cells cur t (0, 0))) (hj : k ≠ j) : (w.setCell ⟨g, j, none⟩ u).cell? ⟨g, k, none⟩ = w.cell? ⟨g, k, none⟩ := by
  rw [cell_of_row _ g k _ _ _ (set_heap h), cell_of_row _ g k _ _ _ h]
  rw [Array.getElem?_setIfInBounds_ne (by omega)]

theorem Full.set {w : World} {s : Value} {v : Nat} {g j : Nat} {cur : Array Value} (h : Full w s v) (hc : w.heap[g]? = some (.cells cur 5 (0, 0))) (hj : j < cur.size) : Full (w.setCell ⟨g, j, none⟩ (.int .u8 (v : Int))) s v := by
  intro g' n c e i hi
  have h1 := h g' n c e i hi
  by_cases eg : g' = g
  · subst eg
    by_cases ei : i = j
    · subst ei
      exact set_cell_same hc hj
    · rw [set_cell_other hc ei]
      exact h1
  · rw [World.cell?_of_block (heap_setCell_other w ⟨g, j, none⟩ g' (.int .u8 (v : Int)) eg)]
    exact h1

end Go.Proofs.YtgncohclofdhmaaGreat

namespace Go.Proofs.YtgncohclofdhmaaGreat
open Go.RowKit
set_option linter.unusedVariables false

set_option maxRecDepth 100000 in
set_option maxHeartbeats 1000000 in
theorem digit_any (i d : Nat) (w : World) (hi : i ≤ 4611686018427387904) (hd : d ≤ 4) :
    Calls Tryz.prog 15 #[.int .i64 i, .int .i64 d] w fun e w' => e = .returned (.int .u8 (digN i d : Nat)) ∧ w' = w := by
  go_enter Tryz.func15, Tryz.ntmps15
  go_wp2
  go_loop [0, 5] (fun v k => ∃ j q : Nat, j ≤ d ∧ k = .int .i64 j ∧ v = .int .i64 q ∧ Hid (q = i / 251 ^ j) ∧ q ≤ 4611686018427387904) (fun _ k => d - (intOf k).toNat)
  case atStart => exact ⟨0, i, by omega, rfl, rfl, by simp [Hid], hi⟩
  case round =>
    obtain ⟨j, q, hj, rfl, rfl, HQ, hq⟩ := hrel
    by_cases hlt : j < d
    · have HQ2 : Hid (q / 251 = i / 251 ^ (j + 1)) := by show _ = _; rw [HQ.out, Nat.div_div_eq_div_mul, Nat.pow_succ]
      go_wp2
      go_round
      case rel => exact ⟨j + 1, q / 251, by omega, by go_num, by go_num, HQ2, by omega⟩
      case measure => simp [intOf]; omega
    · obtain rfl : j = d := by omega
      have HE : Hid (q % 251 = digN i j) := by show _ = _; rw [HQ.out]; rfl
      go_wp2
      go_ret
      rw [← HE.out]
      exact ⟨ret_int (by omega), rfl⟩

/-- The first j bytes of it read so. -/
def Part (w : World) (s : Value) (v j : Nat) : Prop := ∀ g n c, s = .slice (some ⟨g, 0, none⟩) n c → ∀ i, i < j → w.cell? ⟨g, i, none⟩ = some (.int .u8 (v : Int))

theorem Part.zero (w : World) (s : Value) (v : Nat) : Part w s v 0 := fun _ _ _ _ i hi => absurd hi (Nat.not_lt_zero i)

theorem Part.set {w : World} {s : Value} {v i : Nat} {g j : Nat} {cur : Array Value} (h : Part w s v i) (hc : w.heap[g]? = some (.cells cur 5 (0, 0))) (hj : j < cur.size) : Part (w.setCell ⟨g, j, none⟩ (.int .u8 (v : Int))) s v i := by
  intro g' n c e k hk
  have h1 := h g' n c e k hk
  by_cases eg : g' = g
  · subst eg
    by_cases ei : k = j
    · subst ei
      exact set_cell_same hc hj
    · rw [set_cell_other hc ei]
      exact h1
  · rw [World.cell?_of_block (heap_setCell_other w ⟨g, j, none⟩ g' (.int .u8 (v : Int)) eg)]
    exact h1

theorem Part.more {w : World} {v g n c j : Nat} {cur : Array Value} (h : Part w (.slice (some ⟨g, 0, none⟩) n c) v j) (hc : w.heap[g]? = some (.cells cur 5 (0, 0))) (hj : j < cur.size) : Part (w.setCell ⟨g, j, none⟩ (.int .u8 (v : Int))) (.slice (some ⟨g, 0, none⟩) n c) v (j + 1) := by
  intro g' n' c' e k hk
  simp only [Value.slice.injEq, Option.some.injEq, Addr.mk.injEq, and_true] at e
  obtain ⟨e1, _, _⟩ := e
  have hg : g' = g := by simp_all
  subst hg
  by_cases ek : k = j
  · subst ek
    exact set_cell_same hc hj
  · rw [set_cell_other hc ek]
    exact h g' n c rfl k (by omega)

theorem Part.full {w : World} {v n c : Nat} {a : Option Addr} (h : Part w (.slice a n c) v n) : Full w (.slice a n c) v := by
  intro g n' c' e j hj
  have e' := e
  simp only [Value.slice.injEq] at e
  obtain ⟨_, e2, _⟩ := e
  exact h g n' c' e' j (by omega)

theorem not_u8 {w : World} {k : Nat} {cur : Array Value} {t : TypeId} (h : w.heap[k]? = some (.cells cur t (0, 0))) (ht : t ≠ 5) : ¬ U8 w k := by
  rintro ⟨c, hc⟩
  rw [h] at hc
  simp only [Option.some.injEq, Obj.cells.injEq] at hc
  exact ht hc.2.1

set_option maxRecDepth 100000 in
set_option maxHeartbeats 1000000 in
theorem written_any (R : Nat → Prop) (lb : Nat) (ss : List Value) (n c v : Nat) (w : World) (hn : n = ss.length) (hn4 : n ≤ 4) (hv : v < 256) (hlb : w.heap[lb]? = some (.cells ss.toArray 29 (0, 0))) (ho : ∀ s, s ∈ ss → Out R w s) :
    Calls Tryz.prog 14 #[.slice (some ⟨lb, 0, none⟩) n c, .int .u8 (v : Int)] w fun e w' => (∃ u, e = .returned u) ∧ Touch R w w' ∧ ∀ s, s ∈ ss → Full w' s v := by
  have HLB := hide hlb
  have HNU : Hid (∀ w', Touch R w w' → w'.heap[lb]? = some (.cells ss.toArray 29 (0, 0))) := fun w' t => (t.block lb (heap_lt hlb) fun hx => not_u8 hlb (by decide) hx.2).trans hlb
  have HN := hide hn
  clear hn hlb
  go_enter Tryz.func14, Tryz.ntmps14
  go_wp2
  go_loopw [4, 5] (fun i _ wr => ∃ k : Nat, k ≤ n ∧ i = .int .i64 k ∧ Hid (Touch R w wr) ∧ Hid (∀ j, j < k → Full wr (ss.getD j undef) v)) (fun i _ _ => n - (intOf i).toNat)
  case atStart => exact ⟨0, by omega, rfl, Touch.refl _ _, fun j hj => absurd hj (Nat.not_lt_zero j)⟩
  case round =>
    obtain ⟨k, hk, rfl, HT, HFu⟩ := hrel
    by_cases hlt : k < n
    · have hks : k < ss.length := by have := HN.out; omega
      have hmem : ss.getD k undef ∈ ss := by
        rw [List.getD_eq_getElem?_getD, List.getElem?_eq_getElem hks]
        exact List.getElem_mem hks
      have HO := hide (ho _ hmem)
      have HCk : Hid (∀ w', Touch R w w' → w'.cell? ⟨lb, k, none⟩ = some (ss.getD k undef)) := by
        intro w' t
        rw [cell_of_row _ lb k _ _ _ (HNU.out w' t)]
        simp [hks]
      obtain ⟨sa, sm, sc, hs, hsm, hscm⟩ := HO.out.slice
      rw [hs] at HO HCk
      have HSk := hide hs
      clear hs
      have hck := HCk.out _ HT.out
      unfold maxLen at hscm
      go_wp2
      go_loopw [5] (fun i wq => ∃ j : Nat, j ≤ sm ∧ i = .int .i64 j ∧ Hid (Touch R w wq) ∧ Hid (∀ j, j < k → Full wq (ss.getD j undef) v) ∧ Hid (Part wq (.slice sa sm sc) v j)) (fun i _ => sm - (intOf i).toNat)
      case atStart => exact ⟨0, by omega, rfl, HT, HFu, Part.zero _ _ _⟩
      case round =>
        obtain ⟨j, hj, rfl, HT2, HFu2, HPa⟩ := hrel
        have hck2 := HCk.out _ HT2.out
        by_cases hjl : j < sm
        · have hOut := HO.out.touch HT2.out
          cases hOut with
          | none => omega
          | some g _ _ cur h1 h2 h3 h4 h5 =>
            have hjc : j < cur.size := by omega
            obtain ⟨u, cI⟩ : ∃ u, wr.cell? ⟨g, j, none⟩ = some u := ⟨_, by rw [cell_of_row _ g j _ _ _ h1, Array.getElem?_eq_getElem hjc]⟩
            have fI : wr.frozen? ⟨g, j, none⟩ = false := by simp [World.frozen?, h1]
            have T3 := hide (HT2.out.trans (Touch.set h5 ⟨cur, h1⟩ j (.int .u8 (v : Int))))
            have F3 := hide (fun i hi => (HFu2.out i hi).set (j := j) h1 hjc)
            have P3 := hide (HPa.out.more h1 hjc)
            clear h1 h3 hjc
            go_wp2
            go_roundw
            case rel => exact ⟨j + 1, by omega, by go_num, T3, F3, P3⟩
            case measure => simp [intOf]; omega
        · obtain rfl : j = sm := by omega
          have F4 : Hid (∀ i, i < k + 1 → Full wr (ss.getD i undef) v) := by
            intro i hi
            by_cases e : i = k
            · subst e
              rw [HSk.out]
              exact HPa.out.full
            · exact HFu2.out i (by omega)
          go_wp2
          go_roundw
          case rel => first | exact ⟨k + 1, by omega, by go_num, HT2, F4⟩ | ((repeat apply Exists.intro); exact ⟨⟨k + 1, by omega, by go_num, HT2, F4⟩, rfl⟩)
          case measure => simp [intOf]; omega
    · obtain rfl : k = n := by omega
      have HEnd : Hid (∀ s, s ∈ ss → Full wr s v) := by
        intro s hs
        obtain ⟨i, hi, rfl⟩ := List.mem_iff_getElem.1 hs
        have h := HFu.out i (by have := HN.out; omega)
        rw [List.getD_eq_getElem?_getD, List.getElem?_eq_getElem hi] at h
        exact h
      go_wp2
      refine bodyPost_end (v := ?_) ?_ rfl ⟨⟨_, rfl⟩, HT.out, HEnd.out⟩
      rotate_left
      · simp only [results]
        simp
        rfl

set_option maxRecDepth 100000 in
set_option maxHeartbeats 1000000 in
theorem reads_any (lb : Nat) (ss : List Value) (n c v : Nat) (w : World) (hn : n = ss.length) (hn4 : n ≤ 4) (hv : v < 256) (hlb : w.heap[lb]? = some (.cells ss.toArray 29 (0, 0))) (R : Nat → Prop) (ho : ∀ s, s ∈ ss → Out R w s) (hf : ∀ s, s ∈ ss → Full w s v) :
    Calls Tryz.prog 45 #[.slice (some ⟨lb, 0, none⟩) n c, .int .u8 (v : Int)] w fun e w' => e = .returned (.bool true) ∧ w' = w := by
  have HN := hide hn
  clear hn
  go_enter Tryz.func45, Tryz.ntmps45
  go_wp2
  go_loop [5, 6] (fun i _ => ∃ k : Nat, k ≤ n ∧ i = .int .i64 k) (fun i _ => n - (intOf i).toNat)
  case atStart => exact ⟨0, by omega, rfl⟩
  case round =>
    obtain ⟨k, hk, rfl⟩ := hrel
    by_cases hlt : k < n
    · have hks : k < ss.length := by have := HN.out; omega
      have hmem : ss.getD k undef ∈ ss := by
        rw [List.getD_eq_getElem?_getD, List.getElem?_eq_getElem hks]
        exact List.getElem_mem hks
      have hck : w.cell? ⟨lb, k, none⟩ = some (ss.getD k undef) := by
        rw [cell_of_row _ lb k _ _ _ hlb]
        simp [hks]
      have HO := hide (ho _ hmem)
      have HFl := hide (hf _ hmem)
      obtain ⟨sa, sm, sc, hs, hsm, hscm⟩ := HO.out.slice
      rw [hs] at HO hck HFl
      unfold maxLen at hscm
      clear hs hmem
      go_wp2
      go_loop [6] (fun i => ∃ j : Nat, j ≤ sm ∧ i = .int .i64 j) (fun i => sm - (intOf i).toNat)
      case atStart => exact ⟨0, by omega, rfl⟩
      case round =>
        obtain ⟨j, hj, rfl⟩ := hrel
        by_cases hjl : j < sm
        · have hOut := HO.out
          cases hOut with
          | none => omega
          | some g _ _ cur h1 h2 h3 h4 h5 =>
            have cI := HFl.out g sm sc rfl j hjl
            clear h1
            go_wp2
            go_round
            case rel => exact ⟨j + 1, by omega, by go_num⟩
            case measure => simp [intOf]; omega
        · obtain rfl : j = sm := by omega
          go_wp2
          go_round
          case rel => first | exact ⟨k + 1, by omega, by go_num⟩ | ((repeat apply Exists.intro); exact ⟨⟨k + 1, by omega, by go_num⟩, rfl⟩)
          case measure => simp [intOf]; omega
    · go_wp2
      go_ret
      exact ⟨rfl, rfl⟩

end Go.Proofs.YtgncohclofdhmaaGreat

namespace Go.Proofs.YtgncohclofdhmaaGreat
open Go.RowKit
set_option linter.unusedVariables false

/-- 'append' onto a list of the call's own, the list itself kept: it reads as it did; what comes out lies in its block or in a new one. -/
theorem run_append_keep {B : Nat} {w : World} {v : Value} {xs : List UInt8} (hown : Own B w v xs) {tx : TypeId} {xv : Value} {m : Nat} {ys : List UInt8} (hsrc : Src Tryz.prog 1 tx xv m (cells ys) w) (hm0 : 0 < m) (hlen : xs.length + ys.length ≤ 140737488355328) (ty : TypeId) :
    ∃ v' w', (Builtin.append_ #[29, tx] ty #[v, xv]).run Tryz.prog w = .ok v' w' ∧ Own B w' v xs ∧ Touch (fun k => some k = v.ownBlock) w w' ∧ Out (fun k => some k = v.ownBlock ∨ w.heap.size ≤ k) w' v' := by
  obtain ⟨i0, hi, hz0, hz1, hz2⟩ := info_parts Tryz.info5
  have hm : m = ys.length := by have := hsrc.newsLen; simp [cells_length] at this; omega
  have h63i : ((xs.length + m : Nat) : Int) ≤ 9223372036854775807 := by omega
  have hsrc' : Src Tryz.prog i0.size tx xv m (cells ys) w := by rw [hz1]; exact hsrc
  have hBel : ∀ o : Obj, Below w.heap.size w (w.drew.alloc o) := fun o => ((Below.refl _ _).drew).alloc (by exact Nat.le_refl _) o
  rcases hown.2 with ⟨rfl, hn⟩ | ⟨g, cap, cur, rfl, hbg, hg, hnc, hcm, hcs, htake⟩
  · have hx : xs = [] := List.eq_nil_of_length_eq_zero hn
    subst hx
    have hold : (Builtin.firstCells i0.size 0 (.slice none 0 0)).run Tryz.prog w.drew = .ok ([] : List Value).toArray w.drew := run_firstCells_none w.drew i0.size 0 0 0
    have hr := run_append_grow_src (P := Tryz.prog) w 29 tx ty 5 i0 (.int .u8 0) Tryz.underlying29 hi hz0 none 0 0 [] hold xv m (cells ys) hsrc' (by omega) (by simpa using h63i) (growslice_fits (by omega) (by rw [hz2]; simp at hlen ⊢; omega))
    refine ⟨_, _, hr, Own.nil _ _, Touch.of (hBel _), ?_⟩
    refine .some w.heap.size _ _ _ (heap_alloc_new w.drew _) (grownCap_ge w (0 + m) 0 5) ?_ (grownCap_le_maxLen w (0 + m) 0 5 (by unfold maxLen; omega)) (.inr (Nat.le_refl _))
    have hge := grownCap_ge w (0 + m) 0 5
    rw [Array.size_append, List.size_toArray, size_zeroCells]
    simp [cells_length, Value.cells] at hge ⊢
    omega
  · by_cases hroom : xs.length + m ≤ cap
    · have hfit : xs.length * i0.size + (cells ys).length ≤ cur.size := by rw [hz1, cells_length, hcs]; omega
      have hr := run_append_room_any (P := Tryz.prog) w 29 tx ty 5 i0 Tryz.underlying29 hi g xs.length cap cur hg xv m (cells ys) hsrc' hroom hfit
      rw [hz1, Nat.mul_one] at hr
      have hnew : (w.setRow g (cur.toList.take xs.length ++ cells ys ++ cur.toList.drop (xs.length + (cells ys).length)).toArray).heap[g]? = some (.cells (cur.toList.take xs.length ++ cells ys ++ cur.toList.drop (xs.length + (cells ys).length)).toArray 5 (0, 0)) := setRow_heap w g cur _ 5 _ hg
      have hsz : (cur.toList.take xs.length ++ cells ys ++ cur.toList.drop (xs.length + (cells ys).length)).toArray.size = cur.size := by
        simp only [List.size_toArray, List.length_append, List.length_take, List.length_drop, Array.length_toList, cells_length]
        omega
      refine ⟨_, _, hr, ⟨hown.1, .inr ⟨g, cap, _, rfl, hbg, hnew, hnc, hcm, by rw [hsz]; exact hcs, ?_⟩⟩, ?_, .some g _ _ _ hnew hroom (by rw [hsz]; omega) hcm (.inl rfl)⟩
      · have hl : (cells xs).length = xs.length := cells_length xs
        have h1 : cur.toList.take (xs.length * 1) = cells xs := htake
        rw [Nat.mul_one] at h1 ⊢
        rw [h1, List.append_assoc, ← hl]
        exact List.take_left
      · refine ⟨rfl, rfl, rfl, by simp, ?_, ?_⟩
        · intro k _ hn
          refine setRow_other w g k _ ?_
          rintro rfl
          exact hn ⟨rfl, cur, hg⟩
        · intro k c hk
          by_cases e : k = g
          · subst e
            rw [hg] at hk
            simp only [Option.some.injEq, Obj.cells.injEq, and_true] at hk
            subst hk
            exact ⟨_, hnew, hsz⟩
          · exact ⟨c, (setRow_other w g k _ e).trans hk, rfl⟩
    · have holds : ∀ j u, (cells xs)[j]? = some u → w.cell? ((⟨g, 0, none⟩ : Addr).add j) = some u := World.ownsRow.cells (g := g) hown rfl
      have hold := run_firstCells_some (P := Tryz.prog) w.drew i0.size xs.length ⟨g, 0, none⟩ xs.length cap (cells xs) (by rw [hz1, cells_length]; omega) (by simpa using holds)
      have hr := run_append_grow_src (P := Tryz.prog) w 29 tx ty 5 i0 (.int .u8 0) Tryz.underlying29 hi hz0 (some ⟨g, 0, none⟩) xs.length cap (cells xs) hold xv m (cells ys) hsrc' (by omega) h63i (growslice_fits (by omega) (by rw [hz2]; omega))
      have hge := grownCap_ge w (xs.length + m) cap 5
      refine ⟨_, _, hr, (Own.drew hown).carry (w' := _) ((Below.refl _ _).alloc (Nat.le_refl _) _), Touch.of (hBel _), ?_⟩
      refine .some w.heap.size _ _ _ (heap_alloc_new w.drew _) hge ?_ (grownCap_le_maxLen w (xs.length + m) cap 5 (by unfold maxLen; omega)) (.inr (Nat.le_refl _))
      rw [Array.size_append, List.size_toArray, size_zeroCells]
      simp [cells_length, Value.cells]
      omega

theorem wpApp4 {w : World} {ops : Array Oper} {rest : List Oper} {o : Oper} {a : Act} {Q : Exit → Act → World → Prop} (hgd : o.guard = none) (s x : Operand) (tx : TypeId)
    (ho : o.op = .call { callee := .builtin .append, args := #[s, x], argTypes := #[29, tx] })
    (B : Nat) (v : Value) (xs : List UInt8) (hs : a.eval s = v) (hown : Own B w v xs)
    (xv : Value) (ys : List UInt8) (hx : a.eval x = xv) (m : Nat) (hm0 : 0 < m) (hsrc : Src Tryz.prog 1 tx xv m (cells ys) w)
    (hlen : xs.length + ys.length ≤ 140737488355328)
    (h : ∀ v' w', Own B w' v xs → Touch (fun k => some k = v.ownBlock) w w' → Out (fun k => some k = v.ownBlock ∨ w.heap.size ≤ k) w' v' → wpList Tryz.prog ops Q rest (a.put o.dst v') w') : wpList Tryz.prog ops Q (o :: rest) a w := by
  refine wpList_plain hgd fun K hK => ?_
  obtain ⟨v', w', hr, h2, h3, h4⟩ := run_append_keep hown hsrc hm0 hlen o.type
  unfold Oper.wp execOp
  simp only [ho, resolve, invoke, builtin, Sem.run_bind, Sem.run_pure, Result.andThen_ok, List.map_toArray, List.map_cons, List.map_nil, hs, hx, hr]
  exact hK _ _ (h v' w' h2 h3 h4)

end Go.Proofs.YtgncohclofdhmaaGreat

namespace Go.Proofs.YtgncohclofdhmaaGreat
open Go.RowKit
set_option linter.unusedVariables false

/-- Of what was there nothing has turned but blocks of which K says so. -/
structure Save (K : Nat → Prop) (w w' : World) : Prop where
  os : w'.os = w.os
  tape : w'.tape = w.tape
  output : w'.output = w.output
  size : w.heap.size ≤ w'.heap.size
  block : ∀ k : Nat, k < w.heap.size → ¬ K k → w'.heap[k]? = w.heap[k]?

theorem Save.refl (K : Nat → Prop) (w : World) : Save K w w := ⟨rfl, rfl, rfl, Nat.le_refl _, fun _ _ _ => rfl⟩

theorem Save.trans {K : Nat → Prop} {w w1 w2 : World} (h : Save K w w1) (k : Save K w1 w2) : Save K w w2 :=
  ⟨k.os.trans h.os, k.tape.trans h.tape, k.output.trans h.output, Nat.le_trans h.size k.size, fun i hi hn => (k.block i (Nat.lt_of_lt_of_le hi h.size) hn).trans (h.block i hi hn)⟩

theorem Save.mono {K K' : Nat → Prop} {w w' : World} (h : Save K w w') (hk : ∀ k, k < w.heap.size → K k → K' k) : Save K' w w' :=
  ⟨h.os, h.tape, h.output, h.size, fun i hi hn => h.block i hi fun hx => hn (hk i hi hx)⟩

theorem Save.of {K : Nat → Prop} {w w' : World} (h : Below w.heap.size w w') : Save K w w' := ⟨h.os, h.tape, h.output, h.size, fun k hk _ => h.block k hk⟩

theorem Save.touch {R : Nat → Prop} {w w' : World} (h : Touch R w w') : Save R w w' := ⟨h.os, h.tape, h.output, h.size, fun k hk hn => h.block k hk fun hx => hn hx.1⟩

theorem Save.grown {w w' : World} {row : Option Nat} (h : w.grownBy w' row) : Save (fun k => some k = row) w w' := ⟨h.os, h.tape, h.output, h.size, fun k hk hn => h.block k hk hn⟩

theorem Save.set (w : World) (g j : Nat) (u : Value) : Save (fun k => k = g) w (w.setCell ⟨g, j, none⟩ u) := ⟨rfl, rfl, rfl, by simp, fun k _ hn => heap_setCell_other w ⟨g, j, none⟩ k u hn⟩

theorem Save.below {K : Nat → Prop} {B : Nat} {w w' : World} (h : Save K w w') (hB : B ≤ w.heap.size) (hk : ∀ k, k < B → ¬ K k) : Below B w w' := ⟨h.os, h.tape, h.output, h.size, fun k hlt => h.block k (by omega) (hk k hlt)⟩

theorem Out.save {R K : Nat → Prop} {w w' : World} {s : Value} (h : Out R w s) (t : Save K w w') (hk : ∀ k, K k → ¬ U8 w k) : Out R w' s := by
  cases h with
  | none => exact .none
  | some g n c cur h1 h2 h3 h4 h5 => exact .some g n c cur ((t.block g (heap_lt h1) fun hx => hk g hx ⟨cur, h1⟩).trans h1) h2 h3 h4 h5

theorem Out.mono {R R' : Nat → Prop} {w : World} {s : Value} (h : Out R w s) (hr : ∀ k, k < w.heap.size → R k → R' k) : Out R' w s := by
  cases h with
  | none => exact .none
  | some g n c cur h1 h2 h3 h4 h5 => exact .some g n c cur h1 h2 h3 h4 (hr g (heap_lt h1) h5)

theorem Full.save {R K : Nat → Prop} {w w' : World} {s : Value} {v : Nat} (h : Full w s v) (ho : Out R w s) (t : Save K w w') (hk : ∀ k, K k → ¬ U8 w k) : Full w' s v := by
  intro g n c e j hj
  have h1 := h g n c e j hj
  cases ho with
  | none => cases e
  | some g' n' c' cur h2 _ _ _ _ =>
    have hg : g' = g := by
      simp only [Value.slice.injEq, Option.some.injEq, Addr.mk.injEq] at e
      exact e.1.1
    subst hg
    rw [World.cell?_of_block (t.block g' (heap_lt h2) fun hx => hk g' hx ⟨cur, h2⟩)]
    exact h1

theorem Own.out {B : Nat} {w : World} {v : Value} {xs : List UInt8} (h : Own B w v xs) : Out (fun k => some k = v.ownBlock) w v := by
  rcases h.2 with ⟨rfl, _⟩ | ⟨g, cap, cur, rfl, hbg, hg, hnc, hcm, hcs, htake⟩
  · exact .none
  · exact .some g _ _ cur hg hnc (by omega) hcm rfl

/-- The world of All's script, in a block. -/
def WBox (w : World) (g : Nat) (dv sv bv ev : Value) : Prop := w.heap[g]? = some (.cells #[dv, sv, bv, ev] 28 (0, 0))

theorem WBox.c0 {w : World} {g : Nat} {dv sv bv ev : Value} (h : WBox w g dv sv bv ev) : w.cell? ⟨g, 0, none⟩ = some dv := cell_of_row _ g 0 _ _ _ h
theorem WBox.c1 {w : World} {g : Nat} {dv sv bv ev : Value} (h : WBox w g dv sv bv ev) : w.cell? ⟨g, 1, none⟩ = some sv := cell_of_row _ g 1 _ _ _ h
theorem WBox.c2 {w : World} {g : Nat} {dv sv bv ev : Value} (h : WBox w g dv sv bv ev) : w.cell? ⟨g, 2, none⟩ = some bv := cell_of_row _ g 2 _ _ _ h
theorem WBox.c3 {w : World} {g : Nat} {dv sv bv ev : Value} (h : WBox w g dv sv bv ev) : w.cell? ⟨g, 3, none⟩ = some ev := cell_of_row _ g 3 _ _ _ h
theorem WBox.fr {w : World} {g : Nat} {dv sv bv ev : Value} (h : WBox w g dv sv bv ev) (j : Nat) : w.frozen? ⟨g, j, none⟩ = false := by
  have h' : w.heap[g]? = _ := h
  simp [World.frozen?, h']
theorem WBox.lt {w : World} {g : Nat} {dv sv bv ev : Value} (h : WBox w g dv sv bv ev) : g < w.heap.size := heap_lt h
theorem WBox.not_u8 {w : World} {g : Nat} {dv sv bv ev : Value} (h : WBox w g dv sv bv ev) : ¬ U8 w g := Go.Proofs.YtgncohclofdhmaaGreat.not_u8 h (by decide)
theorem WBox.touch {R : Nat → Prop} {w w' : World} {g : Nat} {dv sv bv ev : Value} (h : WBox w g dv sv bv ev) (t : Touch R w w') : WBox w' g dv sv bv ev := (t.block g h.lt fun hx => h.not_u8 hx.2).trans h
theorem WBox.save {K : Nat → Prop} {w w' : World} {g : Nat} {dv sv bv ev : Value} (h : WBox w g dv sv bv ev) (t : Save K w w') (hk : ¬ K g) : WBox w' g dv sv bv ev := (t.block g h.lt hk).trans h
theorem WBox.set2 {w : World} {g : Nat} {dv sv bv ev : Value} (h : WBox w g dv sv bv ev) (u : Value) : WBox (w.setCell ⟨g, 2, none⟩ u) g dv sv u ev := set_heap h

/-- A list of four lists of bytes, as a value. -/
def lval (lb : Nat) : Value := .slice (some ⟨lb, 0, none⟩) 4 4

def OwnL (B : Nat) (w : World) (v : Value) (ls : List Nat) : Prop := w.ownsRow B 42 1 v ls.length (ls.map lval)

theorem OwnL.nil (B : Nat) (w : World) : OwnL B w (.slice none 0 0) [] := World.ownsRow_nil w B 42 1

theorem OwnL.save {K : Nat → Prop} {B : Nat} {w w' : World} {v : Value} {ls : List Nat} (h : OwnL B w v ls) (t : Save K w w') (hk : ∀ k, some k = v.ownBlock → ¬ K k) : OwnL B w' v ls := by
  refine ⟨h.1, ?_⟩
  rcases h.2 with ⟨rfl, hn⟩ | ⟨g, cap, cur, rfl, hbg, hg, hnc, hcm, hcs, htake⟩
  · exact .inl ⟨rfl, hn⟩
  · exact .inr ⟨g, cap, cur, rfl, hbg, (t.block g (heap_lt hg) (hk g rfl)).trans hg, hnc, hcm, hcs, htake⟩

theorem OwnL.not_u8 {B : Nat} {w : World} {v : Value} {ls : List Nat} (h : OwnL B w v ls) (k : Nat) (hk : some k = v.ownBlock) : ¬ U8 w k := by
  rcases h.2 with ⟨rfl, hn⟩ | ⟨g, cap, cur, rfl, hbg, hg, hnc, hcm, hcs, htake⟩
  · cases hk
  · have : k = g := by simpa [Value.ownBlock] using hk
    subst this
    exact Go.Proofs.YtgncohclofdhmaaGreat.not_u8 hg (by decide)

theorem OwnL.touch {R : Nat → Prop} {B : Nat} {w w' : World} {v : Value} {ls : List Nat} (h : OwnL B w v ls) (t : Touch R w w') : OwnL B w' v ls := by
  refine ⟨h.1, ?_⟩
  rcases h.2 with ⟨rfl, hn⟩ | ⟨g, cap, cur, rfl, hbg, hg, hnc, hcm, hcs, htake⟩
  · exact .inl ⟨rfl, hn⟩
  · exact .inr ⟨g, cap, cur, rfl, hbg, (t.block g (heap_lt hg) fun hx => Go.Proofs.YtgncohclofdhmaaGreat.not_u8 hg (by decide) hx.2).trans hg, hnc, hcm, hcs, htake⟩

theorem OwnL.len {B : Nat} {w : World} {v : Value} {ls : List Nat} (h : OwnL B w v ls) : ∃ a c, v = .slice a ls.length c ∧ ls.length ≤ c ∧ c ≤ maxLen := by
  rcases h.2 with ⟨rfl, hn⟩ | ⟨g, cap, cur, rfl, hbg, hg, hnc, hcm, hcs, htake⟩
  · exact ⟨none, 0, by rw [hn], by omega, by simp [maxLen]⟩
  · exact ⟨_, cap, rfl, hnc, hcm⟩

theorem Tryz.info42 : (Tryz.prog.info? 42).map (fun i => (i.zero, i.size, i.bytes)) = some (some (.slice none 0 0), 1, 24) := by kernel_rfl

theorem wpAppL {w : World} {ops : Array Oper} {rest : List Oper} {o : Oper} {a : Act} {Q : Exit → Act → World → Prop} (hgd : o.guard = none) (s x : Operand)
    (ho : o.op = .call { callee := .builtin .append, args := #[s, x], argTypes := #[26, 26] })
    (B : Nat) (v : Value) (ls : List Nat) (hs : a.eval s = v) (hown : OwnL B w v ls)
    (xv : Value) (l : Nat) (hx : a.eval x = xv) (hsrc : Src Tryz.prog 1 26 xv 1 [lval l] w)
    (hlen : ls.length ≤ 1000000000) (hB : B ≤ w.heap.size)
    (h : ∀ v' w', OwnL B w' v' (ls ++ [l]) → w.grownBy w' v.ownBlock → (v'.ownBlock = v.ownBlock ∨ v'.ownBlock = some w.heap.size) → wpList Tryz.prog ops Q rest (a.put o.dst v') w') : wpList Tryz.prog ops Q (o :: rest) a w := by
  obtain ⟨i0, hi, hz0, hz1, hz2⟩ := info_parts Tryz.info42
  refine wpList_append_any w hgd s x 26 26 ho B 42 i0 (.slice none 0 0) 1 24 Tryz.underlying26 hi hz0 hz1 hz2 rfl v ls.length (ls.map lval) hs hown xv 1 [lval l] hx hsrc (by unfold maxLen; omega) (by omega) hB ?_
  intro v' w' h1 h2 h3
  refine h v' w' ?_ h2 h3
  unfold OwnL
  rw [List.map_append, List.length_append]
  exact h1

/-- Bytes in a block of their own, as a source. -/
theorem src_lit (w : World) (ys : List UInt8) (n : Nat) (hn : n = ys.length) (vs : Array Value) (hv : vs = (cells ys).toArray) : Src Tryz.prog 1 29 (.slice (some ⟨w.heap.size, 0, none⟩) n n) n (cells ys) (w.alloc (.cells vs 5)) := by
  subst hn
  subst hv
  refine Src.ofSlice _ Tryz.underlying29 ⟨w.heap.size, 0, none⟩ ys.length ys.length _ (by simp [cells_length]) ?_ (cells_one _)
  intro j u hj
  rw [Addr.add_lit, Nat.zero_add, cell_of_row _ w.heap.size j _ _ _ (heap_alloc_new w _)]
  simpa using hj

theorem src_list (w : World) (l : Nat) : Src Tryz.prog 1 26 (.slice (some ⟨w.heap.size, 0, none⟩) 1 1) 1 [lval l] (w.alloc (.cells #[lval l] 42)) := by
  refine Src.ofSlice _ Tryz.underlying26 ⟨w.heap.size, 0, none⟩ 1 1 _ (by simp) ?_ (by intro u hu; simp at hu; subst hu; rfl)
  intro j u hj
  rw [Addr.add_lit, Nat.zero_add, cell_of_row _ w.heap.size j _ _ _ (heap_alloc_new w _)]
  simpa using hj

end Go.Proofs.YtgncohclofdhmaaGreat

namespace Go.Proofs.YtgncohclofdhmaaGreat
open Go.RowKit
set_option linter.unusedVariables false

theorem OwnL.ne {B : Nat} {w : World} {v : Value} {ls : List Nat} (h : OwnL B w v ls) {g : Nat} {cur : Array Value} {t : TypeId} (hg : w.heap[g]? = some (.cells cur t (0, 0))) (ht : t ≠ 42) : ¬ some g = v.ownBlock := by
  intro e
  rcases h.2 with ⟨rfl, hn⟩ | ⟨g', cap, cur', rfl, hbg, hg', hnc, hcm, hcs, htake⟩
  · cases e
  · have : g = g' := by simpa [Value.ownBlock] using e
    subst this
    rw [hg] at hg'
    simp only [Option.some.injEq, Obj.cells.injEq] at hg'
    exact ht hg'.2.1

theorem OwnL.alloc {B : Nat} {w : World} {v : Value} {ls : List Nat} (h : OwnL B w v ls) (o : Obj) : OwnL B (w.alloc o) v ls := World.ownsRow.alloc h o

theorem ofNat_cell (v : Nat) (hv : v < 256) : cell (UInt8.ofNat v) = .int .u8 (v : Int) := by
  unfold cell
  congr 1
  rw [UInt8.toNat_ofNat']
  omega

theorem below_alloc (w : World) (o : Obj) : Below w.heap.size w (w.alloc o) := (Below.refl _ _).alloc (Nat.le_refl _) o

set_option maxRecDepth 100000 in
set_option maxHeartbeats 2000000 in
theorem mine_any (gw : Nat) (w : World) (dv sv bv ev : Value) (S Bb : Nat) (p : Value) (xs : List UInt8) (ls : List Nat) (hW : WBox w gw dv sv bv ev) (hL : OwnL Bb w bv ls) (hBb : Bb ≤ w.heap.size) (hp : Own S w p xs) (hxl : xs.length ≤ 140737488355300) (hll : ls.length ≤ 1000000000) :
    Calls Tryz.prog 22 #[.pointer (some ⟨gw, 0, none⟩), p] w fun e w' => (∃ u, e = .returned u) ∧ ∃ (bv' : Value) (lb : Nat) (ss : List Value), WBox w' gw dv sv bv' ev ∧ OwnL Bb w' bv' (ls ++ [lb]) ∧ w'.heap[lb]? = some (.cells ss.toArray 29 (0, 0)) ∧ ss.length = 4 ∧ w.heap.size ≤ lb ∧
      (∀ s, s ∈ ss → Out (fun k => some k = p.ownBlock ∨ (w.heap.size ≤ k ∧ k < w'.heap.size)) w' s ∧ Full w' s (digN ls.length 0)) ∧ Save (fun k => k = gw ∨ some k = bv.ownBlock ∨ some k = p.ownBlock) w w' ∧ (bv'.ownBlock = bv.ownBlock ∨ ∀ k, some k = bv'.ownBlock → w.heap.size ≤ k) := by
  obtain ⟨pa, pc, rfl, -, -, -⟩ := hp.shape
  obtain ⟨ba, bc, rfl, -, -⟩ := hL.len
  have HD := hide (fun W => digit_any ls.length 0 W (by omega) (by omega))
  have hv := digN_lt ls.length 0
  generalize digN ls.length 0 = v at *
  have c2 := hW.c2
  have hc1 : Hid (#[Value.int .u8 (v : Int)] = (cells [UInt8.ofNat v]).toArray) := by show _ = _; simp [cells, ofNat_cell v (by omega)]
  have hc2 : Hid (#[Value.int .u8 (v : Int), Value.int .u8 (v : Int)] = (cells [UInt8.ofNat v, UInt8.ofNat v]).toArray) := by show _ = _; simp [cells, ofNat_cell v (by omega)]
  have hc3 : Hid (#[Value.int .u8 (v : Int), Value.int .u8 (v : Int), Value.int .u8 (v : Int)] = (cells [UInt8.ofNat v, UInt8.ofNat v, UInt8.ofNat v]).toArray) := by show _ = _; simp [cells, ofNat_cell v (by omega)]
  have HO0 := hide hp.out
  obtain ⟨po, HPo⟩ : ∃ po, Hid (po = (Value.slice pa xs.length pc).ownBlock) := ⟨_, rfl⟩
  rw [← HPo.out] at HO0 ⊢
  go_enter Tryz.func22, Tryz.ntmps22
  go_wp2_with fail
  refine (HD.out _).mono ?_
  rintro e w0 ⟨rfl, rfl⟩
  have s1 := src_lit w0 [UInt8.ofNat v] 1 rfl _ hc1.out
  have o1 := hp.alloc (.cells #[.int .u8 (v : Int)] 5)
  go_wp2_with (at_builtin; go_must (refine wpApp4 rfl (.tmp 13) (.tmp 15) 29 rfl S _ xs rfl o1 _ [UInt8.ofNat v] rfl 1 (by omega) s1 (by simp; omega) ?_))
  intro v1 w1 p1 t1 q1
  rw [← HPo.out] at t1 q1
  have T1 := (Touch.of (R := fun k => some k = po) (below_alloc w0 (.cells #[.int .u8 (v : Int)] 5))).trans t1
  have Q1 : Out (fun k => some k = po ∨ w0.heap.size ≤ k) w1 v1 := q1.mono fun k _ h => h.imp id fun h => by omega
  obtain ⟨a1, n1, c1, rfl, -, -⟩ := q1.slice
  clear s1 o1 t1 q1
  have s2 := src_lit w1 [UInt8.ofNat v, UInt8.ofNat v] 2 rfl _ hc2.out
  have o2 := p1.alloc (.cells #[.int .u8 (v : Int), .int .u8 (v : Int)] 5)
  go_wp2_with (at_builtin; go_must (refine wpApp4 rfl (.tmp 17) (.tmp 20) 29 rfl S _ xs rfl o2 _ [UInt8.ofNat v, UInt8.ofNat v] rfl 2 (by omega) s2 (by simp; omega) ?_))
  intro v2 w2 p2 t2 q2
  rw [← HPo.out] at t2 q2
  have t2' := (Touch.of (R := fun k => some k = po) (below_alloc w1 (.cells #[.int .u8 (v : Int), .int .u8 (v : Int)] 5))).trans t2
  have T2 := T1.trans t2'
  have Q2 : Out (fun k => some k = po ∨ w0.heap.size ≤ k) w2 v2 := q2.mono fun k _ h => h.imp id fun h => by have := T1.size; omega
  have Q1' := Q1.touch t2'
  obtain ⟨a2, n2, c2', rfl, -, -⟩ := q2.slice
  clear s2 o2 t2 q2 p1 t2' Q1 T1
  have s3 := src_lit w2 [UInt8.ofNat v, UInt8.ofNat v, UInt8.ofNat v] 3 rfl _ hc3.out
  have o3 := p2.alloc (.cells #[.int .u8 (v : Int), .int .u8 (v : Int), .int .u8 (v : Int)] 5)
  go_wp2_with (at_builtin; go_must (refine wpApp4 rfl (.tmp 22) (.tmp 26) 29 rfl S _ xs rfl o3 _ [UInt8.ofNat v, UInt8.ofNat v, UInt8.ofNat v] rfl 3 (by omega) s3 (by simp; omega) ?_))
  intro v3 w3 p3 t3 q3
  rw [← HPo.out] at t3 q3
  have t3' := (Touch.of (R := fun k => some k = po) (below_alloc w2 (.cells #[.int .u8 (v : Int), .int .u8 (v : Int), .int .u8 (v : Int)] 5))).trans t3
  have T3 := T2.trans t3'
  have Q3 : Out (fun k => some k = po ∨ w0.heap.size ≤ k) w3 v3 := q3.mono fun k _ h => h.imp id fun h => by have := T2.size; omega
  have Q1a := Q1'.touch t3'
  have Q2a := Q2.touch t3'
  have Q0a : Out (fun k => some k = po ∨ w0.heap.size ≤ k) w3 (.slice pa xs.length pc) := (HO0.out.touch T3).mono fun k _ h => .inl h
  obtain ⟨a3, n3, c3, rfl, -, -⟩ := q3.slice
  clear s3 o3 t3 q3 p2 t3' Q1' Q2 T2
  have hlb : (w3.alloc (.cells #[.slice pa xs.length pc, .slice a1 n1 c1, .slice a2 n2 c2', .slice a3 n3 c3] 29)).heap[w3.heap.size]? = some (.cells #[.slice pa xs.length pc, .slice a1 n1 c1, .slice a2 n2 c2', .slice a3 n3 c3] 29 (0, 0)) := heap_alloc_new w3 _
  have Ba := below_alloc w3 (.cells #[.slice pa xs.length pc, .slice a1 n1 c1, .slice a2 n2 c2', .slice a3 n3 c3] 29)
  have T4 := T3.trans (Touch.of (R := fun k => some k = po) Ba)
  obtain ⟨ss, HSs⟩ : ∃ ss : List Value, Hid (ss = [.slice pa xs.length pc, .slice a1 n1 c1, .slice a2 n2 c2', .slice a3 n3 c3]) := ⟨_, rfl⟩
  have HOut : Hid (∀ s, s ∈ ss → Out (fun k => some k = po ∨ w0.heap.size ≤ k) (w3.alloc (.cells #[.slice pa xs.length pc, .slice a1 n1 c1, .slice a2 n2 c2', .slice a3 n3 c3] 29)) s) := by
    intro s hs
    rw [HSs.out] at hs
    simp only [List.mem_cons, List.not_mem_nil, or_false] at hs
    rcases hs with rfl | rfl | rfl | rfl
    · exact Q0a.touch (Touch.of (R := fun _ => False) Ba)
    · exact Q1a.touch (Touch.of (R := fun _ => False) Ba)
    · exact Q2a.touch (Touch.of (R := fun _ => False) Ba)
    · exact Q3.touch (Touch.of (R := fun _ => False) Ba)
  have hss4 : ss.length = 4 := by rw [HSs.out]; rfl
  have hlb' : (w3.alloc (.cells #[.slice pa xs.length pc, .slice a1 n1 c1, .slice a2 n2 c2', .slice a3 n3 c3] 29)).heap[w3.heap.size]? = some (.cells ss.toArray 29 (0, 0)) := by rw [HSs.out]; exact hlb
  have hs03 : w0.heap.size ≤ w3.heap.size := T3.size
  clear p3 Q0a Q1a Q2a Q3 T3 hlb Ba c2
  go_wp2_with fail
  generalize w3.alloc (.cells #[.slice pa xs.length pc, .slice a1 n1 c1, .slice a2 n2 c2', .slice a3 n3 c3] 29) = W4 at *
  have KW := hide (written_any (fun k => some k = po ∨ w0.heap.size ≤ k) w3.heap.size ss 4 4 v W4 hss4.symm (by omega) (by omega) hlb' HOut.out)
  refine KW.out.mono ?_
  rintro e w5 ⟨⟨u5, rfl⟩, t5, f5⟩
  have W5 : WBox w5 gw dv sv (.slice ba ls.length bc) ev := (hW.touch T4).touch t5
  have L5 : OwnL Bb w5 (.slice ba ls.length bc) ls := (hL.touch T4).touch t5
  have lb5 : w5.heap[w3.heap.size]? = some (.cells ss.toArray 29 (0, 0)) := (t5.block _ (heap_lt hlb') fun hx => not_u8 hlb' (by decide) hx.2).trans hlb'
  have HOut5 := hide (fun s hs => (HOut.out s hs).touch t5)
  have HF5 := hide f5
  have SV5 : Save (fun k => some k = po) w0 w5 := ⟨t5.os.trans T4.os, t5.tape.trans T4.tape, t5.output.trans T4.output, Nat.le_trans T4.size t5.size, fun k hk hn => (t5.block k (Nat.lt_of_lt_of_le hk T4.size) fun hx => hx.1.elim hn fun h => by omega).trans (T4.block k hk fun hx => hn hx.1)⟩
  have sL := src_list w5 w3.heap.size
  unfold lval at sL
  have Ba5 := below_alloc w5 (.cells #[.slice (some ⟨w3.heap.size, 0, none⟩) 4 4] 42)
  have L6 := L5.alloc (.cells #[.slice (some ⟨w3.heap.size, 0, none⟩) 4 4] 42)
  have W6 := W5.touch (Touch.of (R := fun _ => False) Ba5)
  have lb6 := (Ba5.block _ (heap_lt lb5)).trans lb5
  have HOut6 := hide (fun s hs => (HOut5.out s hs).touch (Touch.of (R := fun _ => False) Ba5))
  have HF6 := hide (fun s hs => (HF5.out s hs).keep (Touch.of (R := fun _ => False) Ba5) fun _ _ _ _ h => h)
  have SV6 := SV5.trans (Save.of Ba5)
  have hB6 : Bb ≤ (w5.alloc (.cells #[.slice (some ⟨w3.heap.size, 0, none⟩) 4 4] 42)).heap.size := Nat.le_trans (Nat.le_trans hBb SV5.size) Ba5.size
  have c25 := W5.c2
  have c26 := W6.c2
  clear KW HOut5 HF5 HOut hlb' L5 lb5 T4 t5 f5 SV5 hL hp
  go_wp2_with (at_builtin; go_must (refine wpAppL rfl (.tmp 36) (.tmp 38) rfl Bb _ ls rfl L6 _ w3.heap.size rfl sL (by omega) hB6 ?_))
  intro v7 w7 L7 g7 e7
  have E7 : Hid (v7.ownBlock = (Value.slice ba ls.length bc).ownBlock ∨ ∀ k, some k = v7.ownBlock → w0.heap.size ≤ k) := by
    refine e7.imp id fun e k hk => ?_
    rw [e] at hk
    have h1 := Option.some.inj hk
    have h2 := SV6.size
    simp at h2
    omega
  clear e7
  have SV7 := Save.grown g7
  have W7 := W6.save SV7 (L6.ne W6 (by decide))
  have lb7 := (SV7.block _ (heap_lt lb6) (L6.ne lb6 (by decide))).trans lb6
  have HOut7 := hide (fun s hs => (HOut6.out s hs).save SV7 L6.not_u8)
  have HF7 := hide (fun s hs => (HF6.out s hs).save (HOut6.out s hs) SV7 L6.not_u8)
  obtain ⟨a7, c7, rfl, -, -⟩ := L7.len
  have W8 := W7.set2 (.slice a7 (ls ++ [w3.heap.size]).length c7)
  have SV8 := Save.set w7 gw 2 (.slice a7 (ls ++ [w3.heap.size]).length c7)
  have L8 : OwnL Bb (w7.setCell ⟨gw, 2, none⟩ (.slice a7 (ls ++ [w3.heap.size]).length c7)) (.slice a7 (ls ++ [w3.heap.size]).length c7) (ls ++ [w3.heap.size]) := L7.save SV8 fun k hk e => by subst e; exact L7.ne W7 (by decide) hk
  have hne : w3.heap.size ≠ gw := fun e => by
    have h : w7.heap[gw]? = _ := W7
    rw [← e, lb7] at h
    simp at h
  have lb8 := (heap_setCell_other w7 ⟨gw, 2, none⟩ w3.heap.size (.slice a7 (ls ++ [w3.heap.size]).length c7) hne).trans lb7
  have hu7 : ∀ k, k = gw → ¬ U8 w7 k := fun k e => by subst e; exact W7.not_u8
  have HOut8 := hide (fun s hs => (HOut7.out s hs).save SV8 hu7)
  have HF8 := hide (fun s hs => (HF7.out s hs).save (HOut7.out s hs) SV8 hu7)
  have SVA : Save (fun k => k = gw ∨ some k = (Value.slice ba ls.length bc).ownBlock ∨ some k = po) w0 (w7.setCell ⟨gw, 2, none⟩ (.slice a7 (ls ++ [w3.heap.size]).length c7)) := (SV6.mono fun k _ h => .inr (.inr h)).trans ((SV7.mono fun k _ h => .inr (.inl h)).trans (SV8.mono fun k _ h => .inl h))
  have HEnd := hide (show ∃ (bv' : Value) (lb : Nat) (ss : List Value), WBox (w7.setCell ⟨gw, 2, none⟩ (.slice a7 (ls ++ [w3.heap.size]).length c7)) gw dv sv bv' ev ∧ OwnL Bb (w7.setCell ⟨gw, 2, none⟩ (.slice a7 (ls ++ [w3.heap.size]).length c7)) bv' (ls ++ [lb]) ∧ (w7.setCell ⟨gw, 2, none⟩ (.slice a7 (ls ++ [w3.heap.size]).length c7)).heap[lb]? = some (.cells ss.toArray 29 (0, 0)) ∧ ss.length = 4 ∧ w0.heap.size ≤ lb ∧
      (∀ s, s ∈ ss → Out (fun k => some k = po ∨ (w0.heap.size ≤ k ∧ k < (w7.setCell ⟨gw, 2, none⟩ (.slice a7 (ls ++ [w3.heap.size]).length c7)).heap.size)) (w7.setCell ⟨gw, 2, none⟩ (.slice a7 (ls ++ [w3.heap.size]).length c7)) s ∧ Full (w7.setCell ⟨gw, 2, none⟩ (.slice a7 (ls ++ [w3.heap.size]).length c7)) s v) ∧ Save (fun k => k = gw ∨ some k = (Value.slice ba ls.length bc).ownBlock ∨ some k = po) w0 (w7.setCell ⟨gw, 2, none⟩ (.slice a7 (ls ++ [w3.heap.size]).length c7)) ∧ (bv'.ownBlock = (Value.slice ba ls.length bc).ownBlock ∨ ∀ k, some k = bv'.ownBlock → w0.heap.size ≤ k) from
    ⟨_, _, ss, W8, L8, lb8, hss4, hs03, fun s hs => ⟨(HOut8.out s hs).mono fun k hk h => h.imp id fun h => ⟨h, hk⟩, HF8.out s hs⟩, SVA, E7.out⟩)
  rw [show (ls ++ [w3.heap.size]).length = ls.length + 1 from by simp] at HEnd ⊢
  have c27 := W7.c2
  have f27 := W7.fr 2
  clear E7 W8 SV8 L8 lb8 SVA SV7 SV6 g7 L6 lb7 lb6 L7 sL hss4
  go_wp2
  refine bodyPost_end (v := ?_) ?_ rfl ⟨⟨_, rfl⟩, HEnd.out⟩
  rotate_left
  · simp only [results]
    simp
    rfl

end Go.Proofs.YtgncohclofdhmaaGreat
