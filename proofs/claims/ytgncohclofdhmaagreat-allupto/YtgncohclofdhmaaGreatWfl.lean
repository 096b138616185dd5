import Derived.Test.YtgncohclofdhmaaGreatWsort
import Derived.Test.YtgncohclofdhmaaGreatWpath4
import Derived.Test.YtgncohclofdhmaaGreatMall
import Derived.Deep.DeepCutAuto
import Derived.Test.YtgncohclofdhmaaGreatWmade
namespace Go.Proofs.YtgncohclofdhmaaGreat
open Go.RowKit

def fltCells : List Flt → List Value
  | [] => []
  | f :: r => .int .i64 (f.1 : Int) :: .string f.2 :: fltCells r

theorem fltCells_length : ∀ es : List Flt, (fltCells es).length = es.length * 2
  | [] => rfl
  | e :: r => by simp [fltCells, fltCells_length r]; omega

theorem fltCells_append : ∀ es fs : List Flt, fltCells (es ++ fs) = fltCells es ++ fltCells fs
  | [], _ => rfl
  | e :: r, fs => by simp [fltCells, fltCells_append r fs]

theorem fltCells_one : ∀ es : List Flt, ∀ u ∈ fltCells es, u.oneCell' = true
  | [], u, h => by cases h
  | e :: r, u, h => by
    simp only [fltCells, List.mem_cons] at h
    rcases h with rfl | rfl | h
    · rfl
    · rfl
    · exact fltCells_one r u h

theorem fltCells_get : ∀ (es : List Flt) (i : Nat), i < es.length → (fltCells es)[i * 2]? = some (.int .i64 ((es.getD i noFlt).1 : Int)) ∧ (fltCells es)[i * 2 + 1]? = some (.string (es.getD i noFlt).2)
  | [], i, h => absurd h (Nat.not_lt_zero i)
  | e :: r, 0, _ => ⟨rfl, rfl⟩
  | e :: r, i + 1, h => by
    have := fltCells_get r i (by simpa using h)
    rw [show (i + 1) * 2 = i * 2 + 1 + 1 from by omega]
    simpa [fltCells] using this

/-- From 'a' on lie the faults es. -/
def FltAt (w : World) (a : Option Addr) (es : List Flt) : Prop :=
  ∀ i, i < es.length → ∃ b off, a = some ⟨b, off, none⟩ ∧ w.cell? ⟨b, off + i * 2, none⟩ = some (.int .i64 ((es.getD i noFlt).1 : Int)) ∧ w.cell? ⟨b, off + i * 2 + 1, none⟩ = some (.string (es.getD i noFlt).2)

theorem FltAt.carry {w w' : World} {a : Option Addr} {es : List Flt} (h : FltAt w a es) (hb : Below w.heap.size w w') : FltAt w' a es := by
  intro i hi
  obtain ⟨b, off, e, h1, h2⟩ := h i hi
  exact ⟨b, off, e, (hb.cell (p := ⟨b, off + i * 2, none⟩) (World.block_lt_of_cell? w _ h1)).trans h1, (hb.cell (p := ⟨b, off + i * 2 + 1, none⟩) (World.block_lt_of_cell? w _ h2)).trans h2⟩

theorem FltAt.nil (w : World) (a : Option Addr) : FltAt w a [] := fun i h => absurd h (Nat.not_lt_zero i)

/-- A list of faults of the call's own. -/
def OwnF (B : Nat) (w : World) (v : Value) (es : List Flt) : Prop := w.ownsRow B 77 2 v es.length (fltCells es)

theorem OwnF.nil (B : Nat) (w : World) : OwnF B w (.slice none 0 0) [] := World.ownsRow_nil w B 77 2

theorem OwnF.shape {B : Nat} {w : World} {v : Value} {es : List Flt} (h : OwnF B w v es) : ∃ a cap, v = .slice a es.length cap ∧ FltAt w a es ∧ es.length ≤ cap ∧ cap ≤ maxLen := by
  rcases h.2 with ⟨rfl, hn⟩ | ⟨g, cap, cur, rfl, hbg, hg, hnc, hcm, hcs, htake⟩
  · have : es = [] := List.eq_nil_of_length_eq_zero hn
    subst this
    exact ⟨none, 0, rfl, FltAt.nil _ _, Nat.le_refl _, by simp [maxLen]⟩
  · refine ⟨_, cap, rfl, ?_, hnc, hcm⟩
    intro i hi
    have hc := World.ownsRow.cellAt (g := g) (cap := cap) h (i * 2) (by omega)
    have hc2 := World.ownsRow.cellAt (g := g) (cap := cap) h (i * 2 + 1) (by omega)
    obtain ⟨e1, e2⟩ := fltCells_get es i hi
    refine ⟨g, 0, rfl, ?_, ?_⟩
    · rw [Nat.zero_add, hc, e1]
    · rw [Nat.zero_add, hc2, e2]

theorem OwnF.carry {B : Nat} {w w' : World} {v : Value} {es : List Flt} (h : OwnF B w v es) (hb : Below w.heap.size w w') : OwnF B w' v es := by
  refine ⟨h.1, ?_⟩
  rcases h.2 with ⟨rfl, hn⟩ | ⟨g, cap, cur, rfl, hbg, hg, hnc, hcm, hcs, htake⟩
  · exact .inl ⟨rfl, hn⟩
  · have hlt : g < w.heap.size := by
      by_cases hh : g < w.heap.size
      · exact hh
      · rw [Array.getElem?_eq_none (by omega)] at hg; simp at hg
    exact .inr ⟨g, cap, cur, rfl, hbg, (hb.block g hlt).trans hg, hnc, hcm, hcs, htake⟩

theorem OwnF.alloc {B : Nat} {w : World} {v : Value} {es : List Flt} (h : OwnF B w v es) (o : Obj) : OwnF B (w.alloc o) v es := World.ownsRow.alloc h o

theorem below_ownF {B : Nat} {w0 w w' : World} {v : Value} {es : List Flt} (hb : Below B w0 w) (hown : OwnF B w v es) (hg : w.grownBy w' v.ownBlock) (hB : B ≤ w0.heap.size) : Below B w0 w' :=
  hb.grown hg (Nat.le_trans hB hb.size) fun k hk => (World.ownsRow.lt hown k hk).1

theorem Tryz.info77 : (Tryz.prog.info? 77).map (fun i => (i.zero, i.size, i.bytes)) = some (some (.agg #[.int .i64 0, .string ByteArray.empty]), 2, 24) := by kernel_rfl

theorem src_flts {w : World} {a : Option Addr} {es : List Flt} {c n : Nat} (h : FltAt w a es) (hn : n = es.length) : Src Tryz.prog 2 79 (.slice a n c) n (fltCells es) w := by
  subst hn
  match a with
  | none =>
    have : es = [] := by
      cases es with
      | nil => rfl
      | cons x r => obtain ⟨b, off, e, _⟩ := h 0 (by simp); simp at e
    subst this
    exact Src.ofNil w Tryz.underlying79 c
  | some ad =>
    refine Src.ofSlice w Tryz.underlying79 ad es.length c (fltCells es) (by simp [fltCells_length]) ?_ (fltCells_one es)
    intro j u hj
    have hl : j < es.length * 2 := by
      have := (List.getElem?_eq_some_iff.1 hj).1
      simpa [fltCells_length] using this
    obtain ⟨b, off, e, hc, hc2⟩ := h (j / 2) (by omega)
    simp only [Option.some.injEq] at e
    subst e
    obtain ⟨e1, e2⟩ := fltCells_get es (j / 2) (by omega)
    rw [Addr.add_lit]
    rcases Nat.mod_two_eq_zero_or_one j with hm | hm
    · rw [show j / 2 * 2 = j from by omega] at hc e1
      rw [hj] at e1
      rw [hc, e1]
    · rw [show off + j / 2 * 2 + 1 = off + j from by omega] at hc2
      rw [show j / 2 * 2 + 1 = j from by omega] at e2
      rw [hj] at e2
      rw [hc2, e2]

theorem wpAppF {w : World} {ops : Array Oper} {rest : List Oper} {o : Oper} {a : Act} {Q : Exit → Act → World → Prop} (hgd : o.guard = none) (s x : Operand)
    (ho : o.op = .call { callee := .builtin .append, args := #[s, x], argTypes := #[79, 79] })
    (B : Nat) (v : Value) (xs : List Flt) (hs : a.eval s = v) (hown : OwnF B w v xs)
    (xv : Value) (ys : List Flt) (hx : a.eval x = xv) (m : Nat) (hsrc : Src Tryz.prog 2 79 xv m (fltCells ys) w)
    (hlen : (xs.length + ys.length) * 24 ≤ 140737488355328) (hB : B ≤ w.heap.size)
    (h : ∀ v' w' zs, Hid (zs = xs ++ ys) → OwnF B w' v' zs → Grows w w' v v' → wpList Tryz.prog ops Q rest (a.put o.dst v') w') : wpList Tryz.prog ops Q (o :: rest) a w := by
  obtain ⟨i0, hi, hz0, hz1, hz2⟩ := info_parts Tryz.info77
  have hm : m = ys.length := by have := hsrc.newsLen; rw [fltCells_length] at this; omega
  refine wpList_append_any w hgd s x 79 79 ho B 77 i0 (.agg #[.int .i64 0, .string ByteArray.empty]) 2 24 Tryz.underlying79 hi hz0 hz1 hz2 rfl v xs.length (fltCells xs) hs hown xv m (fltCells ys) hx hsrc (by unfold maxLen; omega) (by omega) hB ?_
  intro v' w' h1 h2 h3
  refine h v' w' (xs ++ ys) rfl ?_ ⟨h2, ?_⟩
  · unfold OwnF
    rw [fltCells_append, List.length_append, ← hm]
    exact h1
  · rcases h3 with e | e
    · exact .inl e
    · exact .inr ⟨_, e, Nat.le_refl _⟩

/-- One fault in a block of its own. -/
theorem src_flt (w : World) (n : Nat) (z : Int) (p : ByteArray) (hz : z = (n : Int)) : Src Tryz.prog 2 79 (.slice (some ⟨w.heap.size, 0, none⟩) 1 1) 1 (fltCells [(n, p)]) (w.alloc (.cells #[.int .i64 z, .string p] 77)) := by
  subst hz
  refine Src.ofSlice _ Tryz.underlying79 ⟨w.heap.size, 0, none⟩ 1 1 _ (by simp [fltCells_length]) ?_ (fltCells_one _)
  intro j u hj
  rw [Addr.add_lit, Nat.zero_add, cell_of_row _ w.heap.size j _ _ _ (heap_alloc_new w _)]
  simpa [fltCells] using hj

end Go.Proofs.YtgncohclofdhmaaGreat

namespace Go.Proofs.YtgncohclofdhmaaGreat
open Go.RowKit

theorem toList_data (s : ByteArray) : s.toList = s.data.toList := ByteArray.toList_eq s

set_option maxRecDepth 100000 in
set_option maxHeartbeats 2000000 in
theorem ofEntry_any (a : Option Addr) (es : List Ent) (cap i : Nat) (w : World) (hi : i < es.length) (hm : es.length ≤ 1000000000000) (ha : EntAt w a es) (hg : EntGood w es) :
    Calls Tryz.prog 79 #[.slice a es.length cap, .int .i64 i] w fun e w' => ∃ v, e = .returned v ∧ OwnF w.heap.size w' v (fltEntry (fun k => (es.getD k noEnt).path) (es.getD i noEnt).body.length es.length i) ∧ Below w.heap.size w w' := by
  obtain ⟨n, HN⟩ : ∃ n, Hid (n = es.length) := ⟨_, rfl⟩
  rw [← HN.out] at hi hm ⊢
  obtain ⟨b, off, rfl, hc1, hc2⟩ := ha i (by have := HN.out; omega)
  obtain ⟨_, _, g3, g4⟩ := hg.get i (by have := HN.out; omega)
  obtain ⟨ps, HP⟩ : ∃ ps : Nat → ByteArray, Hid (ps = fun k => (es.getD k noEnt).path) := ⟨_, rfl⟩
  rw [← HP.out]
  have ep : ∀ k, (es.getD k noEnt).path = ps k := fun k => by rw [HP.out]
  rw [ep] at hc1 g4
  obtain ⟨p, Hp⟩ : ∃ p, Hid (p = ps i) := ⟨_, rfl⟩
  rw [← Hp.out] at hc1 g4
  unfold Ent.val at hc2
  obtain ⟨l, Hl⟩ : ∃ l, Hid (l = (es.getD i noEnt).body.length) := ⟨_, rfl⟩
  rw [← Hl.out] at hc2 ⊢
  have hll : l ≤ maxLen := by
    obtain ⟨_, h2, h3, _⟩ := hg.get i (by have := HN.out; omega)
    rw [Hl.out]
    omega
  unfold maxLen at hll
  generalize (es.getD i noEnt).adr = xa at hc2
  generalize (es.getD i noEnt).cap = xc at hc2
  have hin : (i : Int) < (n : Int) := by omega
  go_enter Tryz.func79, Tryz.ntmps79
  go_wp2_with fail
  refine (pathFits_any p _ g4).mono ?_
  rintro e w1 ⟨rfl, b1⟩
  go_upto_if 18 with fail
  go_cut [5, 7] (fun s5 _ wx => OwnF w.heap.size wx s5 (fltBad p) ∧ Below w.heap.size w wx)
  case first =>
    cases hb : pathB p.data.toList
    · have HFL := hide (show ([] : List Flt).length ≤ 2 by simp)
      have hs3 := src_flt w1 4 4 p rfl
      have ho3 := (OwnF.nil w.heap.size w1).alloc (.cells #[.int .i64 4, .string p] 77)
      have hbl3 := b1.alloc b1.size (.cells #[.int .i64 4, .string p] 77)
      go_wp2_with (at_builtin; go_must (refine wpAppF rfl (.tmp 19) (.tmp 22) rfl w.heap.size _ [] rfl ho3 _ [(4, p)] rfl 1 hs3 (by have := HFL.out; simp only [List.length_cons, List.length_nil]; omega) hbl3.size ?_))
      intro v3 w3 f3 e3 o3 gr3
      have b3 := below_ownF hbl3 ho3 gr3.by_ (Nat.le_refl _)
      clear hs3 ho3 hbl3 gr3
      go_wp2_with fail
      go_meet
      case rel => exact ⟨by rw [fltBad, hb]; simpa [e3.out] using o3, b3⟩
    · go_wp2_with fail
      go_meet
      case rel => exact ⟨by rw [fltBad, hb]; exact OwnF.nil _ _, b1⟩
  case rest =>
    obtain ⟨hoc, hbc⟩ := hcut
    have HBL := hide (fltBad_len p)
    clear b1
    go_wp2
    go_loopw [5, 8, 9] (fun v k _ wr => ∃ (j : Nat) (fs : List Flt), j ≤ n ∧ k = .int .i64 j ∧ Hid (fs = fltBad p ++ fltPairs ps i j) ∧ OwnF w.heap.size wr v fs ∧ Below w.heap.size w wr) (fun _ k _ _ => n - (intOf k).toNat)
    case atStart => exact ⟨0, fltBad p, by omega, rfl, by simp [fltPairs, Hid], hoc, hbc⟩
    clear hoc hbc
    case round =>
      obtain ⟨j, fs, hj, rfl, HF, ho, hbl⟩ := hrel
      have HFL : Hid (fs.length ≤ 2 * j + 1) := by
        have h1 := HBL.out
        have h2 := fltPairs_len ps i j
        show _ ≤ _
        rw [HF.out, List.length_append]
        omega
      by_cases hlt : j < n
      · obtain ⟨b', off', e', hdw, -⟩ := ha j (by have := HN.out; omega)
        simp only [Option.some.injEq, Addr.mk.injEq, and_true] at e'
        obtain ⟨rfl, rfl⟩ := e'
        obtain ⟨_, _, _, hq⟩ := hg.get j (by have := HN.out; omega)
        rw [ep] at hdw hq
        obtain ⟨q, Hq⟩ : ∃ q, Hid (q = ps j) := ⟨_, rfl⟩
        rw [← Hq.out] at hdw hq
        have hd1 := (hbl.cell (p := ⟨b, off + j * 2, none⟩) (World.block_lt_of_cell? w _ hdw)).trans hdw
        have hjn : (j : Int) < (n : Int) := by omega
        by_cases hji : j = i
        · have hbn : ((j : Int) != (i : Int)) = false := by simp [hji]
          have HJ := hide hji
          clear hji
          cases hun : underB p.data.toList q.data.toList
          · go_wp2_with fail
            refine (under_any p q _ g4 hq).mono ?_
            rintro e w6 ⟨rfl, rfl⟩
            rw [hun]
            have HF2 : Hid (fs = fltBad p ++ fltPairs ps i (j + 1)) := by
              show _ = _
              rw [fltPairs, ← Hp.out, ← Hq.out, fltPair, hun, ← List.append_assoc, ← HF.out]
              simp [HJ.out]
            go_wp2
            go_roundw
            case rel => first | exact ⟨j + 1, fs, by omega, by go_num, HF2, ho, hbl⟩ | ((repeat apply Exists.intro); exact ⟨⟨j + 1, fs, by omega, by go_num, HF2, ho, hbl⟩, rfl⟩)
            case measure => simp [intOf]; omega
          · go_wp2_with fail
            refine (under_any p q _ g4 hq).mono ?_
            rintro e w6 ⟨rfl, rfl⟩
            rw [hun]
            have hs6 := src_flt w6 6 6 p rfl
            have ho6 := ho.alloc (.cells #[.int .i64 6, .string p] 77)
            have hbl6 := hbl.alloc hbl.size (.cells #[.int .i64 6, .string p] 77)
            go_wp2_with (at_builtin; go_must (refine wpAppF rfl (.tmp 55) (.tmp 58) rfl w.heap.size _ fs rfl ho6 _ [(6, p)] rfl 1 hs6 (by have := HFL.out; simp only [List.length_cons, List.length_nil]; omega) hbl6.size ?_))
            intro v6 w6 f6 e6 o6 gr6
            have b6 := below_ownF hbl6 ho6 gr6.by_ (Nat.le_refl _)
            clear hs6 ho6 hbl6 gr6
            have HF2 : Hid (f6 = fltBad p ++ fltPairs ps i (j + 1)) := by
              show _ = _
              rw [fltPairs, ← Hp.out, ← Hq.out, fltPair, hun, ← List.append_assoc, ← HF.out]
              simp [e6.out, HJ.out]
            go_wp2
            go_roundw
            case rel => first | exact ⟨j + 1, f6, by omega, by go_num, HF2, o6, b6⟩ | ((repeat apply Exists.intro); exact ⟨⟨j + 1, f6, by omega, by go_num, HF2, o6, b6⟩, rfl⟩)
            case measure => simp [intOf]; omega
        · have hbn : ((j : Int) != (i : Int)) = true := by simp; omega
          have HJ := hide hji
          clear hji
          by_cases hqp : q = p
          · have hqb : (q.toList == p.toList) = true := by simp [hqp]
            have HQ := hide hqp
            clear hqp
            cases hun : underB p.data.toList q.data.toList
            · have hs5 := src_flt wr 5 5 p rfl
              have ho5 := ho.alloc (.cells #[.int .i64 5, .string p] 77)
              have hbl5 := hbl.alloc hbl.size (.cells #[.int .i64 5, .string p] 77)
              go_wp2_with (at_builtin; go_must (refine wpAppF rfl (.tmp 42) (.tmp 45) rfl w.heap.size _ fs rfl ho5 _ [(5, p)] rfl 1 hs5 (by have := HFL.out; simp only [List.length_cons, List.length_nil]; omega) hbl5.size ?_))
              intro v5 w5 f5 e5 o5 gr5
              have b5 := below_ownF hbl5 ho5 gr5.by_ (Nat.le_refl _)
              have hd5 := (b5.cell (p := ⟨b, off + j * 2, none⟩) (World.block_lt_of_cell? w _ hdw)).trans hdw
              clear hs5 ho5 hbl5 gr5 hd1
              have HFL := hide (show f5.length ≤ 2 * j + 2 by rw [e5.out, List.length_append]; have := HFL.out; simp only [List.length_cons, List.length_nil]; omega)
              go_wp2_with fail
              refine (under_any p q _ g4 hq).mono ?_
              rintro e w6 ⟨rfl, rfl⟩
              rw [hun]
              have HF2 : Hid (f5 = fltBad p ++ fltPairs ps i (j + 1)) := by
                show _ = _
                rw [fltPairs, ← Hp.out, ← Hq.out, fltPair, hun, ← List.append_assoc, ← HF.out]
                simp [e5.out, HJ.out, HQ.out]
              go_wp2
              go_roundw
              case rel => first | exact ⟨j + 1, f5, by omega, by go_num, HF2, o5, b5⟩ | ((repeat apply Exists.intro); exact ⟨⟨j + 1, f5, by omega, by go_num, HF2, o5, b5⟩, rfl⟩)
              case measure => simp [intOf]; omega
            · have hs5 := src_flt wr 5 5 p rfl
              have ho5 := ho.alloc (.cells #[.int .i64 5, .string p] 77)
              have hbl5 := hbl.alloc hbl.size (.cells #[.int .i64 5, .string p] 77)
              go_wp2_with (at_builtin; go_must (refine wpAppF rfl (.tmp 42) (.tmp 45) rfl w.heap.size _ fs rfl ho5 _ [(5, p)] rfl 1 hs5 (by have := HFL.out; simp only [List.length_cons, List.length_nil]; omega) hbl5.size ?_))
              intro v5 w5 f5 e5 o5 gr5
              have b5 := below_ownF hbl5 ho5 gr5.by_ (Nat.le_refl _)
              have hd5 := (b5.cell (p := ⟨b, off + j * 2, none⟩) (World.block_lt_of_cell? w _ hdw)).trans hdw
              clear hs5 ho5 hbl5 gr5 hd1
              have HFL := hide (show f5.length ≤ 2 * j + 2 by rw [e5.out, List.length_append]; have := HFL.out; simp only [List.length_cons, List.length_nil]; omega)
              go_wp2_with fail
              refine (under_any p q _ g4 hq).mono ?_
              rintro e w6 ⟨rfl, rfl⟩
              rw [hun]
              have hs6 := src_flt w6 6 6 p rfl
              have ho6 := o5.alloc (.cells #[.int .i64 6, .string p] 77)
              have hbl6 := b5.alloc b5.size (.cells #[.int .i64 6, .string p] 77)
              go_wp2_with (at_builtin; go_must (refine wpAppF rfl (.tmp 55) (.tmp 58) rfl w.heap.size _ f5 rfl ho6 _ [(6, p)] rfl 1 hs6 (by have := HFL.out; simp only [List.length_cons, List.length_nil]; omega) hbl6.size ?_))
              intro v6 w6 f6 e6 o6 gr6
              have b6 := below_ownF hbl6 ho6 gr6.by_ (Nat.le_refl _)
              clear hs6 ho6 hbl6 gr6
              have HF2 : Hid (f6 = fltBad p ++ fltPairs ps i (j + 1)) := by
                show _ = _
                rw [fltPairs, ← Hp.out, ← Hq.out, fltPair, hun, ← List.append_assoc, ← HF.out]
                simp [e6.out, e5.out, HJ.out, HQ.out]
              go_wp2
              go_roundw
              case rel => first | exact ⟨j + 1, f6, by omega, by go_num, HF2, o6, b6⟩ | ((repeat apply Exists.intro); exact ⟨⟨j + 1, f6, by omega, by go_num, HF2, o6, b6⟩, rfl⟩)
              case measure => simp [intOf]; omega
          · have hqb : (q.toList == p.toList) = false := by rw [beq_eq_false_iff_ne, toList_data, toList_data]; intro h; exact hqp (ByteArray.ext (Array.toList_inj.1 h))
            have HQ := hide hqp
            clear hqp
            cases hun : underB p.data.toList q.data.toList
            · go_wp2_with fail
              refine (under_any p q _ g4 hq).mono ?_
              rintro e w6 ⟨rfl, rfl⟩
              rw [hun]
              have HF2 : Hid (fs = fltBad p ++ fltPairs ps i (j + 1)) := by
                show _ = _
                rw [fltPairs, ← Hp.out, ← Hq.out, fltPair, hun, ← List.append_assoc, ← HF.out]
                simp [HJ.out, HQ.out]
              go_wp2
              go_roundw
              case rel => first | exact ⟨j + 1, fs, by omega, by go_num, HF2, ho, hbl⟩ | ((repeat apply Exists.intro); exact ⟨⟨j + 1, fs, by omega, by go_num, HF2, ho, hbl⟩, rfl⟩)
              case measure => simp [intOf]; omega
            · go_wp2_with fail
              refine (under_any p q _ g4 hq).mono ?_
              rintro e w6 ⟨rfl, rfl⟩
              rw [hun]
              have hs6 := src_flt w6 6 6 p rfl
              have ho6 := ho.alloc (.cells #[.int .i64 6, .string p] 77)
              have hbl6 := hbl.alloc hbl.size (.cells #[.int .i64 6, .string p] 77)
              go_wp2_with (at_builtin; go_must (refine wpAppF rfl (.tmp 55) (.tmp 58) rfl w.heap.size _ fs rfl ho6 _ [(6, p)] rfl 1 hs6 (by have := HFL.out; simp only [List.length_cons, List.length_nil]; omega) hbl6.size ?_))
              intro v6 w6 f6 e6 o6 gr6
              have b6 := below_ownF hbl6 ho6 gr6.by_ (Nat.le_refl _)
              clear hs6 ho6 hbl6 gr6
              have HF2 : Hid (f6 = fltBad p ++ fltPairs ps i (j + 1)) := by
                show _ = _
                rw [fltPairs, ← Hp.out, ← Hq.out, fltPair, hun, ← List.append_assoc, ← HF.out]
                simp [e6.out, HJ.out, HQ.out]
              go_wp2
              go_roundw
              case rel => first | exact ⟨j + 1, f6, by omega, by go_num, HF2, o6, b6⟩ | ((repeat apply Exists.intro); exact ⟨⟨j + 1, f6, by omega, by go_num, HF2, o6, b6⟩, rfl⟩)
              case measure => simp [intOf]; omega
      · have HF3 : Hid (fs = fltBad p ++ fltPairs ps i n) := by
          have : j = n := by omega
          rw [← this]
          exact HF
        have hcl := (hbl.cell (p := ⟨b, off + i * 2 + 1, none⟩) (World.block_lt_of_cell? w _ hc2)).trans hc2
        by_cases h6 : 600 < l
        · have h6i : (600 : Int) < (l : Int) := by omega
          have hs7 := src_flt wr 7 7 p rfl
          have ho7 := ho.alloc (.cells #[.int .i64 7, .string p] 77)
          have hbl7 := hbl.alloc hbl.size (.cells #[.int .i64 7, .string p] 77)
          go_wp2_with (at_builtin; go_must (refine wpAppF rfl (.tmp 67) (.tmp 70) rfl w.heap.size _ fs rfl ho7 _ [(7, p)] rfl 1 hs7 (by have := HFL.out; simp only [List.length_cons, List.length_nil]; omega) hbl7.size ?_))
          intro v7 w7 f7 e7 o7 gr7
          have b7 := below_ownF hbl7 ho7 gr7.by_ (Nat.le_refl _)
          clear hs7 ho7 hbl7 gr7
          go_wp2
          go_ret
          refine ⟨_, rfl, ?_, b7⟩
          unfold fltEntry
          rw [← Hp.out, ← HF3.out, fltLong, if_pos h6, ← e7.out]
          exact o7
        · have h6i : ¬ (600 : Int) < (l : Int) := by omega
          go_wp2
          go_ret
          refine ⟨_, rfl, ?_, hbl⟩
          unfold fltEntry
          rw [← Hp.out, ← HF3.out, fltLong, if_neg h6, List.append_nil]
          exact ho

end Go.Proofs.YtgncohclofdhmaaGreat

namespace Go.Proofs.YtgncohclofdhmaaGreat
open Go.RowKit

theorem OwnF.mono {B B' : Nat} {w : World} {v : Value} {xs : List Flt} (h : OwnF B w v xs) (hB : B' ≤ B) : OwnF B' w v xs := by
  refine ⟨h.1, ?_⟩
  rcases h.2 with h1 | ⟨g, cap, cur, rfl, hbg, hg, hnc, hcm, hcs, htake⟩
  · exact .inl h1
  · exact .inr ⟨g, cap, cur, rfl, Nat.le_trans hB hbg, hg, hnc, hcm, hcs, htake⟩

set_option maxRecDepth 100000 in
set_option maxHeartbeats 2000000 in
theorem faults_any (a : Option Addr) (es : List Ent) (cap : Nat) (w : World) (key : ByteArray) (al : Int) (pk : Bool) (hm : es.length ≤ 1000000) (hk : key.size ≤ maxLen) (ha : EntAt w a es) (hg : EntGood w es) :
    Calls Tryz.prog 54 #[.slice a es.length cap, .agg #[.string key, .int .i64 al, .bool pk]] w fun e w' => ∃ v, e = .returned v ∧
      OwnF w.heap.size w' v (fltAll key.size al (fun k => (es.getD k noEnt).path) (fun k => (es.getD k noEnt).body.length) es.length) ∧ Below w.heap.size w w' := by
  have b0 := (Below.refl w.heap.size w).alloc (Nat.le_refl _) (.cells #[.string key, .int .i64 al, .bool pk] 49)
  have c00 := cell_new w #[.string key, .int .i64 al, .bool pk] 49 0
  have c01 := cell_new w #[.string key, .int .i64 al, .bool pk] 49 1
  have B0 := Below.refl (w.heap.size + 1) (w.alloc (.cells #[.string key, .int .i64 al, .bool pk] 49))
  obtain ⟨n, HN⟩ : ∃ n, Hid (n = es.length) := ⟨_, rfl⟩
  obtain ⟨ps, HP⟩ : ∃ ps : Nat → ByteArray, Hid (ps = fun k => (es.getD k noEnt).path) := ⟨_, rfl⟩
  obtain ⟨ls, HLS⟩ : ∃ ls : Nat → Nat, Hid (ls = fun k => (es.getD k noEnt).body.length) := ⟨_, rfl⟩
  have HOF : Hid (∀ (j : Nat) (wr : World), j < n → Below w.heap.size w wr → Calls Tryz.prog 79 #[.slice a n cap, .int .i64 j] wr fun e w' => ∃ v, e = .returned v ∧ OwnF wr.heap.size w' v (fltEntry ps (ls j) n j) ∧ Below wr.heap.size wr w') := by
    intro j wr hj hb
    have := ofEntry_any a es cap j wr (by rw [← HN.out]; exact hj) (by omega) (ha.carry hb) (hg.carry hb)
    rw [← HN.out, ← HP.out] at this
    rw [HLS.out]
    exact this
  rw [← HP.out, ← HLS.out]
  rw [← HN.out] at hm ⊢
  clear ha hg
  have HFL := hide (show ([] : List Flt).length ≤ 2 by simp)
  go_enter Tryz.func54, Tryz.ntmps54
  go_wp2_with fail
  refine (keyFits_any key _ hk).mono ?_
  rintro e w1 ⟨rfl, rfl⟩
  go_upto_if 13 with fail
  go_cut [5, 6] (fun s5 _ wx => ∃ fs, Hid (fs = (if keyB key.size then [] else [((1, ByteArray.empty) : Flt)])) ∧ OwnF (w.heap.size + 1) wx s5 fs ∧ Below (w.heap.size + 1) (w.alloc (.cells #[.string key, .int .i64 al, .bool pk] 49)) wx)
  case first =>
    cases hb : keyB key.size
    · have hs2 := src_flt (w.alloc (.cells #[.string key, .int .i64 al, .bool pk] 49)) 1 1 ByteArray.empty rfl
      have esz : (w.alloc (.cells #[.string key, .int .i64 al, .bool pk] 49)).heap.size = w.heap.size + 1 := by simp
      rw [esz] at hs2
      have ho2 := (OwnF.nil (w.heap.size + 1) (w.alloc (.cells #[.string key, .int .i64 al, .bool pk] 49))).alloc (.cells #[.int .i64 1, .string ByteArray.empty] 77)
      have hbl2 := B0.alloc (Nat.le_trans (by simp) B0.size) (.cells #[.int .i64 1, .string ByteArray.empty] 77)
      go_wp2_with (at_builtin; go_must (refine wpAppF rfl (.tmp 14) (.tmp 16) rfl (w.heap.size + 1) _ [] rfl ho2 _ [(1, ByteArray.empty)] rfl 1 hs2 (by have := HFL.out; simp only [List.length_cons, List.length_nil]; omega) (Nat.le_trans (by simp) hbl2.size) ?_))
      intro v2 w2 f2 e2 o2 gr2
      have b2 := below_ownF hbl2 ho2 gr2.by_ (by simp)
      clear hs2 ho2 hbl2 gr2
      go_wp2_with fail
      go_meet
      case rel => exact ⟨f2, by show _ = _; rw [e2.out, hb]; rfl, o2, b2⟩
    · go_wp2_with fail
      go_meet
      case rel => exact ⟨[], by show _ = _; rw [hb]; rfl, OwnF.nil _ _, B0⟩
  case rest =>
    obtain ⟨fs1, HF1, ho1, hb1⟩ := hcut
    have HFL : Hid (fs1.length ≤ 1) := by show _ ≤ _; rw [HF1.out]; split <;> simp
    have c11 := (hb1.cell (p := ⟨w.heap.size, 1, none⟩) (by simp)).trans c01
    go_upto_region 5 with fail
    go_cut [25] (fun s25 wx => s25 = .bool (decide (al < 1 ∨ 16 < al)) ∧ wx = wc)
    case first =>
      by_cases h1 : al < 1
      · have h1b : decide (al < 1) = true := by simp [h1]
        go_wp2_with fail
        go_meet
        case rel => exact ⟨by rw [show decide (al < 1 ∨ 16 < al) = true from by simp [h1]], rfl⟩
      · by_cases h2 : 16 < al
        · go_wp2_with fail
          go_meet
          case rel => exact ⟨by rw [show decide (al < 1 ∨ 16 < al) = true from by simp [h2]], rfl⟩
        · go_wp2_with fail
          go_meet
          case rel => exact ⟨by rw [show decide (al < 1 ∨ 16 < al) = false from by simp [h1, h2]], rfl⟩
    case rest =>
      obtain ⟨rfl, rfl⟩ := hcut
      obtain ⟨bd, HBD⟩ : ∃ bd, Hid (bd = decide (al < 1 ∨ 16 < al)) := ⟨_, rfl⟩
      rw [← HBD.out]
      go_upto_if 25 with fail
      go_cut [5, 25] (fun s5 _ wx => ∃ fs, Hid (fs = fs1 ++ (if bd then [((2, ByteArray.empty) : Flt)] else [])) ∧ OwnF (w.heap.size + 1) wx s5 fs ∧ Below (w.heap.size + 1) (w.alloc (.cells #[.string key, .int .i64 al, .bool pk] 49)) wx)
      case first =>
        cases bd
        · go_wp2_with fail
          go_meet
          case rel => exact ⟨fs1, by simp [Hid], ho1, hb1⟩
        · have hs3 := src_flt wc 2 2 ByteArray.empty rfl
          have ho3 := ho1.alloc (.cells #[.int .i64 2, .string ByteArray.empty] 77)
          have hbl3 := hb1.alloc (Nat.le_trans (by simp) hb1.size) (.cells #[.int .i64 2, .string ByteArray.empty] 77)
          go_wp2_with (at_builtin; go_must (refine wpAppF rfl (.tmp 26) (.tmp 28) rfl (w.heap.size + 1) _ fs1 rfl ho3 _ [(2, ByteArray.empty)] rfl 1 hs3 (by have := HFL.out; simp only [List.length_cons, List.length_nil]; omega) (Nat.le_trans (by simp) hbl3.size) ?_))
          intro v3 w3 f3 e3 o3 gr3
          have b3 := below_ownF hbl3 ho3 gr3.by_ (by simp)
          clear hs3 ho3 hbl3 gr3
          go_wp2_with fail
          go_meet
          case rel => exact ⟨f3, by rw [e3.out]; rfl, o3, b3⟩
      case rest =>
        obtain ⟨fs2, HF2, ho2, hb2⟩ := hcut
        have HFL : Hid (fs2.length ≤ 2) := by
          have := HFL.out
          show _ ≤ _
          rw [HF2.out, List.length_append]
          have h2 : (if bd then [((2, ByteArray.empty) : Flt)] else []).length ≤ 1 := by split <;> simp
          omega
        clear ho1 hb1 c11
        go_upto_if 32 with fail
        go_cut [5, 32] (fun s5 _ wx => ∃ fs, Hid (fs = fs2 ++ (if 20 < n then [((3, ByteArray.empty) : Flt)] else [])) ∧ OwnF (w.heap.size + 1) wx s5 fs ∧ Below (w.heap.size + 1) (w.alloc (.cells #[.string key, .int .i64 al, .bool pk] 49)) wx)
        case first =>
          by_cases h20 : 20 < n
          · have h20i : (20 : Int) < (n : Int) := by omega
            have hs4 := src_flt wc 3 3 ByteArray.empty rfl
            have ho4 := ho2.alloc (.cells #[.int .i64 3, .string ByteArray.empty] 77)
            have hbl4 := hb2.alloc (Nat.le_trans (by simp) hb2.size) (.cells #[.int .i64 3, .string ByteArray.empty] 77)
            go_wp2_with (at_builtin; go_must (refine wpAppF rfl (.tmp 33) (.tmp 35) rfl (w.heap.size + 1) _ fs2 rfl ho4 _ [(3, ByteArray.empty)] rfl 1 hs4 (by have := HFL.out; simp only [List.length_cons, List.length_nil]; omega) (Nat.le_trans (by simp) hbl4.size) ?_))
            intro v4 w4 f4 e4 o4 gr4
            have b4 := below_ownF hbl4 ho4 gr4.by_ (by simp)
            clear hs4 ho4 hbl4 gr4
            go_wp2_with fail
            go_meet
            case rel => exact ⟨f4, by rw [e4.out, if_pos h20]; rfl, o4, b4⟩
          · have h20i : ¬ (20 : Int) < (n : Int) := by omega
            go_wp2_with fail
            go_meet
            case rel => exact ⟨fs2, by simp [Hid, h20], ho2, hb2⟩
        case rest =>
          obtain ⟨fs3, HF3, ho3, hb3⟩ := hcut
          have HH : Hid (fs3 = fltHead key.size al n) := by
            show _ = _
            rw [HF3.out, HF2.out, HF1.out, HBD.out, fltHead]
            simp only [decide_eq_true_eq]
          have HHL : Hid (fs3.length ≤ 3) := by show _ ≤ _; rw [HH.out]; exact fltHead_len _ _ _
          clear ho2 hb2 HFL HF1 HF2 HF3
          go_wp2
          go_loopw [5, 7, 8] (fun v k _ wr => ∃ (j : Nat) (fs : List Flt), j ≤ n ∧ k = .int .i64 j ∧ Hid (fs = fs3 ++ fltFirst ps ls n j) ∧ OwnF (w.heap.size + 1) wr v fs ∧ Below (w.heap.size + 1) (w.alloc (.cells #[.string key, .int .i64 al, .bool pk] 49)) wr) (fun _ k _ _ => n - (intOf k).toNat)
          case atStart => exact ⟨0, fs3, by omega, rfl, by simp [fltFirst, Hid], ho3, hb3⟩
          clear ho3 hb3
          case round =>
            obtain ⟨j, fs, hj, rfl, HF, ho, hbl⟩ := hrel
            have hbw : Below w.heap.size w wr := b0.trans (hbl.mono (by omega))
            by_cases hlt : j < n
            · have HSZ : Hid ((fs.length + (fltEntry ps (ls j) n j).length) * 24 ≤ 140737488355328) := by
                have h1 := HHL.out
                have h2 := fltFirst_len ps ls n j
                have h3 := fltEntry_len ps (ls j) n j
                have h4 : j * (2 * n + 2) ≤ 1000000 * (2 * n + 2) := Nat.mul_le_mul_right _ (by omega)
                show _ ≤ _
                rw [HF.out, List.length_append]
                omega
              have HFE : Hid (fltFirst ps ls n (j + 1) = fltFirst ps ls n j ++ fltEntry ps (ls j) n j) := rfl
              have hof := HOF.out j wr hlt hbw
              generalize fltEntry ps (ls j) n j = ys at *
              go_wp2_with fail
              refine hof.mono ?_
              rintro e w5 ⟨v5, rfl, o5, b5⟩
              obtain ⟨a5, c5, rfl, hat, -, -⟩ := o5.shape
              have ho5 := ho.carry b5
              have hbl5 := hbl.trans (b5.mono (Nat.le_trans (by simp) hbl.size))
              have hs5 := src_flts (c := c5) hat rfl
              clear hof ho b5 o5
              go_wp2_with (at_builtin; go_must (refine wpAppF rfl (.tmp 46) (.tmp 47) rfl (w.heap.size + 1) _ fs rfl ho5 _ ys rfl _ hs5 HSZ.out (Nat.le_trans (by simp) hbl5.size) ?_))
              intro v6 w6 f6 e6 o6 gr6
              have b6 := below_ownF hbl5 ho5 gr6.by_ (by simp)
              have HF6 : Hid (f6 = fs3 ++ fltFirst ps ls n (j + 1)) := by
                show _ = _
                rw [e6.out, HF.out, HFE.out, List.append_assoc]
              clear hs5 ho5 hbl5 gr6 hat
              go_wp2
              go_roundw
              case rel => first | exact ⟨j + 1, f6, by omega, by go_num, HF6, o6, b6⟩ | ((repeat apply Exists.intro); exact ⟨⟨j + 1, f6, by omega, by go_num, HF6, o6, b6⟩, rfl⟩)
              case measure => simp [intOf]; omega
            · have HF3 : Hid (fs = fltAll key.size al ps ls n) := by
                have : j = n := by omega
                show _ = _
                rw [HF.out, this, HH.out]
                rfl
              go_wp2
              go_ret
              refine ⟨_, rfl, ?_, hbw⟩
              rw [← HF3.out]
              exact ho.mono (by omega)

end Go.Proofs.YtgncohclofdhmaaGreat

namespace Go.Proofs.YtgncohclofdhmaaGreat
open Go.RowKit


/-- A fault in a block of its own. -/
def FltBox (w : World) (g : Nat) (f : Flt) : Prop := w.heap[g]? = some (.cells #[.int .i64 (f.1 : Int), .string f.2] 77 (0, 0))

theorem FltBox.c0 {w : World} {g : Nat} {f : Flt} (h : FltBox w g f) : w.cell? ⟨g, 0, none⟩ = some (.int .i64 (f.1 : Int)) := cell_of_row _ g 0 _ _ _ h
theorem FltBox.c1 {w : World} {g : Nat} {f : Flt} (h : FltBox w g f) : w.cell? ⟨g, 1, none⟩ = some (.string f.2) := cell_of_row _ g 1 _ _ _ h
theorem FltBox.fr {w : World} {g : Nat} {f : Flt} (h : FltBox w g f) (j : Nat) : w.frozen? ⟨g, j, none⟩ = false := by
  have h' : w.heap[g]? = _ := h
  simp [World.frozen?, h']
theorem FltBox.lt {w : World} {g : Nat} {f : Flt} (h : FltBox w g f) : g < w.heap.size := World.block_lt_of_cell? w _ h.c0

theorem FltBox.set {w : World} {g : Nat} {f : Flt} (h : FltBox w g f) (x : Flt) : FltBox ((w.setCell ⟨g, 0, none⟩ (.int .i64 (x.1 : Int))).setCell ⟨g, 1, none⟩ (.string x.2)) g x := by
  have hl := h.lt
  have h' : w.heap[g]? = _ := h
  rw [Array.getElem?_eq_getElem hl, Option.some.injEq] at h'
  unfold FltBox
  simp only [World.setCell]
  rw [Array.getElem?_eq_getElem (by simpa using hl), Array.getElem_modify_self, Array.getElem_modify_self, h']
  rfl

theorem FltBox.keep {w : World} {g g' j : Nat} {f : Flt} {u : Value} (h : FltBox w g f) (hne : g ≠ g') : FltBox (w.setCell ⟨g', j, none⟩ u) g f := (Below.heap_setCell w ⟨g', j, none⟩ u g hne).trans h

theorem FltBox.carry {w w' : World} {g : Nat} {f : Flt} (h : FltBox w g f) (hb : Below w.heap.size w w') : FltBox w' g f := (hb.block g h.lt).trans h

theorem leastStep_size (c x : Flt) (hc : c.2.size ≤ maxLen) (hx : x.2.size ≤ maxLen) : (leastStep c x).2.size ≤ maxLen := by
  unfold leastStep
  split
  · exact hx
  · exact hc

set_option maxRecDepth 100000 in
set_option maxHeartbeats 2000000 in
theorem least_any (a : Option Addr) (fs : List Flt) (cap : Nat) (w : World) (hm : fs.length ≤ maxLen) (hp : ∀ f, f ∈ fs → f.2.size ≤ maxLen) (ha : FltAt w a fs) :
    Calls Tryz.prog 53 #[.slice a fs.length cap] w fun e w' => e = .returned (.agg #[.int .i64 ((leastOf fs).1 : Int), .string (leastOf fs).2]) ∧ Below w.heap.size w w' := by
  unfold maxLen at hm
  obtain ⟨n, HN⟩ : ∃ n, Hid (n = fs.length) := ⟨_, rfl⟩
  rw [← HN.out] at hm ⊢
  have hbA : FltBox (w.alloc (.cells #[.int .i64 0, .string ByteArray.empty] 77)) w.heap.size noFlt := heap_alloc_new w _
  go_enter Tryz.func53, Tryz.ntmps53
  go_wp2
  go_loopw [4, 5] (fun i _ wr => ∃ (k : Nat) (c : Flt), k ≤ n ∧ i = .int .i64 k ∧ Hid (c = leastOf (fs.take k)) ∧ c.2.size ≤ maxLen ∧ FltBox wr (w.heap.size + 1) c ∧ FltBox wr w.heap.size noFlt ∧ Below w.heap.size w wr) (fun i _ _ => n - (intOf i).toNat)
  case atStart =>
    refine ⟨0, noFlt, by omega, rfl, rfl, by simp [noFlt, maxLen], ?_, ?_, ?_⟩
    · have h2 : FltBox ((w.alloc (.cells #[.int .i64 0, .string ByteArray.empty] 77)).alloc (.cells #[.int .i64 0, .string ByteArray.empty] 77)) (w.alloc (.cells #[.int .i64 0, .string ByteArray.empty] 77)).heap.size noFlt := heap_alloc_new _ _
      have e : (w.alloc (.cells #[.int .i64 0, .string ByteArray.empty] 77)).heap.size = w.heap.size + 1 := by simp
      rw [e] at h2
      exact h2
    · exact hbA.carry ((Below.refl _ _).alloc (Nat.le_refl _) _)
    · exact ((Below.refl _ _).alloc (Nat.le_refl _) _).alloc (by simp) _
  case round =>
    obtain ⟨k, c, hk, rfl, HC, hcp, hbx, hb0, hbl⟩ := hrel
    have hx0 := hbx.c0
    have hx1 := hbx.c1
    have hxf0 := hbx.fr 0
    have hxf1 := hbx.fr 1
    by_cases hlt : k < n
    · have hkn : (k : Int) < (n : Int) := by omega
      obtain ⟨b, off, rfl, hc1, hc2⟩ := (ha.carry hbl) k (by have := HN.out; omega)
      have HT : Hid (fs.take (k + 1) = fs.take k ++ [fs.getD k noFlt]) := take_snoc fs noFlt k (by have := HN.out; omega)
      have hxp : (fs.getD k noFlt).2.size ≤ maxLen := by
        apply hp
        rw [List.getD_eq_getElem?_getD, List.getElem?_eq_getElem (by have := HN.out; omega)]
        exact List.getElem_mem _
      generalize fs.getD k noFlt = x at *
      have HBF : Hid (∀ W, Calls Tryz.prog 78 #[.string x.2, .string c.2] W fun e w' => e = .returned (.bool (lexB x.2.data.toList c.2.data.toList)) ∧ ∃ n, w' = W.drewN n) := fun W => before_any _ _ W hxp hcp
      generalize hlb : lexB x.2.data.toList c.2.data.toList = lb at *
      have HLB := hide hlb
      clear hlb
      go_wp2
      go_quiet ((go_at_call 78; exact Calls.quiet_of (unhide HBF _)))
      by_cases h0 : c.1 = 0
      · have h0b : ((c.1 : Int) == 0) = true := by simp [h0]
        have HCond : Hid (c.1 = 0 ∨ x.1 < c.1 ∨ (x.1 = c.1 ∧ lexB x.2.data.toList c.2.data.toList = true)) := .inl h0
        clear h0
        have HC2 : Hid (x = leastOf (fs.take (k + 1))) := by
          show _ = _
          rw [HT.out, leastOf, List.foldl_append, ← leastOf, ← HC.out]
          simp only [List.foldl_cons, List.foldl_nil]
          rw [leastStep, if_pos HCond.out]
        go_wp2
        go_quiet (fail)
        go_wp2
        go_roundw
        case rel => exact ⟨k + 1, x, by omega, by go_num, HC2, hxp, (hbx.set x), (hb0.keep (by omega)).keep (by omega), ((below_drewN hbl _).setCell (by show w.heap.size ≤ w.heap.size + 1; omega) _).setCell (by show w.heap.size ≤ w.heap.size + 1; omega) _⟩
        case measure => simp [intOf]; omega
      · have h0b : ((c.1 : Int) == 0) = false := by simp; omega
        by_cases h1 : x.1 < c.1
        · have h1b : decide (x.1 < c.1) = true := by simp; omega
          have HCond : Hid (c.1 = 0 ∨ x.1 < c.1 ∨ (x.1 = c.1 ∧ lexB x.2.data.toList c.2.data.toList = true)) := .inr (.inl h1)
          clear h0 h1
          have HC2 : Hid (x = leastOf (fs.take (k + 1))) := by
            show _ = _
            rw [HT.out, leastOf, List.foldl_append, ← leastOf, ← HC.out]
            simp only [List.foldl_cons, List.foldl_nil]
            rw [leastStep, if_pos HCond.out]
          go_wp2
          go_quiet (fail)
          go_wp2
          go_roundw
          case rel => exact ⟨k + 1, x, by omega, by go_num, HC2, hxp, (hbx.set x), (hb0.keep (by omega)).keep (by omega), ((below_drewN hbl _).setCell (by show w.heap.size ≤ w.heap.size + 1; omega) _).setCell (by show w.heap.size ≤ w.heap.size + 1; omega) _⟩
          case measure => simp [intOf]; omega
        · have h1b : decide (x.1 < c.1) = false := by simp; omega
          by_cases h2 : x.1 = c.1
          · have h2b : ((x.1 : Int) == (c.1 : Int)) = true := by simp [h2]
            have h2c : (x.1 == c.1) = true := by simp [h2]
            cases lb
            · have HCond : Hid (¬ (c.1 = 0 ∨ x.1 < c.1 ∨ (x.1 = c.1 ∧ lexB x.2.data.toList c.2.data.toList = true))) := by
                rw [HLB.out]
                simp [Hid, h0, h1]
              clear h0 h1 h2
              have HC2 : Hid (c = leastOf (fs.take (k + 1))) := by
                show _ = _
                rw [HT.out, leastOf, List.foldl_append, ← leastOf, ← HC.out]
                simp only [List.foldl_cons, List.foldl_nil]
                rw [leastStep, if_neg HCond.out]
              go_wp2
              go_quiet (fail)
              go_wp2
              go_roundw
              case rel => exact ⟨k + 1, c, by omega, by go_num, HC2, hcp, hbx, hb0, below_drewN hbl _⟩
              case measure => simp [intOf]; omega
            · have HCond : Hid (c.1 = 0 ∨ x.1 < c.1 ∨ (x.1 = c.1 ∧ lexB x.2.data.toList c.2.data.toList = true)) := .inr (.inr ⟨h2, HLB.out⟩)
              clear h0 h1 h2
              have HC2 : Hid (x = leastOf (fs.take (k + 1))) := by
                show _ = _
                rw [HT.out, leastOf, List.foldl_append, ← leastOf, ← HC.out]
                simp only [List.foldl_cons, List.foldl_nil]
                rw [leastStep, if_pos HCond.out]
              go_wp2
              go_quiet (fail)
              go_wp2
              go_roundw
              case rel => exact ⟨k + 1, x, by omega, by go_num, HC2, hxp, (hbx.set x), (hb0.keep (by omega)).keep (by omega), ((below_drewN hbl _).setCell (by show w.heap.size ≤ w.heap.size + 1; omega) _).setCell (by show w.heap.size ≤ w.heap.size + 1; omega) _⟩
              case measure => simp [intOf]; omega
          · have h2b : ((x.1 : Int) == (c.1 : Int)) = false := by simp; omega
            have h2c : (x.1 == c.1) = false := by simp; omega
            have HCond : Hid (¬ (c.1 = 0 ∨ x.1 < c.1 ∨ (x.1 = c.1 ∧ lexB x.2.data.toList c.2.data.toList = true))) := by simp [Hid, h0, h1, h2]
            clear h0 h1 h2
            have HC2 : Hid (c = leastOf (fs.take (k + 1))) := by
              show _ = _
              rw [HT.out, leastOf, List.foldl_append, ← leastOf, ← HC.out]
              simp only [List.foldl_cons, List.foldl_nil]
              rw [leastStep, if_neg HCond.out]
            go_wp2
            go_quiet (fail)
            go_wp2
            go_roundw
            case rel => exact ⟨k + 1, c, by omega, by go_num, HC2, hcp, hbx, hb0, below_drewN hbl _⟩
            case measure => simp [intOf]; omega
    · have HE : Hid (c = leastOf fs) := by
        have := HC.out
        rw [List.take_of_length_le (by have := HN.out; omega)] at this
        exact this
      have h00 := hb0.c0
      have h01 := hb0.c1
      have h0f0 := hb0.fr 0
      have h0f1 := hb0.fr 1
      go_wp2
      (try simp only [Exit.inBlock, Exit.then])
      refine bodyPost_ret (v := .agg #[.int .i64 (c.1 : Int), .string c.2]) ?_ rfl ⟨by rw [HE.out], ?_⟩
      · have k0 := (hb0.set c).c0
        have k1 := (hb0.set c).c1
        rw [results_cell1 rfl]
        go_simp
      · exact (hbl.setCell (Nat.le_refl _) _).setCell (Nat.le_refl _) _

end Go.Proofs.YtgncohclofdhmaaGreat
