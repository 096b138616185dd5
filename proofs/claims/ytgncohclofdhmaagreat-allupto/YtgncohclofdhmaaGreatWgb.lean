import Derived.Test.YtgncohclofdhmaaGreatWga
import Derived.Deep.QuietTactic
import Derived.BigQuiet
import Derived.Deep.DeepCutAuto
import Derived.Deep.RegionWith
import Derived.BigRegion
import Derived.Test.YtgncohclofdhmaaGreatWsum2
import Derived.Test.YtgncohclofdhmaaGreatWsame
import Derived.Test.YtgncohclofdhmaaGreatWent1
import Derived.Test.YtgncohclofdhmaaGreatWans
import Derived.Lib.SliceRun
import Derived.Deep.RegionLaw
namespace Go.Proofs.YtgncohclofdhmaaGreat
open Go.RowKit
set_option linter.unusedVariables false

/-- A list of four lists of bytes lies in block lb: all of list number i, all read so. -/
def ListAt (role : Nat → Nat) (w : World) (lb i v : Nat) : Prop := ∃ ss : List Value, w.heap[lb]? = some (.cells ss.toArray 29 (0, 0)) ∧ ss.length = 4 ∧ ∀ s, s ∈ ss → Out (fun k => role k = i + 1) w s ∧ Full w s v

/-- The lists that came out, each with its mark. -/
def OutsAt (role : Nat → Nat) (w : World) (ls : List Nat) (f : Nat → Nat) : Prop := ∀ i, i < ls.length → ListAt role w (ls.getD i 0) i (f i)

theorem ListAt.below {role : Nat → Nat} {w w' : World} {lb i v : Nat} (h : ListAt role w lb i v) (b : Below w.heap.size w w') : ListAt role w' lb i v := by
  obtain ⟨ss, h1, h2, h3⟩ := h
  exact ⟨ss, (b.block lb (heap_lt h1)).trans h1, h2, fun s hs => ⟨(h3 s hs).1.touch (Touch.of (R := fun _ => False) b), (h3 s hs).2.keep (Touch.of (R := fun _ => False) b) fun _ _ _ _ h => h⟩⟩

theorem OutsAt.below {role : Nat → Nat} {w w' : World} {ls : List Nat} {f : Nat → Nat} (h : OutsAt role w ls f) (b : Below w.heap.size w w') : OutsAt role w' ls f := fun i hi => (h i hi).below b

/-- What is written into another list leaves it. -/
theorem ListAt.touch {role : Nat → Nat} {w w' : World} {lb i j v : Nat} (h : ListAt role w lb i v) (t : Touch (fun k => role k = j + 1) w w') (hij : i ≠ j) : ListAt role w' lb i v := by
  obtain ⟨ss, h1, h2, h3⟩ := h
  refine ⟨ss, (t.block lb (heap_lt h1) fun hx => not_u8 h1 (by decide) hx.2).trans h1, h2, fun s hs => ⟨(h3 s hs).1.touch t, ?_⟩⟩
  have ho := (h3 s hs).1
  refine (h3 s hs).2.keep t fun g n c e hg => ?_
  subst e
  cases ho with
  | some _ _ _ cur _ _ _ _ h5 => omega

theorem OwnL.cellAt {B : Nat} {w : World} {v : Value} {ls : List Nat} (h : OwnL B w v ls) (i : Nat) (hi : i < ls.length) : ∃ g c, v = .slice (some ⟨g, 0, none⟩) ls.length c ∧ w.cell? ⟨g, i, none⟩ = some (.slice (some ⟨ls.getD i 0, 0, none⟩) 4 4) := by
  rcases h.2 with ⟨_, hn⟩ | ⟨g, cap, cur, rfl, hbg, hg, hnc, hcm, hcs, htake⟩
  · omega
  · refine ⟨g, cap, rfl, ?_⟩
    rw [World.ownsRow.cellAt (g := g) (cap := cap) h i (by omega)]
    simp [hi, lval]

theorem OwnL.below {B : Nat} {w w' : World} {v : Value} {ls : List Nat} (h : OwnL B w v ls) (b : Below w.heap.size w w') : OwnL B w' v ls := h.touch (Touch.of (R := fun _ => False) b)

theorem WBox.below {w w' : World} {g : Nat} {dv sv bv ev : Value} (h : WBox w g dv sv bv ev) (b : Below w.heap.size w w') : WBox w' g dv sv bv ev := (b.block g h.lt).trans h

set_option maxRecDepth 100000 in
set_option maxHeartbeats 2000000 in
theorem allRead_any (gw : Nat) (w : World) (dv sv bv ev : Value) (Bb : Nat) (ls : List Nat) (role : Nat → Nat) (d : Nat) (hd : d ≤ 4) (hW : WBox w gw dv sv bv ev) (hL : OwnL Bb w bv ls) (hO : OutsAt role w ls fun i => digN i d) (hll : ls.length ≤ 1000000000) :
    Calls Tryz.prog 13 #[.pointer (some ⟨gw, 0, none⟩), .int .i64 d] w fun e w' => e = .returned (.bool true) ∧ Below w.heap.size w w' := by
  obtain ⟨n, HN⟩ : ∃ n, Hid (n = ls.length) := ⟨_, rfl⟩
  obtain ⟨ba, bc, hbv, -, -⟩ := hL.len
  rw [← HN.out] at hbv hll
  subst hbv
  go_enter Tryz.func13, Tryz.ntmps13
  go_wp2
  go_loopw [5, 6] (fun i _ wr => ∃ k : Nat, k ≤ n ∧ i = .int .i64 k ∧ Below w.heap.size w wr) (fun i _ _ => n - (intOf i).toNat)
  case atStart => exact ⟨0, by omega, rfl, Below.refl _ _⟩
  case round =>
    obtain ⟨k, hk, rfl, hbl⟩ := hrel
    have c2 := (hW.below hbl).c2
    by_cases hlt : k < n
    · have hk1 : k < ls.length := by have := HN.out; omega
      obtain ⟨bg, bc', e, cK⟩ := (hL.below hbl).cellAt k hk1
      rw [← HN.out] at e
      simp only [Value.slice.injEq, true_and] at e
      obtain ⟨rfl, rfl⟩ := e
      obtain ⟨ss, l1, l2, l3⟩ := (hO k hk1).below hbl
      have hv := digN_lt k d
      have HDg : Hid (∀ m, Calls Tryz.prog 15 #[.int .i64 k, .int .i64 d] (wr.drewN m) fun e w' => e = .returned (.int .u8 (digN k d : Nat)) ∧ w' = wr.drewN m) := fun m => digit_any k d _ (by omega) hd
      have HRd : Hid (∀ m, Calls Tryz.prog 45 #[.slice (some ⟨ls.getD k 0, 0, none⟩) 4 4, .int .u8 (digN k d : Nat)] (wr.drewN m) fun e w' => e = .returned (.bool true) ∧ w' = wr.drewN m) := by
        intro m
        have b := below_drewN (Below.refl wr.heap.size wr) m
        exact reads_any _ ss 4 4 _ _ l2.symm (by omega) (by omega) ((b.block _ (heap_lt l1)).trans l1) _ (fun s hs => (l3 s hs).1.touch (Touch.of (R := fun _ => False) b)) (fun s hs => (l3 s hs).2.keep (Touch.of (R := fun _ => False) b) fun _ _ _ _ h => h)
      generalize digN k d = v at *
      generalize ls.getD k 0 = lb at *
      have hki : (k : Int) < (n : Int) := by omega
      clear l1 l3
      go_upto_region 4 with fail
      go_quiet (first | (go_at_call 15; exact Calls.quiet_of_same (unhide HDg _)) | (go_at_call 45; exact Calls.quiet_of_same (unhide HRd _)))
      have hbl2 := below_drewN hbl nq
      go_wp2
      go_roundw
      case rel => first | exact ⟨k + 1, by omega, by go_num, hbl2⟩ | ((repeat apply Exists.intro); exact ⟨⟨k + 1, by omega, by go_num, hbl2⟩, rfl⟩)
      case measure => simp [intOf]; omega
    · go_wp2
      go_ret
      exact ⟨rfl, hbl⟩

end Go.Proofs.YtgncohclofdhmaaGreat

namespace Go.Proofs.YtgncohclofdhmaaGreat
open Go.RowKit
set_option linter.unusedVariables false

theorem OutsAt.congr {role : Nat → Nat} {w : World} {ls : List Nat} {f g : Nat → Nat} (h : OutsAt role w ls f) (e : ∀ i, i < ls.length → f i = g i) : OutsAt role w ls g := fun i hi => by
  rw [← e i hi]
  exact h i hi

/-- List i is written anew. -/
theorem OutsAt.write {role : Nat → Nat} {w w' : World} {ls : List Nat} {f : Nat → Nat} {i v : Nat} {ss : List Value} (h : OutsAt role w ls f) (l1 : w.heap[ls.getD i 0]? = some (.cells ss.toArray 29 (0, 0))) (l2 : ss.length = 4) (l3 : ∀ s, s ∈ ss → Out (fun k => role k = i + 1) w s)
    (t : Touch (fun k => role k = i + 1) w w') (hf : ∀ s, s ∈ ss → Full w' s v) : OutsAt role w' ls fun j => if j = i then v else f j := by
  intro j hj
  by_cases e : j = i
  · subst e
    simp only [if_true]
    exact ⟨ss, (t.block _ (heap_lt l1) fun hx => not_u8 l1 (by decide) hx.2).trans l1, l2, fun s hs => ⟨(l3 s hs).touch t, hf s hs⟩⟩
  · simp only [e, if_false]
    exact (h j hj).touch t e

def farS : ByteArray := ⟨#[40, 102, 97, 114, 41]⟩

/-- Entries that their owner has written over. -/
def FarAt (role : Nat → Nat) (w : World) (e : Value) (n0 : Nat) : Prop := ∃ (a : Option Addr) (n c : Nat), e = .slice a n c ∧ n ≤ c ∧ c ≤ maxLen ∧ ∀ j, j < n → ∃ (b off zb : Nat) (cur : Array Value), a = some ⟨b, off, none⟩ ∧ w.heap[b]? = some (.cells cur 46 (0, 0)) ∧ w.cell? ⟨b, off + j * 2, none⟩ = some (.string farS) ∧ w.cell? ⟨b, off + j * 2 + 1, none⟩ = some (.slice (some ⟨zb, 0, none⟩) 2 2) ∧
  w.heap[zb]? = some (.cells #[.int .u8 (digN n0 0 : Nat), .int .u8 (digN n0 1 : Nat)] 5 (0, 0)) ∧ role zb = 0

theorem FarAt.touch {role : Nat → Nat} {w w' : World} {e : Value} {n0 : Nat} (h : FarAt role w e n0) (t : Touch (fun k => role k ≠ 0) w w') : FarAt role w' e n0 := by
  obtain ⟨a, n, c, h1, h2, h3, h4⟩ := h
  refine ⟨a, n, c, h1, h2, h3, fun j hj => ?_⟩
  obtain ⟨b, off, zb, cur, k1, k2, k3, k4, k5, k6⟩ := h4 j hj
  have hb := t.block b (heap_lt k2) fun hx => not_u8 k2 (by decide) hx.2
  exact ⟨b, off, zb, cur, k1, hb.trans k2, (World.cell?_of_block hb).trans k3, (World.cell?_of_block hb).trans k4, (t.block zb (heap_lt k5) fun hx => hx.1 k6).trans k5, k6⟩

/-- A row of values of one cell each, of the call's own. -/
def OwnV (t : TypeId) (B : Nat) (w : World) (v : Value) (es : List Value) : Prop := w.ownsRow B t 1 v es.length es

theorem OwnV.touch {t : TypeId} {R : Nat → Prop} {B : Nat} {w w' : World} {v : Value} {es : List Value} (h : OwnV t B w v es) (ht : t ≠ 5) (k : Touch R w w') : OwnV t B w' v es := by
  refine ⟨h.1, ?_⟩
  rcases h.2 with ⟨rfl, hn⟩ | ⟨g, cap, cur, rfl, hbg, hg, hnc, hcm, hcs, htake⟩
  · exact .inl ⟨rfl, hn⟩
  · exact .inr ⟨g, cap, cur, rfl, hbg, (k.block g (heap_lt hg) fun hx => not_u8 hg ht hx.2).trans hg, hnc, hcm, hcs, htake⟩

theorem OwnV.len {t : TypeId} {B : Nat} {w : World} {v : Value} {es : List Value} (h : OwnV t B w v es) : ∃ a c, v = .slice a es.length c ∧ es.length ≤ c ∧ c ≤ maxLen := by
  rcases h.2 with ⟨rfl, hn⟩ | ⟨g, cap, cur, rfl, hbg, hg, hnc, hcm, hcs, htake⟩
  · exact ⟨none, 0, by rw [hn], by omega, by simp [maxLen]⟩
  · exact ⟨_, cap, rfl, hnc, hcm⟩

theorem OwnV.cellAt {t : TypeId} {B : Nat} {w : World} {v : Value} {es : List Value} (h : OwnV t B w v es) (i : Nat) (hi : i < es.length) : ∃ g c, v = .slice (some ⟨g, 0, none⟩) es.length c ∧ w.cell? ⟨g, i, none⟩ = some (es.getD i undef) := by
  rcases h.2 with ⟨_, hn⟩ | ⟨g, cap, cur, rfl, hbg, hg, hnc, hcm, hcs, htake⟩
  · omega
  · refine ⟨g, cap, rfl, ?_⟩
    rw [World.ownsRow.cellAt (g := g) (cap := cap) h i (by omega)]
    simp [hi]

def EntsAt (role : Nat → Nat) (w : World) (es : List Value) : Prop := ∀ i, i < es.length → FarAt role w (es.getD i undef) (i / 4 * 4)

theorem EntsAt.touch {role : Nat → Nat} {w w' : World} {es : List Value} (h : EntsAt role w es) (t : Touch (fun k => role k ≠ 0) w w') : EntsAt role w' es := fun i hi => (h i hi).touch t

/-- The digit that stands there behind k rounds. -/
def passD (k : Nat) : Nat := if k = 0 then 0 else 4 - k

set_option maxRecDepth 100000 in
set_option maxHeartbeats 4000000 in
theorem whole_any (gw : Nat) (w : World) (dv sv bv ev : Value) (Bb Be : Nat) (ls : List Nat) (es : List Value) (role : Nat → Nat) (hW : WBox w gw dv sv bv ev) (hL : OwnL Bb w bv ls) (hO : OutsAt role w ls fun i => digN i 0) (hll : ls.length ≤ 1000000000) (hE : OwnV 44 Be w ev es) (hEA : EntsAt role w es) (hel : es.length ≤ 1000000000) :
    Calls Tryz.prog 6 #[.pointer (some ⟨gw, 0, none⟩)] w fun e w' => e = .returned (.bool true) ∧ Touch (fun k => role k ≠ 0) w w' ∧ OutsAt role w' ls fun i => digN i 0 := by
  obtain ⟨n, HN⟩ : ∃ n, Hid (n = ls.length) := ⟨_, rfl⟩
  obtain ⟨ba, bc, hbv, -, -⟩ := hL.len
  rw [← HN.out] at hbv
  have hnl : n ≤ 1000000000 := by rw [HN.out]; exact hll
  subst hbv
  obtain ⟨m, HM⟩ : ∃ m, Hid (m = es.length) := ⟨_, rfl⟩
  obtain ⟨ea, ec, hev, -, -⟩ := hE.len
  rw [← HM.out] at hev
  have hml : m ≤ 1000000000 := by rw [HM.out]; exact hel
  subst hev
  have HAR : Hid (∀ W d, d ≤ 4 → Touch (fun k => role k ≠ 0) w W → OutsAt role W ls (fun i => digN i d) → Calls Tryz.prog 13 #[.pointer (some ⟨gw, 0, none⟩), .int .i64 (d : Nat)] W fun e w' => e = .returned (.bool true) ∧ Below W.heap.size W w') := fun W d hd t ho => allRead_any gw W dv sv _ _ Bb ls role d hd (hW.touch t) (hL.touch t) ho hll
  go_enter Tryz.func6, Tryz.ntmps6
  go_wp2_with fail
  refine (HAR.out _ 0 (by omega) (Touch.refl _ _) hO).mono ?_
  rintro e w1 ⟨rfl, b1⟩
  have T1 := hide (Touch.of (R := fun k => role k ≠ 0) b1)
  have O1 := hide (hO.below b1)
  clear b1
  go_wp2
  go_loopw [3, 4, 5] (fun s3 s4 _ wr => ∃ (k : Nat) (z : Int), k ≤ 4 ∧ z = 3 - (k : Int) ∧ s3 = .bool true ∧ s4 = .int .i64 z ∧ Hid (Touch (fun k => role k ≠ 0) w wr) ∧ Hid (OutsAt role wr ls fun i => digN i (passD k))) (fun _ s4 _ _ => (intOf s4 + 1).toNat)
  case atStart => exact ⟨0, 3, by omega, by omega, rfl, rfl, T1, O1⟩
  case round =>
    obtain ⟨k, z, hk, hz, rfl, rfl, HT, HO⟩ := hrel
    by_cases hlt : k < 4
    · obtain ⟨d, rfl⟩ : ∃ d : Nat, z = (d : Int) := ⟨3 - k, by omega⟩
      have HDd : Hid (passD (k + 1) = d) := by show _ = _; unfold passD; rw [if_neg (by omega)]; omega
      have hd3 : d ≤ 3 := by omega
      have HKd : Hid ((d : Int) = 3 - (k : Int)) := hz
      clear hz
      have hdb : (0 : Int) ≤ (d : Int) := by omega
      go_wp2
      go_loopw [5] (fun s5 wr => ∃ i : Nat, i ≤ n ∧ s5 = .int .i64 i ∧ Hid (Touch (fun k => role k ≠ 0) w wr) ∧ Hid (OutsAt role wr ls fun j => if j < i then digN j d else digN j (passD k))) (fun s5 _ => n - (intOf s5).toNat)
      case atStart => exact ⟨0, by omega, rfl, HT, HO.out.congr fun j _ => by simp⟩
      case round =>
        obtain ⟨i, hi, rfl, HT2, HO2⟩ := hrel
        have c2 := (hW.touch HT2.out).c2
        by_cases hin : i < n
        · have hi1 : i < ls.length := by have := HN.out; omega
          obtain ⟨bg, bc', e, cK⟩ := (hL.touch HT2.out).cellAt i hi1
          rw [← HN.out] at e
          simp only [Value.slice.injEq, true_and] at e
          obtain ⟨rfl, rfl⟩ := e
          obtain ⟨ss, l1, l2, l3⟩ := HO2.out i hi1
          have hv := digN_lt i d
          have HDg : Hid (∀ W, Calls Tryz.prog 15 #[.int .i64 i, .int .i64 d] W fun e w' => e = .returned (.int .u8 (digN i d : Nat)) ∧ w' = W) := fun W => digit_any i d W (by omega) (by omega)
          have HWr : Hid (∀ W, Below wr.heap.size wr W → Calls Tryz.prog 14 #[.slice (some ⟨ls.getD i 0, 0, none⟩) 4 4, .int .u8 (digN i d : Nat)] W fun e w' => (∃ u, e = .returned u) ∧ Touch (fun k => role k ≠ 0) w w' ∧ OutsAt role w' ls fun j => if j < i + 1 then digN j d else digN j (passD k)) := by
            intro W b
            refine (written_any (fun k => role k = i + 1) (ls.getD i 0) ss 4 4 (digN i d) W l2.symm (by omega) (by omega) ((b.block _ (heap_lt l1)).trans l1) (fun s hs => (l3 s hs).1.touch (Touch.of (R := fun _ => False) b))).mono ?_
            rintro e w' ⟨hu, t, hf⟩
            refine ⟨hu, (HT2.out.trans (Touch.of b)).trans (t.mono fun k hk => by omega), ?_⟩
            have h := (HO2.out.below b).write ((b.block _ (heap_lt l1)).trans l1) l2 (fun s hs => (l3 s hs).1.touch (Touch.of (R := fun _ => False) b)) t hf
            refine h.congr fun j _ => ?_
            by_cases e : j = i
            · subst e
              simp
            · simp only [e, if_false]
              by_cases e2 : j < i
              · rw [if_pos e2, if_pos (by omega)]
              · rw [if_neg e2, if_neg (by omega)]
          generalize digN i d = v at *
          generalize ls.getD i 0 = lb at *
          have hii : (i : Int) < (n : Int) := by omega
          clear l1 l3 hO O1 HAR
          go_upto_region 8 with fail
          go_region_with (first | (go_at_call 15; refine (unhide HDg _).mono ?_; rintro e w9 ⟨rfl, rfl⟩) | (go_at_call 14; refine (unhide HWr _ (by first | exact Below.refl _ _ | exact (Below.refl _ _).drew | exact (Below.refl _ _).drew.drew | exact below_drewN (Below.refl _ _) _)).mono ?_; rintro e w9 ⟨⟨u9, rfl⟩, t9, o9⟩))
          all_goals
            have HT3 := hide t9
            have HO3 := hide o9
            clear t9 o9
            go_wp2
            go_roundw
            case rel => first | exact ⟨i + 1, by omega, by go_num, HT3, HO3⟩ | ((repeat apply Exists.intro); exact ⟨⟨i + 1, by omega, by go_num, HT3, HO3⟩, rfl⟩)
            case measure => simp [intOf]; omega
        · obtain rfl : i = n := by omega
          have HO3 : Hid (OutsAt role wr ls fun j => digN j d) := HO2.out.congr fun j hj => by rw [if_pos (by have := HN.out; omega)]
          have KA := hide (HAR.out wr d (by omega) HT2.out HO3.out)
          go_wp2_with fail
          refine KA.out.mono ?_
          rintro e w4 ⟨rfl, b4⟩
          have HT4 := hide (HT2.out.trans (Touch.of b4))
          have HO4 : Hid (OutsAt role w4 ls fun i => digN i (passD (k + 1))) := by rw [HDd.out]; exact HO3.out.below b4
          go_wp2
          go_roundw
          case rel => first | exact ⟨k + 1, (d : Int) - 1, by omega, by have := HKd.out; omega, rfl, by go_num, HT4, HO4⟩ | ((repeat apply Exists.intro); exact ⟨⟨k + 1, (d : Int) - 1, by omega, by have := HKd.out; omega, rfl, by go_num, HT4, HO4⟩, rfl⟩)
          case measure => simp [intOf]
    · obtain rfl : k = 4 := by omega
      subst hz
      have HO0 : Hid (OutsAt role wr ls fun i => digN i 0) := HO.out.congr fun _ _ => rfl
      have HF : Hid (∀ W, Below wr.heap.size wr W → ∀ i, i < m → FarAt role W (es.getD i undef) (i / 4 * 4)) := fun W b i hi => (hEA.touch (HT.out.trans (Touch.of b))) i (by have := HM.out; omega)
      have HWB : Hid (∀ W, Below wr.heap.size wr W → WBox W gw dv sv (.slice ba n bc) (.slice ea m ec)) := fun W b => hW.touch (HT.out.trans (Touch.of b))
      have HEc : Hid (∀ W, Below wr.heap.size wr W → OwnV 44 Be W (.slice ea m ec) es) := fun W b => hE.touch (by decide) (HT.out.trans (Touch.of b))
      clear HO HAR hO O1 T1 hL hW hE hEA hll hel
      generalize wr = W0 at *
      go_wp2
      go_loopw [6, 7, 8, 9] (fun s6 _ _ _ wq => ∃ i : Nat, i ≤ m ∧ s6 = .int .i64 i ∧ Below W0.heap.size W0 wq) (fun s6 _ _ _ _ => m - (intOf s6).toNat)
      case atStart => exact ⟨0, by omega, rfl, Below.refl _ _⟩
      case round =>
        obtain ⟨i, hi, rfl, hbl⟩ := hrel
        have c3 := (HWB.out _ hbl).c3
        by_cases him : i < m
        · obtain ⟨eg, ec', e, cE⟩ := (HEc.out _ hbl).cellAt i (by have := HM.out; omega)
          rw [← HM.out] at e
          simp only [Value.slice.injEq, true_and] at e
          obtain ⟨rfl, rfl⟩ := e
          obtain ⟨fa, fn, fc, he, hfn, hfc, -⟩ := HF.out _ hbl i him
          have HFi : Hid (∀ W, Below W0.heap.size W0 W → FarAt role W (.slice fa fn fc) (i / 4 * 4)) := by
            intro W b
            have := HF.out W b i him
            rw [he] at this
            exact this
          rw [he] at cE
          have HCE : Hid (∀ W, Below W0.heap.size W0 W → W.cell? ⟨eg, i, none⟩ = some (.slice fa fn fc)) := by
            intro W b
            obtain ⟨eg', ec2, e, c⟩ := (HEc.out _ b).cellAt i (by have := HM.out; omega)
            simp only [Value.slice.injEq, Option.some.injEq, Addr.mk.injEq] at e
            obtain ⟨⟨rfl, _⟩, _⟩ := e
            rw [c, he]
          unfold maxLen at hfc
          have hii : (i : Int) < (m : Int) := by omega
          clear he
          go_wp2
          go_loopw [8, 9] (fun s8 _ wq => ∃ j : Nat, j ≤ fn ∧ s8 = .int .i64 j ∧ Below W0.heap.size W0 wq) (fun s8 _ _ => fn - (intOf s8).toNat)
          case atStart => exact ⟨0, by omega, rfl, hbl⟩
          case round =>
            obtain ⟨j, hj, rfl, hbl2⟩ := hrel
            have d3 := (HWB.out _ hbl2).c3
            have dE := HCE.out _ hbl2
            by_cases hjn : j < fn
            · obtain ⟨a', n2, c2, e, _, _, hcell⟩ := HFi.out _ hbl2
              simp only [Value.slice.injEq] at e
              obtain ⟨rfl, rfl, rfl⟩ := e
              obtain ⟨b, off, zb, cur, rfl, k2, k3, k4, k5, k6⟩ := hcell j hjn
              unfold farS at k3
              have Ba := below_alloc wr (.cells #[.string ⟨#[40, 102, 97, 114, 41]⟩, .slice (some ⟨zb, 0, none⟩) 2 2] 46)
              have z5 := (Ba.block zb (heap_lt k5)).trans k5
              have z0 : (wr.alloc (.cells #[.string ⟨#[40, 102, 97, 114, 41]⟩, .slice (some ⟨zb, 0, none⟩) 2 2] 46)).cell? ⟨zb, 0, none⟩ = some (.int .u8 (digN (i / 4 * 4) 0 : Nat)) := cell_of_row _ zb 0 _ _ _ z5
              have z1 : (wr.alloc (.cells #[.string ⟨#[40, 102, 97, 114, 41]⟩, .slice (some ⟨zb, 0, none⟩) 2 2] 46)).cell? ⟨zb, 1, none⟩ = some (.int .u8 (digN (i / 4 * 4) 1 : Nat)) := cell_of_row _ zb 1 _ _ _ z5
              have hbl3 := hbl2.trans (Ba.mono hbl2.size)
              have x0 : (wr.alloc (.cells #[.string ⟨#[40, 102, 97, 114, 41]⟩, .slice (some ⟨zb, 0, none⟩) 2 2] 46)).cell? ⟨wr.heap.size, 0, none⟩ = some (.string ⟨#[40, 102, 97, 114, 41]⟩) := cell_of_row _ _ 0 _ _ _ (heap_alloc_new wr _)
              have x1 : (wr.alloc (.cells #[.string ⟨#[40, 102, 97, 114, 41]⟩, .slice (some ⟨zb, 0, none⟩) 2 2] 46)).cell? ⟨wr.heap.size, 1, none⟩ = some (.slice (some ⟨zb, 0, none⟩) 2 2) := cell_of_row _ _ 1 _ _ _ (heap_alloc_new wr _)
              have HDi : Hid (∀ W (t u : Int), t = ((i / 4 * 4 : Nat) : Int) → 0 ≤ u → u ≤ 4 → Calls Tryz.prog 15 #[.int .i64 t, .int .i64 u] W fun e w' => e = .returned (.int .u8 (digN (i / 4 * 4) u.toNat : Nat)) ∧ w' = W) := by
                intro W t u ht h0 h4
                obtain ⟨d, rfl⟩ : ∃ d : Nat, u = d := ⟨u.toNat, by omega⟩
                subst ht
                exact digit_any (i / 4 * 4) d W (by omega) (by omega)
              have hji : (j : Int) < (fn : Int) := by omega
              clear k5 z5 hcell
              go_upto_region 20 with fail
              generalize wr.alloc (.cells #[.string ⟨#[40, 102, 97, 114, 41]⟩, .slice (some ⟨zb, 0, none⟩) 2 2] 46) = W5 at *
              go_quiet ((go_at_call 15; exact Calls.quiet_of_same (unhide HDi _ _ _ (by omega) (by omega) (by omega))))
              have hbl4 := below_drewN hbl3 nq
              go_wp2
              go_roundw
              case rel => first | exact ⟨j + 1, by omega, by go_num, hbl4⟩ | ((repeat apply Exists.intro); exact ⟨⟨j + 1, by omega, by go_num, hbl4⟩, rfl⟩)
              case measure => simp [intOf]; omega
            · go_wp2
              go_roundw
              case rel => first | exact ⟨i + 1, by omega, by go_num, hbl2⟩ | ((repeat apply Exists.intro); exact ⟨⟨i + 1, by omega, by go_num, hbl2⟩, rfl⟩)
              case measure => simp [intOf]; omega
        · have HTe := hide (HT.out.trans (Touch.of hbl))
          have HOe := hide (HO0.out.below hbl)
          go_wp2
          go_ret
          exact ⟨rfl, HTe.out, HOe.out⟩

end Go.Proofs.YtgncohclofdhmaaGreat

namespace Go.Proofs.YtgncohclofdhmaaGreat
open Go.RowKit
set_option linter.unusedVariables false

/-- Bytes with one byte of spare room, in which 77 stands. -/
def Roomy (B : Nat) (w : World) (g c : Nat) (xs : List UInt8) : Prop := Own B w (.slice (some ⟨g, 0, none⟩) (xs ++ [77]).length c) (xs ++ [77])

theorem Roomy.parts {B : Nat} {w : World} {g c : Nat} {xs : List UInt8} (h : Roomy B w g c xs) : B ≤ g ∧ g < w.heap.size ∧ xs.length + 1 ≤ c ∧ c ≤ maxLen ∧ Bts w (some ⟨g, 0, none⟩) xs ∧ w.cell? ⟨g, xs.length, none⟩ = some (.int .u8 77) ∧ ∃ cur, w.heap[g]? = some (.cells cur 5 (0, 0)) ∧ xs.length + 1 ≤ cur.size := by
  rcases h.2 with ⟨e, _⟩ | ⟨g', cap, cur, e, hbg, hg, hnc, hcm, hcs, htake⟩
  · cases e
  · simp only [Value.slice.injEq, Option.some.injEq, Addr.mk.injEq] at e
    obtain ⟨⟨rfl, _⟩, _, rfl⟩ := e
    have hl : (xs ++ [(77 : UInt8)]).length = xs.length + 1 := by simp
    rw [hl] at hnc
    have hcell : ∀ i, i < xs.length + 1 → w.cell? ⟨g, i, none⟩ = some (.int .u8 (((xs ++ [(77 : UInt8)]).getD i 0).toNat : Int)) := by
      intro i hi
      rw [World.ownsRow.cellAt (g := g) (cap := c) h i (by omega), cells_get _ i (by omega)]
    refine ⟨hbg, heap_lt hg, hnc, hcm, ?_, ?_, cur, hg, by omega⟩
    · intro i hi
      refine ⟨g, 0, rfl, ?_⟩
      rw [Nat.zero_add, hcell i (by omega)]
      congr 3
      rw [List.getD_eq_getElem?_getD, List.getD_eq_getElem?_getD, List.getElem?_append_left hi]
    · rw [hcell xs.length (by omega)]
      simp

theorem Roomy.below {B : Nat} {w w' : World} {g c : Nat} {xs : List UInt8} (h : Roomy B w g c xs) (b : Below w.heap.size w w') : Roomy B w' g c xs := Own.carry h b

theorem Roomy.save {K : Nat → Prop} {B : Nat} {w w' : World} {g c : Nat} {xs : List UInt8} (h : Roomy B w g c xs) (t : Save K w w') (hk : ¬ K g) : Roomy B w' g c xs := by
  refine ⟨h.1, ?_⟩
  rcases h.2 with ⟨e, _⟩ | ⟨g', cap, cur, e, hbg, hg, hnc, hcm, hcs, htake⟩
  · cases e
  · have e' := e
    simp only [Value.slice.injEq, Option.some.injEq, Addr.mk.injEq] at e'
    obtain ⟨⟨rfl, _⟩, _, rfl⟩ := e'
    exact .inr ⟨g, c, cur, e, hbg, (t.block g (heap_lt hg) hk).trans hg, hnc, hcm, hcs, htake⟩

set_option maxRecDepth 100000 in
set_option maxHeartbeats 1000000 in
theorem roomy_any (a : Option Addr) (xs : List UInt8) (cap : Nat) (w : World) (hm : xs.length ≤ 140737488355000) (hb : Bts w a xs) :
    Calls Tryz.prog 25 #[.slice a xs.length cap] w fun e w' => ∃ g c, e = .returned (.slice (some ⟨g, 0, none⟩) xs.length c) ∧ Roomy w.heap.size w' g c xs ∧ Below w.heap.size w w' := by
  go_enter Tryz.func25, Tryz.ntmps25
  go_wp2_with fail
  refine (own_any a xs cap w (by omega) hb).mono ?_
  rintro e w1 ⟨v1, rfl, o1, b1⟩
  obtain ⟨a1, c1, rfl, -, -, -⟩ := o1.shape
  have o2 := o1.alloc (.cells #[.int .u8 77] 5)
  have s2 := src_lit w1 [77] 1 rfl #[.int .u8 77] rfl
  have b2 := b1.alloc b1.size (.cells #[.int .u8 77] 5)
  go_wp2_with (at_builtin; go_must (refine wpAppG rfl (.tmp 6) (.tmp 7) 29 rfl w.heap.size _ xs rfl o2 _ [77] rfl 1 s2 (by simp; omega) b2.size ?_))
  intro v3 w3 z3 e3 o3 g3
  have b3 := g3.below b2 o2 (Nat.le_refl _)
  obtain rfl : z3 = xs ++ [77] := e3.out
  rcases o3.2 with ⟨_, hn⟩ | ⟨g, cc, cur, hv, hbg, hg, hnc, hcm, hcs, htake⟩
  · simp at hn
  · subst hv
    have HR : Hid (Roomy w.heap.size w3 g cc xs) := o3
    have hl : (xs ++ [(77 : UInt8)]).length = xs.length + 1 := by simp
    rw [hl] at hnc ⊢
    unfold maxLen at hcm
    have i1 : (xs.length : Int) ≤ (cc : Int) := by omega
    clear o3 g3 e3 s2 o2 hg htake hl
    go_wp2
    go_ret
    exact ⟨g, cc, rfl, HR.out, b3⟩

set_option maxRecDepth 100000 in
set_option maxHeartbeats 1000000 in
theorem still_any (B g c : Nat) (xs : List UInt8) (ba : Option Addr) (bc : Nat) (w : World) (hm : xs.length ≤ 140737488355000) (hR : Roomy B w g c xs) (hb : Bts w ba xs) :
    Calls Tryz.prog 34 #[.slice (some ⟨g, 0, none⟩) xs.length c, .slice ba xs.length bc] w fun e w' => e = .returned (.bool true) ∧ Save (fun k => k = g) w w' := by
  obtain ⟨-, hgl, hc1, hcm, hbx, h77, cur, hg, hcur⟩ := hR.parts
  unfold maxLen at hcm
  obtain ⟨n, HN⟩ : ∃ n, Hid (n = xs.length) := ⟨_, rfl⟩
  have KS := hide (sameBytes_any (some ⟨g, 0, none⟩) ba xs xs c bc w (by omega) (by omega) hbx hb)
  rw [eqB_true] at KS
  rw [← HN.out] at hc1 h77 hcur hm KS ⊢
  go_enter Tryz.func34, Tryz.ntmps34
  go_wp2_with fail
  refine KS.out.mono ?_
  rintro e w1 ⟨rfl, b1⟩
  have d77 := (b1.cell (p := ⟨g, n, none⟩) hgl).trans h77
  have hg1 := (b1.block g hgl).trans hg
  have SV1 : Save (fun k => k = g) w w1 := Save.of b1
  have i1 : (n : Int) + 1 ≤ (c : Int) := by omega
  clear KS hbx hb h77 hg hR
  go_wp2
  go_loopw [8] (fun i wr => ∃ k : Nat, k ≤ n + 1 ∧ i = .int .i64 k ∧ Save (fun k => k = g) w wr ∧ ∃ cur : Array Value, wr.heap[g]? = some (.cells cur 5 (0, 0)) ∧ n + 1 ≤ cur.size) (fun i _ => n + 1 - (intOf i).toNat)
  case atStart => exact ⟨0, by omega, rfl, SV1, cur, hg1, hcur⟩
  case round =>
    obtain ⟨k, hk, rfl, SV, cur2, hg2, hcur2⟩ := hrel
    by_cases hlt : k < n + 1
    · have hkc : k < cur2.size := by omega
      obtain ⟨u, cI⟩ : ∃ u, wr.cell? ⟨g, k, none⟩ = some u := ⟨_, by rw [cell_of_row _ g k _ _ _ hg2, Array.getElem?_eq_getElem hkc]⟩
      have fI : wr.frozen? ⟨g, k, none⟩ = false := by simp [World.frozen?, hg2]
      have SV3 := SV.trans (Save.set wr g k (.int .u8 78))
      have hg3 : (wr.setCell ⟨g, k, none⟩ (.int .u8 78)).heap[g]? = some (.cells (cur2.setIfInBounds k (.int .u8 78)) 5 (0, 0)) := set_heap hg2
      have hki : (k : Int) < (n : Int) + 1 := by omega
      clear hg2 hkc
      go_wp2
      go_roundw
      case rel => exact ⟨k + 1, by omega, by go_num, SV3, _, hg3, by simpa using hcur2⟩
      case measure => simp [intOf]; omega
    · have hki : ¬ (k : Int) < (n : Int) + 1 := by omega
      clear hg2
      go_wp2
      go_ret
      exact ⟨rfl, SV⟩

end Go.Proofs.YtgncohclofdhmaaGreat

namespace Go.Proofs.YtgncohclofdhmaaGreat
open Go.RowKit
set_option linter.unusedVariables false

def farE : Ent := ⟨farS, none, [], 0⟩

/-- An entry whose body has a byte of room, in a block from lo to hi. -/
def RoomE (lo hi : Nat) (w : World) (f : Ent) : Prop := ∃ g, f.adr = some ⟨g, 0, none⟩ ∧ Roomy lo w g f.cap f.body ∧ g < hi ∧ f.path.size ≤ maxLen

def blkOf (f : Ent) : Nat := match f.adr with | some a => a.block | none => 0

theorem RoomE.below {lo hi hi' : Nat} {w w' : World} {f : Ent} (h : RoomE lo hi w f) (b : Below w.heap.size w w') (hh : hi ≤ hi') : RoomE lo hi' w' f := by
  obtain ⟨g, h1, h2, h3, h4⟩ := h
  exact ⟨g, h1, h2.below b, by omega, h4⟩

theorem RoomE.blk {lo hi : Nat} {w : World} {f : Ent} (h : RoomE lo hi w f) : lo ≤ blkOf f ∧ blkOf f < hi ∧ U8 w (blkOf f) := by
  obtain ⟨g, h1, h2, h3, _⟩ := h
  have e : blkOf f = g := by unfold blkOf; rw [h1]
  obtain ⟨k1, _, _, _, _, _, cur, k2, _⟩ := h2.parts
  rw [e]
  exact ⟨k1, h3, cur, k2⟩

theorem RoomE.save {K : Nat → Prop} {lo hi : Nat} {w w' : World} {f : Ent} (h : RoomE lo hi w f) (t : Save K w w') (hk : ¬ K (blkOf f)) : RoomE lo hi w' f := by
  obtain ⟨g, h1, h2, h3, h4⟩ := h
  have e : blkOf f = g := by unfold blkOf; rw [h1]
  rw [e] at hk
  exact ⟨g, h1, h2.save t hk, h3, h4⟩

theorem Roomy.mono {B B' : Nat} {w : World} {g c : Nat} {xs : List UInt8} (h : Roomy B w g c xs) (hB : B' ≤ B) : Roomy B' w g c xs := Own.mono h hB

theorem RoomE.hi {lo hi hi' : Nat} {w : World} {f : Ent} (h : RoomE lo hi w f) (hh : hi ≤ hi') : RoomE lo hi' w f := by
  obtain ⟨g, h1, h2, h3, h4⟩ := h
  exact ⟨g, h1, h2, by omega, h4⟩

/-- What 'set' lays: the entries, one more behind them, their bodies with room, each in a block of its own. -/
structure SetAt (lo hi : Nat) (w : World) (g c : Nat) (es fs : List Ent) : Prop where
  row : OwnE lo w (.slice (some ⟨g, 0, none⟩) (fs ++ [farE]).length c) (fs ++ [farE])
  blk : g < hi
  like : Alike es fs
  room : ∀ f, f ∈ fs → RoomE lo hi w f
  apart : fs.Pairwise fun x y => blkOf x ≠ blkOf y

theorem not_ent {B : Nat} {w : World} {v : Value} {es : List Ent} (h : OwnE B w v es) (k : Nat) (hk : U8 w k) : ¬ some k = v.ownBlock := by
  intro e
  obtain ⟨cur', hc⟩ := hk
  rcases h.2 with ⟨rfl, _⟩ | ⟨g, cap, cur, rfl, _, hg, _⟩
  · cases e
  · have : k = g := by simpa [Value.ownBlock] using e
    subst this
    rw [hc] at hg
    simp at hg

set_option maxRecDepth 100000 in
set_option maxHeartbeats 2000000 in
theorem set_any (a : Option Addr) (es : List Ent) (cap : Nat) (w : World) (hm : es.length ≤ 1000000000) (hl : ∀ e, e ∈ es → e.body.length ≤ 140737488355000) (ha : EntAt w a es) (hg : EntGood w es) :
    Calls Tryz.prog 18 #[.slice a es.length cap] w fun e w' => ∃ g c fs, e = .returned (.slice (some ⟨g, 0, none⟩) es.length c) ∧ SetAt w.heap.size w'.heap.size w' g c es fs ∧ Below w.heap.size w w' := by
  obtain ⟨n, HN⟩ : ∃ n, Hid (n = es.length) := ⟨_, rfl⟩
  rw [← HN.out] at hm ⊢
  go_enter Tryz.func18, Tryz.ntmps18
  go_wp2
  go_loopw [3, 4, 5] (fun v i _ wr => ∃ (k : Nat) (fs : List Ent), k ≤ n ∧ i = .int .i64 k ∧ OwnE w.heap.size wr v fs ∧ Hid (∀ f, f ∈ fs → RoomE w.heap.size wr.heap.size wr f) ∧ Hid (fs.Pairwise fun x y => blkOf x ≠ blkOf y) ∧ Hid ((fs.map fun f => (f.path, f.body)) = ((es.take k).map fun f => (f.path, f.body))) ∧ Below w.heap.size w wr) (fun _ i _ _ => n - (intOf i).toNat)
  case atStart => exact ⟨0, [], by omega, rfl, OwnE.nil _ _, (fun f hf => by cases hf), List.Pairwise.nil, rfl, Below.refl _ _⟩
  case round =>
    obtain ⟨k, fs, hk, rfl, ho, HR, HP, HM, hbl⟩ := hrel
    have HL : Hid (fs.length = k) := by
      have := congrArg List.length HM.out
      have := HN.out
      simp at *
      show _ = _
      omega
    by_cases hlt : k < n
    · have hlt2 : k < es.length := by have := HN.out; omega
      obtain ⟨b, off, rfl, hc1, hc2⟩ := (ha.carry hbl) k hlt2
      obtain ⟨g1, g2, g3, g4⟩ := (hg.carry hbl).get k hlt2
      have HT : Hid ((es.take (k + 1)) = es.take k ++ [es.getD k noEnt]) := take_snoc es noEnt k hlt2
      have hbm : (es.getD k noEnt).body.length ≤ 140737488355000 := by
        apply hl
        rw [List.getD_eq_getElem?_getD, List.getElem?_eq_getElem hlt2]
        exact List.getElem_mem hlt2
      generalize es.getD k noEnt = x at *
      unfold Ent.val at hc2
      have hki : (k : Int) < (n : Int) := by omega
      go_wp2_with fail
      refine (roomy_any x.adr x.body x.cap _ hbm g1).mono ?_
      rintro e w1 ⟨rg, rc, rfl, r1, b1⟩
      have hbl1 := hbl.trans (b1.mono hbl.size)
      have ho1 := ho.carry b1
      have c11 := (b1.cell (p := ⟨b, off + k * 2, none⟩) (World.block_lt_of_cell? wr _ hc1)).trans hc1
      obtain ⟨q1, q2, q3, q4, q5, q6, cur, q7, q8⟩ := r1.parts
      have hs1 := src_ent w1 ⟨x.path, some ⟨rg, 0, none⟩, x.body, rc⟩
      unfold Ent.val at hs1
      have ho2 := ho1.alloc (.cells #[.string x.path, .slice (some ⟨rg, 0, none⟩) x.body.length rc] 46)
      have Ba := below_alloc w1 (.cells #[.string x.path, .slice (some ⟨rg, 0, none⟩) x.body.length rc] 46)
      have hbl2 := hbl1.alloc hbl1.size (.cells #[.string x.path, .slice (some ⟨rg, 0, none⟩) x.body.length rc] 46)
      have r2 := r1.below Ba
      have HR2 : Hid (∀ f, f ∈ fs → RoomE w.heap.size w1.heap.size (w1.alloc (.cells #[.string x.path, .slice (some ⟨rg, 0, none⟩) x.body.length rc] 46)) f ∧ blkOf f < wr.heap.size) := fun f hf => ⟨((HR.out f hf).below b1 b1.size).below Ba (Nat.le_refl _), (HR.out f hf).blk.2.1⟩
      have hwr : w.heap.size ≤ wr.heap.size := hbl.size
      clear b1 ho1 ho hbl hbl1 hc1 hc2 HR r1 g1
      go_wp2_with (at_builtin; go_must (refine wpAppE rfl (.tmp 18) (.tmp 26) rfl w.heap.size _ fs rfl ho2 _ [⟨x.path, some ⟨rg, 0, none⟩, x.body, rc⟩] rfl 1 hs1 (by have := HL.out; simp; omega) hbl2.size ?_))
      intro v3 w3 f3 e3 o3 gr
      have b3 := below_ownE hbl2 ho2 gr.by_ (Nat.le_refl _)
      have SV3 := Save.grown gr.by_
      have HNR : Hid (RoomE w.heap.size w3.heap.size w3 ⟨x.path, some ⟨rg, 0, none⟩, x.body, rc⟩) := by
        obtain ⟨_, _, _, _, _, _, cur2, k7, _⟩ := r2.parts
        refine ⟨rg, rfl, (r2.mono hwr).save SV3 (not_ent ho2 rg ⟨cur2, k7⟩), ?_, g4⟩
        have h1 := Ba.size
        have h2 := gr.by_.size
        omega
      have hsz3 : w1.heap.size ≤ w3.heap.size := Nat.le_trans Ba.size gr.by_.size
      have HR3 : Hid (∀ f, f ∈ f3 → RoomE w.heap.size w3.heap.size w3 f) := by
        intro f hf
        rw [e3.out] at hf
        rcases List.mem_append.1 hf with hf | hf
        · have h := (HR2.out f hf).1
          exact (h.save SV3 (not_ent ho2 _ h.blk.2.2)).hi hsz3
        · simp at hf
          subst hf
          exact HNR.out
      have HP3 : Hid (f3.Pairwise fun x y => blkOf x ≠ blkOf y) := by
        show List.Pairwise _ _
        rw [e3.out, List.pairwise_append]
        refine ⟨HP.out, List.pairwise_singleton _ _, ?_⟩
        intro x hx y hy
        simp at hy
        subst hy
        have h := (HR2.out x hx).2
        show _ ≠ rg
        omega
      have HM3 : Hid ((f3.map fun f => (f.path, f.body)) = ((es.take (k + 1)).map fun f => (f.path, f.body))) := by
        show _ = _
        rw [e3.out, HT.out, List.map_append, List.map_append, HM.out]
        rfl
      clear gr hs1 ho2 hbl2 HR2 Ba r2 SV3 HNR q5 q7
      go_wp2
      go_roundw
      case rel => exact ⟨k + 1, f3, by omega, by go_num, o3, HR3, HP3, HM3, b3⟩
      case measure => simp [intOf]; omega
    · obtain rfl : k = n := by omega
      have HAk : Hid (Alike es fs) := by
        have h := HM.out
        rw [List.take_of_length_le (by rw [← HN.out]; omega)] at h
        exact h.symm
      have hs1 := src_ent wr farE
      unfold Ent.val at hs1
      have ho2 := ho.alloc (.cells #[.string farS, .slice none 0 0] 46)
      have Ba := below_alloc wr (.cells #[.string farS, .slice none 0 0] 46)
      have hbl2 := hbl.alloc hbl.size (.cells #[.string farS, .slice none 0 0] 46)
      go_wp2_with (at_builtin; go_must (refine wpAppE rfl (.tmp 28) (.tmp 30) rfl w.heap.size _ fs rfl ho2 _ [farE] rfl 1 hs1 (by have := HL.out; simp; omega) hbl2.size ?_))
      intro v3 w3 f3 e3 o3 gr
      have b3 := below_ownE hbl2 ho2 gr.by_ (Nat.le_refl _)
      have SV3 := Save.grown gr.by_
      have hsz3 : wr.heap.size ≤ w3.heap.size := Nat.le_trans Ba.size gr.by_.size
      have HR3 : Hid (∀ f, f ∈ fs → RoomE w.heap.size w3.heap.size w3 f) := by
        intro f hf
        have h := (HR.out f hf).below Ba (Nat.le_refl _)
        exact (h.save SV3 (not_ent ho2 _ h.blk.2.2)).hi hsz3
      have e3' : f3 = fs ++ [farE] := e3.out
      subst e3'
      have hfl : (fs ++ [farE]).length = k + 1 := by have := HL.out; simp; omega
      rcases o3.2 with ⟨_, hn⟩ | ⟨g, cc, cur, hv, hbg, hg2, hnc, hcm, hcs, htake⟩
      · omega
      · subst hv
        have HS : Hid (SetAt w.heap.size w3.heap.size w3 g cc es fs) := ⟨o3, heap_lt hg2, HAk.out, HR3.out, HP.out⟩
        rw [hfl] at hnc ⊢
        unfold maxLen at hcm
        have i1 : (k : Int) ≤ (cc : Int) := by omega
        clear gr hs1 ho2 hbl2 Ba SV3 o3 hg2 htake hfl e3
        go_wp2
        go_ret
        exact ⟨g, cc, fs, rfl, HS.out, b3⟩

end Go.Proofs.YtgncohclofdhmaaGreat

namespace Go.Proofs.YtgncohclofdhmaaGreat
open Go.RowKit
set_option linter.unusedVariables false

/-- The row of entries in block g from number k on. -/
def RowFrom (w : World) (g n k : Nat) (fs : List Ent) : Prop := ∃ cur : Array Value, w.heap[g]? = some (.cells cur 46 (0, 0)) ∧ (n + 1) * 2 ≤ cur.size ∧ ∀ j, k ≤ j → j < n → cur[j * 2]? = some (.string (fs.getD j noEnt).path) ∧ cur[j * 2 + 1]? = some (fs.getD j noEnt).val

theorem RowFrom.save {K : Nat → Prop} {w w' : World} {g n k : Nat} {fs : List Ent} (h : RowFrom w g n k fs) (t : Save K w w') (hk : ¬ K g) : RowFrom w' g n k fs := by
  obtain ⟨cur, h1, h2, h3⟩ := h
  exact ⟨cur, (t.block g (heap_lt h1) hk).trans h1, h2, h3⟩

theorem RowFrom.cells {w : World} {g n k : Nat} {fs : List Ent} (h : RowFrom w g n k fs) (hk : k < n) : w.cell? ⟨g, k * 2, none⟩ = some (.string (fs.getD k noEnt).path) ∧ w.cell? ⟨g, k * 2 + 1, none⟩ = some (fs.getD k noEnt).val ∧ (∀ j, w.frozen? ⟨g, j, none⟩ = false) := by
  obtain ⟨cur, h1, h2, h3⟩ := h
  obtain ⟨e1, e2⟩ := h3 k (Nat.le_refl _) hk
  exact ⟨by rw [cell_of_row _ g _ _ _ _ h1]; exact e1, by rw [cell_of_row _ g _ _ _ _ h1]; exact e2, fun j => by simp [World.frozen?, h1]⟩

theorem RowFrom.set {w : World} {g n k : Nat} {fs : List Ent} (h : RowFrom w g n k fs) (u v : Value) : RowFrom ((w.setCell ⟨g, k * 2, none⟩ u).setCell ⟨g, k * 2 + 1, none⟩ v) g n (k + 1) fs := by
  obtain ⟨cur, h1, h2, h3⟩ := h
  refine ⟨_, set_heap (set_heap h1), by simpa using h2, ?_⟩
  intro j hj hn
  obtain ⟨e1, e2⟩ := h3 j (by omega) hn
  rw [Array.getElem?_setIfInBounds_ne (by omega), Array.getElem?_setIfInBounds_ne (by omega), Array.getElem?_setIfInBounds_ne (by omega), Array.getElem?_setIfInBounds_ne (by omega)]
  exact ⟨e1, e2⟩

theorem SetAt.rowFrom {lo hi : Nat} {w : World} {g c n : Nat} {es fs : List Ent} (h : SetAt lo hi w g c es fs) (hn : n = fs.length) : RowFrom w g n 0 fs ∧ w.cell? ⟨g, n * 2, none⟩ = some (.string farS) ∧ w.cell? ⟨g, n * 2 + 1, none⟩ = some (.slice none 0 0) ∧ n + 1 ≤ c ∧ c ≤ maxLen ∧ lo ≤ g := by
  subst hn
  have hr := h.row
  rcases hr.2 with ⟨e, _⟩ | ⟨g', cap, cur, e, hbg, hg, hnc, hcm, hcs, htake⟩
  · cases e
  · simp only [Value.slice.injEq, Option.some.injEq, Addr.mk.injEq] at e
    obtain ⟨⟨rfl, _⟩, _, rfl⟩ := e
    have hl : (fs ++ [farE]).length = fs.length + 1 := by simp
    have hcell : ∀ i, i < (fs.length + 1) * 2 → cur[i]? = (entCells (fs ++ [farE]))[i]? := by
      intro i hi
      have h1 := World.ownsRow.cellAt (g := g) (cap := c) hr i (by rw [hl]; omega)
      rw [cell_of_row _ g i _ _ _ hg] at h1
      exact h1
    have hget := entCells_get (fs ++ [farE])
    rw [hl] at hget hnc
    have hlast := hget fs.length (by omega)
    have efar : (fs ++ [farE]).getD fs.length noEnt = farE := by simp
    rw [efar] at hlast
    refine ⟨⟨cur, hg, by rw [hcs]; omega, ?_⟩, ?_, ?_, hnc, hcm, hbg⟩
    · intro j _ hj
      have h1 := hget j (by omega)
      have e1 : (fs ++ [farE]).getD j noEnt = fs.getD j noEnt := by rw [List.getD_eq_getElem?_getD, List.getD_eq_getElem?_getD, List.getElem?_append_left hj]
      rw [e1] at h1
      rw [hcell _ (by omega), hcell _ (by omega)]
      exact h1
    · rw [cell_of_row _ g _ _ _ _ hg, hcell _ (by omega)]
      exact hlast.1
    · rw [cell_of_row _ g _ _ _ _ hg, hcell _ (by omega)]
      exact hlast.2

set_option maxRecDepth 100000 in
set_option maxHeartbeats 4000000 in
theorem setStill_any (lo hi g c : Nat) (es fs : List Ent) (a : Option Addr) (cap : Nat) (w0 w : World) (hm : es.length ≤ 1000000000) (hl : ∀ e, e ∈ es → e.body.length ≤ 140737488355000) (hS : SetAt lo hi w g c es fs) (hlo : w0.heap.size ≤ lo) (hb0 : Below w0.heap.size w0 w) (hcap : es.length ≤ cap) (hhi : hi ≤ w.heap.size) (ha : EntAt w0 a es) (hg : EntGood w0 es) :
    Calls Tryz.prog 24 #[.slice (some ⟨g, 0, none⟩) es.length c, .slice a es.length cap] w fun e w' => e = .returned (.bool true) ∧ Save (fun k => lo ≤ k ∧ k < hi) w w' := by
  obtain ⟨n, HN⟩ : ∃ n, Hid (n = es.length) := ⟨_, rfl⟩
  have hnf : n = fs.length := by rw [HN.out]; exact hS.like.len
  obtain ⟨hRow, h77, h78, hc1, hcm, hlg⟩ := hS.rowFrom hnf
  have hgh := hS.blk
  have HAl := hide hS.like
  have HRm := hide hS.room
  have HAp := hide hS.apart
  have HNf := hide hnf
  unfold maxLen at hcm
  rw [← HN.out] at hm hcap ⊢
  unfold farS at h77
  have HB : Hid (∀ W, Save (fun k => lo ≤ k ∧ k < hi) w W → Below w0.heap.size w0 W) := fun W t => hb0.trans (t.below hb0.size fun k hk h => by omega)
  have i1 : (n : Int) + 1 ≤ (c : Int) := by omega
  have hnil : ∀ W : World, (binOp .eql 29 (.slice none 0 0) (.slice none 0 0)).run Tryz.prog W = .ok (.bool true) W := fun W => Lib.run_eql_slice_nil W 29 5 none 0 0 0 0 Tryz.underlying29
  clear hnf hS
  go_enter Tryz.func24, Tryz.ntmps24
  go_wp2
  go_loopw [6, 7, 8] (fun s6 s7 _ wr => ∃ k : Nat, k ≤ n ∧ s6 = .bool true ∧ s7 = .int .i64 k ∧ Save (fun k => lo ≤ k ∧ k < hi) w wr ∧ Hid (RowFrom wr g n k fs) ∧ Hid (∀ j, k ≤ j → j < n → RoomE lo hi wr (fs.getD j noEnt))) (fun _ s7 _ _ => n - (intOf s7).toNat)
  case atStart =>
    refine ⟨0, by omega, rfl, rfl, Save.refl _ _, hRow, ?_⟩
    intro j _ hj
    apply HRm.out
    have hj2 : j < fs.length := by have := HNf.out; omega
    rw [List.getD_eq_getElem?_getD, List.getElem?_eq_getElem hj2]
    exact List.getElem_mem hj2
  case round =>
    obtain ⟨k, hk, rfl, rfl, SV, HRo, HRe⟩ := hrel
    by_cases hlt : k < n
    · have hkf : k < fs.length := by have := HNf.out; omega
      have hke : k < es.length := by have := HN.out; omega
      have hB := HB.out _ SV
      obtain ⟨b, off, hba, c1, c2⟩ := (ha.carry hB) k hke
      have HIn : Hid (∀ W, Save (fun k => lo ≤ k ∧ k < hi) w W → W.cell? ⟨b, off + k * 2, none⟩ = some (.string (es.getD k noEnt).path)) := by
        intro W t
        obtain ⟨b', off', e, c, _⟩ := (ha.carry (HB.out W t)) k hke
        rw [hba] at e
        simp only [Option.some.injEq, Addr.mk.injEq, and_true] at e
        obtain ⟨rfl, rfl⟩ := e
        exact c
      subst hba
      obtain ⟨g1, g2, g3, g4⟩ := (hg.carry hB).get k hke
      have HRk := hide (HRo.out.cells hlt)
      obtain ⟨r0, r1, -⟩ := HRk.out
      obtain ⟨rg, hra, hrm, hrh, hrp⟩ := HRe.out k (Nat.le_refl _) hlt
      obtain ⟨e1, e2⟩ := HAl.out.get k
      have hbm : (es.getD k noEnt).body.length ≤ 140737488355000 := by
        apply hl
        rw [List.getD_eq_getElem?_getD, List.getElem?_eq_getElem hke]
        exact List.getElem_mem hke
      obtain ⟨hrl, _, _, _, _, _, rcur, hrg, _⟩ := hrm.parts
      have HRe2 : Hid (∀ j, k + 1 ≤ j → j < n → RoomE lo hi wr (fs.getD j noEnt) ∧ blkOf (fs.getD j noEnt) ≠ rg) := by
        intro j hj hjn
        refine ⟨HRe.out j (by omega) hjn, ?_⟩
        have hjf : j < fs.length := by have := HNf.out; omega
        have h := List.pairwise_iff_getElem.1 HAp.out k j hkf hjf (by omega)
        have ek : blkOf (fs.getD k noEnt) = rg := by unfold blkOf; rw [hra]
        rw [List.getD_eq_getElem?_getD, List.getElem?_eq_getElem hkf, Option.getD_some] at ek
        rw [List.getD_eq_getElem?_getD, List.getElem?_eq_getElem hjf, Option.getD_some]
        intro e
        exact h (ek.trans e.symm)
      have HGr : Hid (∀ cur, wr.heap[g]? = some (.cells cur 46 (0, 0)) → g ≠ rg) := by
        rintro cur hc rfl
        rw [hrg] at hc
        simp at hc
      have hgr : ¬ g = rg := by
        obtain ⟨cur, h1, _⟩ := HRo.out
        exact HGr.out cur h1
      have HRo1 : Hid (RowFrom wr g n k fs) := HRo
      unfold Ent.val at c2 r1
      rw [hra] at r1
      rw [← e1] at r0
      rw [← e2] at r1 hrm
      have HCells : Hid (∀ W, RowFrom W g n k fs → W.cell? ⟨g, k * 2, none⟩ = some (.string (es.getD k noEnt).path) ∧ W.cell? ⟨g, k * 2 + 1, none⟩ = some (.slice (some ⟨rg, 0, none⟩) (es.getD k noEnt).body.length (fs.getD k noEnt).cap) ∧ ∀ j, W.frozen? ⟨g, j, none⟩ = false) := by
        intro W hW
        obtain ⟨k0, k1, k2⟩ := hW.cells hlt
        unfold Ent.val at k1
        rw [hra, ← e2] at k1
        rw [← e1] at k0
        exact ⟨k0, k1, k2⟩
      generalize es.getD k noEnt = x at *
      generalize (fs.getD k noEnt).cap = fc at *
      have HSt : Hid (∀ W, Below wr.heap.size wr W → Calls Tryz.prog 34 #[.slice (some ⟨rg, 0, none⟩) x.body.length fc, .slice x.adr x.body.length x.cap] W fun e w' => e = .returned (.bool true) ∧ Save (fun k => k = rg) W w') := fun W bW => still_any lo rg fc x.body x.adr x.cap W hbm (hrm.below bW) (g1.carry bW)
      have hki : (k : Int) < (n : Int) := by omega
      have hki2 : (k : Int) < (n : Int) + 1 := by omega
      clear hra e1 e2 hrg g1 hB HRo HRk
      go_upto_region 6 with fail
      go_cut [8] (fun s8 wx => s8 = .bool true ∧ Save (fun k => k = rg) wr wx)
      case first =>
        go_region_with (go_at_call 34; refine (unhide HSt _ (by first | exact Below.refl _ _ | exact (Below.refl _ _).drew | exact (Below.refl _ _).drew.drew | exact below_drewN (Below.refl _ _) _)).mono ?_; rintro e w5 ⟨rfl, s5⟩)
        all_goals (go_wp2_with fail; go_meet)
        all_goals exact ⟨rfl, by first | exact s5 | exact (Save.of (Below.refl _ _).drew).trans s5 | exact (Save.of (Below.refl _ _).drew.drew).trans s5⟩
      case rest =>
        obtain ⟨rfl, S6⟩ := hcut
        have SV6 := SV.trans (S6.mono fun i _ e => by subst e; exact ⟨hrl, hrh⟩)
        have HRo6 := hide (HRo1.out.save S6 hgr)
        have HRe6 := hide (fun j h1 h2 => (HRe2.out j h1 h2).1.save S6 (HRe2.out j h1 h2).2)
        have d1 := HIn.out _ SV6
        obtain ⟨d2, d3, -⟩ := HCells.out _ HRo6.out
        clear c1 c2 r0 r1 S6 SV HSt HRe2 HRo1
        go_wp2
        go_quiet (fail)
        have bd := below_drewN (Below.refl wc.heap.size wc) nq
        have SV7 := SV6.trans (Save.of bd)
        have HRo7 := hide (HRo6.out.save (Save.of (K := fun _ => False) bd) (fun h => h))
        have HRe7 := hide (fun j h1 h2 => (HRe6.out j h1 h2).below bd (Nat.le_refl _))
        generalize wc.drewN nq = W7 at *
        obtain ⟨k2, k3, kf⟩ := HCells.out _ HRo7.out
        have kf0 := kf (k * 2)
        have kf1 := kf (k * 2 + 1)
        have HRo8 := hide (HRo7.out.set (.string ⟨#[40, 102, 97, 114, 41]⟩) (.slice none 0 0))
        have SV8 := SV7.trans (((Save.set W7 g (k * 2) (.string ⟨#[40, 102, 97, 114, 41]⟩)).trans (Save.set _ g (k * 2 + 1) (.slice none 0 0))).mono fun i _ e => by subst e; exact ⟨hlg, hgh⟩)
        have HRe8 : Hid (∀ j, k + 1 ≤ j → j < n → RoomE lo hi ((W7.setCell ⟨g, k * 2, none⟩ (.string ⟨#[40, 102, 97, 114, 41]⟩)).setCell ⟨g, k * 2 + 1, none⟩ (.slice none 0 0)) (fs.getD j noEnt)) := by
          intro j h1 h2
          have h := HRe7.out j h1 h2
          refine h.save ((Save.set W7 g (k * 2) (.string ⟨#[40, 102, 97, 114, 41]⟩)).trans (Save.set _ g (k * 2 + 1) (.slice none 0 0))) ?_
          intro e
          obtain ⟨_, _, cur, hc⟩ := h.blk
          obtain ⟨cur2, hc2, _⟩ := HRo7.out
          rw [e, hc2] at hc
          simp at hc
        clear d1 d2 d3 kf SV6 SV7 HRo6 HRe6 HRo7 HRe7 bd
        go_wp2
        go_roundw
        case rel => first | exact ⟨k + 1, by omega, rfl, by go_num, SV8, HRo8, HRe8⟩ | ((repeat apply Exists.intro); exact ⟨⟨k + 1, by omega, rfl, by go_num, SV8, HRo8, HRe8⟩, rfl⟩)
        case measure => simp [intOf]; omega
    · go_wp2
      go_ret
      exact ⟨rfl, SV⟩

end Go.Proofs.YtgncohclofdhmaaGreat

namespace Go.Proofs.YtgncohclofdhmaaGreat
open Go.RowKit
set_option linter.unusedVariables false

theorem OwnV.below {t : TypeId} {B : Nat} {w w' : World} {v : Value} {es : List Value} (h : OwnV t B w v es) (b : Below w.heap.size w w') : OwnV t B w' v es := by
  refine ⟨h.1, ?_⟩
  rcases h.2 with ⟨rfl, hn⟩ | ⟨g, cap, cur, rfl, hbg, hg, hnc, hcm, hcs, htake⟩
  · exact .inl ⟨rfl, hn⟩
  · exact .inr ⟨g, cap, cur, rfl, hbg, (b.block g (heap_lt hg)).trans hg, hnc, hcm, hcs, htake⟩

theorem OwnV.save {K : Nat → Prop} {t : TypeId} {B : Nat} {w w' : World} {v : Value} {es : List Value} (h : OwnV t B w v es) (s : Save K w w') (hk : ∀ k, some k = v.ownBlock → ¬ K k) : OwnV t B w' v es := by
  refine ⟨h.1, ?_⟩
  rcases h.2 with ⟨rfl, hn⟩ | ⟨g, cap, cur, rfl, hbg, hg, hnc, hcm, hcs, htake⟩
  · exact .inl ⟨rfl, hn⟩
  · exact .inr ⟨g, cap, cur, rfl, hbg, (s.block g (heap_lt hg) (hk g rfl)).trans hg, hnc, hcm, hcs, htake⟩

theorem OwnV.ne {t t' : TypeId} {B : Nat} {w : World} {v : Value} {es : List Value} (h : OwnV t B w v es) {g : Nat} {cur : Array Value} (hg : w.heap[g]? = some (.cells cur t' (0, 0))) (ht : t' ≠ t) : ¬ some g = v.ownBlock := by
  intro e
  rcases h.2 with ⟨rfl, hn⟩ | ⟨g', cap, cur', rfl, hbg, hg', hnc, hcm, hcs, htake⟩
  · cases e
  · have : g = g' := by simpa [Value.ownBlock] using e
    subst this
    rw [hg] at hg'
    simp only [Option.some.injEq, Obj.cells.injEq] at hg'
    exact ht hg'.2.1

theorem Tryz.info29 : (Tryz.prog.info? 29).map (fun i => (i.zero, i.size, i.bytes)) = some (some (.slice none 0 0), 1, 24) := by kernel_rfl

/-- 'append' of one list of bytes onto a row of them, as a step of a region that draws. -/
theorem step_appD {w : World} {ops : Array Oper} {o : Oper} {a : Act} {K : Act → World → Prop} {Q : Exit → Act → World → Prop} {E : Prop} (hgd : o.guard = none) (s x : Operand)
    (ho : o.op = .call { callee := .builtin .append, args := #[s, x], argTypes := #[22, 22] })
    (B : Nat) (v : Value) (es : List Value) (hs : a.eval s = v) (hown : OwnV 29 B w v es)
    (xv y : Value) (hx : a.eval x = xv) (hsrc : Src Tryz.prog 1 22 xv 1 [y] w)
    (hlen : es.length ≤ 1000000000) (hB : B ≤ w.heap.size)
    (h : ∀ v' w', OwnV 29 B w' v' (es ++ [y]) → w.grownBy w' v.ownBlock → (v'.ownBlock = v.ownBlock ∨ v'.ownBlock = some w.heap.size) → K (a.put o.dst v') w') :
    if Region.wanted o (yielded ops a.tmps) = true then Oper.wp Tryz.prog o a w K Q else E := by
  have hw : Region.wanted o (yielded ops a.tmps) = true := by simp [Region.wanted, hgd]
  rw [if_pos hw]
  obtain ⟨i0, hi, hz0, hz1, hz2⟩ := info_parts Tryz.info29
  obtain ⟨v', w', hr, h2, h3, h4⟩ := run_append_any (P := Tryz.prog) w B 22 22 o.type 29 i0 (.slice none 0 0) 1 24 Tryz.underlying22 hi hz0 hz1 hz2 rfl v es.length es hown xv 1 [y] hsrc (by unfold maxLen; omega) (by omega) hB
  unfold Oper.wp execOp
  simp only [ho, resolve, invoke, builtin, Sem.run_bind, Sem.run_pure, Result.andThen_ok, List.map_toArray, List.map_cons, List.map_nil, hs, hx, hr]
  refine h v' w' ?_ h3 h4
  unfold OwnV
  rw [List.length_append]
  exact h2

theorem src_rowD (w : World) (y : Value) (hy : y.oneCell' = true) : Src Tryz.prog 1 22 (.slice (some ⟨w.heap.size, 0, none⟩) 1 1) 1 [y] (w.alloc (.cells #[y] 29)) := by
  refine Src.ofSlice _ Tryz.underlying22 ⟨w.heap.size, 0, none⟩ 1 1 _ (by simp) ?_ (by intro u hu; simp at hu; subst hu; exact hy)
  intro j u hj
  rw [Addr.add_lit, Nat.zero_add, cell_of_row _ w.heap.size j _ _ _ (heap_alloc_new w _)]
  simpa using hj

theorem grownBy_set1 (w : World) (k j : Nat) (u : Value) : w.grownBy (w.setCell ⟨k, j, none⟩ u) (some k) :=
  ⟨rfl, rfl, rfl, by simp, fun i _ hne => heap_setCell_other w ⟨k, j, none⟩ i u (fun e => hne (by simp [e]))⟩

theorem WBox.set0 {w : World} {g : Nat} {dv sv bv ev : Value} (h : WBox w g dv sv bv ev) (u : Value) : WBox (w.setCell ⟨g, 0, none⟩ u) g u sv bv ev := set_heap h

set_option maxRecDepth 100000 in
set_option maxHeartbeats 2000000 in
theorem more_any (gw : Nat) (w : World) (dv sv bv ev : Value) (Bd : Nat) (ds : List Value) (a : Option Addr) (xs : List UInt8) (cap E : Nat) (hW : WBox w gw dv sv bv ev) (hD : OwnV 29 Bd w dv ds) (hBd : Bd ≤ w.heap.size) (hxl : xs.length ≤ 140737488355000) (hdl : ds.length ≤ 1000000000) (hb : Bts w a xs) :
    Calls Tryz.prog 23 #[.pointer (some ⟨gw, 0, none⟩), .slice a xs.length cap, .int .i64 (E : Nat)] w fun e w' => (∃ u, e = .returned u) ∧ ((E ≠ 0 ∧ w' = w) ∨ (E = 0 ∧ ∃ dv' y, WBox w' gw dv' sv bv ev ∧ OwnV 29 Bd w' dv' (ds ++ [y]) ∧ Own w.heap.size w' y xs ∧ Save (fun k => k = gw ∨ some k = dv.ownBlock) w w' ∧ (dv'.ownBlock = dv.ownBlock ∨ ∀ k, some k = dv'.ownBlock → w.heap.size ≤ k))) := by
  obtain ⟨n, HN⟩ : ∃ n, Hid (n = xs.length) := ⟨_, rfl⟩
  have HOw := hide (fun W (hW : Bts W a xs) => own_any a xs cap W (by omega) hW)
  rw [← HN.out] at HOw ⊢
  obtain ⟨da, dc, hdv, -, -⟩ := hD.len
  subst hdv
  by_cases hE0 : E = 0
  · have hEb : ((E : Int) == 0) = true := by simp [hE0]
    have HE := hide hE0
    clear hE0
    have c0 := hW.c0
    have f0 := hW.fr 0
    go_enter Tryz.func23, Tryz.ntmps23
    go_upto_region 1 with fail
    go_region_law (first
      | (refine step_appD rfl (.tmp 12) (.tmp 15) rfl Bd _ ds (by simp [Act.eval]) oD3 _ _ (by simp [Act.eval]) sD3 hdl hB3 ?_; intro v4 w4 o4 g4 e4; have E4 : Hid (v4.ownBlock = (Value.slice da ds.length dc).ownBlock ∨ ∀ k, some k = v4.ownBlock → w.heap.size ≤ k) := (by refine e4.imp id fun e k hk => ?_; rw [e] at hk; have h1 := Option.some.inj hk; have h2 := hB3a.size; omega); clear e4; obtain ⟨a4, c4, rfl, -, -⟩ := o4.len; have W4 := W3.save (Save.grown g4) (oD3.ne W3 (by decide)); have c04 := W4.c0; have f04 := W4.fr 0)
      | (go_simp; go_at_call 4; refine (unhide HOw _ (hb.carry (by first | exact Below.refl _ _ | exact (Below.refl _ _).drew | exact (Below.refl _ _).drew.drew))).mono ?_; rintro e w2 ⟨v2, rfl, o2, b2⟩; obtain ⟨a2, c2, rfl, -, -, -⟩ := o2.shape; have hB2 : Below w.heap.size w w2 := (by first | exact b2 | exact (Below.refl _ _).drew.trans b2 | exact (Below.refl _ _).drew.drew.trans b2); have hB3a : Below w.heap.size w (w2.alloc (.cells #[.slice a2 xs.length c2] 29)) := hB2.alloc hB2.size _; have o2' : Own w.heap.size w2 (.slice a2 xs.length c2) xs := o2; have o3 := o2'.alloc (.cells #[.slice a2 xs.length c2] 29); have oD3 := hD.below hB3a; have W3 := hW.below hB3a; have sD3 := src_rowD w2 (.slice a2 xs.length c2) rfl; have hB3 : Bd ≤ (w2.alloc (.cells #[.slice a2 xs.length c2] 29)).heap.size := Nat.le_trans hBd hB3a.size; have c02 := (hW.below hB2).c0; have c03 := W3.c0; dsimp only))
    all_goals
      have SV4 : Save (fun k => k = gw ∨ some k = (Value.slice da ds.length dc).ownBlock) w w4 := (Save.of hB3a).trans ((Save.grown g4).mono fun k _ h => .inr h)
      have hln : (ds ++ [Value.slice a2 xs.length c2]).length = ds.length + 1 := by simp
      have W5 := W4.set0 (.slice a4 (ds.length + 1) c4)
      have SV5 := Save.set w4 gw 0 (.slice a4 (ds.length + 1) c4)
      rw [hln] at o4 E4
      have o5 : OwnV 29 Bd (w4.setCell ⟨gw, 0, none⟩ (.slice a4 (ds.length + 1) c4)) (.slice a4 (ds.length + 1) c4) (ds ++ [Value.slice a2 xs.length c2]) := o4.save SV5 fun k hk e => by subst e; exact o4.ne W4 (by decide) hk
      have y4 : Own w.heap.size w4 (.slice a2 xs.length c2) xs := o3.kept g4 (by
        rcases o3.2 with ⟨e, _⟩ | ⟨g, _, cur, e, _, hg, _⟩
        · rw [e]; exact .inl rfl
        · rw [e]; exact .inr (oD3.ne hg (by decide)))
      have y5 : Own w.heap.size (w4.setCell ⟨gw, 0, none⟩ (.slice a4 (ds.length + 1) c4)) (.slice a2 xs.length c2) xs := y4.kept (grownBy_set1 w4 gw 0 _) (by
        rcases y4.2 with ⟨e, _⟩ | ⟨g, _, cur, e, _, hg, _⟩
        · rw [e]; exact .inl rfl
        · rw [e]
          refine .inr fun e2 => ?_
          have h : w4.heap[gw]? = _ := W4
          simp only [Value.ownBlock, Option.some.injEq] at e2
          rw [e2, h] at hg
          simp at hg)
      have SVA : Save (fun k => k = gw ∨ some k = (Value.slice da ds.length dc).ownBlock) w (w4.setCell ⟨gw, 0, none⟩ (.slice a4 (ds.length + 1) c4)) := SV4.trans (SV5.mono fun k _ h => .inl h)
      have HEnd := hide (show (E ≠ 0 ∧ (w4.setCell ⟨gw, 0, none⟩ (.slice a4 (ds.length + 1) c4)) = w) ∨ (E = 0 ∧ ∃ dv' y, WBox (w4.setCell ⟨gw, 0, none⟩ (.slice a4 (ds.length + 1) c4)) gw dv' sv bv ev ∧ OwnV 29 Bd (w4.setCell ⟨gw, 0, none⟩ (.slice a4 (ds.length + 1) c4)) dv' (ds ++ [y]) ∧ Own w.heap.size (w4.setCell ⟨gw, 0, none⟩ (.slice a4 (ds.length + 1) c4)) y xs ∧ Save (fun k => k = gw ∨ some k = (Value.slice da ds.length dc).ownBlock) w (w4.setCell ⟨gw, 0, none⟩ (.slice a4 (ds.length + 1) c4)) ∧ (dv'.ownBlock = (Value.slice da ds.length dc).ownBlock ∨ ∀ k, some k = dv'.ownBlock → w.heap.size ≤ k)) from .inr ⟨HE.out, _, _, W5, o5, y5, SVA, E4.out⟩)
      clear E4 W5 SV5 o5 y4 y5 SVA SV4 o4 g4 sD3 oD3 o3 o2 o2'
      go_wp2
      refine bodyPost_end (v := ?_) ?_ rfl ⟨⟨_, rfl⟩, HEnd.out⟩
      rotate_left
      · simp only [results]
        simp
        rfl
  · have hEb : ((E : Int) == 0) = false := by rw [beq_eq_false_iff_ne]; omega
    have HE := hide hE0
    clear hE0
    go_enter Tryz.func23, Tryz.ntmps23
    go_wp2
    refine bodyPost_end (v := ?_) ?_ rfl ⟨⟨_, rfl⟩, .inl ⟨HE.out, rfl⟩⟩
    rotate_left
    · simp only [results]
      simp
      rfl

end Go.Proofs.YtgncohclofdhmaaGreat

namespace Go.Proofs.YtgncohclofdhmaaGreat
open Go.RowKit
set_option linter.unusedVariables false

/-- Entries that came out: none; or entries from the beginning of a block on, of which R says so. -/
inductive OutE (R : Nat → Prop) (w : World) : Value → Prop
  | none : OutE R w (.slice none 0 0)
  | some (g n c : Nat) (cur : Array Value) : w.heap[g]? = some (.cells cur 46 (0, 0)) → n ≤ c → c * 2 ≤ cur.size → c ≤ maxLen → R g → OutE R w (.slice (some ⟨g, 0, none⟩) n c)

theorem OutE.slice {R : Nat → Prop} {w : World} {s : Value} (h : OutE R w s) : ∃ a n c, s = .slice a n c ∧ n ≤ c ∧ c ≤ maxLen := by
  cases h with
  | none => exact ⟨_, _, _, rfl, Nat.le_refl _, by simp [maxLen]⟩
  | some g n c cur h1 h2 h3 h4 h5 => exact ⟨_, _, _, rfl, h2, h4⟩

theorem OutE.mono {R R' : Nat → Prop} {w : World} {s : Value} (h : OutE R w s) (hr : ∀ k, k < w.heap.size → R k → R' k) : OutE R' w s := by
  cases h with
  | none => exact .none
  | some g n c cur h1 h2 h3 h4 h5 => exact .some g n c cur h1 h2 h3 h4 (hr g (heap_lt h1) h5)

/-- Blocks of entries keep their size. -/
def ShapeE (w w' : World) : Prop := ∀ (k : Nat) (cur : Array Value), w.heap[k]? = some (.cells cur 46 (0, 0)) → ∃ cur' : Array Value, w'.heap[k]? = some (.cells cur' 46 (0, 0)) ∧ cur'.size = cur.size

theorem ShapeE.of {w w' : World} (b : Below w.heap.size w w') : ShapeE w w' := fun k cur h => ⟨cur, (b.block k (heap_lt h)).trans h, rfl⟩

theorem ShapeE.trans {w w1 w2 : World} (h : ShapeE w w1) (k : ShapeE w1 w2) : ShapeE w w2 := fun i cur hc => by
  obtain ⟨c1, h1, e1⟩ := h i cur hc
  obtain ⟨c2, h2, e2⟩ := k i c1 h1
  exact ⟨c2, h2, e2.trans e1⟩

theorem OutE.shape {R : Nat → Prop} {w w' : World} {s : Value} (h : OutE R w s) (t : ShapeE w w') : OutE R w' s := by
  cases h with
  | none => exact .none
  | some g n c cur h1 h2 h3 h4 h5 =>
    obtain ⟨cur', e1, e2⟩ := t g cur h1
    exact .some g n c cur' e1 h2 (by omega) h4 h5

theorem OwnE.out {B : Nat} {w : World} {v : Value} {es : List Ent} (h : OwnE B w v es) : OutE (fun k => some k = v.ownBlock) w v := by
  rcases h.2 with ⟨rfl, _⟩ | ⟨g, cap, cur, rfl, hbg, hg, hnc, hcm, hcs, htake⟩
  · exact .none
  · exact .some g _ _ cur hg hnc (by omega) hcm rfl

/-- 'append' onto entries of the call's own, the entries themselves kept. -/
theorem run_append_keepE {B : Nat} {w : World} {v : Value} {xs : List Ent} (hown : OwnE B w v xs) {xv : Value} {m : Nat} {ys : List Ent} (hsrc : Src Tryz.prog 2 44 xv m (entCells ys) w) (hm0 : 0 < m) (hlen : (xs.length + m) * 40 ≤ 140737488355328) (ty : TypeId) :
    ∃ v' w', (Builtin.append_ #[44, 44] ty #[v, xv]).run Tryz.prog w = .ok v' w' ∧ OwnE B w' v xs ∧ Save (fun k => some k = v.ownBlock) w w' ∧ ShapeE w w' ∧ OutE (fun k => some k = v.ownBlock ∨ w.heap.size ≤ k) w' v' := by
  obtain ⟨i0, hi, hz0, hz1, hz2⟩ := info_parts Tryz.info46
  have hm : m = ys.length := by have := hsrc.newsLen; rw [entCells_length] at this; omega
  have h63i : ((xs.length + m : Nat) : Int) ≤ 9223372036854775807 := by omega
  have hsrc' : Src Tryz.prog i0.size 44 xv m (entCells ys) w := by rw [hz1]; exact hsrc
  have hBel : ∀ o : Obj, Below w.heap.size w (w.drew.alloc o) := fun o => ((Below.refl _ _).drew).alloc (by exact Nat.le_refl _) o
  rcases hown.2 with ⟨rfl, hn⟩ | ⟨g, cap, cur, rfl, hbg, hg, hnc, hcm, hcs, htake⟩
  · have hx : xs = [] := List.eq_nil_of_length_eq_zero hn
    subst hx
    have hold : (Builtin.firstCells i0.size 0 (.slice none 0 0)).run Tryz.prog w.drew = .ok ([] : List Value).toArray w.drew := run_firstCells_none w.drew i0.size 0 0 0
    have hr := run_append_grow_src (P := Tryz.prog) w 44 44 ty 46 i0 (.agg #[.string ByteArray.empty, .slice none 0 0]) Tryz.underlying44 hi hz0 none 0 0 [] hold xv m (entCells ys) hsrc' (by omega) (by simpa using h63i) (growslice_fits (by omega) (by rw [hz2]; simp at hlen ⊢; omega))
    refine ⟨_, _, hr, OwnE.nil _ _, Save.of (hBel _), ShapeE.of (hBel _), ?_⟩
    refine .some w.heap.size _ _ _ (heap_alloc_new w.drew _) (grownCap_ge w (0 + m) 0 46) ?_ (grownCap_le_maxLen w (0 + m) 0 46 (by unfold maxLen; omega)) (.inr (Nat.le_refl _))
    have hge := grownCap_ge w (0 + m) 0 46
    rw [Array.size_append, List.size_toArray, size_zeroCells]
    simp [entCells_length, Value.cells] at hge ⊢
    omega
  · by_cases hroom : xs.length + m ≤ cap
    · have hfit : xs.length * i0.size + (entCells ys).length ≤ cur.size := by rw [hz1, entCells_length, hcs]; omega
      have hr := run_append_room_any (P := Tryz.prog) w 44 44 ty 46 i0 Tryz.underlying44 hi g xs.length cap cur hg xv m (entCells ys) hsrc' hroom hfit
      rw [hz1] at hr
      have hnew : (w.setRow g (cur.toList.take (xs.length * 2) ++ entCells ys ++ cur.toList.drop (xs.length * 2 + (entCells ys).length)).toArray).heap[g]? = some (.cells (cur.toList.take (xs.length * 2) ++ entCells ys ++ cur.toList.drop (xs.length * 2 + (entCells ys).length)).toArray 46 (0, 0)) := setRow_heap w g cur _ 46 _ hg
      have hsz : (cur.toList.take (xs.length * 2) ++ entCells ys ++ cur.toList.drop (xs.length * 2 + (entCells ys).length)).toArray.size = cur.size := by
        simp only [List.size_toArray, List.length_append, List.length_take, List.length_drop, Array.length_toList, entCells_length]
        omega
      refine ⟨_, _, hr, ⟨hown.1, .inr ⟨g, cap, _, rfl, hbg, hnew, hnc, hcm, by rw [hsz]; exact hcs, ?_⟩⟩, ?_, ?_, .some g _ _ _ hnew hroom (by rw [hsz]; omega) hcm (.inl rfl)⟩
      · have hl : (entCells xs).length = xs.length * 2 := entCells_length xs
        have h1 : cur.toList.take (xs.length * 2) = entCells xs := htake
        rw [h1, List.append_assoc, ← hl]
        exact List.take_left
      · exact ⟨rfl, rfl, rfl, by simp, fun k _ hn => setRow_other w g k _ (by rintro rfl; exact hn rfl)⟩
      · intro k c hk
        by_cases e : k = g
        · subst e
          rw [hg] at hk
          simp only [Option.some.injEq, Obj.cells.injEq, and_true] at hk
          subst hk
          exact ⟨_, hnew, hsz⟩
        · exact ⟨c, (setRow_other w g k _ e).trans hk, rfl⟩
    · have holds : ∀ j u, (entCells xs)[j]? = some u → w.cell? ((⟨g, 0, none⟩ : Addr).add j) = some u := World.ownsRow.cells (g := g) hown rfl
      have hold := run_firstCells_some (P := Tryz.prog) w.drew i0.size xs.length ⟨g, 0, none⟩ xs.length cap (entCells xs) (by rw [hz1, entCells_length]) (by simpa using holds)
      have hr := run_append_grow_src (P := Tryz.prog) w 44 44 ty 46 i0 (.agg #[.string ByteArray.empty, .slice none 0 0]) Tryz.underlying44 hi hz0 (some ⟨g, 0, none⟩) xs.length cap (entCells xs) hold xv m (entCells ys) hsrc' (by omega) h63i (growslice_fits (by omega) (by rw [hz2]; omega))
      have hge := grownCap_ge w (xs.length + m) cap 46
      refine ⟨_, _, hr, OwnE.carry (w := w.drew) hown ((Below.refl _ _).alloc (Nat.le_refl _) _), Save.of (hBel _), ShapeE.of (hBel _), ?_⟩
      refine .some w.heap.size _ _ _ (heap_alloc_new w.drew _) hge ?_ (grownCap_le_maxLen w (xs.length + m) cap 46 (by unfold maxLen; omega)) (.inr (Nat.le_refl _))
      rw [Array.size_append, List.size_toArray, size_zeroCells]
      simp [entCells_length, Value.cells]
      omega

end Go.Proofs.YtgncohclofdhmaaGreat
