import Derived.Test.YtgncohclofdhmaaGreatWgb
import Derived.Test.YtgncohclofdhmaaGreatWpath4
namespace Go.Proofs.YtgncohclofdhmaaGreat
open Go.RowKit
set_option linter.unusedVariables false

/-- Between All's steps: t of them are done. -/
structure AllInv (B gw n0 t : Nat) (w0 w : World) (role : Nat → Nat) (dv sv bv ev : Value) (ds : List Value) (ls : List Nat) (es : List Value) : Prop where
  low : Below B w0 w
  box : WBox w gw dv sv bv ev
  gwB : B ≤ gw
  dataR : OwnV 29 B w dv ds
  data : ∀ y, y ∈ ds → ∃ xs, Own B w y xs ∧ xs.length ≤ 2000000 ∧ ∀ k, some k = y.ownBlock → role k = 0
  bytesR : OwnL B w bv ls
  outs : OutsAt role w ls fun i => digN i 0
  sep : ∀ i, i < ls.length → ¬ some (ls.getD i 0) = dv.ownBlock
  entsR : OwnV 44 B w ev es
  ents : EntsAt role w es
  r0 : ∀ k, k < B → role k = 0
  r1 : ∀ k, w.heap.size ≤ k → role k = 0
  nd : ds.length ≤ n0 + t
  nl : ls.length ≤ 30 * t
  ne : es.length ≤ 4 * t
  nm : es.length % 4 = 0

theorem Own.touch0 {R : Nat → Prop} {B : Nat} {w w' : World} {v : Value} {xs : List UInt8} (h : Own B w v xs) (t : Touch R w w') (hr : ∀ k, some k = v.ownBlock → ¬ R k) : Own B w' v xs := by
  refine ⟨h.1, ?_⟩
  rcases h.2 with ⟨rfl, hn⟩ | ⟨g, cap, cur, rfl, hbg, hg, hnc, hcm, hcs, htake⟩
  · exact .inl ⟨rfl, hn⟩
  · exact .inr ⟨g, cap, cur, rfl, hbg, (t.block g (heap_lt hg) fun hx => hr g rfl hx.1).trans hg, hnc, hcm, hcs, htake⟩

theorem AllInv.bound {B gw n0 t : Nat} {w0 w : World} {role : Nat → Nat} {dv sv bv ev : Value} {ds : List Value} {ls : List Nat} {es : List Value} (h : AllInv B gw n0 t w0 w role dv sv bv ev ds ls es) : B ≤ w.heap.size := Nat.le_trans h.gwB (Nat.le_of_lt h.box.lt)

/-- The owners' look leaves it. -/
theorem AllInv.look {B gw n0 t : Nat} {w0 w w' : World} {role : Nat → Nat} {dv sv bv ev : Value} {ds : List Value} {ls : List Nat} {es : List Value} (h : AllInv B gw n0 t w0 w role dv sv bv ev ds ls es) (k : Touch (fun k => role k ≠ 0) w w') (ho : OutsAt role w' ls fun i => digN i 0) : AllInv B gw n0 t w0 w' role dv sv bv ev ds ls es := by
  refine ⟨h.low.trans (k.below h.bound fun i hi hn => hn (h.r0 i hi)), h.box.touch k, h.gwB, h.dataR.touch (by decide) k, ?_, h.bytesR.touch k, ho, h.sep, h.entsR.touch (by decide) k, h.ents.touch k, h.r0, fun i hi => h.r1 i (Nat.le_trans k.size hi), h.nd, h.nl, h.ne, h.nm⟩
  intro y hy
  obtain ⟨xs, h1, h2, h3⟩ := h.data y hy
  exact ⟨xs, h1.touch0 k fun i hi hn => hn (h3 i hi), h2, h3⟩

/-- A step that leaves all that is old. -/
theorem AllInv.idle {B gw n0 t : Nat} {w0 w w' : World} {role : Nat → Nat} {dv sv bv ev : Value} {ds : List Value} {ls : List Nat} {es : List Value} (h : AllInv B gw n0 t w0 w role dv sv bv ev ds ls es) (b : Below w.heap.size w w') : AllInv B gw n0 (t + 1) w0 w' role dv sv bv ev ds ls es := by
  have h' := h.look (Touch.of b) (h.outs.below b)
  exact ⟨h'.low, h'.box, h'.gwB, h'.dataR, h'.data, h'.bytesR, h'.outs, h'.sep, h'.entsR, h'.ents, h'.r0, h'.r1, by have := h.nd; omega, by have := h.nl; omega, by have := h.ne; omega, h.nm⟩

/-- What 'step' has to keep: whatever the step, true, and the same again. -/
def StepKeeps (B gw n0 : Nat) (w0 : World) (sv : Value) : Prop := ∀ (t : Nat) (w : World) (role : Nat → Nat) (dv bv ev : Value) (ds : List Value) (ls : List Nat) (es : List Value) (ki ai bi al : Int) (s key : ByteArray) (pk : Bool), t < 2000000 → s.size ≤ maxLen → key.size ≤ maxLen →
    -9223372036854775808 ≤ ki → ki ≤ 9223372036854775807 → -9223372036854775808 ≤ ai → ai ≤ 9223372036854775807 → -9223372036854775808 ≤ bi → bi ≤ 9223372036854775807 → -9223372036854775808 ≤ al → al ≤ 9223372036854775807 →
    AllInv B gw n0 t w0 w role dv sv bv ev ds ls es →
    Calls Tryz.prog 5 #[.pointer (some ⟨gw, 0, none⟩), .agg #[.int .i64 ki, .int .i64 ai, .int .i64 bi, .string s, .string key, .int .i64 al, .bool pk]] w fun e w' => e = .returned (.bool true) ∧
      ∃ (role' : Nat → Nat) (dv' bv' ev' : Value) (ds' : List Value) (ls' : List Nat) (es' : List Value), AllInv B gw n0 (t + 1) w0 w' role' dv' sv bv' ev' ds' ls' es'

/-- The owners' look, between steps. -/
theorem whole_keeps (B gw n0 t : Nat) (w0 w : World) (role : Nat → Nat) (dv sv bv ev : Value) (ds : List Value) (ls : List Nat) (es : List Value) (ht : t ≤ 2000000) (h : AllInv B gw n0 t w0 w role dv sv bv ev ds ls es) :
    Calls Tryz.prog 6 #[.pointer (some ⟨gw, 0, none⟩)] w fun e w' => e = .returned (.bool true) ∧ AllInv B gw n0 t w0 w' role dv sv bv ev ds ls es := by
  have hl := h.nl
  have he := h.ne
  refine (whole_any gw w dv sv bv ev B B ls es role h.box h.bytesR h.outs (by omega) h.entsR h.ents (by omega)).mono ?_
  rintro e w' ⟨rfl, k, ho⟩
  exact ⟨rfl, h.look k ho⟩

end Go.Proofs.YtgncohclofdhmaaGreat

namespace Go.Proofs.YtgncohclofdhmaaGreat
open Go.RowKit
set_option linter.unusedVariables false

/-- Lists of bytes in a row that came in. -/
def DatAt (w : World) (a : Option Addr) (es : List Ent) : Prop := ∀ i, i < es.length → ∃ b off, a = some ⟨b, off, none⟩ ∧ w.cell? ⟨b, off + i, none⟩ = some (es.getD i noEnt).val

theorem DatAt.carry {w w' : World} {a : Option Addr} {es : List Ent} (h : DatAt w a es) (hb : Below w.heap.size w w') : DatAt w' a es := by
  intro i hi
  obtain ⟨b, off, e, hc⟩ := h i hi
  exact ⟨b, off, e, (hb.cell (p := ⟨b, off + i, none⟩) (World.block_lt_of_cell? w _ hc)).trans hc⟩

/-- A step of the script, as it lies there. -/
structure OpR where
  ki : Int
  ai : Int
  bi : Int
  s : ByteArray
  key : ByteArray
  al : Int
  pk : Bool

def noOp : OpR := ⟨0, 0, 0, ByteArray.empty, ByteArray.empty, 0, false⟩

def OpsAt (w : World) (a : Option Addr) (os : List OpR) : Prop := ∀ i, i < os.length → ∃ b off, a = some ⟨b, off, none⟩ ∧ w.cell? ⟨b, off + i * 7, none⟩ = some (.int .i64 (os.getD i noOp).ki) ∧ w.cell? ⟨b, off + i * 7 + 1, none⟩ = some (.int .i64 (os.getD i noOp).ai) ∧ w.cell? ⟨b, off + i * 7 + 2, none⟩ = some (.int .i64 (os.getD i noOp).bi) ∧ w.cell? ⟨b, off + i * 7 + 3, none⟩ = some (.string (os.getD i noOp).s) ∧
  w.cell? ⟨b, off + i * 7 + 4, none⟩ = some (.string (os.getD i noOp).key) ∧ w.cell? ⟨b, off + i * 7 + 5, none⟩ = some (.int .i64 (os.getD i noOp).al) ∧ w.cell? ⟨b, off + i * 7 + 6, none⟩ = some (.bool (os.getD i noOp).pk)

theorem OpsAt.carry {w w' : World} {a : Option Addr} {os : List OpR} (h : OpsAt w a os) (hb : Below w.heap.size w w') : OpsAt w' a os := by
  intro i hi
  obtain ⟨b, off, e, c0, c1, c2, c3, c4, c5, c6⟩ := h i hi
  have k : ∀ (j : Nat) (u : Value), w.cell? ⟨b, j, none⟩ = some u → w'.cell? ⟨b, j, none⟩ = some u := fun j u hc => (hb.cell (p := ⟨b, j, none⟩) (World.block_lt_of_cell? w _ hc)).trans hc
  exact ⟨b, off, e, k _ _ c0, k _ _ c1, k _ _ c2, k _ _ c3, k _ _ c4, k _ _ c5, k _ _ c6⟩

/-- Numbers and strings that a step can hold. -/
def OpR.fits (o : OpR) : Prop := -9223372036854775808 ≤ o.ki ∧ o.ki ≤ 9223372036854775807 ∧ -9223372036854775808 ≤ o.ai ∧ o.ai ≤ 9223372036854775807 ∧ -9223372036854775808 ≤ o.bi ∧ o.bi ≤ 9223372036854775807 ∧ -9223372036854775808 ≤ o.al ∧ o.al ≤ 9223372036854775807 ∧ o.s.size ≤ maxLen ∧ o.key.size ≤ maxLen

theorem wpAppD {w : World} {ops : Array Oper} {rest : List Oper} {o : Oper} {a : Act} {Q : Exit → Act → World → Prop} (hgd : o.guard = none) (s x : Operand)
    (ho : o.op = .call { callee := .builtin .append, args := #[s, x], argTypes := #[22, 22] })
    (B : Nat) (v : Value) (es : List Value) (hs : a.eval s = v) (hown : OwnV 29 B w v es)
    (xv y : Value) (hx : a.eval x = xv) (hsrc : Src Tryz.prog 1 22 xv 1 [y] w)
    (hlen : es.length ≤ 1000000000) (hB : B ≤ w.heap.size)
    (h : ∀ v' w', OwnV 29 B w' v' (es ++ [y]) → w.grownBy w' v.ownBlock → wpList Tryz.prog ops Q rest (a.put o.dst v') w') : wpList Tryz.prog ops Q (o :: rest) a w := by
  obtain ⟨i0, hi, hz0, hz1, hz2⟩ := info_parts Tryz.info29
  refine wpList_append_any w hgd s x 22 22 ho B 29 i0 (.slice none 0 0) 1 24 Tryz.underlying22 hi hz0 hz1 hz2 rfl v es.length es hs hown xv 1 [y] hx hsrc (by unfold maxLen; omega) (by omega) hB ?_
  intro v' w' h1 h2 _
  refine h v' w' ?_ h2
  unfold OwnV
  rw [List.length_append]
  exact h1

theorem Own.saveK {K : Nat → Prop} {B : Nat} {w w' : World} {v : Value} {xs : List UInt8} (h : Own B w v xs) (t : Save K w w') (hk : ∀ k, some k = v.ownBlock → U8 w k → ¬ K k) : Own B w' v xs := by
  refine ⟨h.1, ?_⟩
  rcases h.2 with ⟨rfl, hn⟩ | ⟨g, cap, cur, rfl, hbg, hg, hnc, hcm, hcs, htake⟩
  · exact .inl ⟨rfl, hn⟩
  · exact .inr ⟨g, cap, cur, rfl, hbg, (t.block g (heap_lt hg) (hk g rfl ⟨cur, hg⟩)).trans hg, hnc, hcm, hcs, htake⟩

set_option maxRecDepth 100000 in
set_option maxHeartbeats 4000000 in
theorem All_walk (a : Option Addr) (es : List Ent) (cap : Nat) (sa : Option Addr) (sn scap : Nat) (oa : Option Addr) (os : List OpR) (ocap : Nat) (w : World) (hm : es.length ≤ 2000000) (hl : ∀ e, e ∈ es → e.body.length ≤ 2000000) (hol : os.length ≤ 1999999) (ha : DatAt w a es) (hg : EntGood w es) (ho : OpsAt w oa os) (hof : ∀ o, o ∈ os → o.fits)
    (HS : ∀ gw, w.heap.size ≤ gw → StepKeeps w.heap.size gw es.length w (.slice sa sn scap)) :
    Calls Tryz.prog 3 #[.slice a es.length cap, .slice sa sn scap, .slice oa os.length ocap] w fun e w' => e = .returned (.bool true) ∧ Below w.heap.size w w' := by
  obtain ⟨n, HN⟩ : ∃ n, Hid (n = es.length) := ⟨_, rfl⟩
  obtain ⟨m, HM⟩ : ∃ m, Hid (m = os.length) := ⟨_, rfl⟩
  have HSK := hide (HS w.heap.size (Nat.le_refl _))
  rw [← HN.out] at hm HSK ⊢
  rw [← HM.out] at hol ⊢
  clear HS
  have W1 : WBox (w.alloc (.cells #[.slice none 0 0, .slice sa sn scap, .slice none 0 0, .slice none 0 0] 28)) w.heap.size (.slice none 0 0) (.slice sa sn scap) (.slice none 0 0) (.slice none 0 0) := heap_alloc_new w _
  have B1 := below_alloc w (.cells #[.slice none 0 0, .slice sa sn scap, .slice none 0 0, .slice none 0 0] 28)
  go_enter Tryz.func3, Tryz.ntmps3
  go_wp2
  generalize w.alloc (.cells #[.slice none 0 0, .slice sa sn scap, .slice none 0 0, .slice none 0 0] 28) = W0 at *
  go_loopw [8, 9] (fun i _ wr => ∃ (k : Nat) (dv : Value) (ds : List Value), k ≤ n ∧ i = .int .i64 k ∧ Hid (ds.length = k) ∧ WBox wr w.heap.size dv (.slice sa sn scap) (.slice none 0 0) (.slice none 0 0) ∧ OwnV 29 w.heap.size wr dv ds ∧ Hid (∀ y, y ∈ ds → ∃ xs, Own w.heap.size wr y xs ∧ xs.length ≤ 2000000) ∧ Below w.heap.size w wr) (fun i _ _ => n - (intOf i).toNat)
  case atStart => exact ⟨0, _, [], by omega, rfl, rfl, W1, World.ownsRow_nil _ _ _ _, (fun y hy => by cases hy), B1⟩
  case round =>
    obtain ⟨k, dv, ds, hk, rfl, HDl, hW, hD, HDa, hbl⟩ := hrel
    by_cases hlt : k < n
    · have hk1 : k < es.length := by have := HN.out; omega
      obtain ⟨b, off, rfl, c1⟩ := (ha.carry hbl) k hk1
      obtain ⟨g1, _, _, _⟩ := (hg.carry hbl).get k hk1
      have hxl : (es.getD k noEnt).body.length ≤ 2000000 := by
        apply hl
        rw [List.getD_eq_getElem?_getD, List.getElem?_eq_getElem hk1]
        exact List.getElem_mem hk1
      generalize es.getD k noEnt = x at *
      unfold Ent.val at c1
      obtain ⟨da, dc, rfl, -, -⟩ := hD.len
      have hki : (k : Int) < (n : Int) := by omega
      go_wp2_with fail
      refine (own_any x.adr x.body x.cap _ (by omega) g1).mono ?_
      rintro e w1 ⟨v1, rfl, o1, b1⟩
      obtain ⟨a1, cc1, rfl, -, -, -⟩ := o1.shape
      have Ba := below_alloc w1 (.cells #[.slice a1 x.body.length cc1] 29)
      have b2 := b1.trans (Ba.mono b1.size)
      have hbl2 := hbl.trans (b2.mono hbl.size)
      have W2 := hW.below b2
      have W1' := hW.below b1
      have D2 := hD.below b2
      have o2 : Own w.heap.size (w1.alloc (.cells #[.slice a1 x.body.length cc1] 29)) (.slice a1 x.body.length cc1) x.body := (o1.alloc _).mono hbl.size
      have HDa2 : Hid (∀ y, y ∈ ds → ∃ xs, Own w.heap.size (w1.alloc (.cells #[.slice a1 x.body.length cc1] 29)) y xs ∧ xs.length ≤ 2000000) := fun y hy => by
        obtain ⟨xs, h1, h2⟩ := HDa.out y hy
        exact ⟨xs, h1.carry b2, h2⟩
      have sD := src_rowD w1 (.slice a1 x.body.length cc1) rfl
      have c01 := W1'.c0
      have c02 := W2.c0
      clear b1 Ba b2 HDa hW hD hbl g1 c1 o1 W1'
      go_wp2_with (at_builtin; go_must (refine wpAppD rfl (.tmp 30) (.tmp 32) rfl w.heap.size _ ds rfl D2 _ _ rfl sD (by have := HDl.out; omega) hbl2.size ?_))
      intro v3 w3 D3 g3
      have SV3 := Save.grown g3
      have W3 := W2.save SV3 (D2.ne W2 (by decide))
      obtain ⟨a3, c3, rfl, -, -⟩ := D3.len
      have hln : (ds ++ [Value.slice a1 x.body.length cc1]).length = k + 1 := by have := HDl.out; simp; omega
      rw [hln] at D3 ⊢
      have W4 := W3.set0 (.slice a3 (k + 1) c3)
      have SV4 := Save.set w3 w.heap.size 0 (.slice a3 (k + 1) c3)
      have D4 : OwnV 29 w.heap.size (w3.setCell ⟨w.heap.size, 0, none⟩ (.slice a3 (k + 1) c3)) (.slice a3 (k + 1) c3) (ds ++ [Value.slice a1 x.body.length cc1]) := D3.save SV4 fun i hi e => by subst e; exact D3.ne W3 (by decide) hi
      have hbl3 : Below w.heap.size w w3 := hbl2.grown g3 hbl2.size fun i hi => (World.ownsRow.lt D2 i hi).1
      have hbl4 := hbl3.setCell (p := ⟨w.heap.size, 0, none⟩) (Nat.le_refl _) (.slice a3 (k + 1) c3)
      have HDa4 : Hid (∀ y, y ∈ ds ++ [Value.slice a1 x.body.length cc1] → ∃ xs, Own w.heap.size (w3.setCell ⟨w.heap.size, 0, none⟩ (.slice a3 (k + 1) c3)) y xs ∧ xs.length ≤ 2000000) := by
        have key : ∀ y xs, Own w.heap.size (w1.alloc (.cells #[.slice a1 x.body.length cc1] 29)) y xs → Own w.heap.size (w3.setCell ⟨w.heap.size, 0, none⟩ (.slice a3 (k + 1) c3)) y xs := by
          intro y xs h
          have h3 : Own w.heap.size w3 y xs := h.saveK SV3 fun i _ hu e => by
            obtain ⟨cur, hc⟩ := hu
            exact D2.ne hc (by decide) e
          exact h3.saveK SV4 fun i _ hu e => by subst e; exact W3.not_u8 hu
        intro y hy
        rcases List.mem_append.1 hy with hy | hy
        · obtain ⟨xs, h1, h2⟩ := HDa2.out y hy
          exact ⟨xs, key y xs h1, h2⟩
        · simp at hy
          subst hy
          exact ⟨x.body, key _ _ o2, hxl⟩
      have HDl4 : Hid ((ds ++ [Value.slice a1 x.body.length cc1]).length = k + 1) := hln
      have c03 := W3.c0
      have f03 := W3.fr 0
      clear hln SV3 SV4 g3 D2 D3 o2 HDa2 sD hbl2 hbl3
      go_wp2
      go_roundw
      case rel => exact ⟨k + 1, _, _, by omega, by go_num, HDl4, W4, D4, HDa4, hbl4⟩
      case measure => simp [intOf]; omega
    · obtain rfl : k = n := by omega
      have hB0 : w.heap.size ≤ wr.heap.size := hbl.size
      have HI : Hid (AllInv w.heap.size w.heap.size k 0 w wr (fun _ => 0) dv (.slice sa sn scap) (.slice none 0 0) (.slice none 0 0) ds [] []) := by
        refine ⟨hbl, hW, Nat.le_refl _, hD, fun y hy => ?_, OwnL.nil _ _, fun i hi => absurd hi (Nat.not_lt_zero i), fun i hi => absurd hi (Nat.not_lt_zero i), World.ownsRow_nil _ _ _ _, fun i hi => absurd hi (Nat.not_lt_zero i), fun _ _ => rfl, fun _ _ => rfl, by have := HDl.out; omega, by simp, by simp, rfl⟩
        obtain ⟨xs, h1, h2⟩ := HDa.out y hy
        exact ⟨xs, h1, h2, fun _ _ => rfl⟩
      have hki : ¬ (k : Int) < (k : Int) := by omega
      clear hW hD HDa HDl hbl
      go_wp2
      generalize wr = W5 at *
      go_loopw [10, 11] (fun i _ wr => ∃ (t : Nat) (role : Nat → Nat) (dv bv ev : Value) (ds : List Value) (ls : List Nat) (es : List Value), t ≤ m ∧ i = .int .i64 t ∧ Hid (AllInv w.heap.size w.heap.size k t w wr role dv (.slice sa sn scap) bv ev ds ls es)) (fun i _ _ => m - (intOf i).toNat)
      case atStart => exact ⟨0, _, _, _, _, _, _, _, by omega, rfl, HI⟩
      case round =>
        obtain ⟨t, role, dv, bv, ev, ds, ls, es', htm, rfl, HA⟩ := hrel
        by_cases hlt2 : t < m
        · have ht1 : t < os.length := by have := HM.out; omega
          obtain ⟨b, off, rfl, c0, c1, c2, c3, c4, c5, c6⟩ := (ho.carry HA.out.low) t ht1
          have hmem : os.getD t noOp ∈ os := by
            rw [List.getD_eq_getElem?_getD, List.getElem?_eq_getElem ht1]
            exact List.getElem_mem ht1
          obtain ⟨q1, q2, q3, q4, q5, q6, q7, q8, q9, q10⟩ := hof _ hmem
          generalize os.getD t noOp = o at *
          have KSt := hide (HSK.out t wr role dv bv ev ds ls es' o.ki o.ai o.bi o.al o.s o.key o.pk (by omega) q9 q10 q1 q2 q3 q4 q5 q6 q7 q8 HA.out)
          have hti : (t : Int) < (m : Int) := by omega
          go_wp2_with fail
          refine KSt.out.mono ?_
          rintro e w2 ⟨rfl, role', dv', bv', ev', ds', ls', es2, hA2⟩
          have KWh := hide (whole_keeps w.heap.size w.heap.size k (t + 1) w w2 role' dv' _ bv' ev' ds' ls' es2 (by omega) hA2)
          clear KSt HA hA2 c0 c1 c2 c3 c4 c5 c6
          go_wp2_with fail
          refine KWh.out.mono ?_
          rintro e w3 ⟨rfl, hA3⟩
          have HA3 := hide hA3
          clear hA3 KWh
          go_wp2
          go_roundw
          case rel => first | exact ⟨t + 1, _, _, _, _, _, _, _, by omega, by go_num, HA3⟩ | ((repeat apply Exists.intro); exact ⟨⟨t + 1, _, _, _, _, _, _, _, by omega, by go_num, HA3⟩, rfl⟩)
          case measure => simp [intOf]; omega
        · have hlow := HA.out.low
          go_wp2
          go_ret
          exact ⟨rfl, hlow⟩

end Go.Proofs.YtgncohclofdhmaaGreat

namespace Go.Proofs.YtgncohclofdhmaaGreat
open Go.RowKit
set_option linter.unusedVariables false

/-- Which of n things a raw number speaks of. -/
def lpickN (c : Int) (n : Nat) : Nat := (if c < 0 then (-(c + 1)).toNat else c.toNat) % n

theorem lpickN_lt (c : Int) {n : Nat} (h : 0 < n) : lpickN c n < n := Nat.mod_lt _ h

theorem lpick_is (c : Int) (n : Nat) (w : World) (hc : -9223372036854775808 ≤ c) (hc2 : c ≤ 9223372036854775807) (hn : 0 < n) (hn2 : n ≤ maxLen) :
    Calls Tryz.prog 10 #[.int .i64 c, .int .i64 n] w fun e w' => e = .returned (.int .i64 (lpickN c n : Nat)) ∧ w' = w := by
  unfold maxLen at hn2
  by_cases h : c < 0
  · obtain ⟨m, rfl⟩ : ∃ m : Nat, c = -(m : Int) - 1 := ⟨(-(c + 1)).toNat, by omega⟩
    have HP : Hid (lpickN (-(m : Int) - 1) n = m % n) := by
      show _ = _
      unfold lpickN
      rw [if_pos h, show (-(-(m : Int) - 1 + 1)).toNat = m from by omega]
    rw [HP.out]
    go_enter Tryz.func10, Tryz.ntmps10
    go_wp2
    go_ret
    refine ⟨ret_int ?_, rfl⟩
    first
      | (rw [show -(m : Int) - 1 + 1 = -(m : Int) from by omega, Int.neg_tmod, Int.neg_neg]; exact (Int.ofNat_tmod m n).symm)
      | (rw [Int.neg_tmod, Int.neg_neg]; exact (Int.ofNat_tmod m n).symm)
      | exact (Int.ofNat_tmod m n).symm
      | simp
  · obtain ⟨m, rfl⟩ : ∃ m : Nat, c = m := ⟨c.toNat, by omega⟩
    have HP : Hid (lpickN (m : Int) n = m % n) := by
      show _ = _
      unfold lpickN
      rw [if_neg h, Int.toNat_natCast]
    rw [HP.out]
    go_enter Tryz.func10, Tryz.ntmps10
    go_wp2
    go_ret
    exact ⟨ret_int (by simp), rfl⟩

/-- What 'simple' has to keep. -/
def SimpleKeeps (B gw n0 : Nat) (w0 : World) (sv : Value) : Prop := ∀ (t : Nat) (w : World) (role : Nat → Nat) (dv bv ev : Value) (ds : List Value) (ls : List Nat) (es : List Value) (ki ai bi al : Int) (s key : ByteArray) (pk : Bool), t < 2000000 → s.size ≤ maxLen → key.size ≤ maxLen →
    -9223372036854775808 ≤ ai → ai ≤ 9223372036854775807 → -9223372036854775808 ≤ bi → bi ≤ 9223372036854775807 → -9223372036854775808 ≤ al → al ≤ 9223372036854775807 →
    AllInv B gw n0 t w0 w role dv sv bv ev ds ls es → 1 ≤ ki → ki ≤ 4 → ∀ y, y ∈ ds →
    Calls Tryz.prog 11 #[.pointer (some ⟨gw, 0, none⟩), .agg #[.int .i64 ki, .int .i64 ai, .int .i64 bi, .string s, .string key, .int .i64 al, .bool pk], y] w fun e w' => e = .returned (.bool true) ∧ ∃ (role' : Nat → Nat) (dv' bv' ev' : Value) (ds' : List Value) (ls' : List Nat) (es' : List Value), AllInv B gw n0 (t + 1) w0 w' role' dv' sv bv' ev' ds' ls' es'

/-- What 'looks' has to keep. -/
def LooksKeeps (B gw n0 : Nat) (w0 : World) (sv : Value) : Prop := ∀ (t : Nat) (w : World) (role : Nat → Nat) (dv bv ev : Value) (ds : List Value) (ls : List Nat) (es : List Value) (ki ai bi al : Int) (s key : ByteArray) (pk : Bool), t < 2000000 → s.size ≤ maxLen → key.size ≤ maxLen →
    -9223372036854775808 ≤ ai → ai ≤ 9223372036854775807 → -9223372036854775808 ≤ bi → bi ≤ 9223372036854775807 → -9223372036854775808 ≤ al → al ≤ 9223372036854775807 →
    AllInv B gw n0 t w0 w role dv sv bv ev ds ls es → 7 ≤ ki → ki ≤ 10 → ∀ y, y ∈ ds →
    Calls Tryz.prog 12 #[.pointer (some ⟨gw, 0, none⟩), .agg #[.int .i64 ki, .int .i64 ai, .int .i64 bi, .string s, .string key, .int .i64 al, .bool pk], y] w fun e w' => e = .returned (.bool true) ∧ ∃ (role' : Nat → Nat) (dv' bv' ev' : Value) (ds' : List Value) (ls' : List Nat) (es' : List Value), AllInv B gw n0 (t + 1) w0 w' role' dv' sv bv' ev' ds' ls' es'

/-- What 'built' has to keep. -/
def BuiltKeeps (B gw n0 : Nat) (w0 : World) (sv : Value) : Prop := ∀ (t : Nat) (w : World) (role : Nat → Nat) (dv bv ev : Value) (ds : List Value) (ls : List Nat) (es : List Value) (ki ai bi al : Int) (s key : ByteArray) (pk : Bool), t < 2000000 → s.size ≤ maxLen → key.size ≤ maxLen →
    -9223372036854775808 ≤ ai → ai ≤ 9223372036854775807 → -9223372036854775808 ≤ bi → bi ≤ 9223372036854775807 → -9223372036854775808 ≤ al → al ≤ 9223372036854775807 →
    AllInv B gw n0 t w0 w role dv sv bv ev ds ls es →
    Calls Tryz.prog 9 #[.pointer (some ⟨gw, 0, none⟩), .agg #[.int .i64 ki, .int .i64 ai, .int .i64 bi, .string s, .string key, .int .i64 al, .bool pk]] w fun e w' => e = .returned (.bool true) ∧ ∃ (role' : Nat → Nat) (dv' bv' ev' : Value) (ds' : List Value) (ls' : List Nat) (es' : List Value), AllInv B gw n0 (t + 1) w0 w' role' dv' sv bv' ev' ds' ls' es'

/-- The same invariant before a step, behind what turned nothing old. -/
theorem AllInv.below {B gw n0 t : Nat} {w0 w w' : World} {role : Nat → Nat} {dv sv bv ev : Value} {ds : List Value} {ls : List Nat} {es : List Value} (h : AllInv B gw n0 t w0 w role dv sv bv ev ds ls es) (b : Below w.heap.size w w') : AllInv B gw n0 t w0 w' role dv sv bv ev ds ls es := h.look (Touch.of b) (h.outs.below b)

set_option maxRecDepth 100000 in
set_option maxHeartbeats 4000000 in
theorem step_keeps (B gw n0 : Nat) (w0 : World) (sv : Value) (hn0 : n0 ≤ 2000000) (HSi : SimpleKeeps B gw n0 w0 sv) (HLo : LooksKeeps B gw n0 w0 sv) (HBu : BuiltKeeps B gw n0 w0 sv) : StepKeeps B gw n0 w0 sv := by
  intro t w role dv bv ev ds ls es ki ai bi al s key pk ht hs hkey hki1 hki2 hai1 hai2 hbi1 hbi2 hal1 hal2 h
  have Ba := below_alloc w (.cells #[.int .i64 ki, .int .i64 ai, .int .i64 bi, .string s, .string key, .int .i64 al, .bool pk] 33)
  have hbx : (w.alloc (.cells #[.int .i64 ki, .int .i64 ai, .int .i64 bi, .string s, .string key, .int .i64 al, .bool pk] 33)).heap[w.heap.size]? = some (.cells #[.int .i64 ki, .int .i64 ai, .int .i64 bi, .string s, .string key, .int .i64 al, .bool pk] 33 (0, 0)) := heap_alloc_new w _
  have h1 := h.below Ba
  have H1 := hide h1
  have HId := hide (fun w' (b : Below (w.alloc (.cells #[.int .i64 ki, .int .i64 ai, .int .i64 bi, .string s, .string key, .int .i64 al, .bool pk] 33)).heap.size (w.alloc (.cells #[.int .i64 ki, .int .i64 ai, .int .i64 bi, .string s, .string key, .int .i64 al, .bool pk] 33)) w') => (h1.idle b))
  have hdl : ds.length ≤ 4000000 := by have := h.nd; omega
  clear h h1
  have c0 : (w.alloc (.cells #[.int .i64 ki, .int .i64 ai, .int .i64 bi, .string s, .string key, .int .i64 al, .bool pk] 33)).cell? ⟨w.heap.size, 0, none⟩ = some (.int .i64 ki) := cell_of_row _ _ 0 _ _ _ hbx
  have c1 : (w.alloc (.cells #[.int .i64 ki, .int .i64 ai, .int .i64 bi, .string s, .string key, .int .i64 al, .bool pk] 33)).cell? ⟨w.heap.size, 1, none⟩ = some (.int .i64 ai) := cell_of_row _ _ 1 _ _ _ hbx
  have c2 : (w.alloc (.cells #[.int .i64 ki, .int .i64 ai, .int .i64 bi, .string s, .string key, .int .i64 al, .bool pk] 33)).cell? ⟨w.heap.size, 2, none⟩ = some (.int .i64 bi) := cell_of_row _ _ 2 _ _ _ hbx
  have c3 : (w.alloc (.cells #[.int .i64 ki, .int .i64 ai, .int .i64 bi, .string s, .string key, .int .i64 al, .bool pk] 33)).cell? ⟨w.heap.size, 3, none⟩ = some (.string s) := cell_of_row _ _ 3 _ _ _ hbx
  have c4 : (w.alloc (.cells #[.int .i64 ki, .int .i64 ai, .int .i64 bi, .string s, .string key, .int .i64 al, .bool pk] 33)).cell? ⟨w.heap.size, 4, none⟩ = some (.string key) := cell_of_row _ _ 4 _ _ _ hbx
  have c5 : (w.alloc (.cells #[.int .i64 ki, .int .i64 ai, .int .i64 bi, .string s, .string key, .int .i64 al, .bool pk] 33)).cell? ⟨w.heap.size, 5, none⟩ = some (.int .i64 al) := cell_of_row _ _ 5 _ _ _ hbx
  have c6 : (w.alloc (.cells #[.int .i64 ki, .int .i64 ai, .int .i64 bi, .string s, .string key, .int .i64 al, .bool pk] 33)).cell? ⟨w.heap.size, 6, none⟩ = some (.bool pk) := cell_of_row _ _ 6 _ _ _ hbx
  by_cases hk5 : ki = 5
  · subst hk5
    go_enter Tryz.func5, Tryz.ntmps5
    go_wp2_with fail
    generalize w.alloc (.cells #[.int .i64 5, .int .i64 ai, .int .i64 bi, .string s, .string key, .int .i64 al, .bool pk] 33) = W1 at *
    refine (Path_any s _ hs).mono ?_
    rintro e w2 ⟨rfl, rfl⟩
    go_wp2_with fail
    refine (refPath_any s _ hs).mono ?_
    rintro e w3 ⟨rfl, b3⟩
    have HI3 := hide (HId.out _ b3)
    go_wp2
    go_ret
    exact ⟨rfl, _, _, _, _, _, _, _, HI3.out⟩
  · have hk5b : (ki == 5) = false := by rw [beq_eq_false_iff_ne]; exact hk5
    by_cases hk6 : ki = 6
    · subst hk6
      go_enter Tryz.func5, Tryz.ntmps5
      go_wp2_with fail
      generalize w.alloc (.cells #[.int .i64 6, .int .i64 ai, .int .i64 bi, .string s, .string key, .int .i64 al, .bool pk] 33) = W1 at *
      refine (HBu t W1 role dv bv ev ds ls es 6 ai bi al s key pk ht hs hkey hai1 hai2 hbi1 hbi2 hal1 hal2 H1.out).mono ?_
      rintro e w2 ⟨rfl, hA⟩
      have HA := hide hA
      clear hA
      go_wp2
      go_ret
      exact ⟨rfl, HA.out⟩
    · have hk6b : (ki == 6) = false := by rw [beq_eq_false_iff_ne]; exact hk6
      clear hbx
      obtain ⟨da, dc, hdv, hdc, hdcm⟩ := H1.out.dataR.len
      subst hdv
      have d0 := H1.out.box.c0
      have hlt : w.heap.size < (w.alloc (.cells #[.int .i64 ki, .int .i64 ai, .int .i64 bi, .string s, .string key, .int .i64 al, .bool pk] 33)).heap.size := by simp
      by_cases hd0 : ds.length = 0
      · have hdb : ((ds.length : Int) == 0) = true := by rw [beq_iff_eq]; omega
        go_enter Tryz.func5, Tryz.ntmps5
        go_upto_region 8 with fail
        generalize w.alloc (.cells #[.int .i64 ki, .int .i64 ai, .int .i64 bi, .string s, .string key, .int .i64 al, .bool pk] 33) = W1 at *
        have HI3 := hide (HId.out _ (Below.refl _ _))
        go_wp2
        go_ret
        exact ⟨rfl, _, _, _, _, _, _, _, HI3.out⟩
      · have hdb : ((ds.length : Int) == 0) = false := by rw [beq_eq_false_iff_ne]; omega
        by_cases hlo : ki < 1
        · go_enter Tryz.func5, Tryz.ntmps5
          go_upto_region 8 with fail
          generalize w.alloc (.cells #[.int .i64 ki, .int .i64 ai, .int .i64 bi, .string s, .string key, .int .i64 al, .bool pk] 33) = W1 at *
          have HI3 := hide (HId.out _ (Below.refl _ _))
          go_wp2
          go_ret
          exact ⟨rfl, _, _, _, _, _, _, _, HI3.out⟩
        · by_cases hgt : 10 < ki
          · go_enter Tryz.func5, Tryz.ntmps5
            go_upto_region 8 with fail
            generalize w.alloc (.cells #[.int .i64 ki, .int .i64 ai, .int .i64 bi, .string s, .string key, .int .i64 al, .bool pk] 33) = W1 at *
            have HI3 := hide (HId.out _ (Below.refl _ _))
            go_wp2
            go_ret
            exact ⟨rfl, _, _, _, _, _, _, _, HI3.out⟩
          · have hpl := lpickN_lt ai (n := ds.length) (by omega)
            obtain ⟨dg, dc', e, cY⟩ := H1.out.dataR.cellAt (lpickN ai ds.length) hpl
            simp only [Value.slice.injEq, true_and] at e
            obtain ⟨rfl, rfl⟩ := e
            have HMem : Hid (ds.getD (lpickN ai ds.length) undef ∈ ds) := by
              rw [List.getD_eq_getElem?_getD, List.getElem?_eq_getElem hpl]
              exact List.getElem_mem hpl
            obtain ⟨xs, hy, _, _⟩ := H1.out.data _ HMem.out
            obtain ⟨ya, yc, hyv, -, -, -⟩ := hy.shape
            rw [hyv] at cY HMem
            have HPk : Hid (∀ W, Calls Tryz.prog 10 #[.int .i64 ai, .int .i64 (ds.length : Nat)] W fun e w' => e = .returned (.int .i64 (lpickN ai ds.length : Nat)) ∧ w' = W) := fun W => lpick_is ai ds.length W hai1 hai2 (by omega) (by unfold maxLen; omega)
            generalize lpickN ai ds.length = pn at *
            have hpi : (pn : Int) < (ds.length : Int) := by omega
            clear hy hyv
            go_enter Tryz.func5, Tryz.ntmps5
            go_upto_region 10 with fail
            generalize w.alloc (.cells #[.int .i64 ki, .int .i64 ai, .int .i64 bi, .string s, .string key, .int .i64 al, .bool pk] 33) = W1 at *
            go_quiet ((go_at_call 10; exact Calls.quiet_of_same (unhide HPk _)))
            have bd := below_drewN (Below.refl W1.heap.size W1) nq
            have H2 := hide (H1.out.below bd)
            have k0 := (bd.cell (p := ⟨w.heap.size, 0, none⟩) hlt).trans c0
            have k1 := (bd.cell (p := ⟨w.heap.size, 1, none⟩) hlt).trans c1
            have k2 := (bd.cell (p := ⟨w.heap.size, 2, none⟩) hlt).trans c2
            have k3 := (bd.cell (p := ⟨w.heap.size, 3, none⟩) hlt).trans c3
            have k4 := (bd.cell (p := ⟨w.heap.size, 4, none⟩) hlt).trans c4
            have k5 := (bd.cell (p := ⟨w.heap.size, 5, none⟩) hlt).trans c5
            have k6 := (bd.cell (p := ⟨w.heap.size, 6, none⟩) hlt).trans c6
            generalize W1.drewN nq = W2 at *
            clear c0 c1 c2 c3 c4 c5 c6 d0 cY HPk HId bd H1
            by_cases hk4 : ki ≤ 4
            · go_wp2_with fail
              refine (HSi t W2 role _ bv ev ds ls es ki ai bi al s key pk ht hs hkey hai1 hai2 hbi1 hbi2 hal1 hal2 H2.out (by omega) hk4 _ HMem.out).mono ?_
              rintro e w3 ⟨rfl, hA⟩
              have HA := hide hA
              clear hA
              go_wp2
              go_ret
              exact ⟨rfl, HA.out⟩
            · go_wp2_with fail
              refine (HLo t W2 role _ bv ev ds ls es ki ai bi al s key pk ht hs hkey hai1 hai2 hbi1 hbi2 hal1 hal2 H2.out (by omega) (by omega) _ HMem.out).mono ?_
              rintro e w3 ⟨rfl, hA⟩
              have HA := hide hA
              clear hA
              go_wp2
              go_ret
              exact ⟨rfl, HA.out⟩

end Go.Proofs.YtgncohclofdhmaaGreat

namespace Go.Proofs.YtgncohclofdhmaaGreat
open Go.RowKit
set_option linter.unusedVariables false

theorem FarAt.next {role role' : Nat → Nat} {K : Nat → Prop} {w w' : World} {e : Value} {n0 : Nat} (h : FarAt role w e n0) (t : Save K w w') (hk : ∀ k, U8 w k → ¬ K k) (hk2 : ∀ (k : Nat) (cur : Array Value), w.heap[k]? = some (.cells cur 46 (0, 0)) → ¬ K k) (hr : ∀ k, k < w.heap.size → role' k = role k) : FarAt role' w' e n0 := by
  obtain ⟨a, n, c, h1, h2, h3, h4⟩ := h
  refine ⟨a, n, c, h1, h2, h3, fun j hj => ?_⟩
  obtain ⟨b, off, zb, cur, k1, k2, k3, k4, k5, k6⟩ := h4 j hj
  have hb := t.block b (heap_lt k2) (hk2 b cur k2)
  exact ⟨b, off, zb, cur, k1, hb.trans k2, (World.cell?_of_block hb).trans k3, (World.cell?_of_block hb).trans k4, (t.block zb (heap_lt k5) (hk zb ⟨_, k5⟩)).trans k5, by rw [hr zb (heap_lt k5)]; exact k6⟩

theorem ListAt.next {role role' : Nat → Nat} {K : Nat → Prop} {w w' : World} {lb i v : Nat} (h : ListAt role w lb i v) (t : Save K w w') (hk : ∀ k, U8 w k → ¬ K k) (hlb : ¬ K lb) (hr : ∀ k, k < w.heap.size → role' k = role k) : ListAt role' w' lb i v := by
  obtain ⟨ss, h1, h2, h3⟩ := h
  refine ⟨ss, (t.block lb (heap_lt h1) hlb).trans h1, h2, fun s hs => ⟨?_, ?_⟩⟩
  · exact ((h3 s hs).1.mono (R' := fun k => role' k = i + 1) fun k hk e => by rw [hr k hk]; exact e).save t fun k hx hu => hk k hu hx
  · exact (h3 s hs).2.save (h3 s hs).1 t fun k hx hu => hk k hu hx

/-- One list more, and perhaps one list of bytes more for later steps: the invariant behind a step, from what was there at its start. -/
theorem AllInv.next1 {B gw n0 t : Nat} {w0 w w' : World} {role : Nat → Nat} {dv sv bv ev : Value} {ds : List Value} {ls : List Nat} {es : List Value} (h : AllInv B gw n0 t w0 w role dv sv bv ev ds ls es)
    (SV : Save (fun k => k = gw ∨ some k = dv.ownBlock ∨ some k = bv.ownBlock) w w') {dv' bv' : Value} {ds' : List Value} {lb : Nat} (W : WBox w' gw dv' sv bv' ev)
    (D : OwnV 29 B w' dv' ds') (hdl : ds'.length ≤ ds.length + 1) (hdb : dv'.ownBlock = dv.ownBlock ∨ ∀ k, some k = dv'.ownBlock → w.heap.size ≤ k)
    (Rn : Nat → Prop) (hRn : ∀ k, Rn k → w.heap.size ≤ k ∧ k < w'.heap.size)
    (hda : ∀ y, y ∈ ds' → y ∈ ds ∨ ∃ xs, Own B w' y xs ∧ xs.length ≤ 2000000 ∧ ∀ k, some k = y.ownBlock → w.heap.size ≤ k ∧ ¬ Rn k)
    (L : OwnL B w' bv' (ls ++ [lb])) (hlb : w.heap.size ≤ lb) (hlbd : ¬ some lb = dv'.ownBlock) (hN : ∃ ss : List Value, w'.heap[lb]? = some (.cells ss.toArray 29 (0, 0)) ∧ ss.length = 4 ∧ ∀ s, s ∈ ss → Out Rn w' s ∧ Full w' s (digN ls.length 0)) :
    ∃ role', AllInv B gw n0 (t + 1) w0 w' role' dv' sv bv' ev ds' (ls ++ [lb]) es := by
  classical
  have hu8 : ∀ k, U8 w k → ¬ (k = gw ∨ some k = dv.ownBlock ∨ some k = bv.ownBlock) := by
    rintro k hu (rfl | e | e)
    · exact h.box.not_u8 hu
    · obtain ⟨cur, hc⟩ := hu
      exact h.dataR.ne hc (by decide) e
    · exact h.bytesR.not_u8 k e hu
  have hent : ∀ (k : Nat) (cur : Array Value), w.heap[k]? = some (.cells cur 46 (0, 0)) → ¬ (k = gw ∨ some k = dv.ownBlock ∨ some k = bv.ownBlock) := by
    rintro k cur hc (rfl | e | e)
    · have h' : w.heap[k]? = _ := h.box
      rw [hc] at h'
      simp at h'
    · exact h.dataR.ne hc (by decide) e
    · exact h.bytesR.ne hc (by decide) e
  have hr : ∀ k, k < w.heap.size → (fun k => if Rn k then ls.length + 1 else role k) k = role k := by
    intro k hk
    have hn : ¬ Rn k := fun hx => by have := (hRn k hx).1; omega
    simp [hn]
  have hr' : ∀ k, k < w.heap.size → (if Rn k then ls.length + 1 else role k) = role k := hr
  have hlow : ∀ k, k < B → ¬ (k = gw ∨ some k = dv.ownBlock ∨ some k = bv.ownBlock) := by
    rintro k hk (rfl | e | e)
    · have := h.gwB; omega
    · have := (World.ownsRow.lt h.dataR k e.symm).1; omega
    · have := (World.ownsRow.lt h.bytesR k e.symm).1; omega
  have hBw := h.bound
  refine ⟨fun k => if Rn k then ls.length + 1 else role k, h.low.trans (SV.below hBw hlow), W, h.gwB, D, ?_, L, ?_, ?_, ?_, ?_, ?_, ?_, ?_, ?_, ?_, h.nm⟩
  · intro y hy
    rcases hda y hy with hy | ⟨xs, h1, h2, h3⟩
    · obtain ⟨xs, h1, h2, h3⟩ := h.data y hy
      refine ⟨xs, h1.saveK SV fun k _ hu => hu8 k hu, h2, fun k hk => ?_⟩
      show (if Rn k then ls.length + 1 else role k) = 0
      rw [hr' k (World.ownsRow.lt h1 k hk.symm).2]
      exact h3 k hk
    · refine ⟨xs, h1, h2, fun k hk => ?_⟩
      obtain ⟨k1, k2⟩ := h3 k hk
      simp only [k2, if_false]
      exact h.r1 k k1
  · intro i hi
    rw [List.length_append, List.length_singleton] at hi
    by_cases e : i = ls.length
    · subst e
      have eg : (ls ++ [lb]).getD ls.length 0 = lb := by simp
      rw [eg]
      obtain ⟨ss, k1, k2, k3⟩ := hN
      exact ⟨ss, k1, k2, fun s hs => ⟨(k3 s hs).1.mono fun k _ hx => by simp [hx], (k3 s hs).2⟩⟩
    · have hil : i < ls.length := by omega
      have eg : (ls ++ [lb]).getD i 0 = ls.getD i 0 := by rw [List.getD_eq_getElem?_getD, List.getD_eq_getElem?_getD, List.getElem?_append_left hil]
      rw [eg]
      have hL := h.outs i hil
      refine hL.next SV hu8 ?_ hr
      obtain ⟨ss, k1, _⟩ := hL
      rintro (e2 | e2 | e2)
      · have h' : w.heap[gw]? = _ := h.box
        rw [← e2, k1] at h'
        simp at h'
      · exact h.sep i hil e2
      · exact h.bytesR.ne k1 (by decide) e2
  · intro i hi
    rw [List.length_append, List.length_singleton] at hi
    by_cases e : i = ls.length
    · subst e
      have eg : (ls ++ [lb]).getD ls.length 0 = lb := by simp
      rw [eg]
      exact hlbd
    · have hil : i < ls.length := by omega
      have eg : (ls ++ [lb]).getD i 0 = ls.getD i 0 := by rw [List.getD_eq_getElem?_getD, List.getD_eq_getElem?_getD, List.getElem?_append_left hil]
      rw [eg]
      rcases hdb with hdb | hdb
      · rw [hdb]
        exact h.sep i hil
      · intro e2
        have := hdb _ e2
        obtain ⟨ss, k1, _⟩ := h.outs i hil
        have := heap_lt k1
        omega
  · refine h.entsR.save SV fun k hk => ?_
    rcases h.entsR.2 with ⟨e, _⟩ | ⟨g, cap, cur, e, _, hg, _⟩
    · rw [e] at hk
      cases hk
    · rw [e] at hk
      have ek : k = g := by simpa [Value.ownBlock] using hk
      subst ek
      rintro (e2 | e2 | e2)
      · have h' : w.heap[gw]? = _ := h.box
        rw [← e2, hg] at h'
        simp at h'
      · exact h.dataR.ne hg (by decide) e2
      · exact h.bytesR.ne hg (by decide) e2
  · exact fun i hi => (h.ents i hi).next SV hu8 hent hr
  · intro k hk
    show (if Rn k then ls.length + 1 else role k) = 0
    rw [hr' k (by omega)]
    exact h.r0 k hk
  · intro k hk
    have hn : ¬ Rn k := fun hx => by have := (hRn k hx).2; omega
    simp only [hn, if_false]
    exact h.r1 k (Nat.le_trans SV.size hk)
  · have := h.nd
    omega
  · have := h.nl
    rw [List.length_append, List.length_singleton]
    omega
  · have := h.ne
    omega

end Go.Proofs.YtgncohclofdhmaaGreat

namespace Go.Proofs.YtgncohclofdhmaaGreat
open Go.RowKit
set_option linter.unusedVariables false

theorem Save.join {K K' : Nat → Prop} {w w1 w2 : World} (h : Save K' w w1) (k : Save K w1 w2) (hk : ∀ i, i < w.heap.size → K i → K' i) : Save K' w w2 :=
  ⟨k.os.trans h.os, k.tape.trans h.tape, k.output.trans h.output, Nat.le_trans h.size k.size, fun i hi hn => (k.block i (Nat.lt_of_lt_of_le hi h.size) fun hx => hn (hk i hi hx)).trans (h.block i hi hn)⟩

theorem Out.saveR {R K : Nat → Prop} {w w' : World} {s : Value} (h : Out R w s) (t : Save K w w') (hk : ∀ k, R k → ¬ K k) : Out R w' s := by
  cases h with
  | none => exact .none
  | some g n c cur h1 h2 h3 h4 h5 => exact .some g n c cur ((t.block g (heap_lt h1) (hk g h5)).trans h1) h2 h3 h4 h5

theorem Full.saveR {R K : Nat → Prop} {w w' : World} {s : Value} {v : Nat} (h : Full w s v) (ho : Out R w s) (t : Save K w w') (hk : ∀ k, R k → ¬ K k) : Full w' s v := by
  intro g n c e j hj
  have h1 := h g n c e j hj
  cases ho with
  | none => cases e
  | some g' n' c' cur h2 _ _ _ h5 =>
    have hg : g' = g := by
      simp only [Value.slice.injEq, Option.some.injEq, Addr.mk.injEq] at e
      exact e.1.1
    subst hg
    rw [World.cell?_of_block (t.block g' (heap_lt h2) (hk g' h5))]
    exact h1

theorem AllInv.dvFree {B gw n0 t : Nat} {w0 w : World} {role : Nat → Nat} {dv sv bv ev : Value} {ds : List Value} {ls : List Nat} {es : List Value} (h : AllInv B gw n0 t w0 w role dv sv bv ev ds ls es) (k : Nat) (hk : some k = dv.ownBlock) : ¬ (k = gw ∨ some k = bv.ownBlock) := by
  rintro (rfl | e)
  · exact h.dataR.ne h.box (by decide) hk
  · rcases h.bytesR.2 with ⟨e2, _⟩ | ⟨g, cap, cur, e2, _, hg, _⟩
    · rw [e2] at e
      cases e
    · rw [e2] at e
      have ek : k = g := by simpa [Value.ownBlock] using e
      subst ek
      exact h.dataR.ne hg (by decide) hk

/-- The invariant behind a step that marked one list, and looked at what was handed in. -/
theorem AllInv.mined {B gw n0 t : Nat} {w0 w w5 w6 w7 : World} {role : Nat → Nat} {dv sv bv ev : Value} {ds : List Value} {ls : List Nat} {es : List Value} (h : AllInv B gw n0 t w0 w role dv sv bv ev ds ls es)
    (b : Below w.heap.size w w5) {S : Nat} {p : Value} {xs : List UInt8} (hp : Own S w5 p xs) (hS : w.heap.size ≤ S) (hS5 : S ≤ w5.heap.size) (Kx : Nat → Prop) (hKx : ∀ k, Kx k → w.heap.size ≤ k ∧ k < S)
    {bv' : Value} {lb : Nat} {ss : List Value} (W6 : WBox w6 gw dv sv bv' ev) (L6 : OwnL B w6 bv' (ls ++ [lb])) (k1 : w6.heap[lb]? = some (.cells ss.toArray 29 (0, 0))) (k2 : ss.length = 4) (hlb : w5.heap.size ≤ lb)
    (hO : ∀ s, s ∈ ss → Out (fun k => some k = p.ownBlock ∨ (w5.heap.size ≤ k ∧ k < w6.heap.size)) w6 s ∧ Full w6 s (digN ls.length 0)) (S6 : Save (fun k => k = gw ∨ some k = bv.ownBlock ∨ some k = p.ownBlock) w5 w6) (S7 : Save Kx w6 w7) (hbv : bv'.ownBlock = bv.ownBlock ∨ ∀ k, some k = bv'.ownBlock → w5.heap.size ≤ k) :
    ∃ role', AllInv B gw n0 (t + 1) w0 w7 role' dv sv bv' ev ds (ls ++ [lb]) es := by
  have hpb : ∀ k, some k = p.ownBlock → S ≤ k ∧ k < w5.heap.size := fun k hk => World.ownsRow.lt hp k hk.symm
  have hgw := h.box.lt
  have hKL : ∀ k, some k = bv'.ownBlock → ¬ Kx k := by
    intro k hk hx
    have hx' := hKx k hx
    rcases hbv with e | e
    · rw [e] at hk
      have := (World.ownsRow.lt h.bytesR k hk.symm).2
      omega
    · have := e k hk
      omega
  have SA : Save (fun k => k = gw ∨ some k = bv.ownBlock) w w7 := by
    refine ((Save.of b).join S6 ?_).join S7 ?_
    · rintro i hi (e | e | e)
      · exact .inl e
      · exact .inr e
      · have := (hpb i e).1; omega
    · intro i hi hx
      have := (hKx i hx).1
      omega
  have hR : ∀ k, (some k = p.ownBlock ∨ (w5.heap.size ≤ k ∧ k < w6.heap.size)) → ¬ Kx k := by
    rintro k (e | e) hx
    · have := (hKx k hx).2
      have := (hpb k e).1
      omega
    · have := (hKx k hx).2
      omega
  have b5 := b.size
  have s6 := S6.size
  have s7 := S7.size
  refine h.next1 (SA.mono fun k _ hx => hx.elim .inl fun e => .inr (.inr e)) (dv' := dv) (bv' := bv') (ds' := ds) (lb := lb) (W6.save S7 fun hx => by have := (hKx gw hx).1; omega) (h.dataR.save SA h.dvFree) (Nat.le_succ _) (.inl rfl)
    (fun k => some k = p.ownBlock ∨ (w5.heap.size ≤ k ∧ k < w6.heap.size)) ?_ (fun y hy => .inl hy) (L6.save S7 hKL) (by omega) ?_ ⟨ss, (S7.block lb (heap_lt k1) fun hx => by have := (hKx lb hx).2; omega).trans k1, k2, fun s hs => ⟨(hO s hs).1.saveR S7 hR, (hO s hs).2.saveR (hO s hs).1 S7 hR⟩⟩
  · rintro k (e | e)
    · have := hpb k e
      omega
    · omega
  · intro e
    have := (World.ownsRow.lt h.dataR lb e.symm).2
    omega

end Go.Proofs.YtgncohclofdhmaaGreat
