import Derived.WalkKit
import Derived.WalkSpells
import Derived.WalkLawsBesides
import Derived.Deep.AppendSrc
namespace Go.Proofs.YtgncohclofdhmaaGreat
open Go.RowKit

/-! Bytes in memory, as lists; appends from whatever source onto a row of the call's own. Nothing of the dump. -/

theorem hide {p : Prop} (h : p) : Hid p := h
theorem unhide {p : Prop} (h : Hid p) : p := h

def cell (b : UInt8) : Value := .int .u8 (b.toNat : Int)
def cells (xs : List UInt8) : List Value := xs.map cell

theorem cells_length (xs : List UInt8) : (cells xs).length = xs.length := by simp [cells]
theorem cells_append (xs ys : List UInt8) : cells (xs ++ ys) = cells xs ++ cells ys := by simp [cells]
theorem cells_one (xs : List UInt8) : ∀ u ∈ cells xs, u.oneCell' = true := by
  intro u hu
  obtain ⟨b, _, rfl⟩ := List.mem_map.1 hu
  rfl
theorem cells_get (xs : List UInt8) (i : Nat) (h : i < xs.length) : (cells xs)[i]? = some (.int .u8 ((xs.getD i 0).toNat : Int)) := by
  simp [cells, cell, h]
theorem byteCells_eq (s : ByteArray) : byteCells s = cells s.data.toList := by simp [byteCells, cells, cell]

/-- From 'a' on lie the bytes xs (of an empty list nothing is said). -/
def Bts (w : World) (a : Option Addr) (xs : List UInt8) : Prop :=
  ∀ i, i < xs.length → ∃ b off, a = some ⟨b, off, none⟩ ∧ w.cell? ⟨b, off + i, none⟩ = some (.int .u8 ((xs.getD i 0).toNat : Int))

theorem Bts.nil (w : World) (a : Option Addr) : Bts w a [] := fun i h => absurd h (Nat.not_lt_zero i)

theorem Bts.carry {w w' : World} {a : Option Addr} {xs : List UInt8} (h : Bts w a xs) (hb : Below w.heap.size w w') : Bts w' a xs := by
  intro i hi
  obtain ⟨b, off, e, hc⟩ := h i hi
  exact ⟨b, off, e, (hb.cell (p := ⟨b, off + i, none⟩) (World.block_lt_of_cell? w _ hc)).trans hc⟩

/-- What is below B keeps. -/
theorem Bts.below {w w' : World} {a : Option Addr} {xs : List UInt8} {B : Nat} (h : Bts w a xs) (hb : Below B w w') (hB : w.heap.size ≤ B) : Bts w' a xs :=
  h.carry (hb.mono hB)

theorem src_bts {P : Program} {w : World} {a : Option Addr} {xs : List UInt8} {t e : TypeId} {c n : Nat} (hk : P.underlying t = some (.slice e)) (h : Bts w a xs) (hn : n = xs.length) :
    Src P 1 t (.slice a n c) n (cells xs) w := by
  subst hn
  match a with
  | none =>
    have : xs = [] := by
      cases xs with
      | nil => rfl
      | cons x r => obtain ⟨b, off, e, _⟩ := h 0 (by simp); simp at e
    subst this
    exact Src.ofNil w hk c
  | some ad =>
    refine Src.ofSlice w hk ad xs.length c (cells xs) (by simp [cells_length]) ?_ (cells_one xs)
    intro j u hj
    have hl : j < xs.length := by
      have := (List.getElem?_eq_some_iff.1 hj).1
      simpa [cells_length] using this
    obtain ⟨b, off, e, hc⟩ := h j hl
    simp only [Option.some.injEq] at e
    subst e
    rw [cells_get xs j hl] at hj
    simp only [Option.some.injEq] at hj
    subst hj
    rw [Addr.add_lit]
    exact hc

theorem src_str {P : Program} (w : World) {t : TypeId} (hk : P.underlying t = some .string) (s : ByteArray) : Src P 1 t (.string s) s.size (cells s.data.toList) w := by
  rw [← byteCells_eq]
  exact Src.ofString w hk s

section
variable {P : Program} (w : World)

theorem run_append_room_any (t tx ty e : TypeId) (i : TypeInfo) (ht : P.underlying t = some (.slice e)) (hi : P.info? e = some i)
    (g sLen sCap : Nat) (cur : Array Value) (hg : w.heap[g]? = some (.cells cur e (0, 0)))
    (x : Value) (m : Nat) (news : List Value) (hs : Src P i.size tx x m news w)
    (hroom : sLen + m ≤ sCap) (hfit : sLen * i.size + news.length ≤ cur.size) :
    (Builtin.append_ #[t, tx] ty #[.slice (some ⟨g, 0, none⟩) sLen sCap, x]).run P w =
      .ok (.slice (some ⟨g, 0, none⟩) (sLen + m) sCap) (w.setRow g (cur.toList.take (sLen * i.size) ++ news ++ cur.toList.drop (sLen * i.size + news.length)).toArray) := by
  have hst := run_storeCells_at P g (sLen * i.size) e news 0 cur w hg (by simpa using hfit) hs.one
  simp only [Nat.add_zero] at hst
  rcases hs.kind with ⟨e', hk⟩ | hk <;> simp [Builtin.append_, run_underlying ht, run_underlying hk, sizeOf, typeInfo, hi, hs.len, hroom, hs.cells, Addr.add_lit, hst]

theorem run_append_any (base : Nat) (t tx ty e : TypeId) (i : TypeInfo) (z : Value) (size bytes : Nat) (ht : P.underlying t = some (.slice e)) (hi : P.info? e = some i) (hz : i.zero = some z)
    (hsize : i.size = size) (hby : i.bytes = bytes) (hzs : z.cells.size = size)
    (v : Value) (n : Nat) (xs : List Value) (hown : w.ownsRow base e size v n xs)
    (x : Value) (m : Nat) (news : List Value) (hs : Src P size tx x m news w)
    (h63 : n + m ≤ maxLen) (hbytes : (n + m) * bytes ≤ 140737488355328) (hbase : base ≤ w.heap.size) :
    ∃ v' w', (Builtin.append_ #[t, tx] ty #[v, x]).run P w = .ok v' w' ∧ w'.ownsRow base e size v' (n + m) (xs ++ news) ∧ w.grownBy w' v.ownBlock ∧
      (v'.ownBlock = v.ownBlock ∨ v'.ownBlock = some w.heap.size) := by
  subst hsize
  subst hby
  have hl := hs.newsLen
  have hlen : (xs ++ news).length = (n + m) * i.size := by rw [List.length_append, hown.1, hl, Nat.add_mul]
  have h63i : ((n + m : Nat) : Int) ≤ 9223372036854775807 := by unfold maxLen at h63; omega
  have grown : ∀ (old : Nat) (row : Option Nat), old < n + m →
      (w.drew.alloc (.cells ((xs ++ news).toArray ++ Builtin.zeroCells z.cells (grownCap w (n + m) old e - (n + m))) e)).ownsRow base e i.size
        (.slice (some ⟨w.heap.size, 0, none⟩) (n + m) (grownCap w (n + m) old e)) (n + m) (xs ++ news) ∧
      w.grownBy (w.drew.alloc (.cells ((xs ++ news).toArray ++ Builtin.zeroCells z.cells (grownCap w (n + m) old e - (n + m))) e)) row := by
    intro old row _
    have hge := grownCap_ge w (n + m) old e
    have hcm : grownCap w (n + m) old e ≤ maxLen := grownCap_le_maxLen w (n + m) old e h63
    refine ⟨⟨hlen, .inr ⟨w.heap.size, _, _, rfl, hbase, heap_alloc_new w.drew _, hge, hcm, ?_, ?_⟩⟩, ⟨rfl, rfl, rfl, by simp, fun k hk _ => _root_.Go.heap_alloc_old w.drew _ hk⟩⟩
    · rw [Array.size_append, List.size_toArray, hlen, size_zeroCells, hzs, ← Nat.add_mul]
      congr 1
      omega
    · rw [Array.toList_append, ← hlen]
      exact List.take_left
  rcases hown.2 with ⟨rfl, rfl⟩ | ⟨g, cap, cur, rfl, hbg, hg, hnc, hcm, hcs, htake⟩
  · have hx : xs = [] := List.eq_nil_of_length_eq_zero (by simpa using hown.1)
    subst hx
    by_cases hm : m = 0
    · subst hm
      have hn : news = [] := List.eq_nil_of_length_eq_zero (by simpa using hl)
      subst hn
      refine ⟨.slice none 0 0, w, ?_, World.ownsRow_nil w base e i.size, ⟨rfl, rfl, rfl, Nat.le_refl _, fun _ _ _ => rfl⟩, .inl rfl⟩
      have hc := hs.cells
      rcases hs.kind with ⟨e', hk⟩ | hk <;> simp [Builtin.append_, run_underlying ht, run_underlying hk, sizeOf, typeInfo, hi, hs.len, hc]
    · have hold : (Builtin.firstCells i.size 0 (.slice none 0 0)).run P w.drew = .ok ([] : List Value).toArray w.drew := run_firstCells_none w.drew i.size 0 0 0
      have hr := run_append_grow_src (P := P) w t tx ty e i z ht hi hz none 0 0 [] hold x m news hs (by omega) (by simpa using h63i) (growslice_fits (by omega) (by simpa using hbytes))
      have hgr := grown 0 (Value.ownBlock (.slice none 0 0)) (by omega)
      simp only [Nat.zero_add, List.nil_append] at hgr hr ⊢
      exact ⟨_, _, hr, hgr.1, hgr.2, .inr rfl⟩
  · by_cases hroom : n + m ≤ cap
    · have hfit : n * i.size + news.length ≤ cur.size := by rw [hl, hcs, ← Nat.add_mul]; exact Nat.mul_le_mul_right _ hroom
      have hr := run_append_room_any (P := P) w t tx ty e i ht hi g n cap cur hg x m news hs hroom hfit
      refine ⟨_, _, hr, ⟨hlen, .inr ⟨g, cap, _, rfl, hbg, setRow_heap w g cur _ e _ hg, hroom, hcm, ?_, ?_⟩⟩, ⟨rfl, rfl, rfl, by simp, fun k _ hk => setRow_other w g k _ (fun e => hk (by simp [Value.ownBlock, e]))⟩, .inl rfl⟩
      · simp only [List.size_toArray, List.length_append, List.length_take, List.length_drop, Array.length_toList]
        omega
      · rw [htake, ← hlen]
        exact List.take_left
    · have holds : ∀ j u, xs[j]? = some u → w.cell? ((⟨g, 0, none⟩ : Addr).add j) = some u := hown.cells (g := g) rfl
      have hold := run_firstCells_some (P := P) w.drew i.size n ⟨g, 0, none⟩ n cap xs hown.1 (by simpa using holds)
      have hr := run_append_grow_src (P := P) w t tx ty e i z ht hi hz (some ⟨g, 0, none⟩) n cap xs hold x m news hs (by omega) h63i (growslice_fits (by omega) hbytes)
      have hgr := grown cap (Value.ownBlock (.slice (some ⟨g, 0, none⟩) n cap)) (by omega)
      exact ⟨_, _, hr, hgr.1, hgr.2, .inr rfl⟩

theorem wpList_append_any {ops : Array Oper} {rest : List Oper} {o : Oper} {a : Act} {Q : Exit → Act → World → Prop} (hgd : o.guard = none) (s x : Operand) (t tx : TypeId)
    (ho : o.op = .call { callee := .builtin .append, args := #[s, x], argTypes := #[t, tx] })
    (base : Nat) (e : TypeId) (i : TypeInfo) (z : Value) (size bytes : Nat) (ht : P.underlying t = some (.slice e)) (hi : P.info? e = some i) (hz : i.zero = some z)
    (hsize : i.size = size) (hby : i.bytes = bytes) (hzs : z.cells.size = size)
    (v : Value) (n : Nat) (xs : List Value) (hs : a.eval s = v) (hown : w.ownsRow base e size v n xs)
    (xv : Value) (m : Nat) (news : List Value) (hx : a.eval x = xv) (hsrc : Src P size tx xv m news w)
    (h63 : n + m ≤ maxLen) (hbytes : (n + m) * bytes ≤ 140737488355328) (hbase : base ≤ w.heap.size)
    (h : ∀ v' w', w'.ownsRow base e size v' (n + m) (xs ++ news) → w.grownBy w' v.ownBlock → (v'.ownBlock = v.ownBlock ∨ v'.ownBlock = some w.heap.size) → wpList P ops Q rest (a.put o.dst v') w') : wpList P ops Q (o :: rest) a w := by
  refine wpList_plain hgd fun K hK => ?_
  obtain ⟨v', w', hr, h2, h3, h4⟩ := run_append_any (P := P) w base t tx o.type e i z size bytes ht hi hz hsize hby hzs v n xs hown xv m news hsrc h63 hbytes hbase
  unfold Oper.wp execOp
  simp only [ho, resolve, invoke, builtin, Sem.run_bind, Sem.run_pure, Result.andThen_ok, List.map_toArray, List.map_cons, List.map_nil, hs, hx, hr]
  exact hK _ _ (h v' w' h2 h3 h4)
end

/-! A list of bytes that the call itself made. -/
def Own (B : Nat) (w : World) (v : Value) (xs : List UInt8) : Prop := w.ownsRow B 5 1 v xs.length (cells xs)

theorem Own.nil (B : Nat) (w : World) : Own B w (.slice none 0 0) [] := World.ownsRow_nil w B 5 1

theorem Own.shape {B : Nat} {w : World} {v : Value} {xs : List UInt8} (h : Own B w v xs) :
    ∃ a cap, v = .slice a xs.length cap ∧ Bts w a xs ∧ xs.length ≤ cap ∧ cap ≤ maxLen := by
  rcases h.2 with ⟨rfl, hn⟩ | ⟨g, cap, cur, rfl, hbg, hg, hnc, hcm, hcs, htake⟩
  · have : xs = [] := List.eq_nil_of_length_eq_zero hn
    subst this
    exact ⟨none, 0, rfl, Bts.nil _ _, Nat.le_refl _, by simp [maxLen]⟩
  · refine ⟨_, cap, rfl, ?_, hnc, hcm⟩
    intro i hi
    refine ⟨g, 0, rfl, ?_⟩
    have hc := World.ownsRow.cellAt (g := g) (cap := cap) h i (by omega)
    rw [Nat.zero_add, hc, cells_get xs i hi]

theorem Own.carry {B : Nat} {w w' : World} {v : Value} {xs : List UInt8} (h : Own B w v xs) (hb : Below w.heap.size w w') : Own B w' v xs := by
  refine ⟨h.1, ?_⟩
  rcases h.2 with ⟨rfl, hn⟩ | ⟨g, cap, cur, rfl, hbg, hg, hnc, hcm, hcs, htake⟩
  · exact .inl ⟨rfl, hn⟩
  · have hlt : g < w.heap.size := by
      by_cases hh : g < w.heap.size
      · exact hh
      · rw [Array.getElem?_eq_none (by omega)] at hg; simp at hg
    exact .inr ⟨g, cap, cur, rfl, hbg, (hb.block g hlt).trans hg, hnc, hcm, hcs, htake⟩

theorem Own.mono {B B' : Nat} {w : World} {v : Value} {xs : List UInt8} (h : Own B w v xs) (hB : B' ≤ B) : Own B' w v xs := by
  refine ⟨h.1, ?_⟩
  rcases h.2 with h1 | ⟨g, cap, cur, rfl, hbg, hg, hnc, hcm, hcs, htake⟩
  · exact .inl h1
  · exact .inr ⟨g, cap, cur, rfl, Nat.le_trans hB hbg, hg, hnc, hcm, hcs, htake⟩

theorem Own.drew {B : Nat} {w : World} {v : Value} {xs : List UInt8} (h : Own B w v xs) : Own B w.drew v xs := h

/-- Behind an append (or a make): what was there below B is there. -/
theorem below_own {B : Nat} {w0 w w' : World} {v : Value} {xs : List UInt8} (hb : Below B w0 w) (hown : Own B w v xs) (hg : w.grownBy w' v.ownBlock) (hB : B ≤ w0.heap.size) : Below B w0 w' :=
  hb.grown hg (Nat.le_trans hB hb.size) fun k hk => (World.ownsRow.lt hown k hk).1

/-! What an append, and whatever appends alone, does to memory: new blocks, and writes into the row's own block; the row lies where it lay or in a new block. -/
structure Grows (w w' : World) (v v' : Value) : Prop where
  by_ : w.grownBy w' v.ownBlock
  next : v'.ownBlock = v.ownBlock ∨ ∃ g, v'.ownBlock = some g ∧ w.heap.size ≤ g

theorem Grows.refl (w : World) (v : Value) : Grows w w v v := ⟨World.grownBy.refl w _, .inl rfl⟩

theorem Grows.alloc (w : World) (v : Value) (o : Obj) : Grows w (w.alloc o) v v := ⟨World.grownBy_alloc w o _, .inl rfl⟩

theorem Grows.trans {w w1 w2 : World} {v v1 v2 : Value} (h : Grows w w1 v v1) (k : Grows w1 w2 v1 v2) : Grows w w2 v v2 := by
  refine ⟨⟨k.by_.os.trans h.by_.os, k.by_.tape.trans h.by_.tape, k.by_.output.trans h.by_.output, Nat.le_trans h.by_.size k.by_.size, ?_⟩, ?_⟩
  · intro i hi hne
    have h1 : some i ≠ v1.ownBlock := by
      rcases h.next with e | ⟨g, e, hg⟩
      · rw [e]; exact hne
      · rw [e]; intro e2; simp at e2; omega
    exact (k.by_.block i (Nat.lt_of_lt_of_le hi h.by_.size) h1).trans (h.by_.block i hi hne)
  · rcases k.next with e | ⟨g, e, hg⟩
    · rw [e]; exact h.next
    · exact .inr ⟨g, e, Nat.le_trans h.by_.size hg⟩

theorem Grows.below {B : Nat} {w0 w w' : World} {v v' : Value} {xs : List UInt8} (hg : Grows w w' v v') (hb : Below B w0 w) (hown : Own B w v xs) (hB : B ≤ w0.heap.size) : Below B w0 w' :=
  below_own hb hown hg.by_ hB

/-- The block at which bytes lie is another one than the row's. -/
def Apart (v : Value) (a : Option Addr) : Prop := ∀ ad, a = some ad → v.ownBlock ≠ some ad.block

theorem Grows.bts {w w' : World} {v v' : Value} {a : Option Addr} {xs : List UInt8} (hg : Grows w w' v v') (h : Bts w a xs) (ha : Apart v a) : Bts w' a xs := by
  intro i hi
  obtain ⟨b, off, e, hc⟩ := h i hi
  refine ⟨b, off, e, hg.by_.cell hc ?_⟩
  have := ha _ e
  intro e2
  exact this e2.symm

theorem Grows.apart {w w' : World} {v v' : Value} {a : Option Addr} (hg : Grows w w' v v') (hl : ∀ ad, a = some ad → ad.block < w.heap.size) (ha : Apart v a) : Apart v' a := by
  intro ad e
  rcases hg.next with h | ⟨g, h, hge⟩
  · rw [h]; exact ha ad e
  · rw [h]
    have := hl ad e
    intro e2
    simp at e2
    omega

end Go.Proofs.YtgncohclofdhmaaGreat
