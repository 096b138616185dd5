import Derived.Test.YtgncohclofdhmaaGreatMall
import Derived.Test.YtgncohclofdhmaaGreatWva
import Derived.Test.YtgncohclofdhmaaGreatWturn
namespace Go.Proofs.YtgncohclofdhmaaGreat

/-! The same things in another order: by which places. Nothing of the dump. -/

theorem Turn.comp {f g : Nat → Nat} {n : Nat} (hf : Turn f n) (hg : Turn g n) : Turn (fun j => g (f j)) n := by
  refine ⟨fun j hj => hg.lt _ (hf.lt j hj), ?_, ?_⟩
  · intro i hi
    obtain ⟨k, hk, e⟩ := hg.sur i hi
    obtain ⟨j, hj, e2⟩ := hf.sur k hk
    exact ⟨j, hj, by rw [e2, e]⟩
  · intro j k hj hk e
    exact hf.inj j k hj hk (hg.inj _ _ (hf.lt j hj) (hf.lt k hk) e)

theorem perm_turn {α : Type} (d : α) {l m : List α} (h : l.Perm m) : ∃ g, Turn g m.length ∧ ∀ j, j < m.length → l.getD j d = m.getD (g j) d := by
  induction h with
  | nil => exact ⟨id, ⟨fun j h => absurd h (Nat.not_lt_zero j), fun j h => absurd h (Nat.not_lt_zero j), fun j _ h => absurd h (Nat.not_lt_zero j)⟩, fun j h => absurd h (Nat.not_lt_zero j)⟩
  | cons x _ ih =>
    obtain ⟨g, hg, he⟩ := ih
    refine ⟨fun j => if j = 0 then 0 else g (j - 1) + 1, ⟨?_, ?_, ?_⟩, ?_⟩
    · intro j hj
      simp only [List.length_cons] at hj ⊢
      split
      · omega
      · have := hg.lt (j - 1) (by omega)
        omega
    · intro i hi
      simp only [List.length_cons] at hi ⊢
      by_cases e : i = 0
      · exact ⟨0, by omega, by simp [e]⟩
      · obtain ⟨j, hj, e2⟩ := hg.sur (i - 1) (by omega)
        refine ⟨j + 1, by omega, ?_⟩
        simp [e2]
        omega
    · intro j k hj hk e
      simp only [List.length_cons] at hj hk
      by_cases e1 : j = 0
      · by_cases e2 : k = 0
        · omega
        · simp [e1, e2] at e
      · by_cases e2 : k = 0
        · simp [e1, e2] at e
        · simp [e1, e2] at e
          have := hg.inj (j - 1) (k - 1) (by omega) (by omega) e
          omega
    · intro j hj
      simp only [List.length_cons] at hj
      cases j with
      | zero => rfl
      | succ j => simpa using he j (by omega)
  | swap x y l =>
    refine ⟨fun j => if j = 0 then 1 else if j = 1 then 0 else j, ⟨?_, ?_, ?_⟩, ?_⟩
    · intro j hj
      simp only [List.length_cons] at hj ⊢
      split
      · omega
      · split <;> omega
    · intro i hi
      simp only [List.length_cons] at hi ⊢
      refine ⟨if i = 0 then 1 else if i = 1 then 0 else i, ?_, ?_⟩
      · split
        · omega
        · split <;> omega
      · by_cases e : i = 0
        · simp [e]
        · by_cases e2 : i = 1
          · simp [e2]
          · simp [e, e2]
    · intro j k _ _ e
      split at e <;> split at e <;> (try split at e) <;> (try split at e) <;> omega
    · intro j hj
      match j with
      | 0 => rfl
      | 1 => rfl
      | j + 2 => simp
  | trans h1 h2 ih1 ih2 =>
    obtain ⟨f, hf, hfe⟩ := ih1
    obtain ⟨g, hg, hge⟩ := ih2
    rw [h2.length_eq] at hf hfe
    refine ⟨fun j => g (f j), hf.comp hg, ?_⟩
    intro j hj
    rw [hfe j hj, hge (f j) (hf.lt j hj)]

end Go.Proofs.YtgncohclofdhmaaGreat

namespace Go.Proofs.YtgncohclofdhmaaGreat
open Go.RowKit

/-- What finding answers. -/
def FindAns (key path : ByteArray) (p : List UInt8) (B : Nat) (w : World) (v : Value) (E : Nat) : Prop :=
  (verHead key.data.toList p ≠ 0 ∧ E = verHead key.data.toList p ∧ v = .slice none 0 0) ∨
  (verHead key.data.toList p = 0 ∧ (¬ ∃ l al pk, IsPack key.data.toList p l al pk) ∧ E = 12 ∧ v = .slice none 0 0) ∨
  (verHead key.data.toList p = 0 ∧ ∃ l al pk, IsPack key.data.toList p l al pk ∧ (((∀ x, x ∈ l → x.1 ≠ path.data.toList) ∧ E = 13 ∧ v = .slice none 0 0) ∨ ∃ b, (path.data.toList, b) ∈ l ∧ Own B w v b ∧ E = 0))

theorem GoodL.one {l : List (List UInt8 × List UInt8)} {al : Nat} (h : GoodL l al) {q b b' : List UInt8} (h1 : (q, b) ∈ l) (h2 : (q, b') ∈ l) : b = b' := by
  obtain ⟨i, hi, e1⟩ := List.mem_iff_getElem.1 h1
  obtain ⟨j, hj, e2⟩ := List.mem_iff_getElem.1 h2
  by_cases e : i = j
  · subst e
    rw [e1] at e2
    simp only [Prod.mk.injEq] at e2
    exact e2.2
  · have hp := List.pairwise_iff_getElem.1 h.apart
    by_cases hij : i < j
    · have := (hp i j hi hj hij).1
      rw [e1, e2, lexB_irrefl] at this
      cases this
    · have := (hp j i hj hi (by omega)).1
      rw [e1, e2, lexB_irrefl] at this
      cases this

theorem find_same {key path : ByteArray} {p : List UInt8} {B B' : Nat} {w w' : World} {v v' : Value} {E E' : Nat} (h : FindAns key path p B w v E) (k : FindAns key path p B' w' v' E') :
    E = E' ∧ ∃ (xs : List UInt8) (a a' : Option Addr) (c c' : Nat), v = .slice a xs.length c ∧ v' = .slice a' xs.length c' ∧ Bts w a xs ∧ Bts w' a' xs ∧ xs.length ≤ 600 := by
  have nil : ∀ (v v' : Value), v = .slice none 0 0 → v' = .slice none 0 0 → ∃ (xs : List UInt8) (a a' : Option Addr) (c c' : Nat), v = .slice a xs.length c ∧ v' = .slice a' xs.length c' ∧ Bts w a xs ∧ Bts w' a' xs ∧ xs.length ≤ 600 := by
    intro v v' h1 h2
    exact ⟨[], none, none, 0, 0, h1, h2, Bts.nil _ _, Bts.nil _ _, by simp⟩
  rcases h with ⟨h1, h2, h3⟩ | ⟨h1, h2, h3, h4⟩ | ⟨h1, l, al, pk, h2, h3⟩
  · rcases k with ⟨_, k2, k3⟩ | ⟨k1, _⟩ | ⟨k1, _⟩
    · exact ⟨h2.trans k2.symm, nil v v' h3 k3⟩
    · exact absurd k1 h1
    · exact absurd k1 h1
  · rcases k with ⟨k1, _⟩ | ⟨_, _, k3, k4⟩ | ⟨_, _, _, _, k2, _⟩
    · exact absurd h1 k1
    · exact ⟨h3.trans k3.symm, nil v v' h4 k4⟩
    · exact absurd ⟨_, _, _, k2⟩ h2
  · rcases k with ⟨k1, _⟩ | ⟨_, k2, _⟩ | ⟨_, l', al', pk', k2, k3⟩
    · exact absurd h1 k1
    · exact absurd ⟨_, _, _, h2⟩ k2
    · obtain ⟨e1, _, _⟩ := h2.only k2
      subst e1
      rcases h3 with ⟨h4, h5, h6⟩ | ⟨b, h4, h5, h6⟩
      · rcases k3 with ⟨_, k5, k6⟩ | ⟨b', k4, _⟩
        · exact ⟨h5.trans k5.symm, nil v v' h6 k6⟩
        · exact absurd rfl (h4 _ k4)
      · rcases k3 with ⟨k4, _⟩ | ⟨b', k4, k5, k6⟩
        · exact absurd rfl (k4 _ h4)
        · have e := h2.good.one h4 k4
          subst e
          obtain ⟨a, c, e1, e2, _, _⟩ := h5.shape
          obtain ⟨a', c', e1', e2', _, _⟩ := k5.shape
          exact ⟨h6.trans k6.symm, b, a, a', c, c', e1, e1', e2, e2', h2.good.body _ h4⟩

/-- All entries but those of a path. -/
def keepE (path : ByteArray) (es : List Ent) : List Ent := es.filter fun e => decide (e.path ≠ path)
def keepL (path : List UInt8) (l : List (List UInt8 × List UInt8)) : List (List UInt8 × List UInt8) := l.filter fun x => decide (x.1 ≠ path)

theorem keep_pairs (path : ByteArray) (es : List Ent) : pairsOf (keepE path es) = keepL path.data.toList (pairsOf es) := by
  unfold keepE keepL pairsOf
  rw [List.filter_map]
  congr 1
  apply List.filter_congr
  intro e _
  simp only [Function.comp, pairOf]
  have : (e.path ≠ path) ↔ (e.path.data.toList ≠ path.data.toList) := by
    constructor
    · intro h e2
      exact h (ByteArray.ext (Array.toList_inj.1 e2))
    · intro h e2
      exact h (by rw [e2])
  exact decide_eq_decide.2 this

theorem keep_len (path : ByteArray) (es : List Ent) : (keepE path es).length ≤ es.length := List.length_filter_le _ _

theorem EntOwn.keep {B : Nat} {w : World} {es : List Ent} (h : EntOwn B w es) (path : ByteArray) : EntOwn B w (keepE path es) := fun e he => h e (List.mem_filter.1 he).1

/-- What replacing answers: an error of reading, or what building answers for the others and the entry. -/
def ReplAns (key : ByteArray) (p : List UInt8) (xp : ByteArray) (xb : List UInt8) (B : Nat) (w : World) (v : Value) (E : Nat) (q : ByteArray) : Prop :=
  (verHead key.data.toList p ≠ 0 ∧ E = verHead key.data.toList p ∧ v = .slice none 0 0 ∧ q = ByteArray.empty) ∨
  (verHead key.data.toList p = 0 ∧ (¬ ∃ l al pk, IsPack key.data.toList p l al pk) ∧ E = 12 ∧ v = .slice none 0 0 ∧ q = ByteArray.empty) ∨
  (verHead key.data.toList p = 0 ∧ ∃ l al pk, IsPack key.data.toList p l al pk ∧ ∃ fs : List Ent, (pairsOf fs).Perm (keepL xp.data.toList l ++ [(xp.data.toList, xb)]) ∧ BuildAns fs key (al : Nat) pk B w v E q)

/-- What dropping answers. -/
def DropAns (key path : ByteArray) (p : List UInt8) (B : Nat) (w : World) (v : Value) (E : Nat) : Prop :=
  (verHead key.data.toList p ≠ 0 ∧ E = verHead key.data.toList p ∧ v = .slice none 0 0) ∨
  (verHead key.data.toList p = 0 ∧ (¬ ∃ l al pk, IsPack key.data.toList p l al pk) ∧ E = 12 ∧ v = .slice none 0 0) ∨
  (verHead key.data.toList p = 0 ∧ ∃ l al pk, IsPack key.data.toList p l al pk ∧ ((¬ (keepL path.data.toList l).length < l.length ∧ E = 13 ∧ v = .slice none 0 0) ∨
    ((keepL path.data.toList l).length < l.length ∧ ∃ (fs : List Ent) (q : ByteArray), (pairsOf fs).Perm (keepL path.data.toList l) ∧ BuildAns fs key (al : Nat) pk B w v E q)))

theorem ans_mono {es : List Ent} {key : ByteArray} {al : Int} {pk : Bool} {B B' : Nat} {w : World} {v : Value} {E : Nat} {p : ByteArray} (h : BuildAns es key al pk B w v E p) (hB : B' ≤ B) : BuildAns es key al pk B' w v E p := by
  rcases h with h | ⟨h1, ix, h2, h3, h4⟩
  · exact .inl h
  · refine .inr ⟨h1, ix, h2, h3, ?_⟩
    rcases h4 with h | ⟨h5, h6, h7⟩
    · exact .inl h
    · exact .inr ⟨h5, h6.mono hB, h7⟩

/-- Verify's good answer, taken apart. -/
theorem ver_good {key : ByteArray} {p : List UInt8} {B : Nat} {w : World} {v cfg : Value} (h : VerAns key p B w v cfg 0) : verHead key.data.toList p = 0 ∧ ∃ (es : List Ent) (al : Nat) (pk : Bool), IsPack key.data.toList p (pairsOf es) al pk ∧ OwnE B w v es ∧ EntOwn B w es ∧ cfg = .agg #[.string key, .int .i64 (al : Nat), .bool pk] := by
  rcases h with ⟨h1, h2, _⟩ | ⟨_, _, h3, _⟩ | ⟨h1, es, al, pk, h2, h3, h4, _, h5⟩
  · exact absurd h2.symm h1
  · omega
  · exact ⟨h1, es, al, pk, h2, h3, h4, h5⟩

theorem turned_of_perm {es fs : List Ent} (h : (pairsOf fs).Perm (pairsOf es)) : ∃ g, Turn g es.length ∧ Turned g es fs := by
  obtain ⟨g, hg, he⟩ := perm_turn ([], []) h
  rw [pairs_size] at hg he
  have hl : fs.length = es.length := by
    have := h.length_eq
    rw [pairs_size, pairs_size] at this
    exact this
  refine ⟨g, hg, hl, ?_⟩
  intro j hj
  have h1 := he j hj
  rw [pairs_at fs j (by omega), pairs_at es (g j) (hg.lt j hj), Prod.mk.injEq] at h1
  exact ⟨ByteArray.ext (Array.toList_inj.1 h1.1), h1.2⟩

/-- Bytes in two places, the same. -/
def Two (w w' : World) (v v' : Value) : Prop := ∃ (xs : List UInt8) (a a' : Option Addr) (c c' : Nat), v = .slice a xs.length c ∧ v' = .slice a' xs.length c' ∧ Bts w a xs ∧ Bts w' a' xs ∧ xs.length ≤ 4000

theorem Two.none {w w' : World} {v v' : Value} (h : v = .slice none 0 0) (h' : v' = .slice none 0 0) : Two w w' v v' := ⟨[], Option.none, Option.none, 0, 0, h, h', Bts.nil _ _, Bts.nil _ _, by simp⟩

theorem build_two {es fs : List Ent} {key : ByteArray} {al : Int} {pk : Bool} {B B' : Nat} {w w' : World} {v v' : Value} {E E' : Nat} {q q' : ByteArray} (hp : (pairsOf fs).Perm (pairsOf es)) (h : BuildAns es key al pk B w v E q) (k : BuildAns fs key al pk B' w' v' E' q') : E = E' ∧ q = q' ∧ Two w w' v v' := by
  obtain ⟨g, hg, ht⟩ := turned_of_perm hp
  obtain ⟨h1, h2, xs, a, a', c, c', h3, h4, h5, h6, h7, _⟩ := ans_turn hg ht h k
  exact ⟨h1, h2, xs, a, a', c, c', h3, h4, h5, h6, h7⟩

theorem repl_same {key : ByteArray} {p : List UInt8} {xp : ByteArray} {xb : List UInt8} {B B' : Nat} {w w' : World} {v v' : Value} {E E' : Nat} {q q' : ByteArray} (h : ReplAns key p xp xb B w v E q) (k : ReplAns key p xp xb B' w' v' E' q') : E = E' ∧ q = q' ∧ Two w w' v v' := by
  rcases h with ⟨h1, h2, h3, h4⟩ | ⟨h1, h2, h3, h4, h5⟩ | ⟨h1, l, al, pk, h2, fs, h3, h4⟩
  · rcases k with ⟨_, k2, k3, k4⟩ | ⟨k1, _⟩ | ⟨k1, _⟩
    · exact ⟨h2.trans k2.symm, h4.trans k4.symm, Two.none h3 k3⟩
    · exact absurd k1 h1
    · exact absurd k1 h1
  · rcases k with ⟨k1, _⟩ | ⟨_, _, k3, k4, k5⟩ | ⟨_, _, _, _, k2, _⟩
    · exact absurd h1 k1
    · exact ⟨h3.trans k3.symm, h5.trans k5.symm, Two.none h4 k4⟩
    · exact absurd ⟨_, _, _, k2⟩ h2
  · rcases k with ⟨k1, _⟩ | ⟨_, k2, _⟩ | ⟨_, l', al', pk', k2, fs', k3, k4⟩
    · exact absurd h1 k1
    · exact absurd ⟨_, _, _, h2⟩ k2
    · obtain ⟨rfl, rfl, rfl⟩ := h2.only k2
      exact build_two (k3.trans h3.symm) h4 k4

theorem drop_same {key path : ByteArray} {p : List UInt8} {B B' : Nat} {w w' : World} {v v' : Value} {E E' : Nat} (h : DropAns key path p B w v E) (k : DropAns key path p B' w' v' E') : E = E' ∧ Two w w' v v' := by
  rcases h with ⟨h1, h2, h3⟩ | ⟨h1, h2, h3, h4⟩ | ⟨h1, l, al, pk, h2, h3⟩
  · rcases k with ⟨_, k2, k3⟩ | ⟨k1, _⟩ | ⟨k1, _⟩
    · exact ⟨h2.trans k2.symm, Two.none h3 k3⟩
    · exact absurd k1 h1
    · exact absurd k1 h1
  · rcases k with ⟨k1, _⟩ | ⟨_, _, k3, k4⟩ | ⟨_, _, _, _, k2, _⟩
    · exact absurd h1 k1
    · exact ⟨h3.trans k3.symm, Two.none h4 k4⟩
    · exact absurd ⟨_, _, _, k2⟩ h2
  · rcases k with ⟨k1, _⟩ | ⟨_, k2, _⟩ | ⟨_, l', al', pk', k2, k3⟩
    · exact absurd h1 k1
    · exact absurd ⟨_, _, _, h2⟩ k2
    · obtain ⟨rfl, rfl, rfl⟩ := h2.only k2
      rcases h3 with ⟨h4, h5, h6⟩ | ⟨h4, fs, q, h5, h6⟩
      · rcases k3 with ⟨_, k5, k6⟩ | ⟨k4, _⟩
        · exact ⟨h5.trans k5.symm, Two.none h6 k6⟩
        · exact absurd k4 h4
      · rcases k3 with ⟨k4, _⟩ | ⟨_, fs', q', k5, k6⟩
        · exact absurd h4 k4
        · obtain ⟨e1, _, e2⟩ := build_two (k5.trans h5.symm) h6 k6
          exact ⟨e1, e2⟩

/-- What the program's Verify has to keep. -/
def VerKeeps : Prop := ∀ (a : Option Addr) (p : List UInt8) (cap : Nat) (w : World) (key : ByteArray), p.length ≤ 140737488355328 → key.size ≤ maxLen → p.length ≤ cap → cap ≤ maxLen → Bts w a p →
    Calls Tryz.prog 35 #[.slice a p.length cap, .string key] w fun e w' => ∃ v cfg E, e = .returned (.tuple #[v, cfg, .int .i64 (E : Nat)]) ∧ VerAns key p w.heap.size w' v cfg E ∧ Below w.heap.size w w'

/-- What the program's Find has to keep. -/
def FindKeeps : Prop := ∀ (a : Option Addr) (p : List UInt8) (cap : Nat) (w : World) (key path : ByteArray), p.length ≤ 140737488355328 → key.size ≤ maxLen → path.size ≤ maxLen → p.length ≤ cap → cap ≤ maxLen → Bts w a p →
    Calls Tryz.prog 40 #[.slice a p.length cap, .string path, .string key] w fun e w' => ∃ v E, e = .returned (.tuple #[v, .int .i64 (E : Nat)]) ∧ FindAns key path p w.heap.size w' v E ∧ Below w.heap.size w w'

/-- What the program's Drop has to keep. -/
def DropKeeps : Prop := ∀ (a : Option Addr) (p : List UInt8) (cap : Nat) (w : World) (key path : ByteArray), p.length ≤ 140737488355328 → key.size ≤ maxLen → path.size ≤ maxLen → p.length ≤ cap → cap ≤ maxLen → Bts w a p →
    Calls Tryz.prog 43 #[.slice a p.length cap, .string path, .string key] w fun e w' => ∃ v E, e = .returned (.tuple #[v, .int .i64 (E : Nat)]) ∧ DropAns key path p w.heap.size w' v E ∧ Below w.heap.size w w'

/-- What the program's Replace has to keep. -/
def ReplKeeps : Prop := ∀ (a : Option Addr) (p : List UInt8) (cap : Nat) (w : World) (key xp : ByteArray) (xa : Option Addr) (xb : List UInt8) (xc : Nat), p.length ≤ 140737488355328 → key.size ≤ maxLen → p.length ≤ cap → cap ≤ maxLen → Bts w a p → xp.size ≤ maxLen → Bts w xa xb → xb.length ≤ xc → xc ≤ maxLen →
    Calls Tryz.prog 69 #[.slice a p.length cap, .agg #[.string xp, .slice xa xb.length xc], .string key] w fun e w' => ∃ v E q, e = .returned (.tuple #[v, .int .i64 (E : Nat), .string q]) ∧ ReplAns key p xp xb w.heap.size w' v E q ∧ Below w.heap.size w w'

end Go.Proofs.YtgncohclofdhmaaGreat
