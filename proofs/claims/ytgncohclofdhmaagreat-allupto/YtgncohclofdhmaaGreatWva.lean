import Derived.Test.YtgncohclofdhmaaGreatWans
import Derived.Test.YtgncohclofdhmaaGreatMread
namespace Go.Proofs.YtgncohclofdhmaaGreat
open Go.RowKit

/-! Entries that may be and are sorted: building them gives their package. -/

theorem pairs_at (es : List Ent) (k : Nat) (h : k < es.length) : (pairsOf es).getD k ([], []) = ((es.getD k noEnt).path.data.toList, (es.getD k noEnt).body) := by
  unfold pairsOf
  rw [List.getD_eq_getElem?_getD, List.getElem?_map, List.getD_eq_getElem?_getD, List.getElem?_eq_getElem h]
  rfl

theorem pairs_size (es : List Ent) : (pairsOf es).length = es.length := by simp [pairsOf]

theorem GoodL.ahead {l : List (List UInt8 × List UInt8)} {al : Nat} (h : GoodL l al) (i j : Nat) (hij : i < j) (hj : j < l.length) : lexB (l.getD i ([], [])).1 (l.getD j ([], [])).1 = true ∧ underB (l.getD j ([], [])).1 (l.getD i ([], [])).1 = false := by
  have h2 := List.pairwise_iff_getElem.1 h.apart i j (by omega) hj hij
  rw [List.getD_eq_getElem?_getD, List.getElem?_eq_getElem (by omega), List.getD_eq_getElem?_getD, List.getElem?_eq_getElem hj]
  exact h2

theorem GoodL.faults {es : List Ent} {al : Nat} (h : GoodL (pairsOf es) al) {key : ByteArray} (hk : keyB key.size = true) : faultsOf es key (al : Int) = [] := by
  have hl := h.len
  rw [pairs_size] at hl
  have lo := h.lo
  have hi := h.hi
  have hmem : ∀ i, i < es.length → ((es.getD i noEnt).path.data.toList, (es.getD i noEnt).body) ∈ pairsOf es := by
    intro i hi
    rw [← pairs_at es i hi]
    exact getD_pair (by rw [pairs_size]; exact hi)
  have hah : ∀ i j, i < j → j < es.length → lexB (es.getD i noEnt).path.data.toList (es.getD j noEnt).path.data.toList = true ∧ underB (es.getD j noEnt).path.data.toList (es.getD i noEnt).path.data.toList = false := by
    intro i j hij hj
    have := h.ahead i j hij (by rw [pairs_size]; exact hj)
    rw [pairs_at es i (by omega), pairs_at es j hj] at this
    exact this
  apply List.eq_nil_iff_forall_not_mem.2
  intro f hf
  rcases List.mem_append.1 hf with h1 | h1
  · obtain ⟨_, h2 | h2 | h2⟩ := (fltHead_mem _ _ _ _).1 h1
    · rw [hk] at h2; simp at h2
    · omega
    · omega
  · obtain ⟨i, hi, h2⟩ := (fltFirst_mem _ _ _ _ f).1 h1
    obtain ⟨_, h3⟩ := (fltEntry_mem _ _ _ i f).1 h2
    rcases h3 with ⟨_, h3⟩ | ⟨_, k, hk2, h3, h4⟩ | ⟨_, k, hk2, h3⟩ | ⟨_, h3⟩
    · have := h.path _ (hmem i hi)
      simp only at this
      rw [this] at h3
      cases h3
    · by_cases hki : k < i
      · have h6 := (hah k i hki hi).1
        rw [h4, lexB_irrefl] at h6
        cases h6
      · have h6 := (hah i k (by omega) hk2).1
        rw [h4, lexB_irrefl] at h6
        cases h6
    · by_cases hki : k < i
      · rw [(hah k i hki hi).2] at h3
        cases h3
      · have hb := underB_before h3
        by_cases e : i = k
        · subst e
          rw [lexB_irrefl] at hb
          cases hb
        · have h6 := lexB_asymm _ _ (hah i k (by omega) hk2).1
          rw [h6] at hb
          cases hb
    · have := h.body _ (hmem i hi)
      simp only at this
      omega

theorem GoodL.chosen {es : List Ent} {al : Nat} (h : GoodL (pairsOf es) al) : Chosen (fun i => (es.getD i noEnt).path.data.toList) es.length (List.range es.length) := by
  refine ⟨List.nodup_range, fun j hj => List.mem_range.1 hj, ?_, ?_⟩
  · rw [List.pairwise_iff_getElem]
    intro i j hi hj hij
    rw [List.getElem_range, List.getElem_range]
    simp at hj
    have := (h.ahead i j hij (by rw [pairs_size]; exact hj)).1
    rw [pairs_at es i (by omega), pairs_at es j hj] at this
    exact lexB_asymm _ _ this
  · intro i _ j hj hm
    exact absurd (List.mem_range.2 hj) hm

theorem range_get (es : List Ent) : ((List.range es.length).map fun i => es.getD i noEnt) = es := by
  apply List.ext_getElem
  · simp
  · intro i h1 h2
    rw [List.getElem_map, List.getElem_range, List.getD_eq_getElem?_getD, List.getElem?_eq_getElem h2]
    rfl

/-- Building entries that may be and are sorted. -/
theorem ans_good {es : List Ent} {key : ByteArray} {al : Nat} {pk : Bool} {B : Nat} {w : World} {v : Value} {E : Nat} {p : ByteArray} (hg : GoodL (pairsOf es) al) (hk : keyB key.size = true) (hs : (madeOf key.data.toList pk al (pairsOf es)).length ≤ 4000)
    (h : BuildAns es key (al : Int) pk B w v E p) : E = 0 ∧ p = ByteArray.empty ∧ Own B w v (madeOf key.data.toList pk al (pairsOf es)) := by
  have hn : faultsOf es key (al : Int) = [] := hg.faults hk
  rcases h with ⟨h1, _⟩ | ⟨_, jx, k2, k3, k4⟩
  · exact absurd hn h1
  · have e : List.range es.length = jx := by
      refine hg.chosen.only k2 (by simp) k3 ?_
      intro i j hi hj he
      by_cases hij : i = j
      · exact hij
      · exact absurd (ByteArray.ext (Array.toList_inj.1 he)) (fltAll_nil_ne hn j i hj hi hij)
    rw [← e, range_get, Int.toNat_natCast] at k4
    rcases k4 with ⟨h5, _⟩ | ⟨_, h6, h7, h8⟩
    · omega
    · exact ⟨h7, h8, h6⟩

/-- What is built without fault is of entries that may be, sorted. -/
theorem good_of_nil {es : List Ent} {key : ByteArray} {al : Int} {ix : List Nat} (hn : faultsOf es key al = []) (hC : Chosen (fun i => (es.getD i noEnt).path.data.toList) es.length ix) (hl : ix.length = es.length) : GoodL (pairsOf (ix.map fun i => es.getD i noEnt)) al.toNat ∧ keyB key.size = true ∧ 1 ≤ al ∧ al ≤ 16 := by
  obtain ⟨f1, f2, f3, f4, f5⟩ := fltAll_nil hn
  obtain ⟨w1, w2, w3, w4⟩ := hC.ways hl
  have hget : ∀ j, j < ix.length → (pairsOf (ix.map fun i => es.getD i noEnt))[j]? = some ((es.getD (ix.getD j 0) noEnt).path.data.toList, (es.getD (ix.getD j 0) noEnt).body) := by
    intro j hj
    unfold pairsOf
    rw [List.getElem?_map, List.getElem?_map, List.getD_eq_getElem?_getD (l := ix), List.getElem?_eq_getElem hj]
    rfl
  have hlen : (pairsOf (ix.map fun i => es.getD i noEnt)).length = es.length := by simp [pairsOf, hl]
  refine ⟨⟨by omega, ?_, ?_, ?_, by omega, by omega⟩, f1, f2, f3⟩
  · intro x hx
    obtain ⟨e, he, rfl⟩ := List.mem_map.1 hx
    obtain ⟨i, hi, rfl⟩ := List.mem_map.1 he
    exact (f5 i (hC.lt i hi)).1
  · intro x hx
    obtain ⟨e, he, rfl⟩ := List.mem_map.1 hx
    obtain ⟨i, hi, rfl⟩ := List.mem_map.1 he
    exact (f5 i (hC.lt i hi)).2
  · rw [List.pairwise_iff_getElem]
    intro i j hi hj hij
    have g1 := hget i (by omega)
    have g2 := hget j (by omega)
    rw [List.getElem?_eq_getElem hi, Option.some.injEq] at g1
    rw [List.getElem?_eq_getElem hj, Option.some.injEq] at g2
    rw [g1, g2]
    simp only
    have hi2 : i < es.length := by omega
    have hj2 : j < es.length := by omega
    have hne : ix.getD i 0 ≠ ix.getD j 0 := fun e => by have := w3 i j hi2 hj2 e; omega
    have h1 := w4 i j hij hj2
    constructor
    · cases e : lexB (es.getD (ix.getD i 0) noEnt).path.data.toList (es.getD (ix.getD j 0) noEnt).path.data.toList
      · have := lexB_total _ _ e h1
        exact absurd (ByteArray.ext (Array.toList_inj.1 this)) (fltAll_nil_ne hn (ix.getD j 0) (ix.getD i 0) (w1 j hj2) (w1 i hi2) hne)
      · rfl
    · cases e : underB (es.getD (ix.getD j 0) noEnt).path.data.toList (es.getD (ix.getD i 0) noEnt).path.data.toList
      · rfl
      · exfalso
        have hm : ((6, (es.getD (ix.getD j 0) noEnt).path) : Flt) ∈ faultsOf es key al := by
          refine List.mem_append.2 (.inr ((fltFirst_mem _ _ _ _ _).2 ⟨ix.getD j 0, w1 j hj2, (fltEntry_mem _ _ _ _ _).2 ⟨rfl, .inr (.inr (.inl ⟨rfl, ix.getD i 0, w1 i hi2, e⟩))⟩⟩))
        rw [hn] at hm
        cases hm

end Go.Proofs.YtgncohclofdhmaaGreat

namespace Go.Proofs.YtgncohclofdhmaaGreat
open Go.RowKit

def noCfg : Value := .agg #[.string ⟨#[]⟩, .int .i64 0, .bool false]

/-- What reading a package answers. -/
def VerAns (key : ByteArray) (p : List UInt8) (B : Nat) (w : World) (v cfg : Value) (E : Nat) : Prop :=
  (verHead key.data.toList p ≠ 0 ∧ E = verHead key.data.toList p ∧ v = .slice none 0 0 ∧ cfg = noCfg) ∨
  (verHead key.data.toList p = 0 ∧ (¬ ∃ l al pk, IsPack key.data.toList p l al pk) ∧ E = 12 ∧ v = .slice none 0 0 ∧ cfg = noCfg) ∨
  (verHead key.data.toList p = 0 ∧ ∃ (es : List Ent) (al : Nat) (pk : Bool), IsPack key.data.toList p (pairsOf es) al pk ∧ OwnE B w v es ∧ EntOwn B w es ∧ E = 0 ∧ cfg = .agg #[.string key, .int .i64 (al : Nat), .bool pk])

theorem ver_cfg {key : ByteArray} {p : List UInt8} {B : Nat} {w : World} {v cfg : Value} {E : Nat} (h : VerAns key p B w v cfg E) : ∃ (k : ByteArray) (z : Int) (b : Bool), cfg = .agg #[.string k, .int .i64 z, .bool b] := by
  rcases h with ⟨_, _, _, h⟩ | ⟨_, _, _, _, h⟩ | ⟨_, _, _, _, _, _, _, _, h⟩
  · exact ⟨_, _, _, h⟩
  · exact ⟨_, _, _, h⟩
  · exact ⟨_, _, _, h⟩

/-- Two rows of entries that lie there and are alike. -/
structure Rows2 (w w' : World) (v v' : Value) : Prop where
  of : ∃ (es fs : List Ent) (a a' : Option Addr) (c c' : Nat), v = .slice a es.length c ∧ v' = .slice a' fs.length c' ∧ EntAt w a es ∧ EntAt w' a' fs ∧ EntGood w es ∧ EntGood w' fs ∧ Alike es fs ∧ es.length ≤ 20 ∧ ∀ e, e ∈ es → e.body.length ≤ 600

theorem alike_of_pairs {es fs : List Ent} (h : pairsOf es = pairsOf fs) : Alike es fs := by
  have hl : es.length = fs.length := by
    have := congrArg List.length h
    simpa [pairsOf] using this
  unfold Alike
  apply List.ext_getElem
  · simpa using hl
  · intro i h1 h2
    have h3 := congrArg (fun l => l[i]?) h
    simp only [pairsOf, List.getElem?_map] at h3
    have i1 : i < es.length := by simpa using h1
    have i2 : i < fs.length := by omega
    rw [List.getElem?_eq_getElem i1, List.getElem?_eq_getElem i2] at h3
    simp only [Option.map_some, Option.some.injEq, pairOf, Prod.mk.injEq] at h3
    rw [List.getElem_map, List.getElem_map]
    simp only [Prod.mk.injEq]
    exact ⟨ByteArray.ext (Array.toList_inj.1 h3.1), h3.2⟩

theorem ver_same {key : ByteArray} {p : List UInt8} {B B' : Nat} {w w' : World} {v v' cfg cfg' : Value} {E E' : Nat} (h : VerAns key p B w v cfg E) (k : VerAns key p B' w' v' cfg' E') : E = E' ∧ cfg = cfg' ∧ Rows2 w w' v v' := by
  have nil : ∀ (v v' : Value), v = .slice none 0 0 → v' = .slice none 0 0 → Rows2 w w' v v' := by
    intro v v' h1 h2
    exact ⟨[], [], none, none, 0, 0, h1, h2, EntAt.nil _ _, EntAt.nil _ _, EntGood.nil _, EntGood.nil _, rfl, by simp, fun e he => by cases he⟩
  rcases h with ⟨h1, h2, h3, h4⟩ | ⟨h1, h2, h3, h4, h5⟩ | ⟨h1, es, al, pk, h2, h3, h4, h5, h6⟩
  · rcases k with ⟨_, k2, k3, k4⟩ | ⟨k1, _⟩ | ⟨k1, _⟩
    · exact ⟨h2.trans k2.symm, h4.trans k4.symm, nil v v' h3 k3⟩
    · exact absurd k1 h1
    · exact absurd k1 h1
  · rcases k with ⟨k1, _⟩ | ⟨_, _, k3, k4, k5⟩ | ⟨_, fs, al', pk', k2, _⟩
    · exact absurd h1 k1
    · exact ⟨h3.trans k3.symm, h5.trans k5.symm, nil v v' h4 k4⟩
    · exact absurd ⟨_, _, _, k2⟩ h2
  · rcases k with ⟨k1, _⟩ | ⟨_, k2, _⟩ | ⟨_, fs, al', pk', k2, k3, k4, k5, k6⟩
    · exact absurd h1 k1
    · exact absurd ⟨_, _, _, h2⟩ k2
    · obtain ⟨e1, e2, e3⟩ := h2.only k2
      subst e2
      subst e3
      obtain ⟨a, c, hv, ha, _, _⟩ := h3.shape
      obtain ⟨a', c', hv', ha', _, _⟩ := k3.shape
      refine ⟨h5.trans k5.symm, h6.trans k6.symm, ⟨es, fs, a, a', c, c', hv, hv', ha, ha', h4.good, k4.good, alike_of_pairs e1, ?_, ?_⟩⟩
      · have := h2.good.len
        simpa [pairsOf] using this
      · intro e he
        exact h2.good.body (pairOf e) (List.mem_map.2 ⟨e, he, rfl⟩)

end Go.Proofs.YtgncohclofdhmaaGreat

namespace Go.Proofs.YtgncohclofdhmaaGreat
open Go.RowKit

theorem verHead_ok {key p : List UInt8} (hk : keyB key.length = true) (h1 : p.length ≤ 4000) (h2 : 13 ≤ p.length) (h3 : numAt p (p.length - 8) 4 = sumOf (p.take (p.length - 8))) (h4 : numAt p (p.length - 4) 4 = tagVal key (p.take (p.length - 4))) : verHead key p = 0 := by
  unfold verHead
  rw [if_neg (by rw [hk]; simp), if_neg (by omega), if_neg (by omega), if_neg (by simp [h3]), if_neg (by simp [h4])]

theorem verHead_key {key p : List UInt8} (hk : keyB key.length = false) : verHead key p = 1 := by
  unfold verHead
  rw [if_pos hk]

theorem verHead_long {key p : List UInt8} (hk : keyB key.length = true) (h1 : 4000 < p.length) : verHead key p = 8 := by
  unfold verHead
  rw [if_neg (by rw [hk]; simp), if_pos h1]

theorem verHead_short {key p : List UInt8} (hk : keyB key.length = true) (h2 : p.length < 13) : verHead key p = 9 := by
  unfold verHead
  rw [if_neg (by rw [hk]; simp), if_neg (by omega), if_pos h2]

theorem verHead_sum {key p : List UInt8} (hk : keyB key.length = true) (h1 : p.length ≤ 4000) (h2 : 13 ≤ p.length) (h3 : numAt p (p.length - 8) 4 ≠ sumOf (p.take (p.length - 8))) : verHead key p = 10 := by
  unfold verHead
  rw [if_neg (by rw [hk]; simp), if_neg (by omega), if_neg (by omega), if_pos h3]

theorem verHead_tag {key p : List UInt8} (hk : keyB key.length = true) (h1 : p.length ≤ 4000) (h2 : 13 ≤ p.length) (h3 : numAt p (p.length - 8) 4 = sumOf (p.take (p.length - 8))) (h4 : numAt p (p.length - 4) 4 ≠ tagVal key (p.take (p.length - 4))) : verHead key p = 11 := by
  unfold verHead
  rw [if_neg (by rw [hk]; simp), if_neg (by omega), if_neg (by omega), if_neg (by simp [h3]), if_pos h4]

/-- The answer with an error that the head tells. -/
theorem ver_head {key : ByteArray} {p : List UInt8} {B : Nat} {w : World} {E : Nat} (h : verHead key.data.toList p = E) (hE : E ≠ 0) : VerAns key p B w (.slice none 0 0) noCfg E := .inl ⟨by rw [h]; exact hE, h.symm, rfl, rfl⟩

theorem Bts.only {w : World} {a : Option Addr} {xs ys : List UInt8} (h : Bts w a xs) (k : Bts w a ys) (hl : xs.length = ys.length) : xs = ys := by
  apply List.ext_getElem hl
  intro i h1 h2
  obtain ⟨b, off, e, hc⟩ := h i h1
  obtain ⟨b', off', e', hc'⟩ := k i h2
  rw [e] at e'
  cases e'
  rw [hc, Option.some.injEq, Value.int.injEq] at hc'
  have h3 := hc'.2
  rw [List.getD_eq_getElem?_getD, List.getElem?_eq_getElem h1, List.getD_eq_getElem?_getD, List.getElem?_eq_getElem h2] at h3
  simp only [Option.getD_some] at h3
  exact UInt8.toNat_inj.1 (by omega)

/-- What lies where building answers. -/
theorem ans_bytes {es : List Ent} {key : ByteArray} {al : Int} {pk : Bool} {B : Nat} {w : World} {v : Value} {E : Nat} {p : ByteArray} (h : BuildAns es key al pk B w v E p) : ∃ (xs : List UInt8) (a : Option Addr) (c : Nat), v = .slice a xs.length c ∧ Bts w a xs ∧ xs.length ≤ 4000 := by
  rcases h with ⟨_, h2, _⟩ | ⟨_, ix, _, _, ⟨_, h2, _⟩ | ⟨h1, h2, _⟩⟩
  · exact ⟨[], none, 0, h2, Bts.nil _ _, by simp⟩
  · exact ⟨[], none, 0, h2, Bts.nil _ _, by simp⟩
  · obtain ⟨a, c, e1, e2, _, _⟩ := h2.shape
    exact ⟨_, a, c, e1, e2, h1⟩

/-- A package is built again of what it is the package of. -/
theorem ver_back {es : List Ent} {key : ByteArray} {al : Nat} {pk : Bool} {B : Nat} {w : World} {v : Value} {E : Nat} {q : ByteArray} {p xs : List UInt8} {a : Option Addr} {c : Nat} (hp : IsPack key.data.toList p (pairsOf es) al pk) (hk : keyB key.size = true)
    (h : BuildAns es key (al : Int) pk B w v E q) (hv : v = .slice a xs.length c) (hb : Bts w a xs) : E = 0 ∧ xs = p := by
  obtain ⟨h1, _, h3⟩ := ans_good hp.good hk (by rw [← hp.made]; exact hp.short) h
  rw [← hp.made] at h3
  obtain ⟨a', c', e1, e2, _, _⟩ := h3.shape
  rw [hv] at e1
  simp only [Value.slice.injEq] at e1
  obtain ⟨rfl, e4, _⟩ := e1
  exact ⟨h1, hb.only e2 e4⟩

theorem faultsLeast_ne {es : List Ent} {key : ByteArray} {al : Int} (h : faultsOf es key al ≠ []) : (leastOf (faultsOf es key al)).1 ≠ 0 := by
  have k : ∀ f, f ∈ faultsOf es key al → f.1 ≠ 0 := fun f hf => (fltAll_path _ _ _ _ _ f hf).1
  exact k _ (leastOf_min k h).1

end Go.Proofs.YtgncohclofdhmaaGreat
