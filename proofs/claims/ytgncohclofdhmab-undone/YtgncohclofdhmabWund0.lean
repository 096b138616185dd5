import Derived.Test.YtgncohclofdhmabWkv
namespace Go.Proofs.Ytgncohclofdhmab
open Go.RowKit

/-! A file more and then dropped, another body and then the first one again: plain mathematics. -/

/-- Building entries that may be, in whatever order, gives the package of them sorted. -/
theorem ans_perm {fs : List Ent} {L : List (List UInt8 × List UInt8)} {key : ByteArray} {al : Nat} {pk : Bool} {B : Nat} {w : World} {v : Value} {E : Nat} {q : ByteArray} (hp : (pairsOf fs).Perm L) (hg : GoodL L al) (hk : keyB key.size = true) (hs : (madeOf key.data.toList pk al L).length ≤ 4000)
    (h : BuildAns fs key (al : Int) pk B w v E q) : E = 0 ∧ q = ByteArray.empty ∧ Own B w v (madeOf key.data.toList pk al L) := by
  obtain ⟨es, rfl⟩ : ∃ es, pairsOf es = L := by
    refine ⟨L.map fun x => ⟨⟨x.1.toArray⟩, none, x.2, 0⟩, ?_⟩
    unfold pairsOf pairOf
    rw [List.map_map]
    conv => rhs; rw [← List.map_id L]
    apply List.map_congr_left
    intro x _
    rfl
  obtain ⟨g, hT, ht⟩ := turned_of_perm hp
  have hn : faultsOf es key (al : Int) = [] := hg.faults hk
  have hno : faultsOf fs key (al : Int) = [] := by
    apply List.eq_nil_iff_forall_not_mem.2
    intro f hm
    rw [faults_turn hT ht key (al : Int) f, hn] at hm
    cases hm
  rcases h with ⟨h1, _⟩ | ⟨_, jx, k2, k3, k4⟩
  · exact absurd hno h1
  · rw [ht.1] at k2 k3
    have k2' : Chosen (fun i => (es.getD i noEnt).path.data.toList) es.length (jx.map g) := k2.turn hT (fun j hj => by rw [(ht.2 j hj).1]) k3
    have e : List.range es.length = jx.map g := by
      refine hg.chosen.only k2' (by simp) (by rw [List.length_map]; exact k3) ?_
      intro i j hi hj he
      by_cases hij : i = j
      · exact hij
      · exact absurd (ByteArray.ext (Array.toList_inj.1 he)) (fltAll_nil_ne hn j i hj hi hij)
    have hpairs : pairsOf (jx.map fun i => fs.getD i noEnt) = pairsOf es := by
      conv => rhs; rw [← range_map es, e]
      unfold pairsOf
      rw [List.map_map, List.map_map, List.map_map]
      apply List.map_congr_left
      intro i hi
      simp only [Function.comp, pairOf]
      rw [(ht.2 i (k2.lt i hi)).1, (ht.2 i (k2.lt i hi)).2]
    rw [hpairs, Int.toNat_natCast] at k4
    rcases k4 with ⟨h5, _⟩ | ⟨_, h6, h7, h8⟩
    · omega
    · exact ⟨h7, h8, h6⟩

theorem repl_pack {key : ByteArray} {p : List UInt8} {xp : ByteArray} {xb : List UInt8} {L L1 : List (List UInt8 × List UInt8)} {al : Nat} {pk : Bool} {B : Nat} {w : World} {v : Value} {E : Nat} {q : ByteArray} (h : ReplAns key p xp xb B w v E q) (hI : IsPack key.data.toList p L al pk) (h0 : verHead key.data.toList p = 0) (hk : keyB key.size = true)
    (hp : (keepL xp.data.toList L ++ [(xp.data.toList, xb)]).Perm L1) (hg : GoodL L1 al) (hs : (madeOf key.data.toList pk al L1).length ≤ 4000) : E = 0 ∧ q = ByteArray.empty ∧ Own B w v (madeOf key.data.toList pk al L1) := by
  rcases h with ⟨h1, _⟩ | ⟨_, h2, _⟩ | ⟨_, l, al', pk', h2, fs, h3, h4⟩
  · exact absurd h0 h1
  · exact absurd ⟨_, _, _, hI⟩ h2
  · obtain ⟨e1, e2, e3⟩ := hI.only h2
    subst e1 e2 e3
    exact ans_perm (h3.trans hp) hg hk hs h4

theorem drop_pack {key path : ByteArray} {p : List UInt8} {L L1 : List (List UInt8 × List UInt8)} {al : Nat} {pk : Bool} {B : Nat} {w : World} {v : Value} {E : Nat} (h : DropAns key path p B w v E) (hI : IsPack key.data.toList p L al pk) (h0 : verHead key.data.toList p = 0) (hk : keyB key.size = true)
    (hl : L1.length < L.length) (hp : keepL path.data.toList L = L1) (hg : GoodL L1 al) (hs : (madeOf key.data.toList pk al L1).length ≤ 4000) : E = 0 ∧ Own B w v (madeOf key.data.toList pk al L1) := by
  rcases h with ⟨h1, _⟩ | ⟨_, h2, _⟩ | ⟨_, l, al', pk', h2, h3⟩
  · exact absurd h0 h1
  · exact absurd ⟨_, _, _, hI⟩ h2
  · obtain ⟨e1, e2, e3⟩ := hI.only h2
    subst e1 e2 e3
    rw [hp] at h3
    rcases h3 with ⟨h4, _⟩ | ⟨_, fs, q, h4, h5⟩
    · exact absurd hl h4
    · obtain ⟨e1, _, e3⟩ := ans_perm h4 hg hk hs h5
      exact ⟨e1, e3⟩

theorem find_packL {L : List (List UInt8 × List UInt8)} {key path : ByteArray} {p b : List UInt8} {al : Nat} {pk : Bool} {B : Nat} {w : World} {v : Value} {E : Nat} (h : FindAns key path p B w v E) (hI : IsPack key.data.toList p L al pk) (h0 : verHead key.data.toList p = 0) (hm : (path.data.toList, b) ∈ L) :
    E = 0 ∧ Own B w v b := by
  rcases h with ⟨h1, _⟩ | ⟨_, h2, _⟩ | ⟨_, l, al', pk', h2, h3⟩
  · exact absurd h0 h1
  · exact absurd ⟨_, _, _, hI⟩ h2
  · obtain ⟨e1, e2, e3⟩ := hI.only h2
    subst e1
    rcases h3 with ⟨h4, _⟩ | ⟨b', h4, h5, h6⟩
    · exact absurd rfl (h4 _ hm)
    · have e := hI.good.one hm h4
      rw [e]
      exact ⟨h6, h5⟩

theorem split_at {n : List UInt8} : ∀ {l : List (List UInt8 × List UInt8)}, l.Pairwise (fun x y => lexB x.1 y.1 = true) → l = l.filter (fun x => lexB x.1 n) ++ l.filter (fun x => !lexB x.1 n)
  | [], _ => rfl
  | x :: r, h => by
    rw [List.pairwise_cons] at h
    have ih := split_at (n := n) h.2
    by_cases hx : lexB x.1 n = true
    · have e1 : (x :: r).filter (fun x => lexB x.1 n) = x :: r.filter (fun x => lexB x.1 n) := List.filter_cons_of_pos hx
      have e2 : (x :: r).filter (fun x => !lexB x.1 n) = r.filter (fun x => !lexB x.1 n) := List.filter_cons_of_neg (by simp [hx])
      rw [e1, e2, List.cons_append, ← ih]
    · have hx' : lexB x.1 n = false := by simpa using hx
      have hr : ∀ y, y ∈ r → lexB y.1 n = false := fun y hy => lexB_trans hx' (lexB_asymm _ _ (h.1 y hy))
      have e1 : r.filter (fun x => lexB x.1 n) = [] := List.filter_eq_nil_iff.2 fun y hy => by simp [hr y hy]
      have e2 : r.filter (fun x => !lexB x.1 n) = r := List.filter_eq_self.2 fun y hy => by simp [hr y hy]
      have e3 : (x :: r).filter (fun x => lexB x.1 n) = r.filter (fun x => lexB x.1 n) := List.filter_cons_of_neg (by simp [hx'])
      have e4 : (x :: r).filter (fun x => !lexB x.1 n) = x :: r.filter (fun x => !lexB x.1 n) := List.filter_cons_of_pos (by simp [hx'])
      rw [e3, e4, e1, e2, List.nil_append]

def newP : ByteArray := ⟨#[110, 101, 119]⟩

theorem six_new : ∀ p, p ∈ sixPaths → (cond (lexB p.data.toList newP.data.toList) (!underB newP.data.toList p.data.toList) (lexB newP.data.toList p.data.toList && !underB p.data.toList newP.data.toList)) = true := by decide +kernel

theorem six_ne : ∀ p, p ∈ sixPaths → p.data.toList ≠ newP.data.toList := by decide +kernel

theorem new_path : pathB newP.data.toList = true := by decide +kernel

/-- With the new file. -/
def withNew (L : List (List UInt8 × List UInt8)) (b : List UInt8) : List (List UInt8 × List UInt8) := L.filter (fun x => lexB x.1 newP.data.toList) ++ (newP.data.toList, b) :: L.filter (fun x => !lexB x.1 newP.data.toList)

theorem keepL_none {q : List UInt8} {L : List (List UInt8 × List UInt8)} (h : ∀ x, x ∈ L → x.1 ≠ q) : keepL q L = L := List.filter_eq_self.2 fun x hx => by simpa using h x hx

/-- How many bytes an entry has, at the most. -/
def wt (x : List UInt8 × List UInt8) : Nat := 22 + x.1.length + x.2.length

theorem entOf_wt (pk : Bool) (al n : Nat) (p b : List UInt8) (hal : 1 ≤ al) (hal2 : al ≤ 16) : (entOf pk al n p b).length ≤ wt (p, b) := by
  have h1 := laidOf_le pk b
  have h2 := entPad_lt pk al n p b hal hal2
  rw [entOf_len]
  unfold wt
  simp only
  omega

theorem bodyOf_wt (pk : Bool) (al : Nat) (hal : 1 ≤ al) (hal2 : al ≤ 16) : ∀ (l : List (List UInt8 × List UInt8)) (out : List UInt8), (bodyOf pk al out l).length ≤ out.length + (l.map wt).sum
  | [], out => by simp [bodyOf]
  | x :: r, out => by
    rw [bodyOf]
    have h1 := bodyOf_wt pk al hal hal2 r (out ++ entOf pk al out.length x.1 x.2)
    have h2 := entOf_wt pk al out.length x.1 x.2 hal hal2
    have e : wt (x.1, x.2) = wt x := rfl
    rw [e] at h2
    rw [List.length_append] at h1
    simp only [List.map_cons, List.sum_cons]
    omega

theorem made_wt (key : List UInt8) (pk : Bool) (al : Nat) (hal : 1 ≤ al) (hal2 : al ≤ 16) (l : List (List UInt8 × List UInt8)) : (madeOf key pk al l).length ≤ 13 + 4 * l.length + (l.map wt).sum := by
  have h1 := bodyOf_wt pk al hal hal2 l (headBytes pk al l.length)
  have h2 := sumsOf_length l
  simp only [madeOf, tagged, summed, plainOf, List.length_append]
  simp only [fourOf, List.length_cons, List.length_nil]
  rw [h2]
  simp only [headBytes, List.length_cons, List.length_nil] at h1 ⊢
  omega

theorem wt_sum {k : Nat} : ∀ {l : List (List UInt8 × List UInt8)}, (∀ x, x ∈ l → wt x ≤ k) → (l.map wt).sum ≤ k * l.length
  | [], _ => by simp
  | x :: r, h => by
    have h1 := wt_sum (l := r) fun y hy => h y (List.mem_cons_of_mem _ hy)
    have h2 := h x (by simp)
    simp only [List.map_cons, List.sum_cons, List.length_cons, Nat.mul_succ]
    omega

theorem Filed.split {fs : List Ent} (h : Filed fs) : pairsOf fs = (pairsOf fs).filter (fun x => lexB x.1 newP.data.toList) ++ (pairsOf fs).filter (fun x => !lexB x.1 newP.data.toList) :=
  split_at ((h.goodL (al := 1) (by omega) (by omega)).apart.imp fun h => h.1)

theorem Filed.mem {fs : List Ent} (h : Filed fs) {x : List UInt8 × List UInt8} (hx : x ∈ pairsOf fs) : ∃ p, p ∈ sixPaths ∧ x.1 = p.data.toList := by
  obtain ⟨e, he, rfl⟩ := List.mem_map.1 hx
  exact ⟨e.path, h.sub.subset (List.mem_map.2 ⟨e, he, rfl⟩), rfl⟩

theorem Filed.newGood {fs : List Ent} (h : Filed fs) {al : Nat} (ha : 1 ≤ al) (ha2 : al ≤ 16) {b : List UInt8} (hb : b.length ≤ 600) : GoodL (withNew (pairsOf fs) b) al := by
  have hg := h.goodL ha ha2
  have hs := h.split
  have hmem : ∀ x, x ∈ withNew (pairsOf fs) b → x = (newP.data.toList, b) ∨ x ∈ pairsOf fs := by
    intro x hx
    unfold withNew at hx
    rw [List.mem_append, List.mem_cons] at hx
    rcases hx with hx | hx | hx
    · exact .inr (List.mem_filter.1 hx).1
    · exact .inl hx
    · exact .inr (List.mem_filter.1 hx).1
  have hlen : (withNew (pairsOf fs) b).length = (pairsOf fs).length + 1 := by
    conv => rhs; rw [hs]
    unfold withNew
    simp only [List.length_append, List.length_cons]
    omega
  have hap := hg.apart
  rw [hs, List.pairwise_append] at hap
  obtain ⟨a1, a2, a3⟩ := hap
  refine ⟨by rw [hlen, pairs_size]; have := h.len; omega, ?_, ?_, ?_, ha, ha2⟩
  · intro x hx
    rcases hmem x hx with rfl | hx
    · exact new_path
    · exact hg.path x hx
  · intro x hx
    rcases hmem x hx with rfl | hx
    · exact hb
    · exact hg.body x hx
  · unfold withNew
    rw [List.pairwise_append, List.pairwise_cons]
    refine ⟨a1, ⟨?_, a2⟩, ?_⟩
    · intro y hy
      obtain ⟨hy1, hy2⟩ := List.mem_filter.1 hy
      obtain ⟨p, hp, e⟩ := h.mem hy1
      have h6 := six_new p hp
      rw [e] at hy2 ⊢
      have hf : lexB p.data.toList newP.data.toList = false := by simpa using hy2
      rw [hf, cond_false, Bool.and_eq_true] at h6
      exact ⟨h6.1, by simpa using h6.2⟩
    · intro x hx y hy
      rcases List.mem_cons.1 hy with rfl | hy
      · obtain ⟨hx1, hx2⟩ := List.mem_filter.1 hx
        obtain ⟨p, hp, e⟩ := h.mem hx1
        have h6 := six_new p hp
        rw [e] at hx2 ⊢
        rw [hx2, cond_true] at h6
        exact ⟨hx2, by simpa using h6⟩
      · exact a3 x hx y hy

theorem Filed.wts {fs : List Ent} (h : Filed fs) : ((pairsOf fs).map wt).sum ≤ 628 * 6 ∧ (pairsOf fs).length ≤ 6 := by
  have hl : (pairsOf fs).length ≤ 6 := by rw [pairs_size]; exact h.len
  have h1 : ((pairsOf fs).map wt).sum ≤ 628 * (pairsOf fs).length := wt_sum (by
    intro x hx
    obtain ⟨e, he, rfl⟩ := List.mem_map.1 hx
    have h2 := h.path e he
    have h3 := h.body e he
    have h4 : (pairOf e).1.length = e.path.size := by simp [pairOf]
    have h5 : (pairOf e).2 = e.body := rfl
    unfold wt
    rw [h4, h5]
    omega)
  exact ⟨Nat.le_trans h1 (Nat.mul_le_mul_left _ hl), hl⟩

theorem Filed.newShort {fs : List Ent} (h : Filed fs) (key : List UInt8) (pk : Bool) {al : Nat} (ha : 1 ≤ al) (ha2 : al ≤ 16) {b : List UInt8} (hb : b.length ≤ 150) : (madeOf key pk al (withNew (pairsOf fs) b)).length ≤ 4000 := by
  refine Nat.le_trans (made_wt key pk al ha ha2 _) ?_
  obtain ⟨h1, h2⟩ := h.wts
  rw [h.split] at h1 h2
  unfold withNew
  simp only [List.length_append, List.map_append, List.sum_append, List.length_cons, List.map_cons, List.sum_cons] at h1 h2 ⊢
  have h3 : wt (newP.data.toList, b) ≤ 175 := by
    unfold wt newP
    simp
    omega
  omega

theorem Filed.newPerm {fs : List Ent} (h : Filed fs) (b : List UInt8) : (keepL newP.data.toList (pairsOf fs) ++ [(newP.data.toList, b)]).Perm (withNew (pairsOf fs) b) := by
  rw [keepL_none fun x hx => by
    obtain ⟨p, hp, e⟩ := h.mem hx
    rw [e]
    exact six_ne p hp]
  conv => lhs; rw [h.split]
  unfold withNew
  rw [List.append_assoc]
  exact List.Perm.append_left _ (List.perm_append_comm (l₂ := [(newP.data.toList, b)]))

theorem Filed.newKeep {fs : List Ent} (h : Filed fs) (b : List UInt8) : keepL newP.data.toList (withNew (pairsOf fs) b) = pairsOf fs := by
  have hn : keepL newP.data.toList (pairsOf fs) = pairsOf fs := keepL_none fun x hx => by
    obtain ⟨p, hp, e⟩ := h.mem hx
    rw [e]
    exact six_ne p hp
  have hs := h.split
  conv => rhs; rw [← hn, hs]
  unfold withNew keepL
  rw [List.filter_append, List.filter_append, List.filter_cons_of_neg (by simp)]

theorem new_mem (L : List (List UInt8 × List UInt8)) (b : List UInt8) : (newP.data.toList, b) ∈ withNew L b := by
  unfold withNew
  simp

theorem Filed.newLen {fs : List Ent} (h : Filed fs) (b : List UInt8) : (pairsOf fs).length < (withNew (pairsOf fs) b).length := by
  conv => lhs; rw [h.split]
  unfold withNew
  simp only [List.length_append, List.length_cons]
  omega

/-- With another body. -/
def withBody (L : List (List UInt8 × List UInt8)) (q b : List UInt8) : List (List UInt8 × List UInt8) := L.map fun x => if x.1 = q then (x.1, b) else x

theorem withBody_fst (q b : List UInt8) (x : List UInt8 × List UInt8) : (if x.1 = q then (x.1, b) else x).1 = x.1 := by split <;> rfl

theorem GoodL.other {L : List (List UInt8 × List UInt8)} {al : Nat} (h : GoodL L al) (q : List UInt8) {b : List UInt8} (hb : b.length ≤ 600) : GoodL (withBody L q b) al := by
  refine ⟨by unfold withBody; rw [List.length_map]; exact h.len, ?_, ?_, ?_, h.lo, h.hi⟩
  · intro x hx
    obtain ⟨y, hy, rfl⟩ := List.mem_map.1 hx
    rw [withBody_fst]
    exact h.path y hy
  · intro x hx
    obtain ⟨y, hy, rfl⟩ := List.mem_map.1 hx
    split
    · exact hb
    · exact h.body y hy
  · unfold withBody
    rw [List.pairwise_map]
    refine h.apart.imp ?_
    intro x y hxy
    rw [withBody_fst, withBody_fst]
    exact hxy

theorem GoodL.firsts {L : List (List UInt8 × List UInt8)} {al : Nat} (h : GoodL L al) : L.Pairwise fun x y => x.1 ≠ y.1 := h.apart.imp fun {x y} hxy e => by
  have h1 := hxy.1
  rw [e, lexB_irrefl] at h1
  cases h1

theorem withBody_none {q b : List UInt8} {L : List (List UInt8 × List UInt8)} (h : ∀ x, x ∈ L → x.1 ≠ q) : withBody L q b = L := by
  unfold withBody
  conv => rhs; rw [← List.map_id L]
  apply List.map_congr_left
  intro x hx
  rw [if_neg (h x hx)]
  rfl

theorem withBody_perm {q b : List UInt8} : ∀ {L : List (List UInt8 × List UInt8)}, L.Pairwise (fun x y => x.1 ≠ y.1) → (∃ x, x ∈ L ∧ x.1 = q) → (keepL q L ++ [(q, b)]).Perm (withBody L q b)
  | [], _, h => by obtain ⟨x, hx, _⟩ := h; cases hx
  | x :: r, hp, h => by
    rw [List.pairwise_cons] at hp
    by_cases hx : x.1 = q
    · have hr : ∀ y, y ∈ r → y.1 ≠ q := fun y hy e => hp.1 y hy (by rw [hx, e])
      have e1 : keepL q (x :: r) = r := by
        unfold keepL
        rw [List.filter_cons_of_neg (by simp [hx])]
        exact keepL_none hr
      have e2 : withBody (x :: r) q b = (q, b) :: r := by
        have := withBody_none (b := b) hr
        unfold withBody at this ⊢
        rw [List.map_cons, if_pos hx, this, hx]
      rw [e1, e2]
      exact List.perm_append_comm (l₂ := [(q, b)])
    · have h' : ∃ y, y ∈ r ∧ y.1 = q := by
        obtain ⟨y, hy, e⟩ := h
        rcases List.mem_cons.1 hy with rfl | hy
        · exact absurd e hx
        · exact ⟨y, hy, e⟩
      have e1 : keepL q (x :: r) = x :: keepL q r := by
        unfold keepL
        rw [List.filter_cons_of_pos (by simpa using hx)]
      have e2 : withBody (x :: r) q b = x :: withBody r q b := by
        unfold withBody
        rw [List.map_cons, if_neg hx]
      rw [e1, e2]
      exact List.Perm.cons x (withBody_perm hp.2 h')

theorem withBody_keep (q b : List UInt8) (L : List (List UInt8 × List UInt8)) : keepL q (withBody L q b) = keepL q L := by
  induction L with
  | nil => rfl
  | cons x r ih =>
    unfold keepL withBody at ih ⊢
    rw [List.map_cons]
    by_cases hx : x.1 = q
    · rw [if_pos hx, List.filter_cons_of_neg (by simp [hx]), List.filter_cons_of_neg (by simp [hx]), ih]
    · rw [if_neg hx, List.filter_cons_of_pos (by simpa using hx), List.filter_cons_of_pos (by simpa using hx), ih]

theorem withBody_back {q b : List UInt8} {L : List (List UInt8 × List UInt8)} {al : Nat} (h : GoodL L al) (hm : (q, b) ∈ L) : withBody L q b = L := by
  unfold withBody
  conv => rhs; rw [← List.map_id L]
  apply List.map_congr_left
  intro x hx
  by_cases e : x.1 = q
  · rw [if_pos e]
    have : x.2 = b := h.one (q := q) (by rw [← e]; exact hx) hm
    rw [← this]
    rfl
  · rw [if_neg e]
    rfl

theorem withBody_mem {q b0 b : List UInt8} {L : List (List UInt8 × List UInt8)} (hm : (q, b0) ∈ L) : (q, b) ∈ withBody L q b := by
  refine List.mem_map.2 ⟨(q, b0), hm, ?_⟩
  simp

theorem Filed.otherShort {fs : List Ent} (h : Filed fs) (key : List UInt8) (pk : Bool) {al : Nat} (ha : 1 ≤ al) (ha2 : al ≤ 16) (q : List UInt8) {b : List UInt8} (hb : b.length ≤ 600) : (madeOf key pk al (withBody (pairsOf fs) q b)).length ≤ 4000 := by
  refine Nat.le_trans (made_wt key pk al ha ha2 _) ?_
  have hl : (withBody (pairsOf fs) q b).length ≤ 6 := by unfold withBody; rw [List.length_map]; exact h.wts.2
  have h1 : ((withBody (pairsOf fs) q b).map wt).sum ≤ 628 * (withBody (pairsOf fs) q b).length := wt_sum (by
    intro x hx
    obtain ⟨y, hy, rfl⟩ := List.mem_map.1 hx
    obtain ⟨e, he, rfl⟩ := List.mem_map.1 hy
    have h2 := h.path e he
    have h3 := h.body e he
    have h4 : (pairOf e).1.length = e.path.size := by simp [pairOf]
    have h5 : (pairOf e).2 = e.body := rfl
    unfold wt
    rw [withBody_fst, h4]
    split
    · simp only
      omega
    · rw [h5]
      omega)
  have h2 : 628 * (withBody (pairsOf fs) q b).length ≤ 628 * 6 := Nat.mul_le_mul_left _ hl
  omega

end Go.Proofs.Ytgncohclofdhmab
