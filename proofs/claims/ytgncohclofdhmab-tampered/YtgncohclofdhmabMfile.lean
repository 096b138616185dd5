import Derived.Test.YtgncohclofdhmabMall
import Derived.Test.YtgncohclofdhmabWturn
namespace Go.Proofs.Ytgncohclofdhmab

/-! Files that may be: up to six, with six given paths. -/

def sixPaths : List ByteArray := [⟨#[97]⟩, ⟨#[107, 45, 57]⟩, ⟨#[107, 47, 97, 46, 98]⟩, ⟨#[107, 47, 120, 95, 47, 48]⟩, ⟨#[107, 48]⟩, ⟨#[122, 122]⟩]

/-- Ahead of it, and neither under the other. -/
def apartB (p q : ByteArray) : Bool := lexB p.data.toList q.data.toList && !underB p.data.toList q.data.toList && !underB q.data.toList p.data.toList

theorem six_apart : sixPaths.Pairwise fun p q => apartB p q = true := by decide +kernel

theorem six_paths : ∀ p, p ∈ sixPaths → pathB p.data.toList = true ∧ p.size ≤ 6 := by decide +kernel

/-- The files of the first k paths: path and body. -/
def filesTo (bs : Nat → List UInt8) (n s : Nat) : Nat → List (ByteArray × List UInt8)
  | 0 => []
  | k + 1 => filesTo bs n s k ++ (if (k + 6 - s) % 6 < n then [(sixPaths.getD k ByteArray.empty, (bs ((k + 6 - s) % 6)).take 600)] else [])

theorem filesTo_len (bs : Nat → List UInt8) (n s k : Nat) : (filesTo bs n s k).length ≤ k := by
  induction k with
  | zero => simp [filesTo]
  | succ k ih =>
    rw [filesTo, List.length_append]
    split
    · simp; omega
    · simp; omega

theorem filesTo_sub (bs : Nat → List UInt8) (n s k : Nat) (hk : k ≤ 6) : ((filesTo bs n s k).map fun x => x.1).Sublist (sixPaths.take k) := by
  induction k with
  | zero => simp [filesTo]
  | succ k ih =>
    have hl : sixPaths.length = 6 := rfl
    have ht : sixPaths.take (k + 1) = sixPaths.take k ++ [sixPaths.getD k ByteArray.empty] := by
      rw [List.take_add_one, List.getD_eq_getElem?_getD, List.getElem?_eq_getElem (by omega)]
      rfl
    rw [filesTo, List.map_append, ht]
    split
    · exact List.Sublist.append (ih (by omega)) (List.Sublist.refl _)
    · exact List.Sublist.append (ih (by omega)) (List.nil_sublist _)

theorem filesTo_body (bs : Nat → List UInt8) (n s k : Nat) : ∀ x, x ∈ filesTo bs n s k → x.2.length ≤ 600 := by
  induction k with
  | zero => intro x hx; cases hx
  | succ k ih =>
    intro x hx
    rw [filesTo] at hx
    rcases List.mem_append.1 hx with h | h
    · exact ih x h
    · split at h
      · simp at h
        rw [h]
        simp
        omega
      · cases h

/-- Files that may be. -/
structure Filed (fs : List Ent) : Prop where
  sub : (fs.map fun f => f.path).Sublist sixPaths
  body : ∀ f, f ∈ fs → f.body.length ≤ 600

theorem Filed.of {fs : List Ent} {bs : Nat → List UInt8} {n s : Nat} (h : (fs.map fun f => (f.path, f.body)) = filesTo bs n s 6) : Filed fs := by
  constructor
  · have h1 := filesTo_sub bs n s 6 (by omega)
    rw [← h, List.map_map] at h1
    exact h1
  · intro f hf
    have : (f.path, f.body) ∈ filesTo bs n s 6 := by
      rw [← h]
      exact List.mem_map.2 ⟨f, hf, rfl⟩
    exact filesTo_body bs n s 6 _ this

theorem Filed.len {fs : List Ent} (h : Filed fs) : fs.length ≤ 6 := by
  have := h.sub.length_le
  simpa [sixPaths] using this

theorem Filed.path {fs : List Ent} (h : Filed fs) (f : Ent) (hf : f ∈ fs) : pathB f.path.data.toList = true ∧ f.path.size ≤ 6 :=
  six_paths _ (h.sub.subset (List.mem_map.2 ⟨f, hf, rfl⟩))

theorem getD_mem {fs : List Ent} {i : Nat} (hi : i < fs.length) : fs.getD i noEnt ∈ fs := by
  rw [List.getD_eq_getElem?_getD, List.getElem?_eq_getElem hi]
  exact List.getElem_mem hi

theorem Filed.apart {fs : List Ent} (h : Filed fs) (i j : Nat) (hij : i < j) (hj : j < fs.length) : apartB (fs.getD i noEnt).path (fs.getD j noEnt).path = true := by
  have h1 := List.Pairwise.sublist h.sub six_apart
  rw [List.pairwise_map] at h1
  have h2 := List.pairwise_iff_getElem.1 h1 i j (by omega) hj hij
  rw [List.getD_eq_getElem?_getD, List.getElem?_eq_getElem (by omega), List.getD_eq_getElem?_getD, List.getElem?_eq_getElem hj]
  exact h2

theorem Filed.ahead {fs : List Ent} (h : Filed fs) (i j : Nat) (hij : i < j) (hj : j < fs.length) : lexB (fs.getD i noEnt).path.data.toList (fs.getD j noEnt).path.data.toList = true := by
  have := h.apart i j hij hj
  unfold apartB at this
  rw [Bool.and_eq_true, Bool.and_eq_true] at this
  exact this.1.1

theorem Filed.unders {fs : List Ent} (h : Filed fs) (i j : Nat) (hi : i < fs.length) (hj : j < fs.length) : underB (fs.getD i noEnt).path.data.toList (fs.getD j noEnt).path.data.toList = false := by
  by_cases e : i = j
  · subst e
    cases hu : underB (fs.getD i noEnt).path.data.toList (fs.getD i noEnt).path.data.toList
    · rfl
    · have := ((underB_iff _ _).1 hu).1
      omega
  · by_cases hij : i < j
    · have := h.apart i j hij hj
      unfold apartB at this
      rw [Bool.and_eq_true, Bool.and_eq_true] at this
      simpa using this.1.2
    · have := h.apart j i (by omega) hi
      unfold apartB at this
      rw [Bool.and_eq_true, Bool.and_eq_true] at this
      simpa using this.2

theorem Filed.faults {fs : List Ent} (h : Filed fs) {key : ByteArray} {al : Int} (hk : keyB key.size = true) (ha : 1 ≤ al) (ha2 : al ≤ 16) : faultsOf fs key al = [] := by
  have hl := h.len
  apply List.eq_nil_iff_forall_not_mem.2
  intro f hf
  rcases List.mem_append.1 hf with h1 | h1
  · obtain ⟨_, h2 | h2 | h2⟩ := (fltHead_mem _ _ _ _).1 h1
    · rw [hk] at h2; simp at h2
    · omega
    · omega
  · obtain ⟨i, hi, h2⟩ := (fltFirst_mem _ _ _ _ f).1 h1
    obtain ⟨_, h3⟩ := (fltEntry_mem _ _ _ i f).1 h2
    have hm := getD_mem hi
    rcases h3 with ⟨_, h3⟩ | ⟨_, k, hk2, h3, h4⟩ | ⟨_, k, hk2, h3⟩ | ⟨_, h3⟩
    · have := (h.path _ hm).1
      rw [this] at h3
      cases h3
    · have h5 : lexB (fs.getD k noEnt).path.data.toList (fs.getD i noEnt).path.data.toList = false := by
        rw [h4]
        exact lexB_irrefl _
      by_cases hki : k < i
      · rw [h.ahead k i hki hi] at h5; cases h5
      · have h6 := h.ahead i k (by omega) hk2
        rw [h4, lexB_irrefl] at h6
        cases h6
    · have := h.unders i k hi hk2
      rw [this] at h3
      cases h3
    · have := h.body _ hm
      omega

theorem Filed.chosen {fs : List Ent} (h : Filed fs) : Chosen (fun i => (fs.getD i noEnt).path.data.toList) fs.length (List.range fs.length) := by
  refine ⟨List.nodup_range, fun j hj => List.mem_range.1 hj, ?_, ?_⟩
  · rw [List.pairwise_iff_getElem]
    intro i j hi hj hij
    rw [List.getElem_range, List.getElem_range]
    simp at hj
    exact lexB_asymm _ _ (h.ahead i j hij hj)
  · intro i _ j hj hm
    exact absurd (List.mem_range.2 hj) hm

theorem range_map (fs : List Ent) : ((List.range fs.length).map fun i => fs.getD i noEnt) = fs := by
  apply List.ext_getElem
  · simp
  · intro i h1 h2
    rw [List.getElem_map, List.getElem_range, List.getD_eq_getElem?_getD, List.getElem?_eq_getElem h2]
    rfl

theorem entOf_le6 (pk : Bool) (al n : Nat) (p b : List UInt8) (hal : 0 < al) (hal2 : al ≤ 16) (hp : p.length ≤ 6) (hb : b.length ≤ 600) : (entOf pk al n p b).length ≤ 628 := by
  have h1 := laidOf_le pk b
  have h2 : entPad pk al n p b < 16 := by
    unfold entPad
    split
    · have := padOf_lt hal (n + (entHead pk p b).length + 1); omega
    · omega
  simp [entOf, entHead, twoOf]
  omega

theorem bodyOf_le6 (pk : Bool) (al : Nat) (hal : 0 < al) (hal2 : al ≤ 16) : ∀ (l : List (List UInt8 × List UInt8)) (out : List UInt8), (∀ x, x ∈ l → x.1.length ≤ 6 ∧ x.2.length ≤ 600) → (bodyOf pk al out l).length ≤ out.length + 628 * l.length
  | [], out, _ => by simp [bodyOf]
  | x :: r, out, h => by
    rw [bodyOf]
    have h1 := bodyOf_le6 pk al hal hal2 r (out ++ entOf pk al out.length x.1 x.2) fun y hy => h y (by simp [hy])
    have h2 := entOf_le6 pk al out.length x.1 x.2 hal hal2 (h x (by simp)).1 (h x (by simp)).2
    simp at h1 ⊢
    omega

theorem Filed.short {fs : List Ent} (h : Filed fs) (key : List UInt8) (pk : Bool) (al : Nat) (ha : 1 ≤ al) (ha2 : al ≤ 16) : (madeOf key pk al (pairsOf fs)).length ≤ 4000 := by
  have hl := h.len
  have h1 := bodyOf_le6 pk al (by omega) ha2 (pairsOf fs) (headBytes pk al (pairsOf fs).length) (by
    intro x hx
    obtain ⟨e, he, rfl⟩ := List.mem_map.1 hx
    exact ⟨by rw [pairOf, strLen]; exact (h.path e he).2, h.body e he⟩)
  have h2 := sumsOf_length (pairsOf fs)
  have h3 : (pairsOf fs).length = fs.length := by simp [pairsOf]
  simp only [madeOf, tagged, summed, plainOf, List.length_append]
  simp only [fourOf, List.length_cons, List.length_nil]
  rw [h2, h3]
  rw [h3] at h1
  simp only [headBytes, List.length_cons, List.length_nil] at h1 ⊢
  omega

/-- Building files that may be, in whatever order, gives their package. -/
theorem ans_filed {g : Nat → Nat} {fs os : List Ent} {key : ByteArray} {al : Nat} {pk : Bool} {B : Nat} {w : World} {v : Value} {E : Nat} {p : ByteArray} (hf : Filed fs) (hg : Turn g fs.length) (ht : Turned g fs os) (hk : keyB key.size = true) (ha : 1 ≤ al) (ha2 : al ≤ 16)
    (h : BuildAns os key (al : Int) pk B w v E p) : E = 0 ∧ p = ByteArray.empty ∧ Own B w v (madeOf key.data.toList pk al (pairsOf fs)) := by
  have hn : faultsOf fs key (al : Int) = [] := hf.faults hk (by omega) (by omega)
  have hno : faultsOf os key (al : Int) = [] := by
    apply List.eq_nil_iff_forall_not_mem.2
    intro f hm
    rw [faults_turn hg ht key (al : Int) f, hn] at hm
    cases hm
  rcases h with ⟨h1, _⟩ | ⟨_, jx, k2, k3, k4⟩
  · exact absurd hno h1
  · rw [ht.1] at k2 k3
    have k2' : Chosen (fun i => (fs.getD i noEnt).path.data.toList) fs.length (jx.map g) := k2.turn hg (fun j hj => by rw [(ht.2 j hj).1]) k3
    have e : List.range fs.length = jx.map g := by
      refine hf.chosen.only k2' (by simp) (by rw [List.length_map]; exact k3) ?_
      intro i j hi hj he
      by_cases hij : i = j
      · exact hij
      · exact absurd (ByteArray.ext (Array.toList_inj.1 he)) (fltAll_nil_ne hn j i hj hi hij)
    have hpairs : pairsOf (jx.map fun i => os.getD i noEnt) = pairsOf fs := by
      conv => rhs; rw [← range_map fs, e]
      unfold pairsOf
      rw [List.map_map, List.map_map, List.map_map]
      apply List.map_congr_left
      intro i hi
      simp only [Function.comp, pairOf]
      rw [(ht.2 i (k2.lt i hi)).1, (ht.2 i (k2.lt i hi)).2]
    rw [hpairs, Int.toNat_natCast] at k4
    have hs := hf.short key.data.toList pk al ha ha2
    rcases k4 with ⟨h5, _⟩ | ⟨_, h6, h7, h8⟩
    · omega
    · exact ⟨h7, h8, h6⟩

theorem turn_id (n : Nat) : Turn id n := ⟨fun _ h => h, fun i h => ⟨i, h, rfl⟩, fun _ _ _ _ h => h⟩
theorem turned_id (fs : List Ent) : Turned id fs fs := ⟨rfl, fun _ _ => ⟨rfl, rfl⟩⟩

end Go.Proofs.Ytgncohclofdhmab
