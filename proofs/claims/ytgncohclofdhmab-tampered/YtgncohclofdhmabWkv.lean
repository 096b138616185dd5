import Derived.Test.YtgncohclofdhmabMfile
import Derived.Test.YtgncohclofdhmabMtm
import Derived.Test.YtgncohclofdhmabWvb
import Derived.Test.YtgncohclofdhmabWva
import Derived.Test.YtgncohclofdhmabWsame2
import Derived.Test.YtgncohclofdhmabWbd
import Derived.Deep.RegionWith
import Derived.BigRegion
import Derived.Deep.DeepCutAuto
namespace Go.Proofs.Ytgncohclofdhmab
open Go.RowKit

theorem Filed.goodL {fs : List Ent} (h : Filed fs) {al : Nat} (ha : 1 ≤ al) (ha2 : al ≤ 16) : GoodL (pairsOf fs) al := by
  refine ⟨by rw [pairs_size]; have := h.len; omega, ?_, ?_, ?_, ha, ha2⟩
  · intro x hx
    obtain ⟨e, he, rfl⟩ := List.mem_map.1 hx
    exact (h.path e he).1
  · intro x hx
    obtain ⟨e, he, rfl⟩ := List.mem_map.1 hx
    exact h.body e he
  · unfold pairsOf
    rw [List.pairwise_map]
    have h1 := List.Pairwise.sublist h.sub six_apart
    rw [List.pairwise_map] at h1
    refine h1.imp ?_
    intro x y hxy
    unfold apartB at hxy
    simp only [Bool.and_eq_true, Bool.not_eq_true'] at hxy
    exact ⟨hxy.1.1, hxy.2⟩

theorem Filed.pack {fs : List Ent} (h : Filed fs) (key : List UInt8) (pk : Bool) {al : Nat} (ha : 1 ≤ al) (ha2 : al ≤ 16) : IsPack key (madeOf key pk al (pairsOf fs)) (pairsOf fs) al pk :=
  ⟨h.goodL ha ha2, rfl, h.short key pk al ha ha2⟩

theorem made_ge (key : List UInt8) (pk : Bool) (al : Nat) (l : List (List UInt8 × List UInt8)) : 13 ≤ (madeOf key pk al l).length := by
  rw [made_end, List.length_append, plain_len]
  obtain ⟨r, hr⟩ := bodyOf_out pk al (l.take l.length) (headBytes pk al l.length)
  unfold bodyTo
  rw [hr]
  simp [fourOf, headBytes]
  omega

theorem Filed.clean {fs : List Ent} (h : Filed fs) (key : ByteArray) (pk : Bool) {al : Nat} (ha : 1 ≤ al) (ha2 : al ≤ 16) (hk : keyB key.size = true) : verHead key.data.toList (madeOf key.data.toList pk al (pairsOf fs)) = 0 :=
  (h.pack key.data.toList pk ha ha2).clean (by rw [show key.data.toList.length = key.size from by simp]; exact hk) (made_ge _ _ _ _)

/-- What Verify says of a package. -/
theorem ver_pack {fs : List Ent} {key : ByteArray} {p : List UInt8} {al : Nat} {pk : Bool} {B : Nat} {w : World} {v cfg : Value} {E : Nat} (h : VerAns key p B w v cfg E) (hI : IsPack key.data.toList p (pairsOf fs) al pk) (h0 : verHead key.data.toList p = 0) :
    E = 0 ∧ cfg = .agg #[.string key, .int .i64 (al : Nat), .bool pk] ∧ ∃ es, Alike fs es ∧ OwnE B w v es ∧ EntOwn B w es := by
  rcases h with ⟨h1, _⟩ | ⟨_, h2, _⟩ | ⟨_, es, al', pk', h2, h3, h4, h5, h6⟩
  · exact absurd h0 h1
  · exact absurd ⟨_, _, _, hI⟩ h2
  · obtain ⟨e1, e2, e3⟩ := hI.only h2
    subst e2 e3
    exact ⟨h5, h6, es, alike_of_pairs e1, h3, h4⟩

/-- What Find says of a package. -/
theorem find_pack {fs : List Ent} {key path : ByteArray} {p : List UInt8} {al : Nat} {pk : Bool} {B : Nat} {w : World} {v : Value} {E : Nat} (h : FindAns key path p B w v E) (hI : IsPack key.data.toList p (pairsOf fs) al pk) (h0 : verHead key.data.toList p = 0) {x : Ent} (hx : x ∈ fs) (hp : x.path = path) :
    E = 0 ∧ Own B w v x.body := by
  have hm : (path.data.toList, x.body) ∈ pairsOf fs := by
    rw [← hp]
    exact List.mem_map.2 ⟨x, hx, rfl⟩
  rcases h with ⟨h1, _⟩ | ⟨_, h2, _⟩ | ⟨_, l, al', pk', h2, h3⟩
  · exact absurd h0 h1
  · exact absurd ⟨_, _, _, hI⟩ h2
  · obtain ⟨e1, e2, e3⟩ := hI.only h2
    subst e1
    rcases h3 with ⟨h4, _⟩ | ⟨b, h4, h5, h6⟩
    · exact absurd rfl (h4 _ hm)
    · have e := hI.good.one hm h4
      rw [e]
      exact ⟨h6, h5⟩

theorem find_none {fs : List Ent} {key path : ByteArray} {p : List UInt8} {al : Nat} {pk : Bool} {B : Nat} {w : World} {v : Value} {E : Nat} (h : FindAns key path p B w v E) (hI : IsPack key.data.toList p (pairsOf fs) al pk) (h0 : verHead key.data.toList p = 0) (hn : ∀ x, x ∈ fs → x.path ≠ path) :
    E = 13 ∧ v = .slice none 0 0 := by
  rcases h with ⟨h1, _⟩ | ⟨_, h2, _⟩ | ⟨_, l, al', pk', h2, h3⟩
  · exact absurd h0 h1
  · exact absurd ⟨_, _, _, hI⟩ h2
  · obtain ⟨e1, e2, e3⟩ := hI.only h2
    subst e1
    rcases h3 with ⟨_, h5, h6⟩ | ⟨b, h4, _⟩
    · exact ⟨h5, h6⟩
    · obtain ⟨e, he, h7⟩ := List.mem_map.1 h4
      simp only [pairOf, Prod.mk.injEq] at h7
      exact absurd (ByteArray.ext (Array.toList_inj.1 h7.1)) (hn e he)

theorem six_no : ∀ p, p ∈ sixPaths → p ≠ ⟨#[110, 111]⟩ := by decide +kernel

theorem Filed.no {fs : List Ent} (h : Filed fs) : ∀ x, x ∈ fs → x.path ≠ ⟨#[110, 111]⟩ := fun x hx => six_no _ (h.sub.subset (List.mem_map.2 ⟨x, hx, rfl⟩))

end Go.Proofs.Ytgncohclofdhmab

namespace Go.Proofs.Ytgncohclofdhmab
open Go.RowKit

end Go.Proofs.Ytgncohclofdhmab
