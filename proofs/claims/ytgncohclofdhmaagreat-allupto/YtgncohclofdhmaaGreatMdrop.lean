import Derived.Test.YtgncohclofdhmaaGreatWvb
namespace Go.Proofs.YtgncohclofdhmaaGreat
open Go.RowKit

/-- The next multiple of al is no less where one starts later. -/
theorem padOf_mono {al n m : Nat} (hal : 0 < al) (h : n ≤ m) : n + padOf al n ≤ m + padOf al m := by
  have h1 := padOf_lt hal n
  obtain ⟨a, ha⟩ := Nat.dvd_of_mod_eq_zero (padOf_zero (n := n) hal)
  obtain ⟨b, hb⟩ := Nat.dvd_of_mod_eq_zero (padOf_zero (n := m) hal)
  rw [ha, hb]
  by_cases hab : a ≤ b
  · exact Nat.mul_le_mul_left _ hab
  · have h2 : al * (b + 1) ≤ al * a := Nat.mul_le_mul_left _ (by omega)
    rw [Nat.mul_succ] at h2
    omega

theorem ent_mono (pk : Bool) {al n m : Nat} (p b : List UInt8) (hal : 0 < al) (h : n ≤ m) : n + (entOf pk al n p b).length ≤ m + (entOf pk al m p b).length := by
  rw [entOf_len, entOf_len]
  unfold entPad
  by_cases h0 : methOf pk b = 0
  · rw [if_pos h0, if_pos h0]
    have := padOf_mono hal (n := n + (entHead pk p b).length + 1) (m := m + (entHead pk p b).length + 1) (by omega)
    omega
  · rw [if_neg h0, if_neg h0]
    omega

theorem bodyOf_sub (pk : Bool) {al : Nat} (hal : 0 < al) {l' l : List (List UInt8 × List UInt8)} (hs : l'.Sublist l) : ∀ out' out : List UInt8, out'.length ≤ out.length → (bodyOf pk al out' l').length ≤ (bodyOf pk al out l).length := by
  induction hs with
  | slnil => intro out' out h; exact h
  | cons x _ ih =>
    intro out' out h
    rw [bodyOf]
    exact ih _ _ (by rw [List.length_append]; omega)
  | cons_cons x _ ih =>
    intro out' out h
    rw [bodyOf, bodyOf]
    refine ih _ _ ?_
    rw [List.length_append, List.length_append]
    exact ent_mono pk x.1 x.2 hal h

/-- The package of fewer entries is no longer. -/
theorem made_sub (key : List UInt8) (pk : Bool) {al : Nat} (hal : 0 < al) {l' l : List (List UInt8 × List UInt8)} (hs : l'.Sublist l) : (madeOf key pk al l').length ≤ (madeOf key pk al l).length := by
  have h1 := bodyOf_sub pk hal hs (headBytes pk al l'.length) (headBytes pk al l.length) (Nat.le_refl _)
  have h2 := hs.length_le
  simp only [madeOf, tagged, summed, plainOf, List.length_append]
  simp only [fourOf, List.length_cons, List.length_nil]
  rw [sumsOf_length, sumsOf_length]
  omega

theorem GoodL.sub {l' l : List (List UInt8 × List UInt8)} {al : Nat} (h : GoodL l al) (hs : l'.Sublist l) : GoodL l' al :=
  ⟨Nat.le_trans hs.length_le h.len, fun x hx => h.path x (hs.subset hx), fun x hx => h.body x (hs.subset hx), h.apart.sublist hs, h.lo, h.hi⟩

theorem head_key {key p : List UInt8} (h : verHead key p = 0) : keyB key.length = true := by
  cases hk : keyB key.length
  · have := verHead_key (p := p) hk
    omega
  · rfl

/-- What laying the others gives is what building them gives. -/
theorem drop_lay {key path : ByteArray} {p : List UInt8} {es fs : List Ent} {al : Nat} {pk : Bool} {B : Nat} {w : World} {v : Value} (h0 : verHead key.data.toList p = 0) (hI : IsPack key.data.toList p (pairsOf es) al pk) (hf : pairsOf fs = keepL path.data.toList (pairsOf es))
    (ho : Own B w v (madeOf key.data.toList pk al (pairsOf fs))) : BuildAns fs key (al : Int) pk B w v 0 ByteArray.empty := by
  have hsub : (pairsOf fs).Sublist (pairsOf es) := by rw [hf]; exact List.filter_sublist
  have hg : GoodL (pairsOf fs) al := hI.good.sub hsub
  have hk : keyB key.size = true := by have := head_key h0; simpa using this
  have hs : (madeOf key.data.toList pk al (pairsOf fs)).length ≤ 4000 := by
    have h1 := made_sub key.data.toList pk hI.good.lo hsub
    have h2 := hI.short
    rw [hI.made] at h2
    omega
  refine .inr ⟨hg.faults hk, List.range fs.length, hg.chosen, by simp, .inr ?_⟩
  rw [range_get, Int.toNat_natCast]
  exact ⟨hs, ho, rfl, rfl⟩

end Go.Proofs.YtgncohclofdhmaaGreat
