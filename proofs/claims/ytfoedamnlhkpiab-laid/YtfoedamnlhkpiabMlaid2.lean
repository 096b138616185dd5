import Derived.Test.YtfoedamnlhkpiabMlaid
namespace Go.Proofs.Ytfoedamnlhkpiab

/-! An entry's bytes, read again. -/

theorem entOf_flat (pk : Bool) (al n : Nat) (p b : List UInt8) : entOf pk al n p b = [UInt8.ofNat p.length] ++ (p ++ ([UInt8.ofNat (methOf pk b)] ++ (twoOf b.length ++ (twoOf (laidOf pk b).length ++ ([UInt8.ofNat (entPad pk al n p b)] ++ (List.replicate (entPad pk al n p b) 0 ++ laidOf pk b)))))) := by
  simp [entOf, entHead]

theorem entPad_lt (pk : Bool) (al n : Nat) (p b : List UInt8) (hal : 1 ≤ al) (hal2 : al ≤ 16) : entPad pk al n p b < 16 := by
  unfold entPad
  split
  · have := padOf_lt (al := al) (by omega) (n + (entHead pk p b).length + 1)
    omega
  · omega

theorem entOf_len (pk : Bool) (al n : Nat) (p b : List UInt8) : (entOf pk al n p b).length = 7 + p.length + entPad pk al n p b + (laidOf pk b).length := by
  rw [entOf_flat]
  simp [twoOf]
  omega

structure EntFacts (xs : List UInt8) (pk : Bool) (al n0 : Nat) (p b : List UInt8) (pd L m : Nat) : Prop where
  f1 : numAt xs n0 1 = p.length
  f2 : numAt xs (n0 + 1 + p.length) 1 = m
  f3 : numAt xs (n0 + 1 + p.length + 1) 2 = b.length
  f4 : numAt xs (n0 + 1 + p.length + 3) 2 = L
  f5 : numAt xs (n0 + 1 + p.length + 5) 1 = pd
  f6 : (xs.drop (n0 + 1)).take p.length = p
  f7 : (xs.drop (n0 + 7 + p.length + pd)).take L = laidOf pk b
  f8 : ∀ j, j < pd → xs.getD (n0 + 7 + p.length + j) 0 = 0
  f9 : n0 + 7 + p.length + pd + L ≤ xs.length
  f10 : m = 0 → (n0 + 7 + p.length + pd) % al = 0 ∧ pd < al ∧ laidOf pk b = b
  f11 : m ≠ 0 → m = 1 ∧ pk = true ∧ pd = 0 ∧ laidOf pk b = packOf b ∧ L < b.length
  f12 : L = (laidOf pk b).length

theorem entry_facts {xs pre post : List UInt8} {pk : Bool} {al : Nat} {p b : List UInt8} (hx : xs = pre ++ (entOf pk al pre.length p b ++ post)) (hp : p.length ≤ 255) (hb : b.length ≤ 600) (hal : 1 ≤ al) (hal2 : al ≤ 16) :
    EntFacts xs pk al pre.length p b (entPad pk al pre.length p b) (laidOf pk b).length (methOf pk b) := by
  have hpad := entPad_lt pk al pre.length p b hal hal2
  have hlaid := laidOf_le pk b
  have hmeth : methOf pk b ≤ 1 := by unfold methOf; split <;> omega
  have hpz : methOf pk b = 0 → entPad pk al pre.length p b = padOf al (pre.length + 7 + p.length) := by
    intro h
    unfold entPad
    rw [if_pos h]
    congr 1
    simp [entHead, twoOf]
    omega
  have hl : (entOf pk al pre.length p b).length = 7 + p.length + entPad pk al pre.length p b + (laidOf pk b).length := entOf_len _ _ _ _ _
  have hpd0 : methOf pk b ≠ 0 → entPad pk al pre.length p b = 0 := by
    intro h
    unfold entPad
    rw [if_neg h]
  rw [entOf_flat] at hx
  generalize entPad pk al pre.length p b = pd at *
  have hm10 : methOf pk b = 0 → laidOf pk b = b := by
    unfold methOf laidOf
    intro h
    split at h
    · omega
    · rename_i h2; rw [if_neg h2]
  have hm11 : methOf pk b ≠ 0 → methOf pk b = 1 ∧ pk = true ∧ laidOf pk b = packOf b ∧ (laidOf pk b).length < b.length := by
    intro h
    have h1 : (pk && decide ((packOf b).length < b.length)) = true := by
      cases hc : (pk && decide ((packOf b).length < b.length))
      · unfold methOf at h; rw [hc] at h; simp at h
      · rfl
    have h2 : laidOf pk b = packOf b := by unfold laidOf; rw [if_pos h1]
    rw [Bool.and_eq_true, decide_eq_true_eq] at h1
    exact ⟨by omega, h1.1, h2, by rw [h2]; exact h1.2⟩
  refine ⟨?_, ?_, ?_, ?_, ?_, ?_, ?_, ?_, ?_, ?_, ?_, rfl⟩
  · exact numAt_at (pre := pre) hx rfl (by simp) (numAt_one _ (by omega))
  · refine numAt_at (pre := pre ++ ([UInt8.ofNat p.length] ++ p)) (ys := [UInt8.ofNat (methOf pk b)]) (post := twoOf b.length ++ (twoOf (laidOf pk b).length ++ ([UInt8.ofNat pd] ++ (List.replicate pd 0 ++ laidOf pk b))) ++ post) ?_ (by simp; omega) (by simp) (numAt_one _ (by omega))
    rw [hx]
    simp
  · refine numAt_at (pre := pre ++ ([UInt8.ofNat p.length] ++ (p ++ [UInt8.ofNat (methOf pk b)]))) (ys := twoOf b.length) (post := (twoOf (laidOf pk b).length ++ ([UInt8.ofNat pd] ++ (List.replicate pd 0 ++ laidOf pk b))) ++ post) ?_ (by simp; omega) (by simp [twoOf]) (numAt_two _ (by omega))
    rw [hx]
    simp
  · refine numAt_at (pre := pre ++ ([UInt8.ofNat p.length] ++ (p ++ ([UInt8.ofNat (methOf pk b)] ++ twoOf b.length)))) (ys := twoOf (laidOf pk b).length) (post := ([UInt8.ofNat pd] ++ (List.replicate pd 0 ++ laidOf pk b)) ++ post) ?_ (by simp [twoOf]; omega) (by simp [twoOf]) (numAt_two _ (by omega))
    rw [hx]
    simp
  · refine numAt_at (pre := pre ++ ([UInt8.ofNat p.length] ++ (p ++ ([UInt8.ofNat (methOf pk b)] ++ (twoOf b.length ++ twoOf (laidOf pk b).length))))) (ys := [UInt8.ofNat pd]) (post := (List.replicate pd 0 ++ laidOf pk b) ++ post) ?_ (by simp [twoOf]; omega) (by simp) (numAt_one _ (by omega))
    rw [hx]
    simp
  · have e : xs = (pre ++ [UInt8.ofNat p.length]) ++ (p ++ ([UInt8.ofNat (methOf pk b)] ++ (twoOf b.length ++ (twoOf (laidOf pk b).length ++ ([UInt8.ofNat pd] ++ (List.replicate pd 0 ++ laidOf pk b)))) ++ post)) := by
      rw [hx]
      simp
    rw [e, show pre.length + 1 = (pre ++ [UInt8.ofNat p.length]).length from by simp, List.drop_left, List.take_left]
  · have e : xs = (pre ++ ([UInt8.ofNat p.length] ++ (p ++ ([UInt8.ofNat (methOf pk b)] ++ (twoOf b.length ++ (twoOf (laidOf pk b).length ++ ([UInt8.ofNat pd] ++ List.replicate pd 0))))))) ++ (laidOf pk b ++ post) := by
      rw [hx]
      simp
    have e2 : pre.length + 7 + p.length + pd = (pre ++ ([UInt8.ofNat p.length] ++ (p ++ ([UInt8.ofNat (methOf pk b)] ++ (twoOf b.length ++ (twoOf (laidOf pk b).length ++ ([UInt8.ofNat pd] ++ List.replicate pd 0))))))).length := by
      simp [twoOf]
      omega
    rw [e2, e, List.drop_left, List.take_left]
  · intro j hj
    have e : xs = (pre ++ ([UInt8.ofNat p.length] ++ (p ++ ([UInt8.ofNat (methOf pk b)] ++ (twoOf b.length ++ (twoOf (laidOf pk b).length ++ [UInt8.ofNat pd])))))) ++ (List.replicate pd 0 ++ (laidOf pk b ++ post)) := by
      rw [hx]
      simp
    have e2 : pre.length + 7 + p.length = (pre ++ ([UInt8.ofNat p.length] ++ (p ++ ([UInt8.ofNat (methOf pk b)] ++ (twoOf b.length ++ (twoOf (laidOf pk b).length ++ [UInt8.ofNat pd])))))).length := by
      simp [twoOf]
      omega
    rw [e2, e, getD_mid _ _ _ j (by simpa using hj)]
    simp [hj]
  · rw [hx]
    simp [twoOf]
    omega
  · intro h
    have h1 := hpz h
    have h2 := padOf_zero (al := al) (n := pre.length + 7 + p.length) (by omega)
    have h3 := padOf_lt (al := al) (by omega) (pre.length + 7 + p.length)
    rw [← h1] at h2 h3
    exact ⟨h2, h3, hm10 h⟩
  · intro h
    obtain ⟨h1, h2, h3, h4⟩ := hm11 h
    exact ⟨h1, h2, hpd0 h, h3, h4⟩

end Go.Proofs.Ytfoedamnlhkpiab
