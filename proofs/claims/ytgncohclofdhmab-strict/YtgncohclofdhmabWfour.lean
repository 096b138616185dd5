import Derived.Test.YtgncohclofdhmabWkst
namespace Go.Proofs.Ytgncohclofdhmab
open Go.RowKit

/-- A number, laid into four bytes from a place on, from the last on. -/
def fourTo (T : List UInt8) (k0 v : Nat) : Nat → List UInt8
  | 0 => T
  | k + 1 => (fourTo T k0 v k).set (k0 + (3 - k)) (UInt8.ofNat (v / 256 ^ k % 256))

theorem fourTo_len (T : List UInt8) (k0 v : Nat) : ∀ k, (fourTo T k0 v k).length = T.length
  | 0 => rfl
  | k + 1 => by rw [fourTo, List.length_set, fourTo_len T k0 v k]

theorem ofNat_mod (n : Nat) : UInt8.ofNat (n % 256) = UInt8.ofNat n := by
  apply UInt8.toNat_inj.1
  rw [UInt8.toNat_ofNat', UInt8.toNat_ofNat']
  omega

def putFour (T : List UInt8) (k0 v : Nat) : List UInt8 := T.take k0 ++ (fourOf v ++ T.drop (k0 + 4))

theorem fourTo_all (T : List UInt8) (k0 v : Nat) (h : k0 + 4 ≤ T.length) : fourTo T k0 v 4 = putFour T k0 v := by
  have e : ∃ a b c d r, T.drop k0 = a :: b :: c :: d :: r := by
    have hl : 4 ≤ (T.drop k0).length := by rw [List.length_drop]; omega
    match hT : T.drop k0, hl with
    | a :: b :: c :: d :: r, _ => exact ⟨a, b, c, d, r, rfl⟩
  obtain ⟨a, b, c, d, r, hr⟩ := e
  have h2 : T.drop (k0 + 4) = r := by
    rw [← List.drop_drop, hr]
    rfl
  have hp : (T.take k0).length = k0 := by rw [List.length_take]; omega
  unfold putFour
  rw [h2]
  have hT : T = T.take k0 ++ (a :: b :: c :: d :: r) := by rw [← hr, List.take_append_drop]
  simp only [fourTo, ofNat_mod]
  conv => lhs; rw [hT]
  generalize T.take k0 = P at *
  subst hp
  simp [fourOf]

theorem putFour_len (T : List UInt8) (k0 v : Nat) (h : k0 + 4 ≤ T.length) : (putFour T k0 v).length = T.length := by rw [← fourTo_all T k0 v h, fourTo_len]

set_option maxRecDepth 100000 in
set_option maxHeartbeats 1000000 in
theorem four_any (B g : Nat) (T : List UInt8) (n cap : Nat) (w : World) (k0 v0 : Nat) (hn : n = T.length) (hk : k0 + 4 ≤ T.length) (hl : T.length ≤ 4000) (hv : v0 < 4294967296) (ho : Own B w (.slice (some ⟨g, 0, none⟩) n cap) T) :
    Calls Try.prog 16 #[.slice (some ⟨g, 0, none⟩) n cap, .int .i64 k0, .int .i64 v0] w fun e w' => (∃ u, e = .returned u) ∧ Own B w' (.slice (some ⟨g, 0, none⟩) n cap) (putFour T k0 v0) ∧ Below g w w' := by
  have HL := hide (fourTo_len T k0 v0)
  have HA := hide (fourTo_all T k0 v0 hk)
  have HN := hide hn
  have hk2 : k0 + 4 ≤ n := by omega
  have hn2 : n ≤ 4000 := by omega
  clear hn
  go_enter Try.func16, Try.ntmps16
  go_wp2
  go_loopw [2, 6] (fun v i wr => ∃ (k q : Nat) (z : Int), k ≤ 4 ∧ z = 3 - (k : Int) ∧ i = .int .i64 z ∧ v = .int .i64 (q : Int) ∧ Hid (q = v0 / 256 ^ k) ∧ q < 4294967296 ∧ Own B wr (.slice (some ⟨g, 0, none⟩) n cap) (fourTo T k0 v0 k) ∧ Below g w wr) (fun _ i _ => (intOf i + 1).toNat)
  case atStart => exact ⟨0, v0, 3, by omega, by omega, rfl, rfl, by simp [Hid], hv, ho, Below.refl _ _⟩
  case round =>
    obtain ⟨k, q, z, hk4, hz, rfl, rfl, HQ, hq, hO, hbl⟩ := hrel
    by_cases hlt : k < 4
    · obtain ⟨j, rfl⟩ : ∃ j : Nat, z = (j : Int) := ⟨3 - k, by omega⟩
      have HJ : Hid (j = 3 - k) := by show _ = _; omega
      have hj3 : j ≤ 3 := by omega
      clear hz
      have cI := hO.cellAt (by rw [HL.out]; exact HN.out) (k0 + j) (by rw [HL.out]; omega)
      have fI := hO.frozenAt (by rw [HL.out]; exact HN.out) (k0 + j)
      have HS := hide (hO.stored (by rw [HL.out]; exact HN.out) (k0 + j) (UInt8.ofNat (v0 / 256 ^ k % 256)))
      have HF : Hid (fourTo T k0 v0 (k + 1) = (fourTo T k0 v0 k).set (k0 + j) (UInt8.ofNat (v0 / 256 ^ k % 256))) := by show _ = _; rw [fourTo, HJ.out]
      rw [← HF.out, ← HQ.out] at HS
      have hy : ((UInt8.ofNat (q % 256)).toNat : Int) = (q : Int) % 256 := by
        rw [UInt8.toNat_ofNat']
        omega
      rw [hy] at HS
      have HQ2 : Hid (q / 256 = v0 / 256 ^ (k + 1)) := by show _ = _; rw [HQ.out, Nat.div_div_eq_div_mul, Nat.pow_succ]
      have hb2 := hbl.setCell (p := ⟨g, k0 + j, none⟩) (Nat.le_refl _) (.int .u8 ((q : Int) % 256))
      clear hO hy hbl HF
      have hji : (k0 : Int) + (j : Int) < (n : Int) := by omega
      go_wp2
      go_roundw
      case rel => exact ⟨k + 1, q / 256, (j : Int) - 1, by omega, by have := HJ.out; omega, by go_num, by go_num, HQ2, by omega, HS.out, hb2⟩
      case measure => simp [intOf]
    · obtain rfl : k = 4 := by omega
      subst hz
      have HS := hide hO
      rw [HA.out] at HS
      clear hO
      go_wp2
      refine bodyPost_end (v := ?_) ?_ rfl ⟨⟨_, rfl⟩, HS.out, hbl⟩
      rotate_left
      · simp only [results]
        simp
        rfl

end Go.Proofs.Ytgncohclofdhmab
