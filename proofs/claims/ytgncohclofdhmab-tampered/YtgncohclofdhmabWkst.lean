import Derived.Test.YtgncohclofdhmabWkv
namespace Go.Proofs.Ytgncohclofdhmab
open Go.RowKit

theorem Own.block {B : Nat} {w : World} {v : Value} {xs : List UInt8} (h : Own B w v xs) (hl : 0 < xs.length) :
    ∃ g cap, v = .slice (some ⟨g, 0, none⟩) xs.length cap ∧ B ≤ g ∧ g < w.heap.size ∧ xs.length ≤ cap ∧ cap ≤ maxLen := by
  rcases h.2 with ⟨_, hn⟩ | ⟨g, cap, cur, rfl, hbg, hg, hnc, hcm, hcs, htake⟩
  · omega
  · refine ⟨g, cap, rfl, hbg, ?_, hnc, hcm⟩
    by_cases hh : g < w.heap.size
    · exact hh
    · rw [Array.getElem?_eq_none (by omega)] at hg; simp at hg

theorem Own.cellAt {B : Nat} {w : World} {xs : List UInt8} {g n cap : Nat} (h : Own B w (.slice (some ⟨g, 0, none⟩) n cap) xs) (hn : n = xs.length) (j : Nat) (hj : j < xs.length) :
    w.cell? ⟨g, j, none⟩ = some (.int .u8 ((xs.getD j 0).toNat : Int)) := by
  subst hn
  rw [World.ownsRow.cellAt h j (by omega), cells_get xs j hj]

theorem Own.frozenAt {B : Nat} {w : World} {xs : List UInt8} {g n cap : Nat} (h : Own B w (.slice (some ⟨g, 0, none⟩) n cap) xs) (hn : n = xs.length) (j : Nat) : w.frozen? ⟨g, j, none⟩ = false := by
  subst hn
  exact World.ownsRow.frozenAt h j

theorem Own.stored {B : Nat} {w : World} {xs : List UInt8} {g n cap : Nat} (h : Own B w (.slice (some ⟨g, 0, none⟩) n cap) xs) (hn : n = xs.length) (j : Nat) (u : UInt8) :
    Own B (w.setCell ⟨g, j, none⟩ (.int .u8 (u.toNat : Int))) (.slice (some ⟨g, 0, none⟩) n cap) (xs.set j u) := by
  subst hn
  have := (World.ownsRow.stored h j (.int .u8 (u.toNat : Int))).1
  unfold Own
  rw [List.length_set]
  have e : cells (xs.set j u) = (cells xs).set j (.int .u8 (u.toNat : Int)) := by unfold cells; rw [List.map_set]; rfl
  rw [e]
  exact this

theorem Own.bts {B : Nat} {w : World} {xs : List UInt8} {a : Option Addr} {n cap : Nat} (h : Own B w (.slice a n cap) xs) : Bts w a xs := by
  obtain ⟨a', c', e, hb, _, _⟩ := h.shape
  simp only [Value.slice.injEq] at e
  obtain ⟨rfl, _, _⟩ := e
  exact hb

theorem xor8 (a b : Nat) (ha : a < 256) (hb : b < 256) : bits .xor .u8 (a : Int) (b : Int) = ((a ^^^ b : Nat) : Int) := by
  have h : a ^^^ b < 2 ^ 8 := Nat.xor_lt_two_pow (by omega) (by omega)
  have ha' : a % 2 ^ IntKind.u8.bits = a := Nat.mod_eq_of_lt (by show a < 2 ^ 8; omega)
  have hb' : b % 2 ^ IntKind.u8.bits = b := Nat.mod_eq_of_lt (by show b < 2 ^ 8; omega)
  simp only [bits, BitVec.ofInt_natCast, BitVec.toNat_xor, BitVec.toNat_ofNat, ha', hb']
  rw [show IntKind.u8.wrap ((a ^^^ b : Nat) : Int) = ((a ^^^ b : Nat) : Int) % 256 from by simp [IntKind.wrap, IntKind.bits, IntKind.signed]]
  omega

/-- A byte turned. -/
def turnB (x : UInt8) (r : Nat) : UInt8 := x ^^^ UInt8.ofNat (1 + r)

theorem turnB_nat (x : UInt8) (r : Nat) (h : r < 255) : (turnB x r).toNat = x.toNat ^^^ (1 + r) := by
  unfold turnB
  rw [UInt8.toNat_xor, UInt8.toNat_ofNat']
  congr 1
  omega

theorem turnB_ne (x : UInt8) (r : Nat) (h : r < 255) : turnB x r ≠ x := by
  intro e
  have h1 := congrArg UInt8.toNat e
  rw [turnB_nat x r h] at h1
  have h2 : x.toNat ^^^ (x.toNat ^^^ (1 + r)) = x.toNat ^^^ x.toNat := by rw [h1]
  rw [← Nat.xor_assoc, Nat.xor_self, Nat.zero_xor] at h2
  omega

theorem ver_bad {key : ByteArray} {p : List UInt8} {B : Nat} {w : World} {v cfg : Value} {E : Nat} (h : VerAns key p B w v cfg E) (h0 : verHead key.data.toList p ≠ 0) : E = verHead key.data.toList p ∧ v = .slice none 0 0 ∧ cfg = .agg #[.string ⟨#[]⟩, .int .i64 0, .bool false] := by
  rcases h with ⟨_, h2, h3, h4⟩ | ⟨h1, _⟩ | ⟨h1, _⟩
  · exact ⟨h2, h3, h4⟩
  · exact absurd h1 h0
  · exact absurd h1 h0

end Go.Proofs.Ytgncohclofdhmab
