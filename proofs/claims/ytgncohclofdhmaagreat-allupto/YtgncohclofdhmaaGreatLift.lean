import Derived.Test.YtgncohclofdhmaaGreatRows
import Derived.Test.YtgncohclofdhmaaGreatWsum
import Derived.ProofKit
import Derived.OpenShut
import Derived.ShutString
import Derived.ChangeOld
import Derived.SizedLaws
namespace Go.Proofs.YtgncohclofdhmaaGreat
open Go.ChangeShapes Go.WideShapes Go.ChangeAt Go.RowKit
open Go.ChangeMaps (open_string shut_string)

theorem own : ownKnob Tryz.prog.godebug = none := by kernel_rfl
theorem laidOut : laidOutB Tryz.prog = true := by kernel_rfl
theorem Tryz.bytes5 : Tryz.prog.bytesOf 5 = 1 := by kernel_rfl

def toByte (z : Int) : UInt8 := UInt8.ofNat z.toNat

theorem toByte_nat {z : Int} (h : (Lit.int .u8 z).wf = true) : ((toByte z).toNat : Int) = z := by
  have hb := bounds_u8 h
  unfold toByte
  rw [UInt8.toNat_ofNat']
  omega

/-- A list of bytes that came in. -/
theorem open_bytes {H : Type} {enc : TypeId × Value → H} {W : World} {a : Option Addr} {len cap : Nat} {d : DataW H} {p : List MemPlace}
    (h : DataW.Trod enc Tryz.prog W 0 (fun _ => true) true 29 (.slice a len cap) d p) :
    ∃ xs : List UInt8, xs.length = len ∧ Bts W a xs ∧ (len = 0 ∨ ∃ elems spare, d = .slice elems spare ∧ len ≤ elems.length) := by
  obtain ⟨fuel, hf⟩ := h
  rcases open_ints Tryz.underlying29 Tryz.underlying5 (by kernel_rfl) hf with ⟨hcs, _⟩ | ⟨x, l, c, zs, hcs, _, hl, hm, hz, hx, hcell, hwz⟩
  · simp [Value.cells] at hcs
    obtain ⟨rfl, rfl, rfl⟩ := hcs
    exact ⟨[], rfl, Bts.nil _ _, .inl rfl⟩
  · simp [Value.cells] at hcs
    obtain ⟨rfl, rfl, rfl⟩ := hcs
    simp only [Prod.mk.injEq] at hx
    obtain ⟨rfl, -⟩ := hx
    simp only [if_true] at hz
    refine ⟨(zs.take len).map toByte, by simp; omega, ?_, .inr ⟨_, _, rfl, by simp [lits]; omega⟩⟩
    intro i hi
    have hi' : i < len := by simp at hi; omega
    have hc := hcell i (by omega)
    obtain ⟨b, off, spot⟩ := x
    have hspot : spot = none := by
      have h00 := hcell 0 (by omega)
      simpa [Addr.add] using World.cell?_spot h00
    subst hspot
    refine ⟨b, off, rfl, ?_⟩
    rw [Addr.add_lit] at hc
    rw [hc]
    have hzi : i < zs.length := by omega
    have hw := hwz (zs[i]) (List.getElem_mem hzi)
    have e1 : zs.getD i 0 = zs[i] := by simp [hzi]
    have e2 : ((zs.take len).map toByte).getD i 0 = toByte zs[i] := by
      rw [List.getD_eq_getElem?_getD, List.getElem?_map, List.getElem?_take, if_pos hi', List.getElem?_eq_getElem hzi]
      rfl
    rw [e1, e2, toByte_nat hw]

theorem bytes_cap {H : Type} {enc : TypeId × Value → H} {W : World} {a : Option Addr} {len cap : Nat} {d : DataW H} {p : List MemPlace}
    (h : DataW.Trod enc Tryz.prog W 0 (fun _ => true) true 29 (.slice a len cap) d p) : len ≤ cap ∧ cap ≤ maxLen := by
  obtain ⟨fuel, hf⟩ := h
  rcases open_ints Tryz.underlying29 Tryz.underlying5 (by kernel_rfl) hf with ⟨hcs, _⟩ | ⟨x, l, c, zs, hcs, _, hl, hm, _⟩
  · simp [Value.cells] at hcs
    obtain ⟨rfl, rfl, rfl⟩ := hcs
    exact ⟨Nat.le_refl _, by simp [maxLen]⟩
  · simp [Value.cells] at hcs
    obtain ⟨rfl, rfl, rfl⟩ := hcs
    exact ⟨hl, hm⟩

theorem bytes_reach {H : Type} {ts : List TypeId} {ds : List (DataW H)} {j len : Nat} {d : DataW H} (hsz : (DataW.weightsEach Tryz.prog ts ds).all (· ≤ reachBytes) = true)
    (ht : ts[j]? = some 29) (hd : ds[j]? = some d) (h : len = 0 ∨ ∃ elems spare, d = .slice elems spare ∧ len ≤ elems.length) : len ≤ 140737488351232 := by
  rcases h with h | ⟨elems, spare, rfl, hl⟩
  · omega
  · have := sized_slice hsz ht hd Tryz.underlying29
    rw [Tryz.bytes5] at this
    simp only [reachBytes] at this
    omega

end Go.Proofs.YtgncohclofdhmaaGreat
