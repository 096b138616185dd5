import Derived.Test.YtgncohclofdhmaaLiftE
import Derived.Test.YtgncohclofdhmaaWkp2
import Derived.Deep.Slices
namespace Go.Proofs.Ytgncohclofdhmaa
open Go.ChangeShapes Go.WideShapes Go.ChangeAt Go.RowKit
open Go.Deep (open_slice1 choose_lt)

/-- What a list of lists of bytes reads as. -/
def SaysBods {H : Type} (es : List Ent) (d : DataW H) : Prop :=
  es = [] ∨ ∃ elems spare, d = .slice elems spare ∧ ∀ i, i < es.length → ∃ d1, d1 ∈ elems ∧ SaysBytes (es.getD i noEnt).body.length d1

theorem open_bods {H : Type} {enc : TypeId × Value → H} {W : World} {a : Option Addr} {len cap : Nat} {d : DataW H} {p : List MemPlace}
    (h : DataW.Trod enc Try.prog W 0 (fun _ => true) true 53 (.slice a len cap) d p) :
    ∃ es : List Ent, es.length = len ∧ BodAt W a es ∧ EntGood W es ∧ SaysBods es d ∧ len ≤ cap ∧ cap ≤ maxLen := by
  obtain ⟨fuel, hf⟩ := h
  rcases open_slice1 Try.underlying53 (by kernel_rfl) hf with ⟨hcs, _⟩ | ⟨x, l, c, m, n, V, D, Pl, hcs, _, hl, hm, hmm, hx, hcell⟩
  · simp [Value.cells] at hcs
    obtain ⟨rfl, rfl, rfl⟩ := hcs
    exact ⟨[], rfl, BodAt.nil _ _, EntGood.nil _, .inl rfl, Nat.le_refl _, by simp [maxLen]⟩
  · simp [Value.cells] at hcs
    obtain ⟨rfl, rfl, rfl⟩ := hcs
    simp only [Prod.mk.injEq] at hx
    obtain ⟨rfl, -⟩ := hx
    have hlm : len ≤ m := by rw [hmm]; simp; exact hl
    have each : ∀ i, i < m → ∃ e : Ent, V i = e.val ∧ e.path.size ≤ maxLen ∧ Bts W e.adr e.body ∧ e.body.length ≤ e.cap ∧ e.cap ≤ maxLen ∧ SaysBytes e.body.length (D i) := by
      intro i hi
      obtain ⟨_, t1⟩ := hcell i hi
      obtain ⟨ab, xs, bc, hv, hb, hc1, hc2, hsay⟩ := open_bytes1 t1
      exact ⟨⟨ByteArray.empty, ab, xs, bc⟩, hv, by simp [maxLen], hb, hc1, hc2, hsay⟩
    obtain ⟨q, hq⟩ := choose_lt each
    have hget : ∀ i, i < len → ((List.range len).map q).getD i noEnt = q i := by
      intro i hi
      rw [List.getD_eq_getElem?_getD, List.getElem?_map, List.getElem?_range hi]
      rfl
    obtain ⟨b, off, spot⟩ := x
    refine ⟨(List.range len).map q, by simp, ?_, ?_, ?_, hl, hm⟩
    · intro i hi
      have hi' : i < len := by simpa using hi
      rw [hget i hi']
      obtain ⟨h0, _⟩ := hcell i (by omega)
      obtain ⟨g0, _⟩ := hq i (by omega)
      have h00 := (hcell 0 (by omega)).1
      have hspot : spot = none := by simpa [Addr.add] using World.cell?_spot h00
      subst hspot
      rw [Addr.add_lit] at h0
      exact ⟨b, off, rfl, by rw [h0, g0]⟩
    · intro e he
      obtain ⟨i, hi, rfl⟩ := List.mem_map.1 he
      have hi' : i < len := List.mem_range.1 hi
      obtain ⟨_, g2, g3, g4, g5, _⟩ := hq i (by omega)
      exact ⟨g3, g4, g5, g2⟩
    · refine .inr ⟨_, _, rfl, ?_⟩
      intro i hi
      have hi' : i < len := by simpa using hi
      rw [hget i hi']
      exact ⟨D i, List.mem_map.2 ⟨i, List.mem_range.2 hi', rfl⟩, (hq i (by omega)).2.2.2.2.2⟩

theorem bods_reach {H : Type} {ts : List TypeId} {ds : List (DataW H)} {j : Nat} {d : DataW H} {es : List Ent} (hsz : (DataW.weightsEach Try.prog ts ds).all (· ≤ reachBytes) = true)
    (ht : ts[j]? = some 53) (hd : ds[j]? = some d) (h : SaysBods es d) : ∀ e, e ∈ es → e.body.length ≤ 140737488351232 := by
  rcases h with rfl | ⟨elems, spare, rfl, k⟩
  · intro e he
    cases he
  · intro e he
    obtain ⟨i, hi, rfl⟩ := List.mem_iff_getElem.1 he
    obtain ⟨d1, hm, hs⟩ := k i hi
    rw [List.getD_eq_getElem?_getD, List.getElem?_eq_getElem hi, Option.getD_some] at hs
    rcases hs with hs | ⟨el, sp, rfl, hs⟩
    · omega
    · have hw : (el.length + sp.length) * Try.prog.bytesOf 5 ∈ DataW.weights Try.prog 53 (.slice elems spare) := by
        simp only [DataW.weights, Try.underlying53, List.mem_cons, List.mem_append]
        right; left
        refine weights_all ?_ hm
        simp [DataW.weights, Try.underlying22]
      have := List.all_eq_true.1 hsz _ (DataW.weights_mem_each ht hd _ hw)
      have h9 : (el.length + sp.length) * Try.prog.bytesOf 5 ≤ reachBytes := by simpa using this
      rw [Try.bytes5] at h9
      simp only [reachBytes] at h9
      omega

end Go.Proofs.Ytgncohclofdhmaa
