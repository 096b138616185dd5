import Derived.Test.YtgncohclofdhmaaLiftE
namespace Go.Proofs.Ytgncohclofdhmaa
open Go.ChangeShapes Go.WideShapes Go.ChangeAt Go.RowKit

set_option maxRecDepth 100000 in
/-- An entry that came in. -/
theorem open_entry {H : Type} {enc : TypeId × Value → H} {W : World} {b0 : Nat} {v : Value} {d : DataW H} {p : List MemPlace} (hval : Value.okWide Try.prog W .any b0 50 v)
    (h : DataW.Trod enc Try.prog W 0 (fun _ => true) true 50 v d p) :
    ∃ (path : ByteArray) (a : Option Addr) (xs : List UInt8) (cap : Nat), v = .agg #[.string path, .slice a xs.length cap] ∧ path.size ≤ maxLen ∧ Bts W a xs ∧ xs.length ≤ cap ∧ cap ≤ maxLen ∧ ∃ d0 d1, d = .agg [d0, d1] ∧ SaysBytes xs.length d1 := by
  obtain ⟨cs, rfl, hcs⟩ := okWide_struct Try.underlying50 hval
  obtain ⟨fuel, hf⟩ := h
  have hc2 : cs.size = 2 := hcs.trans (by kernel_rfl)
  obtain ⟨cl⟩ := cs
  match cl, hc2 with
  | [c0, c1], _ =>
    obtain ⟨y0, y1, n, hx, _, t0, t1⟩ := trod_struct2 Try.underlying50 hf
    have k0 : Try.prog.cellsOf 9 = 1 := by kernel_rfl
    have k1 : Try.prog.cellsOf 22 = 1 := by kernel_rfl
    simp only [k0, k1, Value.cells] at t0 t1
    obtain ⟨s, e0, _, hs⟩ := DataW.trod_string Try.underlying9 t0
    obtain ⟨a, xs, cap, e1, hb, h1, h2, h3⟩ := open_bytes1 (v := c1) (d := y1.1) (p := y1.2) (by simpa using t1)
    simp at e0
    simp only [Prod.mk.injEq] at hx
    exact ⟨s, a, xs, cap, by rw [e0, e1], hs, hb, h1, h2, y0.1, y1.1, hx.1, h3⟩

theorem entry_reach {H : Type} {ts : List TypeId} {ds : List (DataW H)} {j n : Nat} {d0 d1 : DataW H} (hsz : (DataW.weightsEach Try.prog ts ds).all (· ≤ reachBytes) = true)
    (ht : ts[j]? = some 50) (hd : ds[j]? = some (.agg [d0, d1])) (h : SaysBytes n d1) : n ≤ 140737488351232 := by
  rcases h with h | ⟨el, sp, rfl, hs⟩
  · omega
  · have hw : (el.length + sp.length) * Try.prog.bytesOf 5 ∈ DataW.weights Try.prog 50 (.agg [d0, .slice el sp]) := by
      simp [DataW.weights, Try.underlying50, DataW.weightsEach, Try.underlying22]
    have := List.all_eq_true.1 hsz _ (DataW.weights_mem_each ht hd _ hw)
    have h9 : (el.length + sp.length) * Try.prog.bytesOf 5 ≤ reachBytes := by simpa using this
    rw [Try.bytes5] at h9
    simp only [reachBytes] at h9
    omega

end Go.Proofs.Ytgncohclofdhmaa
