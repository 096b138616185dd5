import Derived.Test.YtgncohclofdhmaaGreatLift
import Derived.Test.YtgncohclofdhmaaGreatWent1
import Derived.Deep.SlicePairs
import Derived.Deep.Strs
import Derived.Deep.CondSized
namespace Go.Proofs.YtgncohclofdhmaaGreat
open Go.ChangeShapes Go.WideShapes Go.ChangeAt Go.RowKit
open Go.Deep (open_slice_pairs choose_lt trod_struct3)

theorem Tryz.bytes46 : Tryz.prog.bytesOf 46 = 40 := by kernel_rfl

/-- What a list of bytes reads as. -/
def SaysBytes {H : Type} (n : Nat) (d : DataW H) : Prop := n = 0 ∨ ∃ elems spare, d = .slice elems spare ∧ n ≤ elems.length

/-- Bytes, by the one cell that names them. -/
theorem open_bytes1 {H : Type} {enc : TypeId × Value → H} {W : World} {v : Value} {d : DataW H} {p : List MemPlace} {fuel : Nat}
    (h : DataW.trod enc Tryz.prog W 0 (fun _ => true) true fuel 29 [v] = some (d, p)) :
    ∃ (a : Option Addr) (xs : List UInt8) (cap : Nat), v = .slice a xs.length cap ∧ Bts W a xs ∧ xs.length ≤ cap ∧ cap ≤ maxLen ∧ SaysBytes xs.length d := by
  have hv : ∃ a len cap, v = .slice a len cap := by
    rcases open_ints Tryz.underlying29 Tryz.underlying5 (by kernel_rfl) h with ⟨hcs, _⟩ | ⟨x, l, c, zs, hcs, _⟩
    · simp only [List.cons.injEq, and_true] at hcs
      exact ⟨_, _, _, hcs⟩
    · simp only [List.cons.injEq, and_true] at hcs
      exact ⟨_, _, _, hcs⟩
  obtain ⟨a, len, cap, rfl⟩ := hv
  have h' : DataW.Trod enc Tryz.prog W 0 (fun _ => true) true 29 (.slice a len cap) d p := ⟨fuel, h⟩
  obtain ⟨h1, h2⟩ := bytes_cap h'
  obtain ⟨xs, rfl, h3, h4⟩ := open_bytes h'
  exact ⟨a, xs, cap, rfl, h3, h1, h2, h4⟩

/-- What a list of entries reads as. -/
def SaysEnts {H : Type} (es : List Ent) (d : DataW H) : Prop :=
  es = [] ∨ ∃ elems spare, d = .slice elems spare ∧ es.length ≤ elems.length ∧ ∀ i, i < es.length → ∃ d0 d1, (DataW.agg [d0, d1] : DataW H) ∈ elems ∧ SaysBytes (es.getD i noEnt).body.length d1

instance : Inhabited Ent := ⟨noEnt⟩

/-- Each place of a list of entries reads as a pair. -/
def SaysEnts3 {H : Type} (es : List Ent) (d : DataW H) : Prop := es = [] ∨ ∃ elems spare, d = .slice elems spare ∧ es.length ≤ elems.length ∧ ∀ x, x ∈ elems → ∃ d0 d1, x = (DataW.agg [d0, d1] : DataW H)

theorem open_ents {H : Type} {enc : TypeId × Value → H} {W : World} {a : Option Addr} {len cap : Nat} {d : DataW H} {p : List MemPlace}
    (h : DataW.Trod enc Tryz.prog W 0 (fun _ => true) true 44 (.slice a len cap) d p) :
    ∃ es : List Ent, es.length = len ∧ EntAt W a es ∧ EntGood W es ∧ SaysEnts es d ∧ SaysEnts3 es d ∧ len ≤ cap ∧ cap ≤ maxLen := by
  obtain ⟨fuel, hf⟩ := h
  rcases open_slice_pairs Tryz.underlying44 Tryz.underlying46 (by kernel_rfl) rfl rfl (by kernel_rfl) (by kernel_rfl) hf with ⟨hcs, _⟩ | ⟨x, l, c, m, n, V0, V1, D0, D1, P0, P1, hcs, _, hl, hm, hmm, hx, hcell⟩
  · simp [Value.cells] at hcs
    obtain ⟨rfl, rfl, rfl⟩ := hcs
    exact ⟨[], rfl, EntAt.nil _ _, EntGood.nil _, .inl rfl, .inl rfl, Nat.le_refl _, by simp [maxLen]⟩
  · simp [Value.cells] at hcs
    obtain ⟨rfl, rfl, rfl⟩ := hcs
    simp only [Prod.mk.injEq] at hx
    obtain ⟨rfl, -⟩ := hx
    have hlm : len ≤ m := by rw [hmm]; simp; exact hl
    have each : ∀ i, i < m → ∃ e : Ent, V0 i = .string e.path ∧ V1 i = e.val ∧ e.path.size ≤ maxLen ∧ Bts W e.adr e.body ∧ e.body.length ≤ e.cap ∧ e.cap ≤ maxLen ∧ SaysBytes e.body.length (D1 i) := by
      intro i hi
      obtain ⟨_, _, t0, t1⟩ := hcell i hi
      obtain ⟨s, hs, _, hsm⟩ := DataW.trod_string Tryz.underlying9 t0
      simp only [List.cons.injEq, and_true] at hs
      obtain ⟨ab, xs, bc, hv, hb, hc1, hc2, hsay⟩ := open_bytes1 t1
      exact ⟨⟨s, ab, xs, bc⟩, hs, hv, hsm, hb, hc1, hc2, hsay⟩
    obtain ⟨q, hq⟩ := choose_lt each
    have hget : ∀ i, i < len → ((List.range len).map q).getD i noEnt = q i := by
      intro i hi
      rw [List.getD_eq_getElem?_getD, List.getElem?_map, List.getElem?_range hi]
      rfl
    obtain ⟨b, off, spot⟩ := x
    refine ⟨(List.range len).map q, by simp, ?_, ?_, ?_, .inr ⟨_, _, rfl, by simp, fun y hy => by obtain ⟨i, _, rfl⟩ := List.mem_map.1 hy; exact ⟨_, _, rfl⟩⟩, hl, hm⟩
    · intro i hi
      have hi' : i < len := by simpa using hi
      rw [hget i hi']
      obtain ⟨h0, h1, _, _⟩ := hcell i (by omega)
      obtain ⟨g0, g1, _⟩ := hq i (by omega)
      have h00 := (hcell 0 (by omega)).1
      have hspot : spot = none := by simpa [Addr.add] using World.cell?_spot h00
      subst hspot
      rw [Addr.add_lit] at h0 h1
      refine ⟨b, off, rfl, ?_, ?_⟩
      · rw [h0, g0]
      · rw [show off + i * 2 + 1 = off + (i * 2 + 1) from by omega, h1, g1]
    · intro e he
      obtain ⟨i, hi, rfl⟩ := List.mem_map.1 he
      have hi' : i < len := List.mem_range.1 hi
      obtain ⟨_, _, g2, g3, g4, g5, _⟩ := hq i (by omega)
      exact ⟨g3, g4, g5, g2⟩
    · refine .inr ⟨_, _, rfl, by simp, ?_⟩
      intro i hi
      have hi' : i < len := by simpa using hi
      rw [hget i hi']
      refine ⟨D0 i, D1 i, List.mem_map.2 ⟨i, List.mem_range.2 hi', rfl⟩, ?_⟩
      exact (hq i (by omega)).2.2.2.2.2.2

set_option maxRecDepth 100000 in
theorem open_config {H : Type} {enc : TypeId × Value → H} {W : World} {b0 : Nat} {v : Value} {d : DataW H} {p : List MemPlace} (hval : Value.okWide Tryz.prog W .any b0 49 v)
    (h : DataW.Trod enc Tryz.prog W 0 (fun _ => true) true 49 v d p) :
    ∃ (key : ByteArray) (al : Int) (pk : Bool), v = .agg #[.string key, .int .i64 al, .bool pk] ∧ key.size ≤ maxLen := by
  obtain ⟨cs, rfl, hcs⟩ := okWide_struct Tryz.underlying49 hval
  obtain ⟨fuel, hf⟩ := h
  have hc3 : cs.size = 3 := hcs.trans (by kernel_rfl)
  obtain ⟨cl⟩ := cs
  match cl, hc3 with
  | [c0, c1, c2], _ =>
    obtain ⟨y0, y1, y2, n, _, _, t0, t1, t2⟩ := trod_struct3 Tryz.underlying49 hf
    have k0 : Tryz.prog.cellsOf 9 = 1 := by kernel_rfl
    have k1 : Tryz.prog.cellsOf 3 = 1 := by kernel_rfl
    have k2 : Tryz.prog.cellsOf 4 = 1 := by kernel_rfl
    simp only [k0, k1, k2, Value.cells] at t0 t1 t2
    obtain ⟨s, e0, _, hs⟩ := DataW.trod_string Tryz.underlying9 t0
    obtain ⟨z, e1, _⟩ := DataW.trod_int Tryz.underlying3 t1
    obtain ⟨b, e2, _⟩ := DataW.trod_bool Tryz.underlying4 t2
    simp at e0 e1 e2
    exact ⟨s, z, b, by rw [e0, e1, e2], hs⟩

theorem bulk_one {H : Type} (d : DataW H) : 1 ≤ Rows.uptoBulk d := by
  cases d with
  | lit l => cases l <;> simp [Rows.uptoBulk]
  | nil => simp [Rows.uptoBulk]
  | ptr d => simp [Rows.uptoBulk]
  | slice elems spare => simp [Rows.uptoBulk]
  | agg parts => simp [Rows.uptoBulk]
  | iface t d => simp [Rows.uptoBulk]
  | map entries => simp [Rows.uptoBulk]
  | held h => simp [Rows.uptoBulk]

theorem bulk_part {H : Type} {d : DataW H} {l : List (DataW H)} (h : d ∈ l) : Rows.uptoBulk d ≤ Rows.uptoBulkAll l := by
  induction l with
  | nil => cases h
  | cons x r ih =>
    simp only [Rows.uptoBulkAll]
    cases List.mem_cons.1 h with
    | inl e => subst e; omega
    | inr e => have := ih e; omega

theorem bulk_length {H : Type} (l : List (DataW H)) : l.length ≤ Rows.uptoBulkAll l := by
  induction l with
  | nil => simp [Rows.uptoBulkAll]
  | cons x r ih => have := bulk_one x; simp only [Rows.uptoBulkAll, List.length_cons]; omega

theorem SaysBytes.bulk {H : Type} {n : Nat} {d : DataW H} (h : SaysBytes n d) : n ≤ Rows.uptoBulk d := by
  rcases h with h | ⟨elems, spare, rfl, h⟩
  · omega
  · have := bulk_length elems
    simp only [Rows.uptoBulk]
    omega

theorem SaysEnts.bulk {H : Type} {es : List Ent} {d : DataW H} (h : SaysEnts es d) : es.length ≤ Rows.uptoBulk d ∧ ∀ e, e ∈ es → e.body.length ≤ Rows.uptoBulk d := by
  rcases h with rfl | ⟨elems, spare, rfl, h, k⟩
  · exact ⟨by simp, fun e he => by cases he⟩
  · have hl := bulk_length elems
    refine ⟨by simp only [Rows.uptoBulk]; omega, ?_⟩
    intro e he
    obtain ⟨i, hi, rfl⟩ := List.mem_iff_getElem.1 he
    obtain ⟨d0, d1, hm, hs⟩ := k i hi
    rw [List.getD_eq_getElem?_getD, List.getElem?_eq_getElem hi, Option.getD_some] at hs
    have h1 := hs.bulk
    have h2 := bulk_part hm
    simp only [Rows.uptoBulk, Rows.uptoBulkAll] at h2 ⊢
    omega

theorem bulk_three {H : Type} (l : List (DataW H)) (h : ∀ x, x ∈ l → ∃ d0 d1, x = (DataW.agg [d0, d1] : DataW H)) : 3 * l.length ≤ Rows.uptoBulkAll l := by
  induction l with
  | nil => simp [Rows.uptoBulkAll]
  | cons x r ih =>
    obtain ⟨d0, d1, rfl⟩ := h x (by simp)
    have h0 := bulk_one d0
    have h1 := bulk_one d1
    have h2 := ih fun y hy => h y (List.mem_cons_of_mem _ hy)
    simp only [Rows.uptoBulkAll, Rows.uptoBulk, List.length_cons]
    omega

theorem SaysEnts3.bulk3 {H : Type} {es : List Ent} {d : DataW H} (h : SaysEnts3 es d) : 3 * es.length ≤ Rows.uptoBulk d := by
  rcases h with rfl | ⟨elems, spare, rfl, h, k⟩
  · simp
  · have := bulk_three elems k
    simp only [Rows.uptoBulk]
    omega

theorem weights_all {H : Type} {P : Program} {e : TypeId} {d : DataW H} {n : Nat} (hn : n ∈ d.weights P e) : ∀ {l : List (DataW H)}, d ∈ l → n ∈ DataW.weightsAll P e l
  | [], h => by cases h
  | x :: r, h => by
    simp only [DataW.weightsAll, List.mem_append]
    rcases List.mem_cons.1 h with h | h
    · subst h; exact .inl hn
    · exact .inr (weights_all hn h)

theorem ents_reach {H : Type} {ts : List TypeId} {ds : List (DataW H)} {j : Nat} {d : DataW H} {es : List Ent} (hsz : (DataW.weightsEach Tryz.prog ts ds).all (· ≤ reachBytes) = true)
    (ht : ts[j]? = some 44) (hd : ds[j]? = some d) (h : SaysEnts es d) : es.length * 40 ≤ 140737488351232 ∧ ∀ e, e ∈ es → e.body.length ≤ 140737488351232 := by
  rcases h with rfl | ⟨elems, spare, rfl, h, k⟩
  · exact ⟨by simp, fun e he => by cases he⟩
  · constructor
    · have := sized_slice hsz ht hd Tryz.underlying44
      rw [Tryz.bytes46] at this
      simp only [reachBytes] at this
      omega
    · intro e he
      obtain ⟨i, hi, rfl⟩ := List.mem_iff_getElem.1 he
      obtain ⟨d0, d1, hm, hs⟩ := k i hi
      rw [List.getD_eq_getElem?_getD, List.getElem?_eq_getElem hi, Option.getD_some] at hs
      rcases hs with hs | ⟨el, sp, rfl, hs⟩
      · omega
      · have hw : (el.length + sp.length) * Tryz.prog.bytesOf 5 ∈ DataW.weights Tryz.prog 44 (.slice elems spare) := by
          simp only [DataW.weights, Tryz.underlying44, List.mem_cons, List.mem_append]
          right; left
          refine weights_all ?_ hm
          simp [DataW.weights, Tryz.underlying46, DataW.weightsEach, Tryz.underlying29]
        have := List.all_eq_true.1 hsz _ (DataW.weights_mem_each ht hd _ hw)
        have h9 : (el.length + sp.length) * Tryz.prog.bytesOf 5 ≤ reachBytes := by simpa using this
        rw [Tryz.bytes5] at h9
        simp only [reachBytes] at h9
        omega

end Go.Proofs.YtgncohclofdhmaaGreat
