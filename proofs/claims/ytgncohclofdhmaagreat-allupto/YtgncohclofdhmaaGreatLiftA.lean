import Derived.Test.YtgncohclofdhmaaGreatLiftE
import Derived.Test.YtgncohclofdhmaaGreatWgc
import Derived.Test.YtgncohclofdhmaaGreatWgd
import Derived.Deep.Slices
namespace Go.Proofs.YtgncohclofdhmaaGreat
open Go.ChangeShapes Go.WideShapes Go.ChangeAt Go.RowKit
open Go.Deep (open_slice open_slice1 choose_lt)

/-- What a list of lists of bytes reads as. -/
def SaysDats {H : Type} (es : List Ent) (d : DataW H) : Prop :=
  es = [] ∨ ∃ elems spare, d = .slice elems spare ∧ es.length ≤ elems.length ∧ ∀ i, i < es.length → ∃ d1, d1 ∈ elems ∧ SaysBytes (es.getD i noEnt).body.length d1

theorem open_dats {H : Type} {enc : TypeId × Value → H} {W : World} {a : Option Addr} {len cap : Nat} {d : DataW H} {p : List MemPlace}
    (h : DataW.Trod enc Tryz.prog W 0 (fun _ => true) true 22 (.slice a len cap) d p) :
    ∃ es : List Ent, es.length = len ∧ DatAt W a es ∧ EntGood W es ∧ SaysDats es d ∧ len ≤ cap ∧ cap ≤ maxLen := by
  obtain ⟨fuel, hf⟩ := h
  rcases open_slice1 Tryz.underlying22 (by kernel_rfl) hf with ⟨hcs, _⟩ | ⟨x, l, c, m, n, V, D, Pl, hcs, _, hl, hm, hmm, hx, hcell⟩
  · simp [Value.cells] at hcs
    obtain ⟨rfl, rfl, rfl⟩ := hcs
    exact ⟨[], rfl, (fun i hi => by simp at hi), EntGood.nil _, .inl rfl, Nat.le_refl _, by simp [maxLen]⟩
  · simp [Value.cells] at hcs
    obtain ⟨rfl, rfl, rfl⟩ := hcs
    simp only [Prod.mk.injEq] at hx
    obtain ⟨rfl, -⟩ := hx
    have hlm : len ≤ m := by rw [hmm]; simp; exact hl
    have each : ∀ i, i < m → ∃ e : Ent, V i = e.val ∧ e.path.size ≤ maxLen ∧ Bts W e.adr e.body ∧ e.body.length ≤ e.cap ∧ e.cap ≤ maxLen ∧ SaysBytes e.body.length (D i) := by
      intro i hi
      obtain ⟨_, t1⟩ := hcell i hi
      obtain ⟨ab, xs, bc, hv, hb, hc1, hc2, hsay⟩ := open_bytes1 t1
      exact ⟨⟨ByteArray.empty, ab, xs, bc⟩, hv, by simp [maxLen], hb, hc1, hc2, hsay⟩
    obtain ⟨q, hq⟩ := choose_lt each
    have hget : ∀ i, i < len → ((List.range len).map q).getD i noEnt = q i := by
      intro i hi
      rw [List.getD_eq_getElem?_getD, List.getElem?_map, List.getElem?_range hi]
      rfl
    obtain ⟨b, off, spot⟩ := x
    refine ⟨(List.range len).map q, by simp, ?_, ?_, ?_, hl, hm⟩
    · intro i hi
      have hi' : i < len := by simpa using hi
      rw [hget i hi']
      obtain ⟨h0, _⟩ := hcell i (by omega)
      obtain ⟨g0, _⟩ := hq i (by omega)
      have h00 := (hcell 0 (by omega)).1
      have hspot : spot = none := by simpa [Addr.add] using World.cell?_spot h00
      subst hspot
      rw [Addr.add_lit] at h0
      exact ⟨b, off, rfl, by rw [h0, g0]⟩
    · intro e he
      obtain ⟨i, hi, rfl⟩ := List.mem_map.1 he
      have hi' : i < len := List.mem_range.1 hi
      obtain ⟨_, g2, g3, g4, g5, _⟩ := hq i (by omega)
      exact ⟨g3, g4, g5, g2⟩
    · refine .inr ⟨_, _, rfl, by simp, ?_⟩
      intro i hi
      have hi' : i < len := by simpa using hi
      rw [hget i hi']
      exact ⟨D i, List.mem_map.2 ⟨i, List.mem_range.2 hi', rfl⟩, (hq i (by omega)).2.2.2.2.2⟩

theorem SaysDats.bulk {H : Type} {es : List Ent} {d : DataW H} (h : SaysDats es d) : es.length ≤ Rows.uptoBulk d ∧ ∀ e, e ∈ es → e.body.length ≤ Rows.uptoBulk d := by
  rcases h with rfl | ⟨elems, spare, rfl, h, k⟩
  · exact ⟨by simp, fun e he => by cases he⟩
  · have hl := bulk_length elems
    refine ⟨by simp only [Rows.uptoBulk]; omega, ?_⟩
    intro e he
    obtain ⟨i, hi, rfl⟩ := List.mem_iff_getElem.1 he
    obtain ⟨d1, hm, hs⟩ := k i hi
    rw [List.getD_eq_getElem?_getD, List.getElem?_eq_getElem hi, Option.getD_some] at hs
    have h1 := hs.bulk
    have h2 := bulk_part hm
    simp only [Rows.uptoBulk]
    omega

/-- Sets of entries, by the cells that name them. -/
theorem open_sets {H : Type} {enc : TypeId × Value → H} {W : World} {a : Option Addr} {len cap : Nat} {d : DataW H} {p : List MemPlace}
    (h : DataW.Trod enc Tryz.prog W 0 (fun _ => true) true 23 (.slice a len cap) d p) (hk : Rows.uptoBulk d ≤ 1048576) :
    ∃ E : Nat → List Ent, SetsAt W a len E ∧ len ≤ cap ∧ cap ≤ maxLen := by
  obtain ⟨fuel, hf⟩ := h
  rcases open_slice1 Tryz.underlying23 (by kernel_rfl) hf with ⟨hcs, _⟩ | ⟨x, l, c, m, n, V, D, Pl, hcs, _, hl, hm, hmm, hx, hcell⟩
  · simp [Value.cells] at hcs
    obtain ⟨rfl, rfl, rfl⟩ := hcs
    exact ⟨fun _ => [], (fun i hi => by omega), Nat.le_refl _, by simp [maxLen]⟩
  · simp [Value.cells] at hcs
    obtain ⟨rfl, rfl, rfl⟩ := hcs
    simp only [Prod.mk.injEq] at hx
    obtain ⟨rfl, -⟩ := hx
    have hlm : len ≤ m := by rw [hmm]; simp; exact hl
    have each : ∀ i, i < len → ∃ es : List Ent, ∃ (ea : Option Addr) (ec : Nat), V i = .slice ea es.length ec ∧ EntAt W ea es ∧ EntGood W es ∧ es.length ≤ ec ∧ ec ≤ maxLen ∧ es.length ≤ 1000000 ∧ ∀ e, e ∈ es → e.body.length ≤ 2000000 := by
      intro i hi
      obtain ⟨_, t1⟩ := hcell i (by omega)
      have hv : ∃ a len cap, V i = .slice a len cap := by
        rcases open_slice Tryz.underlying44 t1 with ⟨hcs, _⟩ | ⟨x, l, c, _, _, _, _, hcs, _⟩
        · simp only [List.cons.injEq, and_true] at hcs
          exact ⟨_, _, _, hcs⟩
        · simp only [List.cons.injEq, and_true] at hcs
          exact ⟨_, _, _, hcs⟩
      obtain ⟨ea, en, ec, hv⟩ := hv
      rw [hv] at t1
      obtain ⟨es, rfl, h1, h2, h3, h4, h5, h6⟩ := open_ents (d := D i) (p := Pl i) ⟨n, t1⟩
      have hmem : D i ∈ (List.range len).map D := List.mem_map.2 ⟨i, List.mem_range.2 hi, rfl⟩
      have hb := bulk_part hmem
      simp only [Rows.uptoBulk] at hk
      have h7 := h4.bulk3
      have h8 := h3.bulk
      exact ⟨es, ea, ec, hv, h1, h2, h5, h6, by omega, fun e he => by have := h8.2 e he; omega⟩
    obtain ⟨q, hq⟩ := choose_lt each
    obtain ⟨b, off, spot⟩ := x
    refine ⟨q, ?_, hl, hm⟩
    intro i hi
    obtain ⟨ea, ec, hv, h1, h2, h3, h4, h5, h6⟩ := hq i hi
    obtain ⟨h0, _⟩ := hcell i (by omega)
    have h00 := (hcell 0 (by omega)).1
    have hspot : spot = none := by simpa [Addr.add] using World.cell?_spot h00
    subst hspot
    rw [Addr.add_lit] at h0
    exact ⟨b, off, ea, ec, rfl, by rw [h0, hv], h1, h2, h3, h4, h5, h6⟩

instance : Inhabited OpR := ⟨noOp⟩

set_option maxRecDepth 100000 in
/-- A step of the script, by its seven cells. -/
theorem open_op {H : Type} {enc : TypeId × Value → H} {W : World} {cs : List Value} {fuel : Nat} {x : DataW H × List MemPlace}
    (h : DataW.trod enc Tryz.prog W 0 (fun _ => true) true fuel 33 cs = some x) :
    ∃ o : OpR, o.fits ∧ cs = [.int .i64 o.ki, .int .i64 o.ai, .int .i64 o.bi, .string o.s, .string o.key, .int .i64 o.al, .bool o.pk] := by
  obtain ⟨xs, n, _, rfl, hl, hlen, hf⟩ := DataW.trod_struct Tryz.underlying33 h
  have hc7 : cs.length = 7 := hl.trans (by kernel_rfl)
  match xs, hlen, cs, hc7 with
  | [y0, y1, y2, y3, y4, y5, y6], _, [c0, c1, c2, c3, c4, c5, c6], _ =>
    have t0 := hf 0 _ rfl
    have t1 := hf 1 _ rfl
    have t2 := hf 2 _ rfl
    have t3 := hf 3 _ rfl
    have t4 := hf 4 _ rfl
    have t5 := hf 5 _ rfl
    have t6 := hf 6 _ rfl
    have k0 : Tryz.prog.cellsOf 9 = 1 := by kernel_rfl
    have k1 : Tryz.prog.cellsOf 3 = 1 := by kernel_rfl
    have k2 : Tryz.prog.cellsOf 4 = 1 := by kernel_rfl
    simp [k0, k1, k2] at t0 t1 t2 t3 t4 t5 t6
    obtain ⟨z0, e0, _, w0⟩ := DataW.trod_int Tryz.underlying3 t0
    obtain ⟨z1, e1, _, w1⟩ := DataW.trod_int Tryz.underlying3 t1
    obtain ⟨z2, e2, _, w2⟩ := DataW.trod_int Tryz.underlying3 t2
    obtain ⟨s3, e3, _, w3⟩ := DataW.trod_string Tryz.underlying9 t3
    obtain ⟨s4, e4, _, w4⟩ := DataW.trod_string Tryz.underlying9 t4
    obtain ⟨z5, e5, _, w5⟩ := DataW.trod_int Tryz.underlying3 t5
    obtain ⟨b6, e6, _⟩ := DataW.trod_bool Tryz.underlying4 t6
    simp at e0 e1 e2 e3 e4 e5 e6
    have r0 := bounds_i64 w0
    have r1 := bounds_i64 w1
    have r2 := bounds_i64 w2
    have r5 := bounds_i64 w5
    exact ⟨⟨z0, z1, z2, s3, s4, z5, b6⟩, ⟨r0.1, r0.2, r1.1, r1.2, r2.1, r2.2, r5.1, r5.2, w3, w4⟩, by rw [e0, e1, e2, e3, e4, e5, e6]⟩

theorem open_ops {H : Type} {enc : TypeId × Value → H} {W : World} {a : Option Addr} {len cap : Nat} {d : DataW H} {p : List MemPlace}
    (h : DataW.Trod enc Tryz.prog W 0 (fun _ => true) true 24 (.slice a len cap) d p) (hk : Rows.uptoBulk d ≤ 1048576) :
    ∃ os : List OpR, os.length = len ∧ OpsAt W a os ∧ (∀ o, o ∈ os → o.fits) ∧ os.length ≤ 1048576 := by
  obtain ⟨fuel, hf⟩ := h
  rcases open_slice Tryz.underlying24 hf with ⟨hcs, _⟩ | ⟨x, l, c, m, n, D, Pl, hcs, _, hl, hm, hmm, hx, hcell⟩
  · simp [Value.cells] at hcs
    obtain ⟨rfl, rfl, rfl⟩ := hcs
    exact ⟨[], rfl, (fun i hi => by simp at hi), (fun o ho => by cases ho), by simp⟩
  · simp [Value.cells] at hcs
    obtain ⟨rfl, rfl, rfl⟩ := hcs
    simp only [Prod.mk.injEq] at hx
    obtain ⟨rfl, -⟩ := hx
    have hlm : len ≤ m := by rw [hmm]; simp; exact hl
    have k7 : Tryz.prog.cellsOf 33 = 7 := by kernel_rfl
    rw [k7] at hcell
    have each : ∀ i, i < len → ∃ o : OpR, o.fits ∧ W.cells? 0 (x.add (i * 7)) 7 = some [.int .i64 o.ki, .int .i64 o.ai, .int .i64 o.bi, .string o.s, .string o.key, .int .i64 o.al, .bool o.pk] := by
      intro i hi
      obtain ⟨cs', h1, h2⟩ := hcell i (by omega)
      obtain ⟨o, h3, rfl⟩ := open_op h2
      exact ⟨o, h3, h1⟩
    obtain ⟨q, hq⟩ := choose_lt each
    have hget : ∀ i, i < len → ((List.range len).map q).getD i noOp = q i := by
      intro i hi
      rw [List.getD_eq_getElem?_getD, List.getElem?_map, List.getElem?_range hi]
      rfl
    have hb := bulk_length ((List.range len).map D)
    simp only [Rows.uptoBulk, List.length_map, List.length_range] at hk hb
    obtain ⟨b, off, spot⟩ := x
    refine ⟨(List.range len).map q, by simp, ?_, ?_, by simp; omega⟩
    · intro i hi
      have hi' : i < len := by simpa using hi
      rw [hget i hi']
      obtain ⟨_, hc⟩ := hq i hi'
      obtain ⟨_, _, hcc⟩ := World.cells?_some hc
      have c0 := hcc 0 (by omega)
      have c1 := hcc 1 (by omega)
      have c2 := hcc 2 (by omega)
      have c3 := hcc 3 (by omega)
      have c4 := hcc 4 (by omega)
      have c5 := hcc 5 (by omega)
      have c6 := hcc 6 (by omega)
      have hspot : spot = none := by
        obtain ⟨_, hz⟩ := hq 0 (by omega)
        obtain ⟨_, _, hzz⟩ := World.cells?_some hz
        simpa [Addr.add] using World.cell?_spot (hzz 0 (by omega))
      subst hspot
      simp only [Addr.add_lit] at c0 c1 c2 c3 c4 c5 c6
      exact ⟨b, off, rfl, by simpa using c0, by simpa using c1, by simpa using c2, by simpa using c3, by simpa using c4, by simpa using c5, by simpa using c6⟩
    · intro o ho
      obtain ⟨i, hi, rfl⟩ := List.mem_map.1 ho
      exact (hq i (List.mem_range.1 hi)).1

end Go.Proofs.YtgncohclofdhmaaGreat
