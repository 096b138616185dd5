import Derived.Test.YtgncohclofdhmaaGreatLiftA
import Derived.Test.YtgncohclofdhmaaGreatWa28
import Derived.Test.YtgncohclofdhmaaGreatWa34
import Derived.Test.YtgncohclofdhmaaGreatWrdb
import Derived.Test.YtgncohclofdhmaaGreatWrd8
import Derived.Test.YtgncohclofdhmaaGreatWedit
import Derived.JoinedCond
namespace Go.Proofs.YtgncohclofdhmaaGreat
open Go.ChangeShapes Go.WideShapes Go.ChangeAt Go.RowKit
set_option linter.unusedVariables false

/-- A step, whatever it is. -/
theorem All_step (B gw n0 : Nat) (w0 : World) (sa : Option Addr) (sn sc : Nat) (E : Nat → List Ent) (hn0 : n0 ≤ 2000000) (hB : B = w0.heap.size) (hsn : sn ≤ sc) (hscm : sc ≤ maxLen) (hS : SetsAt w0 sa sn E) : StepKeeps B gw n0 w0 (.slice sa sn sc) :=
  step_keeps B gw n0 w0 _ hn0 (simple_keeps B gw n0 w0 _ hn0)
    (looks_of B gw n0 w0 _ (look_ver B gw n0 w0 _ hn0 Verify_keepsA fun a p cap w key h1 h2 h3 h4 h5 => refVerify_any a p cap w key h1 h2 h3 h4 h5)
      (look_find B gw n0 w0 _ hn0 Find_keeps fun a p cap w key path h1 h2 h3 h4 h5 => refFind_any a p cap w key path h1 h2 h3 h4 h5)
      (look_repl B gw n0 w0 sa sn sc E hn0 hB hsn hscm hS Replace_keeps fun a p cap w key xp xa xb xc h1 h2 h3 h4 h5 h6 h7 h8 h9 => refReplace_any a p cap w key xp xa xb xc h1 h2 h3 h4 h5 h6 h7 h8 h9)
      (look_drop B gw n0 w0 _ hn0 Drop_keeps fun a p cap w key path h1 h2 h3 h4 h5 => refDrop_any a p cap w key path h1 h2 h3 h4 h5))
    (built_keeps B gw n0 w0 sa sn sc E hn0 hB hsn hscm hS Build_keeps fun a es cap w key al pk h1 h2 h3 h4 => refBuild_any a es cap w key al pk h1 h2 h3 h4)

set_option maxRecDepth 100000 in
theorem All_lifted (os : Os) (started : os.Started) (H : Type) (enc : TypeId × Value → H) (F : Stop.Interp) :
    ReturnsInHanded {} Tryz.checked os 3 .any ((Rows.OpenSpec.upto Rows.allSpec).pre6 enc Tryz.prog Tryz.f3 Rows.allUptoRow.domain false) (((Rows.OpenSpec.upto Rows.allSpec).at F).post enc Tryz.prog Tryz.f3 false true false false) := by
  refine returnsInHanded_of_cond (C := Tryz.checked) (s := Rows.OpenSpec.upto Rows.allSpec) (k := Rows.uptoSmall) rfl own started (by kernel_rfl) Tryz.func3
    (OpenSpec.witness (enc := enc) (C := Tryz.checked) (s := Rows.OpenSpec.upto Rows.allSpec) (k := Rows.uptoSmall) rfl false ⟨#[], #[.slice none 0 0, .slice none 0 0, .slice none 0 0], []⟩ 8 (by kernel_rfl) (by kernel_rfl) (by kernel_rfl)
      (x := ([.nil, .nil, .nil], [], [])) (by kernel_rfl) rfl (by kernel_rfl)) ?_
  intro W base args ds gs before hval0 hW _ hk _
  have hval : ∀ (j : Nat) t v, Tryz.f3.params[j]? = some t → args[j]? = some v → Value.okWide Tryz.prog W .any base t v := hval0
  have hW' := hW
  obtain ⟨p, q, hA0, hV, rfl, hfz, hnd⟩ := hW
  have hA : DataW.TrodAll enc Tryz.prog W 0 (fun _ => true) true Tryz.f3.params.toList args.toList ds p := hA0
  rw [Tryz.params3] at hA hval
  obtain ⟨v0, vs0, d0, ds0, p0, q0, hargs, rfl, rfl, h0, r0⟩ := trodAll_cons hA
  obtain ⟨v1, vs1, d1, ds1, p1, q1, rfl, rfl, rfl, h1, r1⟩ := trodAll_cons r0
  obtain ⟨v2, vs2, d2, ds2, p2, q2, rfl, rfl, rfl, h2, r2⟩ := trodAll_cons r1
  obtain ⟨rfl, rfl, rfl⟩ := trodAll_nil r2
  obtain rfl : args = #[v0, v1, v2] := by cases args; simp_all
  obtain ⟨rfl, rfl⟩ := trodVars_none hV
  obtain ⟨a0, len0, cap0, rfl⟩ := okWide_slice Tryz.underlying22 (hval 0 22 v0 rfl rfl)
  obtain ⟨a1, len1, cap1, rfl⟩ := okWide_slice Tryz.underlying23 (hval 1 23 v1 rfl rfl)
  obtain ⟨a2, len2, cap2, rfl⟩ := okWide_slice Tryz.underlying24 (hval 2 24 v2 rfl rfl)
  have k0 := h0
  have lt0 : ∀ x ∈ p0, x.block < W.heap.size := by obtain ⟨m, hm⟩ := k0; exact DataW.trod_lt m _ _ _ hm
  have k1 := h1
  have lt1 : ∀ x ∈ p1, x.block < W.heap.size := by obtain ⟨m, hm⟩ := k1; exact DataW.trod_lt m _ _ _ hm
  have k2 := h2
  have lt2 : ∀ x ∈ p2, x.block < W.heap.size := by obtain ⟨m, hm⟩ := k2; exact DataW.trod_lt m _ _ _ hm
  simp only [List.append_nil] at hk
  have hbk : Rows.uptoBulkAll [d0, d1, d2] ≤ 1048576 := of_decide_eq_true hk
  simp only [Rows.uptoBulkAll] at hbk
  obtain ⟨es, rfl, hat, hgood, hsay, -, -⟩ := open_dats h0
  obtain ⟨hn, hb⟩ := hsay.bulk
  obtain ⟨E, hE, hsn, hscm⟩ := open_sets h1 (by omega)
  obtain ⟨os', rfl, hops, hfit, hol⟩ := open_ops h2 (by omega)
  clear hA0 hval0
  refine (All_walk a0 es cap0 a1 len1 cap1 a2 os' cap2 W (by omega) (fun e he => by have := hb e he; omega) (by omega) hat hgood hops hfit (fun gw _ => All_step W.heap.size gw es.length W a1 len1 cap1 E (by omega) rfl hsn hscm hE)).mono fun e W' ⟨he, bel⟩ => ?_
  subst he
  exact ⟨_, rfl, _, _, _, [], _, [], hW', trodAll_mk1 (shut_bool Tryz.underlying4 _), (trodAll_cons_mk (Below.trod laidOut (by kernel_rfl) (of_decide_eq_true (by kernel_rfl)) k0 bel lt0) (trodAll_cons_mk (Below.trod laidOut (by kernel_rfl) (of_decide_eq_true (by kernel_rfl)) k1 bel lt1) (trodAll_cons_mk (Below.trod laidOut (by kernel_rfl) (of_decide_eq_true (by kernel_rfl)) k2 bel lt2) trodAll_mk0))), rfl, bel.frame _, fun h => by cases h⟩

theorem All_holds : Rows.AllUptoSaid :=
  OpenClaim.holds_of_cond 3 Tryz.f3 rfl rfl rfl rfl rfl rfl rfl ⟨rfl, rfl, rfl, rfl, rfl⟩ rfl rfl rfl rfl rfl (by kernel_rfl) Tryz.func3 (by kernel_rfl)
    (of_decide_eq_true (by kernel_rfl)) (by unfold Func.isWrapper; first | (rw [if_pos (by decide +kernel)]; kernel_rfl) | (rw [if_neg (by decide +kernel)]; exact ⟨rfl, rfl⟩))
    (fun os started H enc _ F => All_lifted os started H enc F)
#print axioms All_holds

end Go.Proofs.YtgncohclofdhmaaGreat
