import Derived.Test.YtgncohclofdhmaaWbuild2
import Derived.Test.YtgncohclofdhmaaWsame
import Derived.Test.YtgncohclofdhmaaWpbuild
import Derived.Deep.DeepCutAuto
namespace Go.Proofs.Ytgncohclofdhmaa
open Go.RowKit

theorem alike_len {es fs : List Ent} (h : (fs.map fun f => (f.path, f.body)) = (es.map fun f => (f.path, f.body))) : fs.length = es.length := Alike.len h

theorem ans_any {es : List Ent} {key : ByteArray} {al : Int} {pk : Bool} {B : Nat} {w : World} {v : Value} {E : Nat} {p : ByteArray} (h : BuildAns es key al pk B w v E p) : BuildAns es key al pk 0 w v E p := by
  rcases h with h | ⟨h1, ix, h2, h3, h4⟩
  · exact .inl h
  · refine .inr ⟨h1, ix, h2, h3, ?_⟩
    rcases h4 with h | ⟨h5, h6, h7⟩
    · exact .inl h
    · exact .inr ⟨h5, h6.mono (Nat.zero_le _), h7⟩

theorem below_size {B C : Nat} {w w' : World} (e : B = C) (h : Below B w w') : Below C w w' := by
  subst e
  exact h

set_option maxRecDepth 100000 in
set_option maxHeartbeats 2000000 in
theorem Builds_walk (a : Option Addr) (es : List Ent) (cap : Nat) (w : World) (key : ByteArray) (al : Int) (pk : Bool) (hm : es.length ≤ 1000000) (hk : key.size ≤ maxLen) (hl : ∀ e, e ∈ es → e.body.length ≤ 140737488351232) (ha : EntAt w a es) (hg : EntGood w es) :
    Calls Try.prog 7 #[.slice a es.length cap, .agg #[.string key, .int .i64 al, .bool pk]] w fun e w' => e = .returned (.bool true) ∧ Below w.heap.size w w' := by
  have b0 := (Below.refl w.heap.size w).alloc (Nat.le_refl _) (.cells #[.string key, .int .i64 al, .bool pk] 37)
  have c00 := cell_new w #[.string key, .int .i64 al, .bool pk] 37 0
  have c01 := cell_new w #[.string key, .int .i64 al, .bool pk] 37 1
  have c02 := cell_new w #[.string key, .int .i64 al, .bool pk] 37 2
  have esz : (w.alloc (.cells #[.string key, .int .i64 al, .bool pk] 37)).heap.size = w.heap.size + 1 := by simp
  go_enter Try.func7, Try.ntmps7
  go_upto_region 1 with fail
  go_cut [5, 6, 7] (fun s5 s6 s7 wx => ∃ (v : Value) (E : Nat) (p : ByteArray) (fs : List Ent), s5 = v ∧ s6 = .int .i64 (E : Int) ∧ s7 = .string p ∧ Hid (BuildAns fs key al pk 0 wx v E p) ∧ Hid (Alike es fs) ∧ Below (w.heap.size + 1) (w.alloc (.cells #[.string key, .int .i64 al, .bool pk] 37)) wx)
  case first =>
    go_region_with (first
      | (go_at_call 27; refine (ownAll_any a es cap _ (by omega) hl (ha.carry (by first | exact b0 | exact below_drewN b0 _ | exact b0.drew | exact b0.drew.drew | exact b0.drew.drew.drew)) (hg.carry (by first | exact b0 | exact below_drewN b0 _ | exact b0.drew | exact b0.drew.drew | exact b0.drew.drew.drew))).mono ?_; rintro e w1 ⟨v1, fs, rfl, o1, g1, m1, b1⟩; obtain ⟨a1, cap1, rfl, hat1, -, -⟩ := o1.shape; have d0 := (b1.cell (p := ⟨w.heap.size, 0, none⟩) (by simp)).trans c00; have d1 := (b1.cell (p := ⟨w.heap.size, 1, none⟩) (by simp)).trans c01; have d2 := (b1.cell (p := ⟨w.heap.size, 2, none⟩) (by simp)).trans c02; have hfl : fs.length ≤ 1000000 := (by rw [alike_len m1]; exact hm))
      | (go_at_call 26; refine (Build_keeps a1 fs cap1 _ key al pk (by unfold maxLen; omega) hk (by exact hat1) (by exact g1.good)).mono ?_; rintro e w2 ⟨v2, E2, p2, rfl, A2, b2⟩))
    all_goals (go_wp2_with fail; go_meet)
    all_goals exact ⟨v2, E2, p2, fs, rfl, rfl, rfl, hide (ans_any A2), hide (Eq.symm m1), ((Below.refl _ _).drew.trans (below_size esz b1)).trans (b2.mono (Nat.le_trans (Nat.le_of_eq esz.symm) b1.size))⟩
  case rest =>
    obtain ⟨v, E, p, fs, rfl, rfl, rfl, HA, HAl, hb⟩ := hcut
    have d0 := (hb.cell (p := ⟨w.heap.size, 0, none⟩) (by simp)).trans c00
    have d1 := (hb.cell (p := ⟨w.heap.size, 1, none⟩) (by simp)).trans c01
    have d2 := (hb.cell (p := ⟨w.heap.size, 2, none⟩) (by simp)).trans c02
    have hbw := b0.trans (hb.mono (by omega))
    clear hb
    go_wp2_with fail
    refine (refBuild_any a es cap wc key al pk hm hk (ha.carry hbw) (hg.carry hbw)).mono ?_
    rintro e w3 ⟨v3, E3, p3, rfl, A3, b3⟩
    obtain ⟨rfl, rfl, xs, a1, a3, k1, k3, rfl, rfl, t1, t3, hxl⟩ := ans_same HAl.out A3 HA.out
    have hb3 := hbw.trans (b3.mono hbw.size)
    have t3' := t3.carry b3
    clear A3 HA b3 t3 d0 d1 d2
    go_wp2_with fail
    refine (sameBytes_any a3 a1 xs xs k3 k1 w3 (by omega) (by omega) t3' t1).mono ?_
    rintro e w4 ⟨rfl, b4⟩
    have hb4 := hb3.trans (b4.mono hb3.size)
    rw [eqB_true]
    go_wp2
    go_ret
    exact ⟨rfl, hb4⟩

end Go.Proofs.Ytgncohclofdhmaa
