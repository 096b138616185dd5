import Derived.Test.YtgncohclofdhmabWkp1
import Derived.Deep.DeepCutAuto
namespace Go.Proofs.Ytgncohclofdhmab
open Go.RowKit

/-- From 'a' on lie the bodies of es (their paths are not looked at). -/
def BodAt (w : World) (a : Option Addr) (es : List Ent) : Prop :=
  ∀ i, i < es.length → ∃ b off, a = some ⟨b, off, none⟩ ∧ w.cell? ⟨b, off + i, none⟩ = some (es.getD i noEnt).val

theorem BodAt.carry {w w' : World} {a : Option Addr} {es : List Ent} (h : BodAt w a es) (hb : Below w.heap.size w w') : BodAt w' a es := by
  intro i hi
  obtain ⟨b, off, e, h1⟩ := h i hi
  exact ⟨b, off, e, (hb.cell (p := ⟨b, off + i, none⟩) (World.block_lt_of_cell? w _ h1)).trans h1⟩

theorem BodAt.nil (w : World) (a : Option Addr) : BodAt w a [] := fun i h => absurd h (Nat.not_lt_zero i)

theorem OwnE.mono {B B' : Nat} {w : World} {v : Value} {es : List Ent} (h : OwnE B w v es) (hB : B' ≤ B) : OwnE B' w v es := by
  refine ⟨h.1, ?_⟩
  rcases h.2 with ⟨rfl, hn⟩ | ⟨g, cap, cur, rfl, hbg, hg⟩
  · exact .inl ⟨rfl, hn⟩
  · exact .inr ⟨g, cap, cur, rfl, Nat.le_trans hB hbg, hg⟩

theorem EntOwn.mono {B B' : Nat} {w : World} {es : List Ent} (h : EntOwn B w es) (hB : B' ≤ B) : EntOwn B' w es := fun e he => ⟨(h e he).1.mono hB, (h e he).2⟩

theorem paths_any (w : World) : Calls Try.prog 34 #[] w fun e w' => e = .returned (.slice (some ⟨w.heap.size, 0, none⟩) 6 6) ∧ Below w.heap.size w w' ∧ w.heap.size < w'.heap.size ∧ ∀ k, k < 6 → w'.cell? ⟨w.heap.size, k, none⟩ = some (.string (sixPaths.getD k ByteArray.empty)) := by
  have b0 := (Below.refl w.heap.size w).alloc (Nat.le_refl _) (.cells #[.string ⟨#[97]⟩, .string ⟨#[107, 45, 57]⟩, .string ⟨#[107, 47, 97, 46, 98]⟩, .string ⟨#[107, 47, 120, 95, 47, 48]⟩, .string ⟨#[107, 48]⟩, .string ⟨#[122, 122]⟩] 9)
  have HC : Hid (∀ k, k < 6 → (w.alloc (.cells #[.string ⟨#[97]⟩, .string ⟨#[107, 45, 57]⟩, .string ⟨#[107, 47, 97, 46, 98]⟩, .string ⟨#[107, 47, 120, 95, 47, 48]⟩, .string ⟨#[107, 48]⟩, .string ⟨#[122, 122]⟩] 9)).cell? ⟨w.heap.size, k, none⟩ = some (.string (sixPaths.getD k ByteArray.empty))) := by
    intro k hk
    rw [cell_new]
    match k, hk with
    | 0, _ => rfl
    | 1, _ => rfl
    | 2, _ => rfl
    | 3, _ => rfl
    | 4, _ => rfl
    | 5, _ => rfl
  go_enter Try.func34, Try.ntmps34
  go_wp2
  go_ret
  exact ⟨rfl, b0, by simp, HC.out⟩

theorem getD_map_pair (fs : List Ent) (i : Nat) : ((fs.map fun f => f.body)).getD i [] = (fs.getD i noEnt).body := by
  rw [List.getD_eq_getElem?_getD, List.getD_eq_getElem?_getD, List.getElem?_map]
  cases fs[i]? <;> rfl

set_option maxRecDepth 100000 in
set_option maxHeartbeats 4000000 in
theorem files_any (a : Option Addr) (es : List Ent) (cap : Nat) (w : World) (z : Int) (hl : ∀ e, e ∈ es → e.body.length ≤ 140737488351232) (hz : -9223372036854775808 ≤ z) (hz2 : z ≤ 9223372036854775807) (ha : BodAt w a es) (hg : EntGood w es) :
    Calls Try.prog 13 #[.slice a es.length cap, .int .i64 z] w fun e w' => ∃ v fs, e = .returned v ∧ OwnE w.heap.size w' v fs ∧ EntOwn w.heap.size w' fs ∧ (fs.map fun f => (f.path, f.body)) = filesTo (fun i => (es.getD i noEnt).body) es.length (pickN z 6) 6 ∧ Below w.heap.size w w' := by
  obtain ⟨i0, hi, hz0, hz1, hz3⟩ := info_parts Try.info30
  have HP := hide (fun W => pick_is z 6 W hz hz2 (by omega) (by simp [maxLen]))
  have hs := pickN_lt z (n := 6) (by omega)
  generalize pickN z 6 = s at *
  obtain ⟨n, HN⟩ : ∃ n, Hid (n = es.length) := ⟨_, rfl⟩
  rw [← HN.out]
  go_enter Try.func13, Try.ntmps13
  go_wp2_with fail
  refine (paths_any w).mono ?_
  rintro e w1 ⟨rfl, b1, sz1, hp1⟩
  go_wp2_with fail
  refine (HP.out _).mono ?_
  rintro e w1 ⟨rfl, rfl⟩
  go_wp2_with (at_make; go_must (refine wpList_make_full _ rfl (.const (.int .i64 0)) (.const (.int .i64 0)) 22 rfl w1.heap.size 30 i0 (.agg #[.string ByteArray.empty, .slice none 0 0]) 2 Try.underlying22 hi hz0 hz1 .i64 .i64 0 0 0 rfl rfl rfl rfl (by rw [hz3]; omega) (by unfold maxLen; omega) (Nat.le_refl _) ?_))
  intro w3 h3 g3
  have b3 : Below w1.heap.size w1 w3 := (Below.refl _ _).grown g3 (Nat.le_refl _) (fun k hk => by cases hk)
  have o3 : OwnE w1.heap.size w3 (.slice (some ⟨w1.heap.size, 0, none⟩) 0 0) [] := by
    unfold OwnE
    simpa [madeCells, entCells] using h3
  clear h3 g3 hi hz0 hz1 hz3
  go_wp2
  go_loopw [7, 8, 9, 10] (fun v i _ _ wr => ∃ (k : Nat) (fs : List Ent), k ≤ 6 ∧ i = .int .i64 k ∧ OwnE w1.heap.size wr v fs ∧ Hid (EntOwn w1.heap.size wr fs) ∧ Hid ((fs.map fun f => (f.path, f.body)) = filesTo (fun i => (es.getD i noEnt).body) n s k) ∧ Below w1.heap.size w1 wr) (fun _ i _ _ _ => 6 - (intOf i).toNat)
  case atStart => exact ⟨0, [], by omega, rfl, o3, EntOwn.nil _ _, rfl, b3⟩
  clear o3 b3
  case round =>
    obtain ⟨k, fs, hk, rfl, ho, HG, HM, hbl⟩ := hrel
    have hbw := b1.trans (hbl.mono b1.size)
    have HL : Hid (fs.length ≤ 6) := by
      have h := congrArg List.length HM.out
      have := filesTo_len (fun i => (es.getD i noEnt).body) n s k
      rw [List.length_map] at h
      show _ ≤ _
      omega
    by_cases hlt : k < 6
    · obtain ⟨r, HR⟩ : ∃ r, Hid (r = (k + 6 - s) % 6) := ⟨_, rfl⟩
      have hcast : ((k : Int) + 6 - (s : Int)) % 6 = (r : Int) := by rw [HR.out]; omega
      have hki : (k : Int) < 6 := by omega
      have hr6 : r < 6 := by rw [HR.out]; omega
      have HMk : Hid (filesTo (fun i => (es.getD i noEnt).body) n s (k + 1) = filesTo (fun i => (es.getD i noEnt).body) n s k ++ (if r < n then [(sixPaths.getD k ByteArray.empty, (es.getD r noEnt).body.take 600)] else [])) := by
        show _ = _
        rw [filesTo, ← HR.out]
      have hpk := (hbl.cell (p := ⟨w.heap.size, k, none⟩) sz1).trans (hp1 k hlt)
      have hpm : (sixPaths.getD k ByteArray.empty).size ≤ maxLen := by
        have hm6 : sixPaths.getD k ByteArray.empty ∈ sixPaths := by
          rw [List.getD_eq_getElem?_getD, List.getElem?_eq_getElem (show k < sixPaths.length from hlt)]
          exact List.getElem_mem _
        have := (six_paths _ hm6).2
        unfold maxLen
        omega
      generalize sixPaths.getD k ByteArray.empty = pp at *
      by_cases hrn : r < n
      · have hrl : r < es.length := by have := HN.out; omega
        obtain ⟨b, off, rfl, hc1⟩ := (ha.carry hbw) r hrl
        obtain ⟨g1, g2, g3, g4⟩ := (hg.carry hbw).get r hrl
        have hbm : (es.getD r noEnt).body.length ≤ 140737488351232 := by
          apply hl
          exact getD_mem hrl
        have HM2 : Hid (filesTo (fun i => (es.getD i noEnt).body) n s (k + 1) = filesTo (fun i => (es.getD i noEnt).body) n s k ++ [(pp, (es.getD r noEnt).body.take 600)]) := by
          show _ = _
          rw [HMk.out, if_pos hrn]
        generalize es.getD r noEnt = x at *
        unfold Ent.val at hc1
        have hrni : (r : Int) < (n : Int) := by omega
        go_wp2_with fail
        refine (cut_any x.adr x.body x.cap _ (by omega) g2 g3 g1).mono ?_
        rintro e w4 ⟨v4, rfl, o4, b4⟩
        obtain ⟨yb, HYb⟩ : ∃ yb, Hid (yb = x.body.take 600) := ⟨_, rfl⟩
        rw [← HYb.out] at o4
        have hbl4 := hbl.trans (b4.mono hbl.size)
        have ho4 := ho.carry b4
        have HG4 := hide (HG.out.carry b4)
        have hp4 := (b4.cell (p := ⟨w.heap.size, k, none⟩) (World.block_lt_of_cell? _ _ hpk)).trans hpk
        have o4' : Own w1.heap.size w4 v4 yb := o4.mono hbl.size
        obtain ⟨a4, k4, rfl, -, -, -⟩ := o4'.shape
        have hs1 := src_ent w4 ⟨pp, a4, yb, k4⟩
        unfold Ent.val at hs1
        have ho5 := ho4.alloc (.cells #[.string pp, .slice a4 yb.length k4] 30)
        have hbl5 := hbl4.alloc hbl4.size (.cells #[.string pp, .slice a4 yb.length k4] 30)
        have HG5 := hide (HG4.out.carry ((Below.refl w4.heap.size w4).alloc (Nat.le_refl _) (.cells #[.string pp, .slice a4 yb.length k4] 30)))
        have o5' := o4'.alloc (.cells #[.string pp, .slice a4 yb.length k4] 30)
        clear b4 o4 hbl ho HG HG4 g1 hc1 ho4 o4' hpk hcast
        go_wp2_with (at_builtin; go_must (refine wpAppE rfl (.tmp 41) (.tmp 48) rfl w1.heap.size _ fs rfl ho5 _ [⟨pp, a4, yb, k4⟩] rfl 1 hs1 (by have := HL.out; simp; omega) hbl5.size ?_))
        intro v6 w6 f6 e6 o6 gr
        have b6 := below_ownE hbl5 ho5 gr.by_ (Nat.le_refl _)
        have HG6 : Hid (EntOwn w1.heap.size w6 f6) := by
          rw [e6.out]
          exact (HG5.out.grown ho5 gr.by_).more (e := ⟨pp, a4, yb, k4⟩) (o5'.kept gr.by_ (own_ne o5' ho5)) hpm
        have HM6 : Hid ((f6.map fun f => (f.path, f.body)) = filesTo (fun i => (es.getD i noEnt).body) n s (k + 1)) := by
          show _ = _
          rw [e6.out, HM2.out, List.map_append, HM.out, ← HYb.out]
          rfl
        clear gr hs1 ho5 hbl5 HG5 o5' hp4
        go_wp2
        go_roundw
        case rel => first | exact ⟨k + 1, f6, by omega, by go_num, o6, HG6, HM6, b6⟩ | ((repeat apply Exists.intro); exact ⟨⟨k + 1, f6, by omega, by go_num, o6, HG6, HM6, b6⟩, rfl⟩)
        case measure => simp [intOf]; omega
      · have HM2 : Hid ((fs.map fun f => (f.path, f.body)) = filesTo (fun i => (es.getD i noEnt).body) n s (k + 1)) := by
          show _ = _
          rw [HMk.out, if_neg hrn, List.append_nil]
          exact HM.out
        have hrni : ¬ (r : Int) < (n : Int) := by omega
        go_wp2
        go_roundw
        case rel => first | exact ⟨k + 1, fs, by omega, by go_num, ho, HG, HM2, hbl⟩ | ((repeat apply Exists.intro); exact ⟨⟨k + 1, fs, by omega, by go_num, ho, HG, HM2, hbl⟩, rfl⟩)
        case measure => simp [intOf]; omega
    · obtain rfl : k = 6 := by omega
      go_wp2
      go_ret
      refine ⟨_, fs, rfl, ?_, ?_, HM.out, hbw⟩
      · exact ho.mono b1.size
      · exact HG.out.mono b1.size

end Go.Proofs.Ytgncohclofdhmab
