import Derived.Test.YtggakcalcmjolabWpflt
import Derived.Deep.RegionWith
import Derived.BigRegion
namespace Go.Proofs.Ytggakcalcmjolab
open Go.RowKit

theorem anyB_congr {f g : Nat → Bool} {n : Nat} (h : ∀ k, k < n → f k = g k) : anyB f n = anyB g n := by
  induction n with
  | zero => rfl
  | succ n ih => rw [anyB, anyB, ih (fun k hk => h k (by omega)), h n (by omega)]

theorem entF_congr {f g : Nat → ByteArray} {p : ByteArray} {l n : Nat} (h : ∀ k, k < n → f k = g k) : entF f p l n = entF g p l n := by
  unfold entF
  rw [anyB_congr (f := fun k => decide (f k = p)) (g := fun k => decide (g k = p)) (fun k hk => by rw [h k hk]), anyB_congr (f := fun k => underB p.data.toList (f k).data.toList) (g := fun k => underB p.data.toList (g k).data.toList) (fun k hk => by rw [h k hk])]

theorem getD_take {α : Type} (xs : List α) (d : α) (i k : Nat) (h : k < i) : (xs.take i).getD k d = xs.getD k d := by
  rw [List.getD_eq_getElem?_getD, List.getD_eq_getElem?_getD, List.getElem?_take_of_lt h]

theorem EntAt.take {w : World} {a : Option Addr} {es : List Ent} (h : EntAt w a es) (i : Nat) : EntAt w a (es.take i) := by
  intro k hk
  rw [List.length_take] at hk
  rw [getD_take es noEnt i k (by omega)]
  exact h k (by omega)

/-- The fault of the entry at a place, by those ahead of it. -/
def fltAt (es : List Ent) (j : Nat) : Nat := entF (fun k => (es.getD k noEnt).path) (es.getD j noEnt).path (es.getD j noEnt).body.length j

set_option maxRecDepth 100000 in
set_option maxHeartbeats 4000000 in
theorem entriesFault_any (a : Option Addr) (es : List Ent) (cap : Nat) (w : World) (hm : es.length ≤ 1000) (hcap : es.length ≤ cap) (ha : EntAt w a es) (hg : ∀ i, i < es.length → (es.getD i noEnt).path.size ≤ maxLen) :
    Calls Try.prog 27 #[.slice a es.length cap] w fun e w' => ∃ (E i0 : Nat) (p : ByteArray), e = .returned (.tuple #[.int .i64 (E : Nat), .string p]) ∧ LeastAt (fltAt es) es.length E i0 ∧ (E ≠ 0 → p = (es.getD i0 noEnt).path) ∧ Below w.heap.size w w' := by
  obtain ⟨n, HN⟩ : ∃ n, Hid (n = es.length) := ⟨_, rfl⟩
  rw [← HN.out] at hm hcap ⊢
  go_enter Try.func27, Try.ntmps27
  go_wp2
  go_loopw [4, 5, 6, 7] (fun l s i _ wr => ∃ (k E i0 : Nat) (p : ByteArray), k ≤ n ∧ i = .int .i64 k ∧ l = .int .i64 (E : Nat) ∧ s = .string p ∧ Hid (LeastAt (fltAt es) k E i0) ∧ Hid (E ≠ 0 → p = (es.getD i0 noEnt).path) ∧ Below w.heap.size w wr) (fun _ _ i _ _ => n - (intOf i).toNat)
  case atStart => exact ⟨0, 0, 0, _, by omega, rfl, rfl, rfl, LeastAt.start _ _, fun h => absurd rfl h, Below.refl _ _⟩
  case round =>
    obtain ⟨k, E, i0, p, hk, rfl, rfl, rfl, HL, HP, hbl⟩ := hrel
    by_cases hlt : k < n
    · have hlt2 : k < es.length := by have := HN.out; omega
      obtain ⟨b, off, rfl, hc1, hc2⟩ := (ha.carry hbl) k hlt2
      have hki : (k : Int) < (n : Int) := by omega
      have hkc : (k : Int) ≤ (cap : Int) := by omega
      unfold Ent.val at hc2
      have hpk := hg k hlt2
      obtain ⟨f, HF⟩ : ∃ f, Hid (f = fltAt es k) := ⟨_, rfl⟩
      have HPk : Hid ((es.getD k noEnt).path = (es.getD k noEnt).path) := rfl
      have HEF : Hid (∀ W c, Below w.heap.size w W → Calls Try.prog 40 #[.slice (some ⟨b, off, none⟩) k c, .agg #[.string (es.getD k noEnt).path, .slice (es.getD k noEnt).adr (es.getD k noEnt).body.length (es.getD k noEnt).cap]] W fun e w' => e = .returned (.int .i64 (f : Nat)) ∧ Below W.heap.size W w') := by
        intro W c hW
        have h := entryFault_any (some ⟨b, off, none⟩) (es.take k) c W (es.getD k noEnt).path (es.getD k noEnt).adr (es.getD k noEnt).body (es.getD k noEnt).cap (by rw [List.length_take]; omega) ((ha.carry hW).take k) (fun i hi => by rw [List.length_take] at hi; rw [getD_take es noEnt k i (by omega)]; exact hg i (by omega)) hpk
        rw [List.length_take, show min k es.length = k from by omega, entF_congr (g := fun j => (es.getD j noEnt).path) (fun j hj => by rw [getD_take es noEnt k j hj])] at h
        rw [HF.out]
        exact h
      obtain ⟨x, HX⟩ : ∃ x, Hid (x = es.getD k noEnt) := ⟨_, rfl⟩
      rw [← HX.out] at hc1 hc2 HEF
      clear HPk
      by_cases hf0 : f = 0
      · have hfb : ((f : Int) != 0) = false := by simp [hf0]
        have HL2 : Hid (LeastAt (fltAt es) (k + 1) E i0) := HL.out.stay (.inl (by rw [← HF.out]; exact hf0))
        clear hf0
        go_wp2
        go_region_with (go_at_call 40; refine (unhide HEF _ _ (by first | exact hbl | exact hbl.drew | exact below_drewN hbl _)).mono ?_; rintro e w2 ⟨rfl, b2⟩)
        all_goals
          have b2' : Below wr.heap.size wr w2 := by first | exact b2 | exact (Below.refl _ _).drew.trans b2
          have hbl2 := hbl.trans (b2'.mono hbl.size)
          clear b2 b2' hc1 hc2
          go_wp2
          go_roundw
          case rel => first | exact ⟨k + 1, E, i0, p, by omega, by go_num, rfl, rfl, HL2, HP, hbl2⟩ | ((repeat apply Exists.intro); exact ⟨⟨k + 1, E, i0, p, by omega, by go_num, rfl, rfl, HL2, HP, hbl2⟩, rfl⟩)
          case measure => simp [intOf]; omega
      · have hfb : ((f : Int) != 0) = true := by simp; omega
        by_cases hE0 : E = 0
        · have hEb : ((E : Int) == 0) = true := by simp [hE0]
          have HL2 : Hid (LeastAt (fltAt es) (k + 1) f k) := by
            have := HL.out.take (by rw [← HF.out]; exact hf0) (.inl hE0)
            rw [← HF.out] at this
            exact this
          have HP2 : Hid (f ≠ 0 → x.path = (es.getD k noEnt).path) := fun _ => by rw [HX.out]
          clear hf0 hE0
          go_wp2
          go_region_with (go_at_call 40; refine (unhide HEF _ _ (by first | exact hbl | exact hbl.drew | exact below_drewN hbl _)).mono ?_; rintro e w2 ⟨rfl, b2⟩)
          all_goals
            have b2' : Below wr.heap.size wr w2 := by first | exact b2 | exact (Below.refl _ _).drew.trans b2
            have hbl2 := hbl.trans (b2'.mono hbl.size)
            have hd1 := (b2'.cell (p := ⟨b, off + k * 2, none⟩) (World.block_lt_of_cell? _ _ hc1)).trans hc1
            clear b2 b2' hc1 hc2
            go_wp2
            go_roundw
            case rel => first | exact ⟨k + 1, f, k, x.path, by omega, by go_num, rfl, rfl, HL2, HP2, hbl2⟩ | ((repeat apply Exists.intro); exact ⟨⟨k + 1, f, k, x.path, by omega, by go_num, rfl, rfl, HL2, HP2, hbl2⟩, rfl⟩)
            case measure => simp [intOf]; omega
        · have hEb : ((E : Int) == 0) = false := by rw [beq_eq_false_iff_ne]; omega
          by_cases hlt3 : f < E
          · have hfe : decide (f < E) = true := by simp; exact hlt3
            have HL2 : Hid (LeastAt (fltAt es) (k + 1) f k) := by
              have := HL.out.take (by rw [← HF.out]; exact hf0) (.inr (by rw [← HF.out]; exact hlt3))
              rw [← HF.out] at this
              exact this
            have HP2 : Hid (f ≠ 0 → x.path = (es.getD k noEnt).path) := fun _ => by rw [HX.out]
            clear hf0 hE0
            go_wp2
            go_region_with (go_at_call 40; refine (unhide HEF _ _ (by first | exact hbl | exact hbl.drew | exact below_drewN hbl _)).mono ?_; rintro e w2 ⟨rfl, b2⟩)
            all_goals
              have b2' : Below wr.heap.size wr w2 := by first | exact b2 | exact (Below.refl _ _).drew.trans b2
              have hbl2 := hbl.trans (b2'.mono hbl.size)
              have hd1 := (b2'.cell (p := ⟨b, off + k * 2, none⟩) (World.block_lt_of_cell? _ _ hc1)).trans hc1
              clear b2 b2' hc1 hc2
              go_wp2
              go_roundw
              case rel => first | exact ⟨k + 1, f, k, x.path, by omega, by go_num, rfl, rfl, HL2, HP2, hbl2⟩ | ((repeat apply Exists.intro); exact ⟨⟨k + 1, f, k, x.path, by omega, by go_num, rfl, rfl, HL2, HP2, hbl2⟩, rfl⟩)
              case measure => simp [intOf]; omega
          · have hfe : decide (f < E) = false := by simp; omega
            have HL2 : Hid (LeastAt (fltAt es) (k + 1) E i0) := HL.out.stay (.inr ⟨hE0, by rw [← HF.out]; omega⟩)
            clear hf0 hE0
            go_wp2
            go_region_with (go_at_call 40; refine (unhide HEF _ _ (by first | exact hbl | exact hbl.drew | exact below_drewN hbl _)).mono ?_; rintro e w2 ⟨rfl, b2⟩)
            all_goals
              have b2' : Below wr.heap.size wr w2 := by first | exact b2 | exact (Below.refl _ _).drew.trans b2
              have hbl2 := hbl.trans (b2'.mono hbl.size)
              clear b2 b2' hc1 hc2
              go_wp2
              go_roundw
              case rel => first | exact ⟨k + 1, E, i0, p, by omega, by go_num, rfl, rfl, HL2, HP, hbl2⟩ | ((repeat apply Exists.intro); exact ⟨⟨k + 1, E, i0, p, by omega, by go_num, rfl, rfl, HL2, HP, hbl2⟩, rfl⟩)
              case measure => simp [intOf]; omega
    · obtain rfl : k = n := by omega
      go_wp2
      go_ret2
      exact ⟨E, i0, p, rfl, HL.out, HP.out, hbl⟩

end Go.Proofs.Ytggakcalcmjolab
