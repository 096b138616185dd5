import Derived.Test.YtggakcalcmjolaaWsum3
namespace Go.Proofs.Ytggakcalcmjolaa
open Go.RowKit

set_option maxHeartbeats 800000 in
theorem refTag_any (s : ByteArray) (a : Option Addr) (xs : List UInt8) (cap : Nat) (w : World) (hs : s.size ≤ maxLen) (hm : xs.length ≤ 140737488355328 - 4096) (hb : Bts w a xs) :
    Calls Try.prog 16 #[.string s, .slice a xs.length cap] w fun e w' => e = .returned (.tuple #[.int .i64 (tagNum s xs : Nat), .int .i64 (tagErr s : Nat)]) ∧ Below w.heap.size w w' := by
  have hk := keyFits_any s
  cases hkb : keyB s.size
  · have HN : Hid ((tagNum s xs : Nat) = 0 ∧ tagErr s = 1) := by constructor <;> simp [tagNum, tagErr, hkb]
    rw [hkb] at hk
    clear hkb
    go_enter Try.func16, Try.ntmps16
    go_wp2_with (go_at_call 42; refine (hk _ hs).mono ?_; rintro e w' ⟨rfl, rfl⟩)
    go_ret2
    rw [HN.out.1, HN.out.2]
    exact ⟨rfl, Below.refl _ _⟩
  · have HN : Hid ((tagNum s xs : Nat) = tagFrom 0 ([] ++ s.data.toList ++ xs ++ s.data.toList) ∧ tagErr s = 0) := by constructor <;> simp [tagNum, tagErr, hkb, tagVal]
    have hk16 : s.data.toList.length ≤ 16 := by
      simp [keyB] at hkb
      simp
      exact hkb.2
    rw [hkb] at hk
    clear hkb
    have hsz : s.size = s.data.toList.length := by simp
    go_enter Try.func16, Try.ntmps16
    go_wp2_with fail
    refine (hk _ hs).mono ?_
    rintro e w' ⟨rfl, rfl⟩
    clear hk
    have Hsz : Hid (s.size = s.data.toList.length) := hsz
    clear hsz
    go_wp2_with (at_builtin; refine wpApp rfl (.tmp 13) (.tmp 14) 9 rfl w'.heap.size (.slice none 0 0) [] rfl (Own.nil _ _) _ s.data.toList rfl s.size (src_str _ Try.underlying9 s) (by simp only [List.length_nil]; omega) (Nat.le_refl _) ?_)
    intro v1 w1 z1 e1 o1 g1
    have l1 : z1.length = s.data.toList.length := congrArg List.length e1.out
    have b1 := below_own (Below.refl _ _) (Own.nil w'.heap.size w') g1 (Nat.le_refl _)
    have hb1 := hb.carry b1
    have L1 : Hid (z1.length = s.data.toList.length) := l1
    clear g1 l1
    go_wp2_with (at_builtin; refine wpApp rfl (.tmp 16) (.tmp 17) 22 rfl w'.heap.size v1 z1 rfl o1 _ xs rfl xs.length (src_bts Try.underlying22 hb1 rfl) (by have := L1.out; omega) b1.size ?_)
    intro v2 w2 z2 e2 o2 g2
    have L2 : Hid (z2.length = s.data.toList.length + xs.length) := by show _ = _; rw [e2.out, List.length_append, L1.out]
    have b2 := below_own b1 o1 g2 (Nat.le_refl _)
    clear g2 o1 hb1
    go_wp2_with (at_builtin; refine wpApp rfl (.tmp 19) (.tmp 20) 9 rfl w'.heap.size v2 z2 rfl o2 _ s.data.toList rfl s.size (src_str _ Try.underlying9 s) (by have := L2.out; omega) b2.size ?_)
    intro v3 w3 z3 e3 o3 g3
    have b3 := below_own b2 o2 g3 (Nat.le_refl _)
    have hl : z3.length ≤ 140737488355328 := by rw [e3.out, List.length_append, L2.out]; omega
    have HV : Hid (tagNum s xs = tagFrom 0 z3) := by rw [e3.out, e2.out, e1.out]; exact HN.out.1
    have HE : Hid (tagErr s = 0) := HN.out.2
    clear g3 o2 HN
    obtain ⟨a3, c3, rfl, hb3, -, -⟩ := o3.shape
    clear o3 Hsz hk16 b1 b2 hb
    go_wp2_with (go_at_call 43; refine (reftag_any a3 z3 c3 _ hl hb3).mono ?_; rintro e w4 ⟨rfl, rfl⟩)
    go_ret2
    rw [HV.out, HE.out]
    exact ⟨rfl, b3⟩

end Go.Proofs.Ytggakcalcmjolaa
