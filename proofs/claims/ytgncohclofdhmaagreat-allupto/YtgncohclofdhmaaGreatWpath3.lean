import Derived.Test.YtgncohclofdhmaaGreatWpath2
namespace Go.Proofs.YtgncohclofdhmaaGreat
open Go.RowKit

theorem Tryz.info9 : (Tryz.prog.info? 9).map (fun i => (i.zero, i.size, i.bytes)) = some (some (.string ByteArray.empty), 1, 16) := by kernel_rfl

/-- A list of strings of the call's own. -/
def OwnS (B : Nat) (w : World) (v : Value) (ss : List ByteArray) : Prop := w.ownsRow B 9 1 v ss.length (ss.map Value.string)

theorem OwnS.shape {B : Nat} {w : World} {v : Value} {ss : List ByteArray} (h : OwnS B w v ss) (hl : 0 < ss.length) :
    ∃ g cap, v = .slice (some ⟨g, 0, none⟩) ss.length cap ∧ B ≤ g ∧ g < w.heap.size ∧ ss.length ≤ cap ∧ cap ≤ maxLen := by
  rcases h.2 with ⟨_, hn⟩ | ⟨g, cap, cur, rfl, hbg, hg, hnc, hcm, hcs, htake⟩
  · omega
  · refine ⟨g, cap, rfl, hbg, ?_, hnc, hcm⟩
    by_cases hh : g < w.heap.size
    · exact hh
    · rw [Array.getElem?_eq_none (by omega)] at hg; simp at hg

theorem OwnS.cellAt {B : Nat} {w : World} {ss : List ByteArray} {g n cap : Nat} (h : OwnS B w (.slice (some ⟨g, 0, none⟩) n cap) ss) (hn : n = ss.length) (j : Nat) (hj : j < ss.length) :
    w.cell? ⟨g, j, none⟩ = some (.string (ss.getD j ByteArray.empty)) := by
  subst hn
  have := World.ownsRow.cellAt h j (by omega)
  rw [this]
  simp [hj]

theorem OwnS.frozenAt {B : Nat} {w : World} {ss : List ByteArray} {g n cap : Nat} (h : OwnS B w (.slice (some ⟨g, 0, none⟩) n cap) ss) (hn : n = ss.length) (j : Nat) :
    w.frozen? ⟨g, j, none⟩ = false := by
  subst hn
  exact World.ownsRow.frozenAt h j

theorem OwnS.stored {B : Nat} {w : World} {ss : List ByteArray} {g n cap : Nat} (h : OwnS B w (.slice (some ⟨g, 0, none⟩) n cap) ss) (hn : n = ss.length) (j : Nat) (u : ByteArray) :
    OwnS B (w.setCell ⟨g, j, none⟩ (.string u)) (.slice (some ⟨g, 0, none⟩) n cap) (ss.set j u) := by
  subst hn
  have := (World.ownsRow.stored h j (.string u)).1
  unfold OwnS
  rw [List.map_set, List.length_set]
  exact this

theorem OwnS.carry {B : Nat} {w w' : World} {v : Value} {ss : List ByteArray} (h : OwnS B w v ss) (hb : Below w.heap.size w w') : OwnS B w' v ss := by
  refine ⟨h.1, ?_⟩
  rcases h.2 with ⟨rfl, hn⟩ | ⟨g, cap, cur, rfl, hbg, hg, hnc, hcm, hcs, htake⟩
  · exact .inl ⟨rfl, hn⟩
  · have hlt : g < w.heap.size := by
      by_cases hh : g < w.heap.size
      · exact hh
      · rw [Array.getElem?_eq_none (by omega)] at hg; simp at hg
    exact .inr ⟨g, cap, cur, rfl, hbg, (hb.block g hlt).trans hg, hnc, hcm, hcs, htake⟩

theorem OwnS.made (w : World) (B : Nat) (s : ByteArray) (hB : B ≤ w.heap.size) : OwnS B (w.alloc (.cells #[.string s] 9)) (.slice (some ⟨w.heap.size, 0, none⟩) 1 1) [s] :=
  World.ownsRow_lit w #[.string s] 1 hB (by simp [maxLen]) rfl

theorem OwnS.drew {B : Nat} {w : World} {v : Value} {ss : List ByteArray} (h : OwnS B w v ss) : OwnS B w.drew v ss := h

theorem strs_one (ss : List ByteArray) : ∀ u ∈ ss.map Value.string, u.oneCell' = true := by
  intro u hu
  obtain ⟨b, _, rfl⟩ := List.mem_map.1 hu
  rfl

theorem wpAppS {w : World} {ops : Array Oper} {rest : List Oper} {o : Oper} {a : Act} {Q : Exit → Act → World → Prop} (hgd : o.guard = none) (s x : Operand)
    (ho : o.op = .call { callee := .builtin .append, args := #[s, x], argTypes := #[69, 69] })
    (B : Nat) (v : Value) (xs : List ByteArray) (hs : a.eval s = v) (hown : OwnS B w v xs)
    (xv : Value) (ys : List ByteArray) (hx : a.eval x = xv) (m : Nat) (hsrc : Src Tryz.prog 1 69 xv m (ys.map Value.string) w)
    (hlen : xs.length + ys.length ≤ 1000000000) (hB : B ≤ w.heap.size)
    (h : ∀ v' w' zs, Hid (zs = xs ++ ys) → OwnS B w' v' zs → w.grownBy w' v.ownBlock → wpList Tryz.prog ops Q rest (a.put o.dst v') w') : wpList Tryz.prog ops Q (o :: rest) a w := by
  obtain ⟨i0, hi, hz0, hz1, hz2⟩ := info_parts Tryz.info9
  have hm : m = ys.length := by have := hsrc.newsLen; simp at this; omega
  refine wpList_append_any w hgd s x 69 69 ho B 9 i0 (.string ByteArray.empty) 1 16 Tryz.underlying69 hi hz0 hz1 hz2 rfl v xs.length (xs.map Value.string) hs hown xv m (ys.map Value.string) hx hsrc (by unfold maxLen; omega) (by omega) hB ?_
  intro v' w' h1 h2 _
  refine h v' w' (xs ++ ys) rfl ?_ h2
  unfold OwnS
  rw [List.map_append, List.length_append, ← hm]
  exact h1

theorem below_ownS {B : Nat} {w0 w w' : World} {v : Value} {xs : List ByteArray} (hb : Below B w0 w) (hown : OwnS B w v xs) (hg : w.grownBy w' v.ownBlock) (hB : B ≤ w0.heap.size) : Below B w0 w' :=
  hb.grown hg (Nat.le_trans hB hb.size) fun k hk => (World.ownsRow.lt hown k hk).1

def listOf (ss : List ByteArray) : List (List UInt8) := ss.map fun s => s.data.toList

set_option maxRecDepth 100000 in
set_option maxHeartbeats 1000000 in
theorem pieces_any (s : ByteArray) (w : World) (hs : s.size ≤ 40) :
    Calls Tryz.prog 47 #[.string s] w fun e w' => ∃ v ss, e = .returned v ∧ listOf ss = splitGo [] s.data.toList ∧ ss.length ≤ 41 ∧ 0 < ss.length ∧ OwnS w.heap.size w' v ss ∧ Below w.heap.size w w' := by
  have HLe := hide (str_len s)
  have o0 := OwnS.made w w.heap.size ByteArray.empty (Nat.le_refl _)
  have b0 := (Below.refl w.heap.size w).alloc (Nat.le_refl _) (.cells #[.string ByteArray.empty] 9)
  go_enter Tryz.func47, Tryz.ntmps47
  go_wp2
  go_loopw [3, 4] (fun v i wr => ∃ (k : Nat) (ds : List ByteArray) (c : ByteArray), k ≤ s.size ∧ i = .int .i64 k ∧ OwnS w.heap.size wr v (ds ++ [c]) ∧ Hid (ds.length ≤ k) ∧ Hid (c.size ≤ k) ∧ Hid (listOf ds ++ splitGo c.data.toList (s.data.toList.drop k) = splitGo [] s.data.toList) ∧ Below w.heap.size w wr) (fun _ i _ => s.size - (intOf i).toNat)
  case atStart => exact ⟨0, [], ByteArray.empty, by omega, rfl, o0, by simp [Hid], by simp [Hid], rfl, b0⟩
  clear o0 b0
  case round =>
    obtain ⟨k, ds, c, hk, rfl, ho, HD, HC, HR, hbl⟩ := hrel
    obtain ⟨g, cp, rfl, hBg, hgs, hcp, hcm⟩ := ho.shape (by simp)
    have HSl : Hid ((ds ++ [c]).length = ds.length + 1) := by simp [Hid]
    rw [HSl.out] at ho hcp ⊢
    unfold maxLen at hcm
    obtain ⟨dc, HDC⟩ : ∃ dc, Hid (dc = ds ++ [c]) := ⟨_, rfl⟩
    rw [← HDC.out] at ho
    have HDl : Hid (dc.length = ds.length + 1) := by show _ = _; rw [HDC.out]; exact HSl.out
    by_cases hlt : k < s.size
    · have hx := (s[k]).toNat_lt
      have HG := hide (str_get s k hlt)
      have hdk := HD.out
      have hck := HC.out
      by_cases h47 : (s[k]).toNat = 47
      · have h47' : ((s[k].toNat : Int) == 47) = true := by simp; omega
        have HR2 : Hid (listOf dc ++ splitGo ByteArray.empty.data.toList (s.data.toList.drop (k + 1)) = splitGo [] s.data.toList) := by
          show _ = _
          rw [HDC.out, ← HR.out, split_slash c.data.toList s.data.toList k (by rw [HLe.out]; exact hlt) (by rw [← HG.out]; exact h47)]
          simp [listOf]
        have hs1 : Src Tryz.prog 1 69 (.slice (some ⟨wr.heap.size, 0, none⟩) 1 1) 1 ([ByteArray.empty].map Value.string) (wr.alloc (.cells #[.string ByteArray.empty] 9)) :=
          Src.ofSlice _ Tryz.underlying69 ⟨wr.heap.size, 0, none⟩ 1 1 _ (by simp) (cell_one_new _ _ _) (strs_one _)
        have ho1 : OwnS w.heap.size (wr.alloc (.cells #[.string ByteArray.empty] 9)) (.slice (some ⟨g, 0, none⟩) (ds.length + 1) cp) dc := World.ownsRow.alloc ho _
        have hbl1 := hbl.alloc hbl.size (.cells #[.string ByteArray.empty] 9)
        clear h47 ho hbl
        go_wp2_with (at_builtin; go_must (refine wpAppS rfl (.tmp 16) (.tmp 17) rfl w.heap.size _ dc rfl ho1 _ [ByteArray.empty] rfl 1 hs1 (by have := HDl.out; simp; omega) hbl1.size ?_))
        intro v2 w2 z2 e2 o2 g2
        have b2 := below_ownS hbl1 ho1 g2 (Nat.le_refl _)
        have HE := e2.out
        subst HE
        have HD2 : Hid (dc.length ≤ k + 1) := by show _ ≤ _; rw [HDl.out]; omega
        clear g2 hs1 ho1 hbl1 e2
        go_wp2
        go_roundw
        case rel => exact ⟨k + 1, dc, ByteArray.empty, by omega, by go_num, o2, HD2, by simp [Hid], HR2, b2⟩
        case measure => simp [intOf]; omega
      · have h47' : ((s[k].toNat : Int) == 47) = false := by simp; omega
        have hce := ho.cellAt HDl.out.symm ds.length (by rw [HDl.out]; omega)
        have hfr := ho.frozenAt HDl.out.symm ds.length
        rw [show dc.getD ds.length ByteArray.empty = c from by rw [HDC.out]; simp] at hce
        have hst := ho.stored HDl.out.symm ds.length (c ++ s.extract k (k + 1))
        have hset : dc.set ds.length (c ++ s.extract k (k + 1)) = ds ++ [c ++ s.extract k (k + 1)] := by rw [HDC.out]; simp
        rw [hset] at hst
        have hex : (s.extract k (k + 1)).data.toList = [s[k]] := by
          rw [Lib.extract_data, show k + 1 - k = 1 from by omega, drop_cons s.data.toList k (by rw [HLe.out]; exact hlt), HG.out]
          rfl
        have HCA : Hid ((c ++ s.extract k (k + 1)).data.toList = c.data.toList ++ [s[k]]) := by
          show _ = _
          rw [← hex]
          simp
        have HCS : Hid ((c ++ s.extract k (k + 1)).size ≤ k + 1) := by
          have h1 : (c ++ s.extract k (k + 1)).data.toList.length = c.size + 1 := by rw [HCA.out, List.length_append, str_len c]; rfl
          rw [str_len] at h1
          show _ ≤ _
          omega
        have HR2 : Hid (listOf ds ++ splitGo (c ++ s.extract k (k + 1)).data.toList (s.data.toList.drop (k + 1)) = splitGo [] s.data.toList) := by
          show _ = _
          rw [HCA.out, HG.out, ← split_more c.data.toList s.data.toList k (by rw [HLe.out]; exact hlt) (by rw [← HG.out]; exact h47)]
          exact HR.out
        have hes : (s.extract k (k + 1)).size = 1 := by
          have h1 := str_len (s.extract k (k + 1))
          rw [hex] at h1
          simpa using h1.symm
        clear h47 ho hset hex
        go_wp2
        go_region
        have hbl2 : ∀ u, Below w.heap.size w (wr.setCell ⟨g, ds.length, none⟩ u) := fun u => hbl.setCell hBg u
        all_goals go_wp2
        all_goals go_roundw
        case rel => exact ⟨k + 1, ds, c ++ s.extract k (k + 1), by omega, by go_num, hst.drew, by have := HD.out; show _ ≤ _; omega, HCS, HR2, (hbl2 _).drew⟩
        case measure => simp [intOf]; omega
    · have HR2 : Hid (listOf (ds ++ [c]) = splitGo [] s.data.toList) := by
        show _ = _
        rw [← HR.out, split_end _ _ _ (by rw [HLe.out]; omega)]
        simp [listOf]
      rw [HDC.out] at ho
      have hdk := HD.out
      go_wp2
      go_ret
      exact ⟨_, ds ++ [c], rfl, HR2.out, by rw [HSl.out]; omega, by rw [HSl.out]; omega, ho, hbl⟩

end Go.Proofs.YtgncohclofdhmaaGreat
