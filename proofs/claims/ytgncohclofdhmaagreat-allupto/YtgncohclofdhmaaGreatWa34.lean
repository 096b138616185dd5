import Derived.Test.YtgncohclofdhmaaGreatWa33
import Derived.Test.YtgncohclofdhmaaGreatWvf
namespace Go.Proofs.YtgncohclofdhmaaGreat
open Go.RowKit
set_option linter.unusedVariables false

/-- What the document's Verify answers. -/
def RefVerKeeps : Prop := ∀ (a : Option Addr) (p : List UInt8) (cap : Nat) (w : World) (key : ByteArray), p.length ≤ 140737488355328 → key.size ≤ maxLen → p.length ≤ cap → cap ≤ maxLen → Bts w a p →
    Calls Tryz.prog 36 #[.slice a p.length cap, .string key] w fun e w' => ∃ v cfg E, e = .returned (.tuple #[v, cfg, .int .i64 (E : Nat)]) ∧ VerAns key p w.heap.size w' v cfg E ∧ Below w.heap.size w w'

set_option maxRecDepth 100000 in
set_option maxHeartbeats 600000 in
theorem look_ver (B gw n0 : Nat) (w0 : World) (sv : Value) (hn0 : n0 ≤ 2000000) (HP : VerKeepsA) (HR : RefVerKeeps) : LookOne 7 B gw n0 w0 sv := by
  intro t w role dv bv ev ds ls es ai bi al s key pk ht hs hkey hai1 hai2 hbi1 hbi2 hal1 hal2 h y hy
  obtain ⟨xs, hO, hxl, hrl⟩ := h.data y hy
  have Ba := below_alloc w (.cells #[.int .i64 7, .int .i64 ai, .int .i64 bi, .string s, .string key, .int .i64 al, .bool pk] 33)
  have hbx : (w.alloc (.cells #[.int .i64 7, .int .i64 ai, .int .i64 bi, .string s, .string key, .int .i64 al, .bool pk] 33)).heap[w.heap.size]? = some (.cells #[.int .i64 7, .int .i64 ai, .int .i64 bi, .string s, .string key, .int .i64 al, .bool pk] 33 (0, 0)) := heap_alloc_new w _
  have H1 := hide (h.below Ba)
  have hO1 := hO.carry Ba
  obtain ⟨ya, yc, rfl, hb, hyc, hycm⟩ := hO.shape
  replace hb := hb.carry Ba
  have hlt : w.heap.size < (w.alloc (.cells #[.int .i64 7, .int .i64 ai, .int .i64 bi, .string s, .string key, .int .i64 al, .bool pk] 33)).heap.size := by simp
  have hll : ls.length ≤ 60000000 := by have := h.nl; omega
  have hdl : ds.length ≤ 4000000 := by have := h.nd; omega
  have c0 : (w.alloc (.cells #[.int .i64 7, .int .i64 ai, .int .i64 bi, .string s, .string key, .int .i64 al, .bool pk] 33)).cell? ⟨w.heap.size, 0, none⟩ = some (.int .i64 7) := cell_of_row _ _ 0 _ _ _ hbx
  have c3 : (w.alloc (.cells #[.int .i64 7, .int .i64 ai, .int .i64 bi, .string s, .string key, .int .i64 al, .bool pk] 33)).cell? ⟨w.heap.size, 3, none⟩ = some (.string s) := cell_of_row _ _ 3 _ _ _ hbx
  have c4 : (w.alloc (.cells #[.int .i64 7, .int .i64 ai, .int .i64 bi, .string s, .string key, .int .i64 al, .bool pk] 33)).cell? ⟨w.heap.size, 4, none⟩ = some (.string key) := cell_of_row _ _ 4 _ _ _ hbx
  clear hbx h hO Ba hy hrl
  have HP' := hide HP
  have HR' := hide HR
  clear HP HR
  go_enter Tryz.func12, Tryz.ntmps12
  go_wp2_with fail
  generalize w.alloc (.cells #[.int .i64 7, .int .i64 ai, .int .i64 bi, .string s, .string key, .int .i64 al, .bool pk] 33) = W1 at *
  refine (roomy_any ya xs yc W1 (by omega) hb).mono ?_
  rintro e w2 ⟨g, c, rfl, hR, b2⟩
  obtain ⟨hgl, hg2, hc1, hcm, hbx2, -, -⟩ := hR.parts
  have k0 := (b2.cell (p := ⟨w.heap.size, 0, none⟩) hlt).trans c0
  have k4 := (b2.cell (p := ⟨w.heap.size, 4, none⟩) hlt).trans c4
  have hlt2 : w.heap.size < w2.heap.size := Nat.lt_of_lt_of_le hlt b2.size
  clear c0 c3 c4
  have hb2 := hb.carry b2
  go_wp2_with fail
  refine (HP'.out (some ⟨g, 0, none⟩) xs c w2 key (by omega) hkey (by omega) hcm hbx2).mono ?_
  rintro e w3 ⟨p, cfg2, E1, rfl, A3, b3⟩
  obtain ⟨ck, cz, cb, rfl⟩ := ver_cfg A3.ver
  obtain ⟨lz, oz, gz, az, hlz, hbz⟩ := verA_list A3
  have k4' := (b3.cell (p := ⟨w.heap.size, 4, none⟩) hlt2).trans k4
  have Ba3 := below_alloc w3 (.cells #[.string ck, .int .i64 cz, .bool cb] 49)
  have s3 : (w3.alloc (.cells #[.string ck, .int .i64 cz, .bool cb] 49)).heap[w3.heap.size]? = some (.cells #[.string ck, .int .i64 cz, .bool cb] 49 (0, 0)) := heap_alloc_new w3 _
  have hlt3 : w.heap.size < w3.heap.size := Nat.lt_of_lt_of_le hlt2 b3.size
  have k4a := (Ba3.cell (p := ⟨w.heap.size, 4, none⟩) hlt3).trans k4'
  have hs3 : w3.heap.size < (w3.alloc (.cells #[.string ck, .int .i64 cz, .bool cb] 49)).heap.size := by simp
  have b23 := b3.trans (Ba3.mono b3.size)
  have HA3 := hide A3
  have Hoz := hide oz
  have Hgz := hide gz
  have Haz := hide az
  have Hbz := hide hbz
  clear A3 k4 k0 oz gz az hbz
  go_wp2_with fail
  generalize hW3 : w3.alloc (.cells #[.string ck, .int .i64 cz, .bool cb] 49) = W3 at *
  refine (HR'.out ya xs yc W3 key (by omega) hkey hyc hycm (hb2.carry b23)).mono ?_
  rintro e w4 ⟨v4, cfg4, E4, rfl, A4, b4⟩
  obtain ⟨rfl, rfl, R⟩ := ver_same HA3.out.ver A4
  have R3 := R.carry (Ba3.trans (b4.mono Ba3.size)) (Below.refl _ _)
  obtain ⟨es1, fs1, x, x', kk, kk', rfl, rfl, t1, t2, t3, t4, t5, t6, t7⟩ := R3.of
  have s4 : w4.heap[w3.heap.size]? = some (.cells #[.string ck, .int .i64 cz, .bool cb] 49 (0, 0)) := (b4.block _ hs3).trans s3
  have Bb := below_alloc w4 (.cells #[.string ck, .int .i64 cz, .bool cb] 49)
  have hs4 : w3.heap.size < w4.heap.size := Nat.lt_of_lt_of_le hs3 b4.size
  have s5 := (Bb.block _ hs4).trans s4
  have s6 : (w4.alloc (.cells #[.string ck, .int .i64 cz, .bool cb] 49)).heap[w4.heap.size]? = some (.cells #[.string ck, .int .i64 cz, .bool cb] 49 (0, 0)) := heap_alloc_new w4 _
  have hs5 : w4.heap.size < (w4.alloc (.cells #[.string ck, .int .i64 cz, .bool cb] 49)).heap.size := by simp
  have T1 := t1.carry Bb
  have T2 := t2.carry Bb
  have T3 := t3.carry Bb
  have T4 := t4.carry Bb
  have b34 := (Ba3.trans (b4.mono Ba3.size)).trans (Bb.mono (Nat.le_trans Ba3.size b4.size))
  clear HA3 A4 R R3 t1 t2 t3 t4 s3 s4 HP' HR' k4' k4a
  go_wp2_with fail
  generalize w4.alloc (.cells #[.string ck, .int .i64 cz, .bool cb] 49) = W5 at *
  refine (sameEntries_any x x' es1 fs1 kk kk' W5 (by omega) t5 (fun e he => by have := t7 e he; omega) T1 T2 T3 T4).mono ?_
  rintro e w6 ⟨rfl, b6⟩
  have r1 := (b6.block w3.heap.size (by omega)).trans s5
  have r2 := (b6.block w4.heap.size hs5).trans s6
  have p0 : w6.cell? ⟨w3.heap.size, 0, none⟩ = some (.string ck) := cell_of_row _ _ 0 _ _ _ r1
  have p1 : w6.cell? ⟨w3.heap.size, 1, none⟩ = some (.int .i64 cz) := cell_of_row _ _ 1 _ _ _ r1
  have p2 : w6.cell? ⟨w3.heap.size, 2, none⟩ = some (.bool cb) := cell_of_row _ _ 2 _ _ _ r1
  have p3 : w6.cell? ⟨w4.heap.size, 0, none⟩ = some (.string ck) := cell_of_row _ _ 0 _ _ _ r2
  have p4 : w6.cell? ⟨w4.heap.size, 1, none⟩ = some (.int .i64 cz) := cell_of_row _ _ 1 _ _ _ r2
  have p5 : w6.cell? ⟨w4.heap.size, 2, none⟩ = some (.bool cb) := cell_of_row _ _ 2 _ _ _ r2
  have b36 := b34.trans (b6.mono b34.size)
  clear T1 T2 T3 T4
  go_wp2_with fail
  refine (sameConfig_any _ ck cz cb).mono ?_
  rintro e w5 ⟨rfl, b7⟩
  have b35 := b36.trans (b7.mono b36.size)
  have b25 := b3.trans (b35.mono b3.size)
  have b15 := b2.trans (b25.mono b2.size)
  have hR5 := hR.below b25
  have H5 := hide (H1.out.below b15)
  have hO5 := hO1.carry b15
  have OZ := Hoz.out.carry b35
  have GZ := Hgz.out.carry b35
  have HOZ := hide OZ
  have HGZ := hide GZ
  have hel5 : es.length ≤ 8000000 := by have := H5.out.ne; omega
  have hgS : gw < w2.heap.size := Nat.lt_of_lt_of_le H1.out.box.lt b2.size
  have KL := hide (listed_any B gw w2.heap.size w5 dv sv bv ev _ ls es lz H5.out.box H5.out.bytesR H5.out.entsR H5.out.bound hgS b25.size OZ GZ Haz.out (by omega) (fun e he => by have := Hbz.out e he; omega) hll hel5)
  clear OZ GZ p0 p1 p2 p3 p4 p5 r1 r2 s5 s6 hs3 hs4 hs5 b36 b34 b6 b7 b4 Bb Ba3 b23 hlt2 hlt3
  go_wp2_with fail
  refine KL.out.mono ?_
  rintro e w7 ⟨⟨u, rfl⟩, hLi⟩
  have HLi := hide hLi
  obtain ⟨wm, bvr, lbs, rn, ev', xs4, M, W6, V6, hx4, hfar, S6, hevb⟩ := hLi
  have hlvb : ∀ k, some k = (Value.slice x es1.length kk).ownBlock → w2.heap.size ≤ k := fun k hk => (World.ownsRow.lt HOZ.out k hk.symm).1
  have hg8 : U8 w5 g := by
    obtain ⟨-, -, -, -, -, -, cur, hc, -⟩ := hR5.parts
    exact ⟨cur, hc⟩
  have hng : ∀ k, (k < w2.heap.size ∧ U8 w5 k) → ¬ (k = gw ∨ some k = bv.ownBlock ∨ ∃ j, j < lz.length ∧ some k = (lz.getD j noEnt).val.ownBlock) := by
    rintro k ⟨hk, hu⟩ (rfl | e | ⟨j, hj, e⟩)
    · exact H5.out.box.not_u8 hu
    · exact H5.out.bytesR.not_u8 k e hu
    · have hmem : lz.getD j noEnt ∈ lz := by
        rw [List.getD_eq_getElem?_getD, List.getElem?_eq_getElem hj]
        exact List.getElem_mem hj
      have := (World.ownsRow.lt (HGZ.out _ hmem).1 k e.symm).1
      omega
  have hRm := hR5.save M.save (hng g ⟨hg2, hg8⟩)
  have hOm := hO5.saveK M.save fun k hk hu => hng k ⟨by have := (World.ownsRow.lt hO1 k hk.symm).2; have := b2.size; omega, hu⟩
  have hgm8 : U8 wm g := by
    obtain ⟨-, -, -, -, -, -, cur, hc, -⟩ := hRm.parts
    exact ⟨cur, hc⟩
  have hevU : ∀ k, k < w2.heap.size → U8 wm k → ¬ (k = gw ∨ some k = ev.ownBlock ∨ some k = (Value.slice x es1.length kk).ownBlock) := by
    rintro k hk hu (rfl | e | e)
    · exact M.box.not_u8 hu
    · have V5 := H5.out.entsR
      rcases V5.2 with ⟨e3, _⟩ | ⟨g', cap, cur', e3, _, hg', _⟩
      · rw [e3] at e; cases e
      · rw [e3] at e
        have ek : k = g' := by simpa [Value.ownBlock] using e
        subst ek
        obtain ⟨cu, hcu⟩ := hu
        have hbl := M.save.block k (heap_lt hg') (by
          rintro (e2 | e2 | ⟨j, hj, e2⟩)
          · subst e2
            have h' : w5.heap[k]? = _ := H5.out.box
            rw [hg'] at h'
            simp at h'
          · exact H5.out.bytesR.ne hg' (by decide) e2
          · have hmem : lz.getD j noEnt ∈ lz := by
              rw [List.getD_eq_getElem?_getD, List.getElem?_eq_getElem hj]
              exact List.getElem_mem hj
            have := (World.ownsRow.lt (HGZ.out _ hmem).1 k e2.symm).1
            omega)
        rw [hcu, hg'] at hbl
        simp at hbl
    · have := hlvb k e
      omega
  have hR7 := hRm.save S6 (hevU g hg2 hgm8)
  have hO7 := hOm.saveK S6 fun k hk hu => hevU k (by have := (World.ownsRow.lt hO1 k hk.symm).2; have := b2.size; omega) hu
  obtain ⟨_, _, e, hb7, -, -⟩ := hO7.shape
  simp only [Value.slice.injEq, true_and] at e
  obtain ⟨rfl, rfl⟩ := e
  have hg78 : U8 w7 g := by
    obtain ⟨-, -, -, -, -, -, cur, hc, -⟩ := hR7.parts
    exact ⟨cur, hc⟩
  clear M W6 V6 hx4 hfar S6 hevb KL hRm hOm hng hevU hlvb
  go_wp2_with fail
  refine (still_any W1.heap.size g c xs _ _ w7 (by omega) hR7 hb7).mono ?_
  rintro e w8 ⟨rfl, S8⟩
  have HI := hide (H1.out.listed b15 b2.size b25.size HOZ.out HGZ.out (by omega) HLi.out (fun k => k = g) (fun k hk => by subst hk; exact ⟨hgl, hg2⟩) (fun k hk => by subst hk; exact hg78) S8)
  obtain ⟨role', bv', ev'', ls', es', hA⟩ := HI.out
  have HA := hide hA
  clear hA HI S8 hO5 hR5 H5 hR7 HLi HOZ HGZ hO7
  go_wp2
  go_ret
  exact ⟨rfl, _, _, _, _, _, _, _, HA.out⟩

end Go.Proofs.YtgncohclofdhmaaGreat
