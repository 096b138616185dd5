import Derived.Test.YtgncohclofdhmaaGreatWrda
import Derived.Test.YtgncohclofdhmaaGreatWpbuild
import Derived.Test.YtgncohclofdhmaaGreatWrd3
import Derived.Test.YtgncohclofdhmaaGreatWvb
namespace Go.Proofs.YtgncohclofdhmaaGreat
open Go.RowKit

/-- What is built is a package, and of what was read of it. -/
theorem ver_forth_rd {es : List Ent} {key : ByteArray} {al : Nat} {pk : Bool} {B : Nat} {w : World} {v : Value} {q : ByteArray} {p : List UInt8} {a : Option Addr} {c : Nat} (hg : rdAll p = some (pairsOf es))
    (h : BuildAns es key (al : Int) pk B w v 0 q) (hv : v = .slice a p.length c) (hb : Bts w a p) : IsPack key.data.toList p (pairsOf es) al pk := by
  rcases h with ⟨h1, _, h3, _⟩ | ⟨h1, ix, hC, hl, ⟨_, _, h3, _⟩ | ⟨h2, h3, _, _⟩⟩
  · exact absurd h3.symm (faultsLeast_ne h1)
  · omega
  · rw [Int.toNat_natCast] at h2 h3
    obtain ⟨hG, _, _, _⟩ := good_of_nil h1 hC hl
    rw [Int.toNat_natCast] at hG
    obtain ⟨a', c', e1, e2, _, _⟩ := h3.shape
    rw [hv] at e1
    simp only [Value.slice.injEq] at e1
    obtain ⟨rfl, e4, _⟩ := e1
    have e := hb.only e2 e4
    have hI : IsPack key.data.toList p (pairsOf (ix.map fun i => es.getD i noEnt)) al pk := ⟨hG, e, by rw [e]; exact h2⟩
    have h5 := (rd_made hI).1
    rw [hg, Option.some.injEq] at h5
    rw [h5]
    exact hI

theorem ans_path {es : List Ent} {key : ByteArray} {al : Int} {pk : Bool} {B : Nat} {w : World} {v : Value} {q : ByteArray} (h : BuildAns es key al pk B w v 0 q) : q = ByteArray.empty := by
  rcases h with ⟨h1, _, h3, _⟩ | ⟨_, _, _, _, ⟨_, _, h3, _⟩ | ⟨_, _, _, h4⟩⟩
  · exact absurd h3.symm (faultsLeast_ne h1)
  · omega
  · exact h4

theorem toList_dat (s : ByteArray) : s.toList = s.data.toList := ByteArray.toList_eq s

theorem strOf_eq (xs ys : List UInt8) : strOf xs = strOf ys ↔ xs = ys := by
  constructor
  · intro h
    rw [← strOf_list xs, h, strOf_list]
  · intro h
    rw [h]

/-- Whether it is the package of what was read of it. -/
def IsAns (p : List UInt8) (key : ByteArray) (l : List (List UInt8 × List UInt8)) (al : Nat) (pk : Bool) (r : Bool) : Prop :=
  (r = true ∧ IsPack key.data.toList p l al pk) ∨ (r = false ∧ ¬ ∃ l al pk, IsPack key.data.toList p l al pk)

set_option maxRecDepth 100000 in
set_option maxHeartbeats 2000000 in
theorem isPackageOf_any (a : Option Addr) (p : List UInt8) (cap : Nat) (w : World) (key : ByteArray) (al : Nat) (pk : Bool) (sa : Option Addr) (es : List Ent) (sc : Nat) (hl : p.length ≤ 4000) (hks : key.size ≤ maxLen) (hkb : keyB key.size = true) (hel : es.length ≤ 255)
    (hr : rdAll p = some (pairsOf es)) (hal : numAt p 2 1 = al) (hpk : decide (numAt p 3 1 = 1) = pk) (hb : Bts w a p) (hat : EntAt w sa es) (hg : EntGood w es) :
    Calls Tryz.prog 92 #[.slice a p.length cap, .agg #[.slice sa es.length sc, .string key, .int .i64 (al : Nat), .bool pk]] w fun e w' => ∃ r, e = .returned (.bool r) ∧ IsAns p key (pairsOf es) al pk r ∧ Below w.heap.size w w' := by
  have Ba : Below w.heap.size w (w.alloc (.cells #[.slice sa es.length sc, .string key, .int .i64 (al : Nat), .bool pk] 87)) := (Below.refl _ _).alloc (Nat.le_refl _) _
  have sc1 : CBox (w.alloc (.cells #[.slice sa es.length sc, .string key, .int .i64 (al : Nat), .bool pk] 87)) w.heap.size (.slice sa es.length sc) key (al : Nat) pk := heap_alloc_new w _
  have HB1 := hide (hb.carry Ba)
  have HG1 := hide (hg.carry Ba)
  have hat1 := hat.carry Ba
  have HNo : Hid (∀ E v q W B, BuildAns es key (al : Int) pk B W v E q → (E ≠ 0 ∨ ∃ xs a c, v = .slice a xs.length c ∧ Bts W a xs ∧ xs ≠ p) → ¬ ∃ l al pk, IsPack key.data.toList p l al pk) := by
    rintro E v q W B hA hE ⟨l', al', pk', hI⟩
    obtain ⟨e1, e2, e3⟩ := rd_made hI
    rw [hr, Option.some.injEq] at e1
    rw [hal] at e2
    rw [hpk] at e3
    subst e1 e2 e3
    rcases hE with hE | ⟨xs, a, c, hv, hx, hne⟩
    · obtain ⟨xs, a8, c8, hv8, hx8, _⟩ := ans_bytes hA
      exact hE (ver_back hI hkb hA hv8 hx8).1
    · exact hne (ver_back hI hkb hA hv hx).2
  have HYes : Hid (∀ v q W B c a, BuildAns es key (al : Int) pk B W v 0 q → v = .slice a p.length c → Bts W a p → IsPack key.data.toList p (pairsOf es) al pk) := fun v q W B c a hA hv hx => ver_forth_rd hr hA hv hx
  have HBu := hide (fun W (h1 : EntAt W sa es) (h2 : EntGood W es) => Build_keeps sa es sc W key (al : Nat) pk (by unfold maxLen; omega) hks h1 h2)
  clear hr hal hpk hkb hat hg hb
  have c0 := sc1.c0
  have c1 := sc1.c1
  have c2 := sc1.c2
  have c3 := sc1.c3
  go_enter Tryz.func92, Tryz.ntmps92
  go_wp2_with fail
  generalize w.alloc (.cells #[.slice sa es.length sc, .string key, .int .i64 (al : Nat), .bool pk] 87) = W1 at *
  refine (HBu.out _ hat1 HG1.out).mono ?_
  rintro e w2 ⟨v2, E2, q2, rfl, A2, b2⟩
  obtain ⟨xs, xa, xc, hv2, hx2, hxl⟩ := ans_bytes A2
  have HA := hide A2
  have HX := hide hx2
  have B2 := Ba.trans (b2.mono Ba.size)
  have hb2 := HB1.out.carry b2
  clear A2 hx2
  subst hv2
  by_cases hE : E2 = 0
  · subst hE
    obtain rfl := ans_path HA.out
    have hcv1 := run_back xs xa xc w2 HX.out
    have hcv2 := run_back p a cap w2 hb2
    have HS := hide (strOf_eq xs p)
    generalize strOf xs = P1 at *
    generalize strOf p = P2 at *
    go_wp2
    go_ret
    refine ⟨_, rfl, ?_, B2⟩
    by_cases hP : xs = p
    · have e1 : P1 = P2 := HS.out.2 hP
      subst hP
      have e2 : (P1.toList == P2.toList) = true := by rw [e1]; simp
      rw [e2]
      exact .inl ⟨rfl, HYes.out _ _ _ _ _ _ HA.out rfl HX.out⟩
    · have e2 : (P1.toList == P2.toList) = false := by
        rw [beq_eq_false_iff_ne, toList_dat, toList_dat]
        intro h
        exact hP (HS.out.1 (ByteArray.ext (Array.toList_inj.1 h)))
      rw [e2]
      exact .inr ⟨rfl, HNo.out _ _ _ _ _ HA.out (.inr ⟨xs, xa, xc, rfl, HX.out, hP⟩)⟩
  · have hEb : ((E2 : Int) != 0) = true := by simp [hE]
    have HN := hide (HNo.out _ _ _ _ _ HA.out (.inl hE))
    clear hE
    go_wp2
    go_ret
    exact ⟨_, rfl, .inr ⟨rfl, HN.out⟩, B2⟩

/-- As VerAns, and no two bodies lie in one block. -/
def VerAnsA (key : ByteArray) (p : List UInt8) (B : Nat) (w : World) (v cfg : Value) (E : Nat) : Prop :=
  (verHead key.data.toList p ≠ 0 ∧ E = verHead key.data.toList p ∧ v = .slice none 0 0 ∧ cfg = noCfg) ∨
  (verHead key.data.toList p = 0 ∧ (¬ ∃ l al pk, IsPack key.data.toList p l al pk) ∧ E = 12 ∧ v = .slice none 0 0 ∧ cfg = noCfg) ∨
  (verHead key.data.toList p = 0 ∧ ∃ (es : List Ent) (al : Nat) (pk : Bool), IsPack key.data.toList p (pairsOf es) al pk ∧ OwnE B w v es ∧ EntOwn B w es ∧ E = 0 ∧ cfg = .agg #[.string key, .int .i64 (al : Nat), .bool pk] ∧ ApartE es)

theorem VerAnsA.ver {key : ByteArray} {p : List UInt8} {B : Nat} {w : World} {v cfg : Value} {E : Nat} (h : VerAnsA key p B w v cfg E) : VerAns key p B w v cfg E := by
  rcases h with h | h | ⟨h1, es, al, pk, h2, h3, h4, h5, h6, _⟩
  · exact .inl h
  · exact .inr (.inl h)
  · exact .inr (.inr ⟨h1, es, al, pk, h2, h3, h4, h5, h6⟩)

/-- What reading a package answers: as VerAnsA, the results in one struct. -/
def PkgAnsA (key : ByteArray) (p : List UInt8) (B : Nat) (w : World) (v : Value) (k : ByteArray) (z : Int) (b : Bool) (E : Nat) : Prop := VerAnsA key p B w v (.agg #[.string k, .int .i64 z, .bool b]) E

def PkgAns (key : ByteArray) (p : List UInt8) (B : Nat) (w : World) (v : Value) (k : ByteArray) (z : Int) (b : Bool) (E : Nat) : Prop := VerAns key p B w v (.agg #[.string k, .int .i64 z, .bool b]) E

theorem verHead_zero {key p : List UInt8} (h : verHead key p = 0) : keyB key.length = true ∧ p.length ≤ 4000 ∧ 13 ≤ p.length := by
  unfold verHead at h
  split at h
  · omega
  · rename_i h1
    split at h
    · omega
    · split at h
      · omega
      · refine ⟨?_, by omega, by omega⟩
        cases hk : keyB key.length
        · exact absurd hk h1
        · rfl

set_option maxRecDepth 100000 in
set_option maxHeartbeats 2000000 in
theorem readPackage_anyA (HE : EntKeeps) (a : Option Addr) (p : List UInt8) (cap : Nat) (w : World) (key : ByteArray) (hm : p.length ≤ 140737488355328) (hks : key.size ≤ maxLen) (hcap : p.length ≤ cap) (hcm : cap ≤ maxLen) (hb : Bts w a p) :
    Calls Tryz.prog 65 #[.slice a p.length cap, .string key] w fun e w' => ∃ v k z b E, e = .returned (.tuple #[.agg #[v, .string k, .int .i64 z, .bool b], .int .i64 (E : Nat)]) ∧ PkgAnsA key p w.heap.size w' v k z b E ∧ Below w.heap.size w w' := by
  have sr : CBox (w.alloc (.cells #[.slice none 0 0, .string ⟨#[]⟩, .int .i64 0, .bool false] 87)) w.heap.size (.slice none 0 0) ⟨#[]⟩ 0 false := heap_alloc_new w _
  have B1 := (Below.refl w.heap.size w).alloc (Nat.le_refl _) (.cells #[.slice none 0 0, .string ⟨#[]⟩, .int .i64 0, .bool false] 87)
  have hb1 := hb.carry B1
  have sz1 : w.heap.size < (w.alloc (.cells #[.slice none 0 0, .string ⟨#[]⟩, .int .i64 0, .bool false] 87)).heap.size := by simp
  have HS := hide (fun W (hW : Bts W a p) => sealFault_any a p cap W key hm hks hcap hcm hW)
  obtain ⟨V, HV⟩ : ∃ V, Hid (V = verHead key.data.toList p) := ⟨_, rfl⟩
  rw [← HV.out] at HS
  have HKl := hide (strLen key)
  clear hb
  go_enter Tryz.func65, Tryz.ntmps65
  go_wp2_with fail
  generalize w.alloc (.cells #[.slice none 0 0, .string ⟨#[]⟩, .int .i64 0, .bool false] 87) = W1 at *
  refine (HS.out _ hb1).mono ?_
  rintro e W2 ⟨rfl, rfl⟩
  have HFin : Hid (∀ W : World, CBox W w.heap.size (.slice none 0 0) ⟨#[]⟩ 0 false → Below w.heap.size w W → CBox ((((W.setCell ⟨w.heap.size, 0, none⟩ (.slice none 0 0)).setCell ⟨w.heap.size, 1, none⟩ (.string ⟨#[]⟩)).setCell ⟨w.heap.size, 2, none⟩ (.int .i64 0)).setCell ⟨w.heap.size, 3, none⟩ (.bool false)) w.heap.size (.slice none 0 0) ⟨#[]⟩ 0 false ∧ Below w.heap.size w ((((W.setCell ⟨w.heap.size, 0, none⟩ (.slice none 0 0)).setCell ⟨w.heap.size, 1, none⟩ (.string ⟨#[]⟩)).setCell ⟨w.heap.size, 2, none⟩ (.int .i64 0)).setCell ⟨w.heap.size, 3, none⟩ (.bool false))) := by
    intro W h1 h2
    exact ⟨h1.set _ _ _ _, (((h2.setCell (p := ⟨w.heap.size, 0, none⟩) (Nat.le_refl _) _).setCell (p := ⟨w.heap.size, 1, none⟩) (Nat.le_refl _) _).setCell (p := ⟨w.heap.size, 2, none⟩) (Nat.le_refl _) _).setCell (p := ⟨w.heap.size, 3, none⟩) (Nat.le_refl _) _⟩
  by_cases hV : V = 0
  · have hVb : ((V : Int) != 0) = false := by simp [hV]
    have HZ : Hid (verHead key.data.toList p = 0) := by show _ = _; rw [← HV.out]; exact hV
    obtain ⟨z1, hl, h13⟩ := verHead_zero HZ.out
    have HKB : Hid (keyB key.size = true) := by show _ = _; rw [← HKl.out]; exact z1
    clear hV z1 HV
    go_wp2_with fail
    refine (readEntries_anyA HE a p cap _ h13 hl hcap hcm hb1).mono ?_
    rintro e W3 ⟨hA, b3⟩
    have sr3 := sr.carry b3
    have B3 := B1.trans (b3.mono B1.size)
    have hb3 := hb1.carry b3
    rcases hA with ⟨hn, rfl⟩ | ⟨v3, es, hr, hel, o3, g3, hap, rfl⟩
    · have HA : Hid (∀ B W, PkgAnsA key p B W (.slice none 0 0) ⟨#[]⟩ 0 false 12) := by
        intro B W
        refine .inr (.inl ⟨HZ.out, ?_, rfl, rfl, rfl⟩)
        rintro ⟨l', al', pk', hI⟩
        have h := (rd_made hI).1
        rw [hn] at h
        cases h
      have d0 := sr3.c0
      have d1 := sr3.c1
      have d2 := sr3.c2
      have d3 := sr3.c3
      have f0 := sr3.fr 0
      have f1 := sr3.fr 1
      have f2 := sr3.fr 2
      have f3 := sr3.fr 3
      obtain ⟨X, BB⟩ := HFin.out _ sr3 B3
      clear HFin hn
      go_wp2
      refine bodyPost_ret (v := .tuple #[.agg #[.slice none 0 0, .string ⟨#[]⟩, .int .i64 0, .bool false], .int .i64 12]) ?_ rfl ⟨_, _, _, _, 12, rfl, HA.out _ _, BB⟩
      have k0 := X.c0
      have k1 := X.c1
      have k2 := X.c2
      have k3 := X.c3
      rw [results_fst rfl]
      go_simp
    · have HR := hide hr
      have HAp := hide hap
      clear hap
      obtain ⟨a3, c3, rfl, hat3, -, -⟩ := o3.shape
      have HC := hide (readConfig_any a p cap W3 key h13 hl hb3)
      obtain ⟨al, hal⟩ : ∃ al, numAt p 2 1 = al := ⟨_, rfl⟩
      obtain ⟨pk, hpk⟩ : ∃ pk, decide (numAt p 3 1 = 1) = pk := ⟨_, rfl⟩
      rw [hal, hpk] at HC
      have HAl := hide hal
      have HPk := hide hpk
      clear hr hal hpk
      go_wp2_with fail
      refine HC.out.mono ?_
      rintro e W4 ⟨rfl, b4⟩
      have Ba : Below W4.heap.size W4 (W4.alloc (.cells #[.slice a3 es.length c3, .string key, .int .i64 (al : Nat), .bool pk] 87)) := (Below.refl _ _).alloc (Nat.le_refl _) _
      have b5 := b4.trans (Ba.mono b4.size)
      have sr5 := sr3.carry b5
      have B5 := B3.trans (b5.mono B3.size)
      have hb5 := hb3.carry b5
      have o5 := o3.carry b5
      have g5 := hide (g3.carry b5)
      have hat5 := hat3.carry b5
      have sc5 : CBox (W4.alloc (.cells #[.slice a3 es.length c3, .string key, .int .i64 (al : Nat), .bool pk] 87)) W4.heap.size (.slice a3 es.length c3) key (al : Nat) pk := heap_alloc_new W4 _
      have hle3 : W3.heap.size ≤ W4.heap.size := b4.size
      have hle1 : W2.heap.size ≤ W3.heap.size := b3.size
      have n0 := sc5.c0
      have n1 := sc5.c1
      have n2 := sc5.c2
      have n3 := sc5.c3
      clear HC sr sr3 B1 B3 hb1 hb3 o3 g3 hat3 b3 b4 b5
      go_wp2_with fail
      generalize W4.alloc (.cells #[.slice a3 es.length c3, .string key, .int .i64 (al : Nat), .bool pk] 87) = W5 at *
      refine (isPackageOf_any a p cap W5 key al pk a3 es c3 hl hks HKB.out hel HR.out HAl.out HPk.out hb5 hat5 g5.out.good).mono ?_
      rintro e W6 ⟨r, rfl, hI, b6⟩
      have sr6 := sr5.carry b6
      have B6 := B5.trans (b6.mono B5.size)
      have o6 := o5.carry b6
      have g6 := hide (g5.out.carry b6)
      have sc6 := sc5.carry b6
      have d0 := sr6.c0
      have d1 := sr6.c1
      have d2 := sr6.c2
      have d3 := sr6.c3
      have f0 := sr6.fr 0
      have f1 := sr6.fr 1
      have f2 := sr6.fr 2
      have f3 := sr6.fr 3
      clear n0 n1 n2 n3
      have n0 := sc6.c0
      have n1 := sc6.c1
      have n2 := sc6.c2
      have n3 := sc6.c3
      rcases hI with ⟨rfl, hI⟩ | ⟨rfl, hI⟩
      · have HI := hide hI
        have X := sr6.set (.slice a3 es.length c3) key (al : Nat) pk
        have BB := (((B6.setCell (p := ⟨w.heap.size, 0, none⟩) (Nat.le_refl _) (.slice a3 es.length c3)).setCell (p := ⟨w.heap.size, 1, none⟩) (Nat.le_refl _) (.string key)).setCell (p := ⟨w.heap.size, 2, none⟩) (Nat.le_refl _) (.int .i64 (al : Nat))).setCell (p := ⟨w.heap.size, 3, none⟩) (Nat.le_refl _) (.bool pk)
        have OO := (((o6.setOtherE (k := w.heap.size) (j := 0) (.slice a3 es.length c3) (by omega)).setOtherE (k := w.heap.size) (j := 1) (.string key) (by omega)).setOtherE (k := w.heap.size) (j := 2) (.int .i64 (al : Nat)) (by omega)).setOtherE (k := w.heap.size) (j := 3) (.bool pk) (by omega)
        have GG := (((g6.out.setOther (k := w.heap.size) (j := 0) (.slice a3 es.length c3) (by omega)).setOther (k := w.heap.size) (j := 1) (.string key) (by omega)).setOther (k := w.heap.size) (j := 2) (.int .i64 (al : Nat)) (by omega)).setOther (k := w.heap.size) (j := 3) (.bool pk) (by omega)
        have HA := hide (show PkgAnsA key p w.heap.size _ _ key (al : Nat) pk 0 from .inr (.inr ⟨HZ.out, es, al, pk, HI.out, OO.low (by omega), GG.low (by omega), rfl, rfl, HAp.out⟩))
        clear HFin hI OO GG
        go_wp2
        refine bodyPost_ret (v := .tuple #[.agg #[.slice a3 es.length c3, .string key, .int .i64 (al : Nat), .bool pk], .int .i64 0]) ?_ rfl ⟨_, _, _, _, 0, rfl, HA.out, BB⟩
        have k0 := X.c0
        have k1 := X.c1
        have k2 := X.c2
        have k3 := X.c3
        rw [results_fst rfl]
        go_simp
      · have HA : Hid (∀ B W, PkgAnsA key p B W (.slice none 0 0) ⟨#[]⟩ 0 false 12) := by
          intro B W
          exact .inr (.inl ⟨HZ.out, hI, rfl, rfl, rfl⟩)
        obtain ⟨X, BB⟩ := HFin.out _ sr6 B6
        clear HFin hI
        go_wp2
        refine bodyPost_ret (v := .tuple #[.agg #[.slice none 0 0, .string ⟨#[]⟩, .int .i64 0, .bool false], .int .i64 12]) ?_ rfl ⟨_, _, _, _, 12, rfl, HA.out _ _, BB⟩
        have k0 := X.c0
        have k1 := X.c1
        have k2 := X.c2
        have k3 := X.c3
        rw [results_fst rfl]
        go_simp
  · have hVb : ((V : Int) != 0) = true := by simp [hV]
    have HA : Hid (∀ B W, PkgAnsA key p B W (.slice none 0 0) ⟨#[]⟩ 0 false V) := by
      intro B W
      exact .inl ⟨by rw [← HV.out]; exact hV, HV.out, rfl, rfl⟩
    have d0 := sr.c0
    have d1 := sr.c1
    have d2 := sr.c2
    have d3 := sr.c3
    have f0 := sr.fr 0
    have f1 := sr.fr 1
    have f2 := sr.fr 2
    have f3 := sr.fr 3
    obtain ⟨X, BB⟩ := HFin.out _ sr B1
    clear HFin hV
    go_wp2
    refine bodyPost_ret (v := .tuple #[.agg #[.slice none 0 0, .string ⟨#[]⟩, .int .i64 0, .bool false], .int .i64 (V : Nat)]) ?_ rfl ⟨_, _, _, _, V, rfl, HA.out _ _, BB⟩
    have k0 := X.c0
    have k1 := X.c1
    have k2 := X.c2
    have k3 := X.c3
    rw [results_fst rfl]
    go_simp

theorem readPackage_any (HE : EntKeeps) (a : Option Addr) (p : List UInt8) (cap : Nat) (w : World) (key : ByteArray) (hm : p.length ≤ 140737488355328) (hks : key.size ≤ maxLen) (hcap : p.length ≤ cap) (hcm : cap ≤ maxLen) (hb : Bts w a p) :
    Calls Tryz.prog 65 #[.slice a p.length cap, .string key] w fun e w' => ∃ v k z b E, e = .returned (.tuple #[.agg #[v, .string k, .int .i64 z, .bool b], .int .i64 (E : Nat)]) ∧ PkgAns key p w.heap.size w' v k z b E ∧ Below w.heap.size w w' := by
  refine (readPackage_anyA HE a p cap w key hm hks hcap hcm hb).mono ?_
  rintro e w' ⟨v, k, z, b, E, h1, h2, h3⟩
  exact ⟨v, k, z, b, E, h1, VerAnsA.ver h2, h3⟩

end Go.Proofs.YtgncohclofdhmaaGreat

namespace Go.Proofs.YtgncohclofdhmaaGreat
open Go.RowKit

theorem verA_mono {key : ByteArray} {p : List UInt8} {B : Nat} {w w' : World} {v cfg : Value} {E : Nat} (h : VerAnsA key p B w v cfg E) (hb : Below w.heap.size w w') : VerAnsA key p B w' v cfg E := by
  rcases h with h | h | ⟨h1, es, al, pk, h2, h3, h4, h5, h6⟩
  · exact .inl h
  · exact .inr (.inl h)
  · exact .inr (.inr ⟨h1, es, al, pk, h2, h3.carry hb, h4.carry hb, h5, h6⟩)

theorem verA_low {key : ByteArray} {p : List UInt8} {B B' : Nat} {w : World} {v cfg : Value} {E : Nat} (h : VerAnsA key p B w v cfg E) (hB : B' ≤ B) : VerAnsA key p B' w v cfg E := by
  rcases h with h | h | ⟨h1, es, al, pk, h2, h3, h4, h5, h6⟩
  · exact .inl h
  · exact .inr (.inl h)
  · exact .inr (.inr ⟨h1, es, al, pk, h2, h3.low hB, h4.low hB, h5, h6⟩)

theorem verA_set {key : ByteArray} {p : List UInt8} {B : Nat} {w : World} {v cfg : Value} {E : Nat} (h : VerAnsA key p B w v cfg E) {k j : Nat} (u : Value) (hk : k < B) : VerAnsA key p B (w.setCell ⟨k, j, none⟩ u) v cfg E := by
  rcases h with h | h | ⟨h1, es, al, pk, h2, h3, h4, h5, h6⟩
  · exact .inl h
  · exact .inr (.inl h)
  · exact .inr (.inr ⟨h1, es, al, pk, h2, h3.setOtherE u hk, h4.setOther u hk, h5, h6⟩)

theorem ver_slice {key : ByteArray} {p : List UInt8} {B : Nat} {w : World} {v cfg : Value} {E : Nat} (h : VerAns key p B w v cfg E) : ∃ a n c, v = .slice a n c := by
  rcases h with ⟨_, _, h, _⟩ | ⟨_, _, _, h, _⟩ | ⟨_, es, _, _, _, h, _⟩
  · exact ⟨_, _, _, h⟩
  · exact ⟨_, _, _, h⟩
  · obtain ⟨a, c, e, _⟩ := h.shape
    exact ⟨_, _, _, e⟩

/-- What the program's Verify keeps. -/
def VerKeepsA : Prop := ∀ (a : Option Addr) (p : List UInt8) (cap : Nat) (w : World) (key : ByteArray), p.length ≤ 140737488355328 → key.size ≤ maxLen → p.length ≤ cap → cap ≤ maxLen → Bts w a p →
    Calls Tryz.prog 35 #[.slice a p.length cap, .string key] w fun e w' => ∃ v cfg E, e = .returned (.tuple #[v, cfg, .int .i64 (E : Nat)]) ∧ VerAnsA key p w.heap.size w' v cfg E ∧ Below w.heap.size w w'

set_option maxRecDepth 100000 in
set_option maxHeartbeats 2000000 in
theorem Verify_keepsA : VerKeepsA := by
  intro a p cap w key hm hks hcap hcm hb
  have sr : SBox (w.alloc (.cells #[.string ⟨#[]⟩, .int .i64 0, .bool false] 49)) w.heap.size ⟨#[]⟩ 0 false := heap_alloc_new w _
  have B1 := (Below.refl w.heap.size w).alloc (Nat.le_refl _) (.cells #[.string ⟨#[]⟩, .int .i64 0, .bool false] 49)
  have hb1 := hb.carry B1
  clear hb
  go_enter Tryz.func35, Tryz.ntmps35
  go_wp2_with fail
  generalize w.alloc (.cells #[.string ⟨#[]⟩, .int .i64 0, .bool false] 49) = W1 at *
  refine (readPackage_anyA readEntry_keeps a p cap W1 key hm hks hcap hcm hb1).mono ?_
  rintro e w2 ⟨v2, k2, z2, q2, E2, rfl, A2, b2⟩
  obtain ⟨va, vn, vc, rfl⟩ := ver_slice (VerAnsA.ver A2)
  have B2 := B1.trans (b2.mono B1.size)
  have sr2 := sr.carry b2
  have Ba : Below w2.heap.size w2 (w2.alloc (.cells #[.slice va vn vc, .string k2, .int .i64 z2, .bool q2] 87)) := (Below.refl _ _).alloc (Nat.le_refl _) _
  have sc : CBox (w2.alloc (.cells #[.slice va vn vc, .string k2, .int .i64 z2, .bool q2] 87)) w2.heap.size (.slice va vn vc) k2 z2 q2 := heap_alloc_new w2 _
  have B3 := B2.trans (Ba.mono B2.size)
  have sr3 := sr2.carry Ba
  have A3 := verA_mono A2 Ba
  have hlt : w.heap.size < W1.heap.size := sr.lt
  clear A2 B1 B2 sr sr2 b2 hb1
  go_upto_region 2 with fail
  generalize w2.alloc (.cells #[.slice va vn vc, .string k2, .int .i64 z2, .bool q2] 87) = W3 at *
  have d0 := sr3.c0
  have d1 := sr3.c1
  have d2 := sr3.c2
  have f0 := sr3.fr 0
  have f1 := sr3.fr 1
  have f2 := sr3.fr 2
  have c0 := sc.c0
  have c1 := sc.c1
  have c2 := sc.c2
  have c3 := sc.c3
  have X := sr3.set k2 z2 q2
  have BB := ((B3.setCell (p := ⟨w.heap.size, 0, none⟩) (Nat.le_refl _) (.string k2)).setCell (p := ⟨w.heap.size, 1, none⟩) (Nat.le_refl _) (.int .i64 z2)).setCell (p := ⟨w.heap.size, 2, none⟩) (Nat.le_refl _) (.bool q2)
  have HA := hide (verA_low (verA_set (verA_set (verA_set A3 (k := w.heap.size) (j := 0) (.string k2) hlt) (k := w.heap.size) (j := 1) (.int .i64 z2) hlt) (k := w.heap.size) (j := 2) (.bool q2) hlt) (Nat.le_of_lt hlt))
  clear A3
  go_region
  go_wp2
  refine bodyPost_ret (v := .tuple #[.slice va vn vc, .agg #[.string k2, .int .i64 z2, .bool q2], .int .i64 (E2 : Nat)]) ?_ rfl ⟨_, _, E2, rfl, HA.out, BB.drew⟩
  have k0 := X.c0
  have k1 := X.c1
  have k2 := X.c2
  rw [results_mid rfl]
  go_simp

theorem Verify_keeps : VerKeeps := by
  intro a p cap w key hm hks hcap hcm hb
  refine (Verify_keepsA a p cap w key hm hks hcap hcm hb).mono ?_
  rintro e w' ⟨v, cfg, E, h1, h2, h3⟩
  exact ⟨v, cfg, E, h1, h2.ver, h3⟩

end Go.Proofs.YtgncohclofdhmaaGreat

namespace Go.Proofs.YtgncohclofdhmaaGreat
open Go.RowKit

set_option maxRecDepth 100000 in
set_option maxHeartbeats 2000000 in
theorem Find_keeps : FindKeeps := by
  intro a p cap w key path hm hks hps hcap hcm hb
  have K := hide (readPackage_any readEntry_keeps a p cap w key hm hks hcap hcm hb)
  obtain ⟨n, HN⟩ : ∃ n, Hid (n = p.length) := ⟨_, rfl⟩
  rw [← HN.out] at K ⊢
  go_enter Tryz.func40, Tryz.ntmps40
  go_wp2_with fail
  refine K.out.mono ?_
  rintro e w2 ⟨v2, ck, cz, cb, E2, rfl, A2', b2⟩
  have A2 : VerAns key p w.heap.size w2 v2 (.agg #[.string ck, .int .i64 cz, .bool cb]) E2 := A2'
  clear A2'
  obtain ⟨va, vn, vc, rfl⟩ := ver_slice A2
  have Ba : Below w2.heap.size w2 (w2.alloc (.cells #[.slice va vn vc, .string ck, .int .i64 cz, .bool cb] 87)) := (Below.refl _ _).alloc (Nat.le_refl _) _
  have sc : CBox (w2.alloc (.cells #[.slice va vn vc, .string ck, .int .i64 cz, .bool cb] 87)) w2.heap.size (.slice va vn vc) ck cz cb := heap_alloc_new w2 _
  have B3 := b2.trans (Ba.mono b2.size)
  by_cases hE : E2 = 0
  · subst hE
    have A2' : verHead key.data.toList p = 0 ∧ ∃ (es : List Ent) (al : Nat) (pk : Bool), IsPack key.data.toList p (pairsOf es) al pk ∧ OwnE w.heap.size w2 (.slice va vn vc) es ∧ EntOwn w.heap.size w2 es := by
      rcases A2 with ⟨h1, h2, _⟩ | ⟨_, _, h3, _⟩ | ⟨h1, es, al, pk, h2, h3, h4, _⟩
      · exact absurd h2.symm h1
      · omega
      · exact ⟨h1, es, al, pk, h2, h3, h4⟩
    obtain ⟨hz, es, al, pk, hI, o2, g2⟩ := A2'
    have HI := hide hI
    have HZ := hide hz
    have hel : es.length ≤ 20 := by have := hI.good.len; simpa [pairsOf] using this
    obtain ⟨x, k, ex, hat, -, -⟩ := o2.shape
    simp only [Value.slice.injEq] at ex
    obtain ⟨rfl, rfl, rfl⟩ := ex
    have hat3 := hat.carry Ba
    have g3 := hide (g2.carry Ba)
    clear K A2 hI hz o2 g2 hat Ba b2
    go_wp2
    generalize w2.alloc (.cells #[.slice va es.length vc, .string ck, .int .i64 cz, .bool cb] 87) = W3 at *
    have c0 := sc.c0
    go_loop [10] (fun i => ∃ j : Nat, j ≤ es.length ∧ i = .int .i64 j ∧ Hid (∀ m, m < j → (es.getD m noEnt).path ≠ path)) (fun i => es.length - (intOf i).toNat)
    case atStart => exact ⟨0, by omega, rfl, fun m hm => absurd hm (Nat.not_lt_zero m)⟩
    case round =>
      obtain ⟨j, hj, rfl, HJ⟩ := hrel
      by_cases hlt : j < es.length
      · obtain ⟨b, off, rfl, c1, c2⟩ := hat3 j hlt
        have hmem : es.getD j noEnt ∈ es := by
          rw [List.getD_eq_getElem?_getD, List.getElem?_eq_getElem hlt]
          exact List.getElem_mem hlt
        obtain ⟨oo, _⟩ := g3.out _ hmem
        have HMem : Hid (((es.getD j noEnt).path.data.toList, (es.getD j noEnt).body) ∈ pairsOf es) := List.mem_map.2 ⟨_, hmem, rfl⟩
        have HJ2 : Hid ((es.getD j noEnt).path ≠ path → ∀ m, m < j + 1 → (es.getD m noEnt).path ≠ path) := by
          intro h m hm
          by_cases e : m = j
          · subst e; exact h
          · exact HJ.out m (by omega)
        unfold Ent.val at c2 oo
        generalize es.getD j noEnt = y at *
        by_cases hq : y.path = path
        · have hqb : (y.path.toList == path.toList) = true := by simp [hq]
          have HF : Hid (FindAns key path p w.heap.size W3 (.slice y.adr y.body.length y.cap) 0) := .inr (.inr ⟨HZ.out, _, _, _, HI.out, .inr ⟨y.body, by rw [← hq]; exact HMem.out, oo, rfl⟩⟩)
          clear hq oo HJ2
          go_wp2
          go_ret2
          exact ⟨_, 0, rfl, HF.out, B3⟩
        · have hqb : (y.path.toList == path.toList) = false := by
            rw [beq_eq_false_iff_ne, ByteArray.toList_eq, ByteArray.toList_eq]
            intro e
            exact hq (ByteArray.ext (Array.toList_inj.1 e))
          have HJ3 := hide (HJ2.out hq)
          clear hq oo HJ2
          go_wp2
          go_round
          case rel => exact ⟨j + 1, by omega, by go_num, HJ3⟩
          case measure => simp [intOf]; omega
      · have HF : Hid (FindAns key path p w.heap.size W3 (.slice none 0 0) 13) := by
          refine .inr (.inr ⟨HZ.out, _, _, _, HI.out, .inl ⟨?_, rfl, rfl⟩⟩)
          intro q hq
          obtain ⟨e, he, rfl⟩ := List.mem_map.1 hq
          obtain ⟨m, hm, rfl⟩ := List.mem_iff_getElem.1 he
          have h := HJ.out m (by omega)
          rw [List.getD_eq_getElem?_getD, List.getElem?_eq_getElem hm, Option.getD_some] at h
          intro e
          exact h (ByteArray.ext (Array.toList_inj.1 e))
        go_wp2
        go_ret2
        exact ⟨_, 13, rfl, HF.out, B3⟩
  · have hEb : ((E2 : Int) != 0) = true := by simp; omega
    have HF : Hid (∀ W, FindAns key path p w.heap.size W (.slice none 0 0) E2) := by
      intro W
      rcases A2 with ⟨h1, h2, _⟩ | ⟨h1, h2, h3, _⟩ | ⟨_, _, _, _, _, _, _, h5, _⟩
      · exact .inl ⟨h1, h2, rfl⟩
      · exact .inr (.inl ⟨h1, h2, h3, rfl⟩)
      · exact absurd h5 hE
    clear hE A2 K
    go_wp2
    go_ret2
    exact ⟨_, E2, rfl, HF.out _, B3⟩

end Go.Proofs.YtgncohclofdhmaaGreat
