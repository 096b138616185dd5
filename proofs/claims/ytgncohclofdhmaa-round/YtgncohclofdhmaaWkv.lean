import Derived.Test.YtgncohclofdhmaaMfile
import Derived.Test.YtgncohclofdhmaaMtm
import Derived.Test.YtgncohclofdhmaaWvb
import Derived.Test.YtgncohclofdhmaaWva
import Derived.Test.YtgncohclofdhmaaWsame2
import Derived.Test.YtgncohclofdhmaaWbd
import Derived.Deep.RegionWith
import Derived.BigRegion
import Derived.Deep.DeepCutAuto
namespace Go.Proofs.Ytgncohclofdhmaa
open Go.RowKit

theorem Filed.goodL {fs : List Ent} (h : Filed fs) {al : Nat} (ha : 1 ≤ al) (ha2 : al ≤ 16) : GoodL (pairsOf fs) al := by
  refine ⟨by rw [pairs_size]; have := h.len; omega, ?_, ?_, ?_, ha, ha2⟩
  · intro x hx
    obtain ⟨e, he, rfl⟩ := List.mem_map.1 hx
    exact (h.path e he).1
  · intro x hx
    obtain ⟨e, he, rfl⟩ := List.mem_map.1 hx
    exact h.body e he
  · unfold pairsOf
    rw [List.pairwise_map]
    have h1 := List.Pairwise.sublist h.sub six_apart
    rw [List.pairwise_map] at h1
    refine h1.imp ?_
    intro x y hxy
    unfold apartB at hxy
    simp only [Bool.and_eq_true, Bool.not_eq_true'] at hxy
    exact ⟨hxy.1.1, hxy.2⟩

theorem Filed.pack {fs : List Ent} (h : Filed fs) (key : List UInt8) (pk : Bool) {al : Nat} (ha : 1 ≤ al) (ha2 : al ≤ 16) : IsPack key (madeOf key pk al (pairsOf fs)) (pairsOf fs) al pk :=
  ⟨h.goodL ha ha2, rfl, h.short key pk al ha ha2⟩

theorem made_ge (key : List UInt8) (pk : Bool) (al : Nat) (l : List (List UInt8 × List UInt8)) : 13 ≤ (madeOf key pk al l).length := by
  rw [made_end, List.length_append, plain_len]
  obtain ⟨r, hr⟩ := bodyOf_out pk al (l.take l.length) (headBytes pk al l.length)
  unfold bodyTo
  rw [hr]
  simp [fourOf, headBytes]
  omega

theorem Filed.clean {fs : List Ent} (h : Filed fs) (key : ByteArray) (pk : Bool) {al : Nat} (ha : 1 ≤ al) (ha2 : al ≤ 16) (hk : keyB key.size = true) : verHead key.data.toList (madeOf key.data.toList pk al (pairsOf fs)) = 0 :=
  (h.pack key.data.toList pk ha ha2).clean (by rw [show key.data.toList.length = key.size from by simp]; exact hk) (made_ge _ _ _ _)

/-- What Verify says of a package. -/
theorem ver_pack {fs : List Ent} {key : ByteArray} {p : List UInt8} {al : Nat} {pk : Bool} {B : Nat} {w : World} {v cfg : Value} {E : Nat} (h : VerAns key p B w v cfg E) (hI : IsPack key.data.toList p (pairsOf fs) al pk) (h0 : verHead key.data.toList p = 0) :
    E = 0 ∧ cfg = .agg #[.string key, .int .i64 (al : Nat), .bool pk] ∧ ∃ es, Alike fs es ∧ OwnE B w v es ∧ EntOwn B w es := by
  rcases h with ⟨h1, _⟩ | ⟨_, h2, _⟩ | ⟨_, es, al', pk', h2, h3, h4, h5, h6⟩
  · exact absurd h0 h1
  · exact absurd ⟨_, _, _, hI⟩ h2
  · obtain ⟨e1, e2, e3⟩ := hI.only h2
    subst e2 e3
    exact ⟨h5, h6, es, alike_of_pairs e1, h3, h4⟩

/-- What Find says of a package. -/
theorem find_pack {fs : List Ent} {key path : ByteArray} {p : List UInt8} {al : Nat} {pk : Bool} {B : Nat} {w : World} {v : Value} {E : Nat} (h : FindAns key path p B w v E) (hI : IsPack key.data.toList p (pairsOf fs) al pk) (h0 : verHead key.data.toList p = 0) {x : Ent} (hx : x ∈ fs) (hp : x.path = path) :
    E = 0 ∧ Own B w v x.body := by
  have hm : (path.data.toList, x.body) ∈ pairsOf fs := by
    rw [← hp]
    exact List.mem_map.2 ⟨x, hx, rfl⟩
  rcases h with ⟨h1, _⟩ | ⟨_, h2, _⟩ | ⟨_, l, al', pk', h2, h3⟩
  · exact absurd h0 h1
  · exact absurd ⟨_, _, _, hI⟩ h2
  · obtain ⟨e1, e2, e3⟩ := hI.only h2
    subst e1
    rcases h3 with ⟨h4, _⟩ | ⟨b, h4, h5, h6⟩
    · exact absurd rfl (h4 _ hm)
    · have e := hI.good.one hm h4
      rw [e]
      exact ⟨h6, h5⟩

theorem find_none {fs : List Ent} {key path : ByteArray} {p : List UInt8} {al : Nat} {pk : Bool} {B : Nat} {w : World} {v : Value} {E : Nat} (h : FindAns key path p B w v E) (hI : IsPack key.data.toList p (pairsOf fs) al pk) (h0 : verHead key.data.toList p = 0) (hn : ∀ x, x ∈ fs → x.path ≠ path) :
    E = 13 ∧ v = .slice none 0 0 := by
  rcases h with ⟨h1, _⟩ | ⟨_, h2, _⟩ | ⟨_, l, al', pk', h2, h3⟩
  · exact absurd h0 h1
  · exact absurd ⟨_, _, _, hI⟩ h2
  · obtain ⟨e1, e2, e3⟩ := hI.only h2
    subst e1
    rcases h3 with ⟨_, h5, h6⟩ | ⟨b, h4, _⟩
    · exact ⟨h5, h6⟩
    · obtain ⟨e, he, h7⟩ := List.mem_map.1 h4
      simp only [pairOf, Prod.mk.injEq] at h7
      exact absurd (ByteArray.ext (Array.toList_inj.1 h7.1)) (hn e he)

theorem six_no : ∀ p, p ∈ sixPaths → p ≠ ⟨#[110, 111]⟩ := by decide +kernel

theorem Filed.no {fs : List Ent} (h : Filed fs) : ∀ x, x ∈ fs → x.path ≠ ⟨#[110, 111]⟩ := fun x hx => six_no _ (h.sub.subset (List.mem_map.2 ⟨x, hx, rfl⟩))

end Go.Proofs.Ytgncohclofdhmaa

namespace Go.Proofs.Ytgncohclofdhmaa
open Go.RowKit

set_option maxRecDepth 100000 in
set_option maxHeartbeats 2000000 in
theorem sameFiles_any (a a' : Option Addr) (es fs : List Ent) (c c' : Nat) (w : World) (hn : es.length ≤ 1000) (hal : Alike es fs) (hb : ∀ e, e ∈ es → e.body.length ≤ 140737488355328) (ha : EntAt w a es) (ha' : EntAt w a' fs) (hg : EntGood w es) (hg' : EntGood w fs) :
    Calls Try.prog 44 #[.slice a es.length c, .slice a' fs.length c'] w fun e w' => e = .returned (.bool true) ∧ Below w.heap.size w w' := by
  obtain ⟨n, HN⟩ : ∃ n, Hid (n = es.length) := ⟨_, rfl⟩
  have hl := hal.len
  rw [← hl, ← HN.out]
  have HL := hide hl
  have HAl := hide hal
  rw [← HN.out] at hn
  clear hl hal
  have hnb : ((n : Int) != (n : Int)) = false := by simp
  go_enter Try.func44, Try.ntmps44
  go_wp2
  go_loopw [5, 6] (fun i _ wr => ∃ k : Nat, k ≤ n ∧ i = .int .i64 k ∧ Below w.heap.size w wr) (fun i _ _ => n - (intOf i).toNat)
  case atStart => exact ⟨0, by omega, rfl, Below.refl _ _⟩
  case round =>
    obtain ⟨k, hk, rfl, hbl⟩ := hrel
    by_cases hlt : k < n
    · have hk1 : k < es.length := by have := HN.out; omega
      have hk2 : k < fs.length := by have := HN.out; have := HL.out; omega
      obtain ⟨b, off, rfl, c1, c2⟩ := (ha.carry hbl) k hk1
      obtain ⟨b', off', rfl, c1', c2'⟩ := (ha'.carry hbl) k hk2
      obtain ⟨g1, _, _, _⟩ := (hg.carry hbl).get k hk1
      obtain ⟨g1', _, _, _⟩ := (hg'.carry hbl).get k hk2
      have hbl1 : (es.getD k noEnt).body.length ≤ 140737488355328 := by
        apply hb
        rw [List.getD_eq_getElem?_getD, List.getElem?_eq_getElem hk1]
        exact List.getElem_mem hk1
      obtain ⟨e1, e2⟩ := HAl.out.get k
      unfold Ent.val at c2 c2'
      rw [← e1] at c1'
      rw [← e2] at c2' g1'
      generalize es.getD k noEnt = x at *
      generalize (fs.getD k noEnt).adr = xa at *
      generalize (fs.getD k noEnt).cap = xc at *
      clear e1 e2
      have hki : (k : Int) < (n : Int) := by omega
      have HSm : Hid (∀ W, Below wr.heap.size wr W → Calls Try.prog 40 #[.slice x.adr x.body.length x.cap, .slice xa x.body.length xc] W fun e w' => e = .returned (.bool true) ∧ Below W.heap.size W w') := by
        intro W hW
        have h := same_any x.adr xa x.body x.body x.cap xc W hbl1 hbl1 (g1.carry hW) (g1'.carry hW)
        rw [eqB_true] at h
        exact h
      go_upto_region 6 with fail
      go_cut [6] (fun s6 wx => s6 = .bool true ∧ Below wr.heap.size wr wx)
      case first =>
        go_region_with (go_at_call 40; refine (unhide HSm _ (by first | exact Below.refl _ _ | exact (Below.refl _ _).drew | exact (Below.refl _ _).drew.drew | exact below_drewN (Below.refl _ _) _)).mono ?_; rintro e w5 ⟨rfl, b5⟩)
        all_goals (go_wp2_with fail; go_meet)
        all_goals exact ⟨rfl, by first | exact b5 | exact (Below.refl _ _).drew.trans b5 | exact (Below.refl _ _).drew.drew.trans b5⟩
      case rest =>
        obtain ⟨rfl, b6⟩ := hcut
        have d1 := (b6.cell (p := ⟨b, off + k * 2, none⟩) (World.block_lt_of_cell? _ _ c1)).trans c1
        have d2 := (b6.cell (p := ⟨b', off' + k * 2, none⟩) (World.block_lt_of_cell? _ _ c1')).trans c1'
        have hbl6 := hbl.trans (b6.mono hbl.size)
        clear c1 c1' c2 c2' b6 HSm g1 g1' hbl
        go_wp2
        go_quiet (fail)
        go_wp2
        go_roundw
        case rel => first | exact ⟨k + 1, by omega, by go_num, below_drewN hbl6 _⟩ | ((repeat apply Exists.intro); exact ⟨⟨k + 1, by omega, by go_num, below_drewN hbl6 _⟩, rfl⟩)
        case measure => simp [intOf]; omega
    · go_wp2
      go_ret
      exact ⟨rfl, hbl⟩

end Go.Proofs.Ytgncohclofdhmaa
