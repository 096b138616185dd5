import Derived.Test.YtgncohclofdhmabWkp2
import Derived.Test.YtgncohclofdhmabWsame2
import Derived.Deep.RegionWith
import Derived.BigRegion
namespace Go.Proofs.Ytgncohclofdhmab
open Go.RowKit

/-- All of a package but its tag. -/
def upto4 (pk : Bool) (al : Nat) (l : List (List UInt8 × List UInt8)) : List UInt8 := summed (plainOf pk al l)

theorem madeOf_split (key : List UInt8) (pk : Bool) (al : Nat) (l : List (List UInt8 × List UInt8)) : madeOf key pk al l = upto4 pk al l ++ fourOf (tagVal key (upto4 pk al l)) := rfl

theorem upto4_ge (pk : Bool) (al : Nat) (l : List (List UInt8 × List UInt8)) : 9 ≤ (upto4 pk al l).length := by
  have h : ∀ (l : List (List UInt8 × List UInt8)) (out : List UInt8), out.length ≤ (bodyOf pk al out l).length := by
    intro l
    induction l with
    | nil => intro out; exact Nat.le_refl _
    | cons x r ih =>
      intro out
      rw [bodyOf]
      have := ih (out ++ entOf pk al out.length x.1 x.2)
      rw [List.length_append] at this
      omega
  have h1 := h l (headBytes pk al l.length)
  simp only [upto4, summed, plainOf, List.length_append, fourOf, headBytes, List.length_cons, List.length_nil] at h1 ⊢
  omega

theorem Bts.first {w : World} {a : Option Addr} {xs : List UInt8} (h : Bts w a xs) (hp : 0 < xs.length) : ∃ b off, a = some ⟨b, off, none⟩ := by
  obtain ⟨b, off, e, _⟩ := h 0 hp
  exact ⟨b, off, e⟩

theorem Bts.left {w : World} {a : Option Addr} {xs ys : List UInt8} (h : Bts w a (xs ++ ys)) : Bts w a xs := by
  intro i hi
  obtain ⟨b, off, e, h1⟩ := h i (by rw [List.length_append]; omega)
  refine ⟨b, off, e, ?_⟩
  rw [h1, List.getD_eq_getElem?_getD, List.getD_eq_getElem?_getD, List.getElem?_append_left hi]

set_option maxRecDepth 100000 in
set_option maxHeartbeats 4000000 in
theorem Keyed_walk (a : Option Addr) (es : List Ent) (cap : Nat) (w : World) (z za : Int) (k1 k2 : ByteArray) (pk : Bool) (hl : ∀ e, e ∈ es → e.body.length ≤ 140737488351232) (hk1 : k1.size ≤ maxLen) (hk2 : k2.size ≤ maxLen) (hz : -9223372036854775808 ≤ z) (hz2 : z ≤ 9223372036854775807) (hza : -9223372036854775808 ≤ za) (hza2 : za ≤ 9223372036854775807) (ha : BodAt w a es) (hg : EntGood w es) :
    Calls Try.prog 6 #[.slice a es.length cap, .int .i64 z, .string k1, .string k2, .int .i64 za, .bool pk] w fun e w' => e = .returned (.bool true) ∧ Below w.heap.size w w' := by
  have HF := hide (files_any a es cap w z hl hz hz2 ha hg)
  obtain ⟨n, HN⟩ : ∃ n, Hid (n = es.length) := ⟨_, rfl⟩
  rw [← HN.out] at HF ⊢
  have HC1 := hide (fun W => config_any k1 za pk W hk1 hza hza2)
  have HC2 := hide (fun W => config_any k2 za pk W hk2 hza hza2)
  have hkk1 := hide (keyIs_key k1)
  have hkk2 := hide (keyIs_key k2)
  generalize keyIs k1 = x1 at *
  generalize keyIs k2 = x2 at *
  have hp := pickN_lt za (n := 16) (by omega)
  obtain ⟨al, HAl⟩ : ∃ al, Hid (al = 1 + pickN za 16) := ⟨_, rfl⟩
  rw [← HAl.out] at HC1 HC2
  have hal1 : 1 ≤ al := by rw [HAl.out]; omega
  have hal2 : al ≤ 16 := by rw [HAl.out]; omega
  go_enter Try.func6, Try.ntmps6
  go_wp2_with fail
  refine HF.out.mono ?_
  rintro e w1 ⟨v1, fs, rfl, o1, HG, HM, b1⟩
  have HFd := hide (Filed.of HM)
  have hfl := HFd.out.len
  have HG' := hide HG
  obtain ⟨sa, sc, rfl, has, -, -⟩ := o1.shape
  clear HM HG HF
  go_wp2_with fail
  refine (HC1.out _).mono ?_
  rintro e w2 ⟨rfl, b2⟩
  have B2 := b2.alloc b2.size (.cells #[.string x1, .int .i64 (al : Int), .bool pk] 24)
  have c10 := cell_new w2 #[.string x1, .int .i64 (al : Int), .bool pk] 24 0
  have c11 := cell_new w2 #[.string x1, .int .i64 (al : Int), .bool pk] 24 1
  have c12 := cell_new w2 #[.string x1, .int .i64 (al : Int), .bool pk] 24 2
  have z2 : (w2.alloc (.cells #[.string x1, .int .i64 (al : Int), .bool pk] 24)).heap.size = w2.heap.size + 1 := by simp
  go_wp2_with fail
  refine (HC2.out _).mono ?_
  rintro e w3 ⟨rfl, b3⟩
  have B3 := (B2.trans (b3.mono B2.size)).alloc (Nat.le_trans B2.size b3.size) (.cells #[.string x2, .int .i64 (al : Int), .bool pk] 24)
  have d10 := cell_alloc (.cells #[.string x2, .int .i64 (al : Int), .bool pk] 24) ((b3.cell (p := ⟨w2.heap.size, 0, none⟩) (by rw [z2]; simp)).trans c10)
  have d11 := cell_alloc (.cells #[.string x2, .int .i64 (al : Int), .bool pk] 24) ((b3.cell (p := ⟨w2.heap.size, 1, none⟩) (by rw [z2]; simp)).trans c11)
  have d12 := cell_alloc (.cells #[.string x2, .int .i64 (al : Int), .bool pk] 24) ((b3.cell (p := ⟨w2.heap.size, 2, none⟩) (by rw [z2]; simp)).trans c12)
  have d20 := cell_new w3 #[.string x2, .int .i64 (al : Int), .bool pk] 24 0
  have d21 := cell_new w3 #[.string x2, .int .i64 (al : Int), .bool pk] 24 1
  have d22 := cell_new w3 #[.string x2, .int .i64 (al : Int), .bool pk] 24 2
  have z3 : (w3.alloc (.cells #[.string x2, .int .i64 (al : Int), .bool pk] 24)).heap.size = w3.heap.size + 1 := by simp
  clear c10 c11 c12 b2 B2 b3 z2
  go_wp2_with fail
  refine (Build_keeps sa fs sc _ x1 (al : Int) pk (by unfold maxLen; omega) (keyB_le hkk1.out) (has.carry B3) (HG'.out.carry B3).good).mono ?_
  rintro e w4 ⟨v4, E4, p4, rfl, A4, b4⟩
  obtain ⟨rfl, rfl, o4⟩ := ans_filed HFd.out (turn_id _) (turned_id _) hkk1.out hal1 hal2 A4
  have B4 := B3.trans (b4.mono B3.size)
  have e20 := (b4.cell (p := ⟨w3.heap.size, 0, none⟩) (by rw [z3]; simp)).trans d20
  have e21 := (b4.cell (p := ⟨w3.heap.size, 1, none⟩) (by rw [z3]; simp)).trans d21
  have e22 := (b4.cell (p := ⟨w3.heap.size, 2, none⟩) (by rw [z3]; simp)).trans d22
  clear A4 d10 d11 d12 d20 d21 d22 b4 B3 z3
  obtain ⟨S, HS⟩ : ∃ S, Hid (S = upto4 pk al (pairsOf fs)) := ⟨_, rfl⟩
  have hSg : 9 ≤ S.length := by rw [HS.out]; exact upto4_ge _ _ _
  obtain ⟨m, HMl⟩ : ∃ m, Hid (m = S.length) := ⟨_, rfl⟩
  rw [← HMl.out] at hSg
  obtain ⟨a4, c4, hv4, hb4, hc4, hcm4⟩ := o4.shape
  rw [madeOf_split, ← HS.out] at hv4 hb4 hc4
  rw [show (S ++ fourOf (tagVal x1.data.toList S)).length = m + 4 from by rw [HMl.out]; simp [fourOf]] at hv4 hc4
  obtain ⟨b4', off4, rfl⟩ := hb4.first (by simp [fourOf])
  have hb4l := hb4.left
  subst hv4
  clear o4 hb4
  go_wp2_with fail
  refine (Build_keeps sa fs sc _ x2 (al : Int) pk (by unfold maxLen; omega) (keyB_le hkk2.out) (has.carry B4) (HG'.out.carry B4).good).mono ?_
  rintro e w5 ⟨v5, E5, p5, rfl, A5, b5⟩
  obtain ⟨rfl, rfl, o5⟩ := ans_filed HFd.out (turn_id _) (turned_id _) hkk2.out hal1 hal2 A5
  have B5 := B4.trans (b5.mono B4.size)
  have hb4c := hb4l.carry b5
  obtain ⟨a5, c5, hv5, hb5, hc5, hcm5⟩ := o5.shape
  rw [madeOf_split, ← HS.out] at hv5 hb5 hc5
  rw [show (S ++ fourOf (tagVal x2.data.toList S)).length = m + 4 from by rw [HMl.out]; simp [fourOf]] at hv5 hc5
  obtain ⟨b5', off5, rfl⟩ := hb5.first (by simp [fourOf])
  have hb5l := hb5.left
  subst hv5
  have hbw := b1.trans (B5.mono b1.size)
  clear A5 o5 hb5 e20 e21 e22 b5 B4 hb4l B5
  have hm4 : m ≤ 100000 := by
    rw [HMl.out, HS.out]
    have h := HFd.out.short x1.data.toList pk al hal1 hal2
    rw [madeOf_split, List.length_append] at h
    omega
  unfold maxLen at hcm4 hcm5
  have HSm : Hid (∀ W, Below w5.heap.size w5 W → ∀ n1 n2 c c', n1 = m → n2 = m → Calls Try.prog 12 #[.slice (some ⟨b4', off4, none⟩) n1 c, .slice (some ⟨b5', off5, none⟩) n2 c'] W fun e w' => e = .returned (.bool true) ∧ Below W.heap.size W w') := by
    intro W hW n1 n2 c c' h1 h2
    subst h1
    subst h2
    have h := same_any (some ⟨b4', off4, none⟩) (some ⟨b5', off5, none⟩) S S c c' W (by rw [← HMl.out]; omega) (by rw [← HMl.out]; omega) (hb4c.carry hW) (hb5l.carry hW)
    rw [← HMl.out, eqB_true] at h
    exact h
  have q1 : 0 < c4 := by omega
  have q2 : 0 < c5 := by omega
  have q4 : m ≤ c4 := by omega
  have q5 : m ≤ c5 := by omega
  have qw : IntKind.i64.wrap (m : Int) = (m : Int) := by rw [IntKind.wrap_i64]; omega
  clear hb4c hb5l
  go_wp2
  go_region_with (go_at_call 12; refine (unhide HSm _ (by first | exact Below.refl _ _ | exact (Below.refl _ _).drew | exact below_drewN (Below.refl _ _) _) _ _ _ _ (by omega) (by omega)).mono ?_; rintro e w6 ⟨rfl, b6⟩)
  all_goals
    have b6' : Below w5.heap.size w5 w6 := by first | exact b6 | exact (Below.refl _ _).drew.trans b6
    have hb6 := hbw.trans (b6'.mono hbw.size)
    clear b6 b6'
    go_wp2
    go_ret
    exact ⟨rfl, hb6⟩

end Go.Proofs.Ytgncohclofdhmab
