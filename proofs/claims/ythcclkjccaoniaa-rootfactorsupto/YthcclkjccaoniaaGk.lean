/- root.Gcd. -/
import Derived.Test.YthcclkjccaoniaaGj
import Derived.Deep.LoopGhost
namespace Go.Proofs.Ythcclkjccaoniaa
open Go.RowKit M

/-- What Gcd's loop keeps. -/
structure Gl (B K G gk : Nat) (w u : World) (a1 : Option Addr) (n1 c1 : Nat) (a2 : Option Addr) (n2 c2 A C : Nat) : Prop where
  great : Ow B u (.slice a1 n1 c1) (toL A)
  small : Ow B u (.slice a2 n2 c2) (toL C)
  sep : ∀ g, a1 = some ⟨g, 0, none⟩ → a2 ≠ some ⟨g, 0, none⟩
  le : C ≤ A
  bd : A < Bp K
  gcd : Nat.gcd A C = G
  below : Below B w u
  size : B ≤ u.heap.size
  meas : gk = A + C
theorem Gl.n1 {B K G gk n1 c1 n2 c2 A C : Nat} {w u : World} {a1 a2 : Option Addr} (h : Gl B K G gk w u a1 n1 c1 a2 n2 c2 A C) : n1 ≤ K := h.great.rd.ln h.bd
theorem Gl.n2 {B K G gk n1 c1 n2 c2 A C : Nat} {w u : World} {a1 a2 : Option Addr} (h : Gl B K G gk w u a1 n1 c1 a2 n2 c2 A C) : n2 ≤ n1 := by
  have h1 := h.great.len
  have h2 := h.small.len
  by_cases hh : (toL A).length < (toL C).length
  · have := toL_len_lt hh; have := h.le; omega
  · omega

theorem Gl.shrunk {B K G gk n1 c1 n2 c2 A C : Nat} {w u u' : World} {a1 a2 : Option Addr} (h : Gl B K G gk w u a1 n1 c1 a2 n2 c2 A C) {b1 : Option Addr} {m1 d1 : Nat} {b2 : Option Addr} {m2 d2 R R' : Nat}
    (hb : Below B u u') (o1 : Ow B u' (.slice b1 m1 d1) (toL R)) (o2 : Ow B u' (.slice b2 m2 d2) (toL R')) (hs : ∀ g, b1 = some ⟨g, 0, none⟩ → b2 ≠ some ⟨g, 0, none⟩) (hle : R' ≤ R) (hRA : R ≤ A) (hg : Nat.gcd R R' = Nat.gcd A C) :
    Gl B K G (R + R') w u' b1 m1 d1 b2 m2 d2 R R' :=
  ⟨o1, o2, hs, hle, Nat.lt_of_le_of_lt hRA h.bd, hg.trans h.gcd, h.below.trans hb, Nat.le_trans h.size hb.size, rfl⟩

set_option maxHeartbeats 2000000 in
theorem gcd_k {w : World} {ao bo : Option Addr} {n cap m bcap : Nat} {xs ys : List Nat} (h : Sl w.heap.size w ao n cap xs) (h2 : Sl w.heap.size w bo m bcap ys) (i : Nat) (hi : n ≤ i) (hj : m ≤ i) (hb : i ≤ 16777216) :
    Calls Try.prog 11 #[.slice ao n cap, .slice bo m bcap] w (Gv w i (toL (Nat.gcd (val xs) (val ys)))) := by
  have v1 := h.bd hi
  have v2 := h2.bd hj
  obtain ⟨G, hG⟩ : ∃ G, G = Nat.gcd (val xs) (val ys) := ⟨_, rfl⟩
  rw [← hG]
  go_enter Try.func11, Try.ntmps11
  go_wp2_with fail
  refine (norm_own w ao n cap xs h (by omega)).mono ?_
  rintro e w1 ⟨a1, n1, c1, rfl, o1, b1⟩
  go_wp2_with fail
  refine (norm_own w1 bo m bcap ys (h2.later b1) (by omega)).mono ?_
  rintro e w2 ⟨a2, n2, c2, rfl, o2, b2⟩
  have o1' := o1.later b2
  have sep1 : ∀ g, a1 = some ⟨g, 0, none⟩ → a2 ≠ some ⟨g, 0, none⟩ := by
    intro g hg1 hg2
    subst hg1 hg2
    have := o1.block.2
    have := o2.block.1
    omega
  have bel : Below w.heap.size w w2 := b1.trans (b2.mono b1.size)
  have o2' : Ow w.heap.size w2 (.slice a2 n2 c2) (toL (val ys)) := o2.mono b1.size
  have hsz : w.heap.size ≤ w2.heap.size := bel.size
  have hn1 : n1 ≤ i := o1'.rd.ln v1
  have hn2 : n2 ≤ i := o2'.rd.ln v2
  clear o1 o2 b1 b2 h h2
  obtain ⟨A, hA⟩ : ∃ A, A = val xs := ⟨_, rfl⟩
  obtain ⟨C, hC⟩ : ∃ C, C = val ys := ⟨_, rfl⟩
  rw [← hA] at o1' v1 hG
  rw [← hC] at o2' v2 hG
  obtain ⟨B, hBB⟩ : ∃ B, B = w.heap.size := ⟨_, rfl⟩
  rw [← hBB] at o1' o2' bel hsz
  have HB : Hid (B = w.heap.size) := hBB
  have HG : Hid (G = Nat.gcd A C) := hG
  have V1 : Hid (A < Bp i) := v1
  have V2 : Hid (C < Bp i) := v2
  clear hBB hA hC hG v1 v2
  go_wp2_with fail
  refine (cmp_any w2 a1 a2 n1 c1 n2 c2 w2.heap.size _ _ o1'.rd o2'.rd (by omega) (by omega)).mono ?_
  rintro e w3 ⟨rfl, q3⟩
  rw [val_toL, val_toL]
  have o1 := o1'.qt q3
  have o2 := o2'.qt q3
  have bel3 : Below B w w3 := bel.trans (q3.below _)
  have hsz3 : B ≤ w3.heap.size := by rw [q3.size]; exact hsz
  clear o1' o2' bel hsz q3
  have sepr : ∀ g, a2 = some ⟨g, 0, none⟩ → a1 ≠ some ⟨g, 0, none⟩ := fun g h1 h2 => sep1 g h2 h1
  by_cases hlt : A < C
  · have ST : Hid (Gl B i G (A + C) w w3 a2 n2 c2 a1 n1 c1 C A) := ⟨o2, o1, sepr, by omega, V2.out, by rw [Nat.gcd_comm]; exact HG.out.symm, bel3, hsz3, by omega⟩
    rw [cmpN_lt hlt]
    clear hlt o1 o2 bel3 hsz3 sep1 sepr
    go_wp2
    go_loopg [5, 6] (A + C) (fun gk av bv wr => ∃ a1 n1 c1 a2 n2 c2 A C, av = .slice a1 n1 c1 ∧ bv = .slice a2 n2 c2 ∧ Hid (Gl B i G gk w wr a1 n1 c1 a2 n2 c2 A C))
    case atStart => exact ⟨a2, n2, c2, a1, n1, c1, C, A, rfl, rfl, ST⟩
    case round =>
      clear ST HG V1 V2
      obtain ⟨a1, n1, c1, a2, n2, c2, A, C, rfl, rfl, HL⟩ := hrel
      have hn1 := HL.out.n1
      have hn2 := HL.out.n2
      by_cases h3 : 2 < n2
      · obtain ⟨ga, _, rfl, _⟩ := HL.out.great.inv (by omega)
        obtain ⟨gb, _, rfl, _⟩ := HL.out.small.inv (by omega)
        obtain ⟨p, rfl⟩ : ∃ p, n1 = p + 3 := ⟨n1 - 3, by omega⟩
        obtain ⟨q, rfl⟩ : ∃ q, n2 = q + 3 := ⟨n2 - 3, by omega⟩
        have hne : ga ≠ gb := fun e => HL.out.sep ga rfl (by rw [e])
        have h3b : decide ((2 : Int) < (q : Int) + 3) = true := by simp; omega
        go_wp2_with fail
        refine (shrunk_any wr B ga gb p c1 q c2 A C HL.out.great HL.out.small hne HL.out.le (by omega)).mono ?_
        rintro e w4 ⟨b1, m1, d1, b2, m2, d2, R, R', rfl, hb4, o1, o2, hs, hle, hRA, hsum, hg⟩
        have HN : Hid (Gl B i G (R + R') w w4 b1 m1 d1 b2 m2 d2 R R') := HL.out.shrunk hb4 o1 o2 hs hle hRA hg
        have HM : Hid (R + R' < gk) := by show R + R' < gk; have := HL.out.meas; omega
        clear hb4 o1 o2 hs hle hRA hsum hg HL h3 h3b hn1 hn2
        go_wp2
        go_roundg (R + R')
        case measure => exact HM.out
        case rel => exact ⟨b1, m1, d1, b2, m2, d2, R, R', rfl, rfl, HN⟩
      · have HBS : Hid (Below w.heap.size w wr) := by show Below w.heap.size w wr; rw [← HB.out]; exact HL.out.below
        by_cases h0 : n2 = 0
        · subst h0
          have hC0 : C = 0 := by have := HL.out.small.len; exact toL_length_zero.1 this
          have HA : Hid (A = G) := by show A = G; have := HL.out.gcd; rwa [hC0, Nat.gcd_zero_right] at this
          have HS : Hid (Sl wr.heap.size wr a1 n1 c1 (toL A)) := HL.out.great.rd
          clear HL hC0
          go_wp2
          go_ret
          exact ⟨a1, n1, c1, rfl, by rw [← HA.out]; exact HS.out, hn1, HBS.out⟩
        · have hC0 : C ≠ 0 := by
            intro hz
            have := HL.out.small.len
            rw [hz, toL_zero] at this
            exact h0 this.symm
          have sg := HL.out.great.rd
          have ss := HL.out.small.rd
          have HGG : Hid (Nat.gcd C (A % C) = G) := by show Nat.gcd C (A % C) = G; rw [gcd_turn]; exact HL.out.gcd
          have hC64 : C < 18446744073709551616 := by
            have := ss.bd (show n2 ≤ 2 by omega)
            rw [val_toL, Bp_succ, Bp_succ, Bp_zero] at this
            omega
          have hR : A % C < C := Nat.mod_lt _ (Nat.pos_of_ne_zero hC0)
          have HCA : Hid (C < Bp i) := Nat.lt_of_le_of_lt HL.out.le HL.out.bd
          have h3b : decide ((2 : Int) < (n2 : Int)) = false := by simp; omega
          have h0b : ((n2 : Int) == 0) = false := by rw [beq_eq_false_iff_ne]; omega
          clear HL
          go_wp2_with fail
          refine (divMod_k sg ss i hn1 (by omega) (by omega) (by rw [val_toL]; exact hC0)).mono ?_
          rintro e w4 ⟨qo, qn, qc, ro, rn, rc, rfl, _, sr, _, _, b4⟩
          rw [val_toL, val_toL] at sr
          have ss4 := ss.later b4
          have hrn : rn ≤ 2 := sr.ln (by rw [Bp_succ, Bp_succ, Bp_zero]; omega)
          clear sg ss
          go_wp2_with fail
          refine (word_any _ w4 a2 n2 c2 _ ss4 (by omega)).mono ?_
          rintro e w5 ⟨rfl, rfl⟩
          rw [val_toL]
          go_wp2_with fail
          refine (word_any _ w4 ro rn rc _ sr hrn).mono ?_
          rintro e w5 ⟨rfl, rfl⟩
          rw [val_toL]
          generalize A % C = Rm at *
          clear ss4 sr
          go_wp2_with fail
          refine (gcdOfWords_any w4 C Rm hC64 (by omega)).mono ?_
          rintro e w5 ⟨rfl, q5⟩
          have HG5 := HGG.out
          rw [HG5]
          have hGC : G ≤ C := by rw [← HG5]; exact Nat.gcd_le_left _ (Nat.pos_of_ne_zero hC0)
          clear HG5
          go_wp2_with fail
          refine (of_any w5 G (by omega)).mono ?_
          rintro e w6 ⟨a6, n6, c6, rfl, s6, b6⟩
          have hn6 : n6 ≤ i := s6.ln (Nat.lt_of_le_of_lt hGC HCA.out)
          have hb6 : Below w.heap.size w w6 := ((HBS.out.trans (b4.mono HBS.out.size)).trans (q5.below _)).trans (b6.mono (by rw [q5.size]; have := HBS.out.size; have := b4.size; omega))
          clear b4 b6 q5
          go_wp2
          go_ret
          exact ⟨a6, n6, c6, rfl, s6, hn6, hb6⟩
  · have ST : Hid (Gl B i G (A + C) w w3 a1 n1 c1 a2 n2 c2 A C) := ⟨o1, o2, sep1, by omega, V1.out, HG.out.symm, bel3, hsz3, rfl⟩
    have hcm : decide (cmpN A C < 0) = false := by unfold cmpN; rw [if_neg hlt]; split <;> rfl
    have hcm2 : 0 ≤ cmpN A C := by unfold cmpN; rw [if_neg hlt]; split <;> omega
    generalize cmpN A C = cm at hcm hcm2 ⊢
    clear hlt o1 o2 bel3 hsz3 sep1 sepr
    go_wp2
    go_loopg [5, 6] (A + C) (fun gk av bv wr => ∃ a1 n1 c1 a2 n2 c2 A C, av = .slice a1 n1 c1 ∧ bv = .slice a2 n2 c2 ∧ Hid (Gl B i G gk w wr a1 n1 c1 a2 n2 c2 A C))
    case atStart => exact ⟨a1, n1, c1, a2, n2, c2, A, C, rfl, rfl, ST⟩
    case round =>
      clear ST HG V1 V2
      obtain ⟨a1, n1, c1, a2, n2, c2, A, C, rfl, rfl, HL⟩ := hrel
      have hn1 := HL.out.n1
      have hn2 := HL.out.n2
      by_cases h3 : 2 < n2
      · obtain ⟨ga, _, rfl, _⟩ := HL.out.great.inv (by omega)
        obtain ⟨gb, _, rfl, _⟩ := HL.out.small.inv (by omega)
        obtain ⟨p, rfl⟩ : ∃ p, n1 = p + 3 := ⟨n1 - 3, by omega⟩
        obtain ⟨q, rfl⟩ : ∃ q, n2 = q + 3 := ⟨n2 - 3, by omega⟩
        have hne : ga ≠ gb := fun e => HL.out.sep ga rfl (by rw [e])
        have h3b : decide ((2 : Int) < (q : Int) + 3) = true := by simp; omega
        go_wp2_with fail
        refine (shrunk_any wr B ga gb p c1 q c2 A C HL.out.great HL.out.small hne HL.out.le (by omega)).mono ?_
        rintro e w4 ⟨b1, m1, d1, b2, m2, d2, R, R', rfl, hb4, o1, o2, hs, hle, hRA, hsum, hg⟩
        have HN : Hid (Gl B i G (R + R') w w4 b1 m1 d1 b2 m2 d2 R R') := HL.out.shrunk hb4 o1 o2 hs hle hRA hg
        have HM : Hid (R + R' < gk) := by show R + R' < gk; have := HL.out.meas; omega
        clear hb4 o1 o2 hs hle hRA hsum hg HL h3 h3b hn1 hn2
        go_wp2
        go_roundg (R + R')
        case measure => exact HM.out
        case rel => exact ⟨b1, m1, d1, b2, m2, d2, R, R', rfl, rfl, HN⟩
      · have HBS : Hid (Below w.heap.size w wr) := by show Below w.heap.size w wr; rw [← HB.out]; exact HL.out.below
        by_cases h0 : n2 = 0
        · subst h0
          have hC0 : C = 0 := by have := HL.out.small.len; exact toL_length_zero.1 this
          have HA : Hid (A = G) := by show A = G; have := HL.out.gcd; rwa [hC0, Nat.gcd_zero_right] at this
          have HS : Hid (Sl wr.heap.size wr a1 n1 c1 (toL A)) := HL.out.great.rd
          clear HL hC0
          go_wp2
          go_ret
          exact ⟨a1, n1, c1, rfl, by rw [← HA.out]; exact HS.out, hn1, HBS.out⟩
        · have hC0 : C ≠ 0 := by
            intro hz
            have := HL.out.small.len
            rw [hz, toL_zero] at this
            exact h0 this.symm
          have sg := HL.out.great.rd
          have ss := HL.out.small.rd
          have HGG : Hid (Nat.gcd C (A % C) = G) := by show Nat.gcd C (A % C) = G; rw [gcd_turn]; exact HL.out.gcd
          have hC64 : C < 18446744073709551616 := by
            have := ss.bd (show n2 ≤ 2 by omega)
            rw [val_toL, Bp_succ, Bp_succ, Bp_zero] at this
            omega
          have hR : A % C < C := Nat.mod_lt _ (Nat.pos_of_ne_zero hC0)
          have HCA : Hid (C < Bp i) := Nat.lt_of_le_of_lt HL.out.le HL.out.bd
          have h3b : decide ((2 : Int) < (n2 : Int)) = false := by simp; omega
          have h0b : ((n2 : Int) == 0) = false := by rw [beq_eq_false_iff_ne]; omega
          clear HL
          go_wp2_with fail
          refine (divMod_k sg ss i hn1 (by omega) (by omega) (by rw [val_toL]; exact hC0)).mono ?_
          rintro e w4 ⟨qo, qn, qc, ro, rn, rc, rfl, _, sr, _, _, b4⟩
          rw [val_toL, val_toL] at sr
          have ss4 := ss.later b4
          have hrn : rn ≤ 2 := sr.ln (by rw [Bp_succ, Bp_succ, Bp_zero]; omega)
          clear sg ss
          go_wp2_with fail
          refine (word_any _ w4 a2 n2 c2 _ ss4 (by omega)).mono ?_
          rintro e w5 ⟨rfl, rfl⟩
          rw [val_toL]
          go_wp2_with fail
          refine (word_any _ w4 ro rn rc _ sr hrn).mono ?_
          rintro e w5 ⟨rfl, rfl⟩
          rw [val_toL]
          generalize A % C = Rm at *
          clear ss4 sr
          go_wp2_with fail
          refine (gcdOfWords_any w4 C Rm hC64 (by omega)).mono ?_
          rintro e w5 ⟨rfl, q5⟩
          have HG5 := HGG.out
          rw [HG5]
          have hGC : G ≤ C := by rw [← HG5]; exact Nat.gcd_le_left _ (Nat.pos_of_ne_zero hC0)
          clear HG5
          go_wp2_with fail
          refine (of_any w5 G (by omega)).mono ?_
          rintro e w6 ⟨a6, n6, c6, rfl, s6, b6⟩
          have hn6 : n6 ≤ i := s6.ln (Nat.lt_of_le_of_lt hGC HCA.out)
          have hb6 : Below w.heap.size w w6 := ((HBS.out.trans (b4.mono HBS.out.size)).trans (q5.below _)).trans (b6.mono (by rw [q5.size]; have := HBS.out.size; have := b4.size; omega))
          clear b4 b6 q5
          go_wp2
          go_ret
          exact ⟨a6, n6, c6, rfl, s6, hn6, hb6⟩
end Go.Proofs.Ythcclkjccaoniaa
