/- root.shrunk. -/
import Derived.Test.YthcclkjccaoniaaGi
namespace Go.Proofs.Ythcclkjccaoniaa
open Go.RowKit M

/-- What shrunk leaves: two lesser naturals of the same common divisors, in memory of their own. -/
def Shrunk (B : Nat) (w : World) (A C : Nat) (e : Ending) (w' : World) : Prop :=
  ∃ a1 n1 c1 a2 n2 c2 R R', e = .returned (.tuple #[.slice a1 n1 c1, .slice a2 n2 c2]) ∧ Below B w w' ∧ Ow B w' (.slice a1 n1 c1) (toL R) ∧ Ow B w' (.slice a2 n2 c2) (toL R') ∧
    (∀ g, a1 = some ⟨g, 0, none⟩ → a2 ≠ some ⟨g, 0, none⟩) ∧ R' ≤ R ∧ R ≤ A ∧ R + R' < A + C ∧ Nat.gcd R R' = Nat.gcd A C

theorem val_pad (xs : List Nat) (k : Nat) : val (xs ++ List.replicate k 0) = val xs := by rw [val_append, val_rep]; omega
theorem Ow.trimr {B n cap g V : Nat} {w : World} {zs : List Nat} (h : Ow B w (.slice (some ⟨g, 0, none⟩) n cap) zs) (hv : val zs = V) : Ow B w (.slice (some ⟨g, 0, none⟩) (toL V).length cap) (toL V) := by
  subst hv
  have hk : (toL (val zs)).length ≤ n := toL_len_le (by rw [← h.len]; exact val_lt h.lim)
  have := h.cut _ hk
  rwa [← toL_take h.lim] at this

/-- Behind the append the other row and the combination are as they were. -/
theorem appended {w3 : World} {B ga gb g na ca nb cb u0 v0 v1 u1 : Nat} {xs ys : List Nat} (oa : Ow B w3 (.slice (some ⟨ga, 0, none⟩) na ca) xs) (ob : Ow B w3 (.slice (some ⟨gb, 0, none⟩) nb cb) ys) (c : Cb w3 g u0 v0 v1 u1) (hne : ga ≠ gb) (hgb : gb ≠ g) (hB : B ≤ w3.heap.size) :
    ∀ (g' : Nat) (w4 : World), w3.grownBy w4 (some gb) → (g' = gb ∨ w3.heap.size ≤ g') → ga ≠ g' ∧ Ow B w4 (.slice (some ⟨ga, 0, none⟩) na ca) xs ∧ Cb w4 g u0 v0 v1 u1 ∧ Below B w3 w4 := by
  intro g' w4 hg hs
  have h1 := oa.block
  have h2 := ob.block
  have h3 := c.lt
  refine ⟨by omega, oa.keep fun k hk => ?_, c.keep (hg.block g h3 (by simp; omega)), (Below.refl B w3).grown hg hB fun k hk => ?_⟩
  · simp only [Option.some.injEq, Addr.mk.injEq, and_true] at hk
    subst hk
    exact hg.block ga h1.2 (by simp; omega)
  · simp only [Option.some.injEq] at hk
    omega

set_option maxHeartbeats 2000000 in
theorem shrunk_any (w : World) (B ga gb n ca m cb A C : Nat) (ha : Ow B w (.slice (some ⟨ga, 0, none⟩) (n + 3) ca) (toL A)) (hb : Ow B w (.slice (some ⟨gb, 0, none⟩) (m + 3) cb) (toL C)) (hne : ga ≠ gb) (hle : C ≤ A) (hn : n ≤ 268435456) :
    Calls Try.prog 21 #[.slice (some ⟨ga, 0, none⟩) (n + 3) ca, .slice (some ⟨gb, 0, none⟩) (m + 3) cb] w (Shrunk B w A C) := by
  have hBw : B ≤ w.heap.size := by have := ha.block; omega
  have hmn : m ≤ n := by
    have h1 := ha.len
    have h2 := hb.len
    by_cases hh : (toL A).length < (toL C).length
    · have := toL_len_lt hh; omega
    · omega
  go_enter Try.func21, Try.ntmps21
  go_wp2_with fail
  refine (heads_any w.heap.size w _ _ n ca (m + 3) cb A C ha.rd hb.rd (by omega) hle).mono ?_
  rintro e w1 ⟨a, b, P, x, y, rfl, q1, h64, hba, h1a, eA, lx, eC, ly⟩
  go_wp2_with fail
  refine (foresee_any w1 a b h64 hba h1a).mono ?_
  rintro e w2 ⟨t, u0, u1, v0, v1, rfl, b2, hp⟩
  have hb2 : Below w.heap.size w w2 := (q1.below _).trans (b2.mono (by rw [q1.size]; exact Nat.le_refl _))
  have HA : Hid (A = P * a + x) := eA
  have HC : Hid (C = P * b + y) := eC
  have oa2 : Ow B w2 (.slice (some ⟨ga, 0, none⟩) (n + 3) ca) (toL A) := ha.later hb2
  have ob2 : Ow B w2 (.slice (some ⟨gb, 0, none⟩) (m + 3) cb) (toL C) := hb.later hb2
  clear ha hb eA eC q1 b2
  by_cases h0 : v0 = 0
  · subst h0
    clear hp
    go_wp2_with fail
    have hb3 : Below w2.heap.size w2 (w2.alloc (.cells #[.int .u64 (u0 : Int), .int .u64 0, .int .u64 (v1 : Int), .int .u64 (u1 : Int)] 51)) := (Below.refl _ _).alloc (Nat.le_refl _) _
    generalize w2.alloc (.cells #[.int .u64 (u0 : Int), .int .u64 0, .int .u64 (v1 : Int), .int .u64 (u1 : Int)] 51) = w3 at hb3 ⊢
    have oa3 := oa2.later hb3
    have ob3 := ob2.later hb3
    have B3 : Hid (Below B w w3) := (hb2.mono hBw).trans (hb3.mono (by have := hb2.size; omega))
    have S3 : Hid (B ≤ w3.heap.size) := by show B ≤ w3.heap.size; have := hb2.size; have := hb3.size; omega
    clear oa2 ob2 hb2 hb3
    refine (divMod_own w3 _ _ (n + 3) ca (m + 1) cb A C oa3.rd ob3.rd (by omega) hle).mono ?_
    rintro e w4 ⟨qo, qn, qc, ro, rn, rc, rfl, _, or4, b4⟩
    have ob4 := ob3.later b4
    have hgb := ob3.block.2
    have hC0 : 0 < C := by
      have := ob3.len
      rcases Nat.eq_zero_or_pos C with h | h
      · rw [h, toL_zero] at this; simp at this
      · exact h
    have hml := Nat.mod_lt A hC0
    go_wp2
    go_ret2
    refine ⟨_, _, _, ro, rn, rc, C, A % C, rfl, B3.out.trans (b4.mono S3.out), ob4, or4.mono S3.out, ?_, by omega, hle, by omega, gcd_turn A C⟩
    intro g hg hro
    simp only [Option.some.injEq, Addr.mk.injEq, and_true] at hg
    subst hg hro
    have := or4.block.1
    omega
  · obtain ⟨r, r', S⟩ := hp.resolve_left h0
    obtain ⟨s1, s2, s3, s4⟩ := S.small h0 h64
    obtain ⟨R, R', L⟩ := S.lehm h0 HA.out lx HC.out ly
    have HL : Hid (Lehm t A C u0 u1 v0 v1 R R') := L
    have h0b : ((v0 : Int) == 0) = false := by rw [beq_eq_false_iff_ne]; omega
    clear hp S L HA HC lx ly h64 hba h1a
    have hb3 : Below w2.heap.size w2 (w2.alloc (.cells #[.int .u64 (u0 : Int), .int .u64 (v0 : Int), .int .u64 (v1 : Int), .int .u64 (u1 : Int)] 51)) := (Below.refl _ _).alloc (Nat.le_refl _) _
    have cb3 : Cb (w2.alloc (.cells #[.int .u64 (u0 : Int), .int .u64 (v0 : Int), .int .u64 (v1 : Int), .int .u64 (u1 : Int)] 51)) w2.heap.size u0 v0 v1 u1 := ⟨heap_alloc_new _ _⟩
    have ob3 := ob2.later hb3
    have oa3 := oa2.later hb3
    have hB3 : B ≤ (w2.alloc (.cells #[.int .u64 (u0 : Int), .int .u64 (v0 : Int), .int .u64 (v1 : Int), .int .u64 (u1 : Int)] 51)).heap.size := by have := hb2.size; have := hb3.size; omega
    have B3 : Hid (Below B w (w2.alloc (.cells #[.int .u64 (u0 : Int), .int .u64 (v0 : Int), .int .u64 (v1 : Int), .int .u64 (u1 : Int)] 51))) := (hb2.mono hBw).trans (hb3.mono (by have := hb2.size; omega))
    have hAB : A < Bp (n + 3) := by have := oa2.rd.lt; rwa [val_toL] at this
    have hC0 : 0 < C := by
      have := ob2.len
      rcases Nat.eq_zero_or_pos C with h | h
      · rw [h, toL_zero] at this; simp at this
      · exact h
    have hBc : B ≤ w2.heap.size := by have := hb2.size; omega
    have hgaw := oa2.block.2
    have hgbw := ob2.block.2
    have hsz3 : (w2.alloc (.cells #[.int .u64 (u0 : Int), .int .u64 (v0 : Int), .int .u64 (v1 : Int), .int .u64 (u1 : Int)] 51)).heap.size = w2.heap.size + 1 := by simp
    have after := appended (g := w2.heap.size) oa3 ob3 cb3 hne (by have := ob2.block.2; omega) hB3
    have AF : Hid _ := after
    clear after oa3 cb3 hb3 hb2 oa2 ob2
    cases t
    · go_wp2_with (at_builtin; refine wp_appZ (m := n - m) rfl _ _ rfl ob3 rfl rfl (by omega) (by omega) (by omega) hB3 ?_; intro g' cap' w4 ho4 hg4 hs4; obtain ⟨hne4, oa4, cb4, b4⟩ := AF.out _ _ hg4 hs4; rw [hsz3] at hs4; obtain ⟨q0, q1, q2, q3⟩ := cb4.cells)
      rw [show m + 3 + (n - m) = n + 3 from by omega] at ho4 ⊢
      have hyl := ho4.len
      have hxl := oa4.len
      refine (apply_any w4 B ga g' (n + 3) ca cap' u0 v0 v1 u1 _ _ oa4 ho4 hne4 (by omega) s1 s3 s4 s2).mono ?_
      rintro e w5 ⟨za, zb, c, l, b', c2, l2, b2', rfl, b5, o1, o2, D1, D2⟩
      have e1 : val za = R := D1.done hxl hyl (by simp only [val_pad, val_toL]; have := HL.out.er; simpa using this) (Nat.lt_of_le_of_lt (by have := HL.out.sum; omega) hAB)
      have e2 : val zb = R' := D2.done hyl hxl (by simp only [val_pad, val_toL]; have := HL.out.er'; simpa using this) (Nat.lt_of_le_of_lt (by have := HL.out.sum; omega) hAB)
      clear D1 D2 ho4 oa4 cb4 q0 q1 q2 q3
      go_wp2_with fail
      refine (rtrimmed_any w5.heap.size w5 _ _ _ _ o1.rd (by omega)).mono ?_
      rintro e w6 ⟨rfl, rfl⟩
      rw [e1]
      go_wp2_with fail
      refine (rtrimmed_any w5.heap.size w5 _ _ _ _ o2.rd (by omega)).mono ?_
      rintro e w6 ⟨rfl, rfl⟩
      rw [e2]
      have p1 := o1.trimr e1
      have p2 := o2.trimr e2
      go_wp2
      go_ret2
      refine ⟨_, _, _, _, _, _, R, R', rfl, (B3.out.trans b4).trans b5, p1, p2, ?_, HL.out.le, by have := HL.out.sum; omega, by have := HL.out.sum; omega, HL.out.gcd⟩
      intro g hg hro
      simp only [Option.some.injEq, Addr.mk.injEq, and_true] at hg hro
      omega
    · go_wp2_with (at_builtin; refine wp_appZ (m := n - m) rfl _ _ rfl ob3 rfl rfl (by omega) (by omega) (by omega) hB3 ?_; intro g' cap' w4 ho4 hg4 hs4; obtain ⟨hne4, oa4, cb4, b4⟩ := AF.out _ _ hg4 hs4; rw [hsz3] at hs4; obtain ⟨q0, q1, q2, q3⟩ := cb4.cells; have z0 := frozen_of_row w4 w2.heap.size 0 _ _ cb4.at_; have z1 := frozen_of_row w4 w2.heap.size 1 _ _ cb4.at_; have z2 := frozen_of_row w4 w2.heap.size 2 _ _ cb4.at_; have z3 := frozen_of_row w4 w2.heap.size 3 _ _ cb4.at_)
      rw [show m + 3 + (n - m) = n + 3 from by omega] at ho4 ⊢
      have hyl := ho4.len
      have hxl := oa4.len
      have fr4 := Fr.put4 w2.heap.size w4 (.int .u64 (v0 : Int)) (.int .u64 (u0 : Int)) (.int .u64 (u1 : Int)) (.int .u64 (v1 : Int))
      generalize (((w4.setCell ⟨w2.heap.size, 0, none⟩ (.int .u64 (v0 : Int))).setCell ⟨w2.heap.size, 1, none⟩ (.int .u64 (u0 : Int))).setCell ⟨w2.heap.size, 2, none⟩ (.int .u64 (u1 : Int))).setCell ⟨w2.heap.size, 3, none⟩ (.int .u64 (v1 : Int)) = w4' at fr4 ⊢
      have oa5 : Ow B w4' (.slice (some ⟨ga, 0, none⟩) (n + 3) ca) (toL A) := oa4.keep fun k hk => by
        simp only [Option.some.injEq, Addr.mk.injEq, and_true] at hk
        subst hk
        exact fr4.block ga (by omega)
      have ob5 : Ow B w4' (.slice (some ⟨g', 0, none⟩) (n + 3) cap') _ := ho4.keep fun k hk => by
        simp only [Option.some.injEq, Addr.mk.injEq, and_true] at hk
        subst hk
        exact fr4.block g' (by have := hs4; omega)
      refine (apply_any w4' B g' ga (n + 3) cap' ca v0 u0 u1 v1 _ _ ob5 oa5 (Ne.symm hne4) (by omega) s3 s1 s2 s4).mono ?_
      rintro e w5 ⟨za, zb, c, l, b', c2, l2, b2', rfl, b5, o1, o2, D1, D2⟩
      have e1 : val za = R := D1.done hyl hxl (by simp only [val_pad, val_toL]; have := HL.out.er; simpa using this) (Nat.lt_of_le_of_lt (by have := HL.out.sum; omega) hAB)
      have e2 : val zb = R' := D2.done hxl hyl (by simp only [val_pad, val_toL]; have := HL.out.er'; simpa using this) (Nat.lt_of_le_of_lt (by have := HL.out.sum; omega) hAB)
      clear D1 D2 ho4 oa4 cb4 q0 q1 q2 q3 z0 z1 z2 z3 oa5 ob5
      go_wp2_with fail
      refine (rtrimmed_any w5.heap.size w5 _ _ _ _ o1.rd (by omega)).mono ?_
      rintro e w6 ⟨rfl, rfl⟩
      rw [e1]
      go_wp2_with fail
      refine (rtrimmed_any w5.heap.size w5 _ _ _ _ o2.rd (by omega)).mono ?_
      rintro e w6 ⟨rfl, rfl⟩
      rw [e2]
      have p1 := o1.trimr e1
      have p2 := o2.trimr e2
      go_wp2
      go_ret2
      refine ⟨_, _, _, _, _, _, R, R', rfl, ((B3.out.trans b4).trans (fr4.below hBc)).trans b5, p1, p2, ?_, HL.out.le, by have := HL.out.sum; omega, by have := HL.out.sum; omega, HL.out.gcd⟩
      intro g hg hro
      simp only [Option.some.injEq, Addr.mk.injEq, and_true] at hg hro
      omega
end Go.Proofs.Ythcclkjccaoniaa
