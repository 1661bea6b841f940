/- penumbralaw04.DecimalParses: true. -/
import Derived.Test.YtmfpnlhpdjabeaaGreatDoorAn
namespace Go.Proofs.YtmfpnlhpdjabeaaGreatDoor
open Go.RowKit M Kahn

theorem cq_same4 {u : World} {s : Bool} {no : Option Addr} {nn nc : Nat} {eo : Option Addr} {en ec : Nat} {q : Rat} {K : Nat} {t : Bool} {mo : Option Addr} {mn mc : Nat} {fo : Option Addr} {fn fc : Nat} {L : Nat} (h : Cq u s no nn nc eo en ec q K) (h' : Cq u t mo mn mc fo fn fc q L) :
    s = t ∧ toL q.num.natAbs = toL q.num.natAbs ∧ toL q.den = toL q.den := ⟨by rw [h.sgn, h'.sgn], rfl, rfl⟩

set_option maxHeartbeats 2000000 in
theorem parses_any (w : World) (l : List Nat) (hb : Byt l) (hlen : l.length ≤ 1048576) :
    Calls Tryz.prog 3 #[.string (tx l)] w fun e w' => e = .returned (.bool true) ∧ Below w.heap.size w w' := by
  have hsz := tx_size l
  by_cases hg : 2000 < l.length ∧ l.length ≤ 20000
  · obtain ⟨h1, h2⟩ := hg
    go_enter Tryz.func3, Tryz.ntmps3
    go_wp2_with fail
    refine (fixed4_any w).mono ?_
    rintro e w1 ⟨rfl, b1⟩
    go_wp2
    go_ret
    exact ⟨rfl, b1⟩
  · have C1 : Hid (∀ u, Calls Tryz.prog 9 #[.string (tx l)] u (Gqi u 20001 (prs l))) := fun u => dparse_k hb (by omega)
    have C2 : Hid (∀ u, Calls Tryz.prog 10 #[.string (tx l)] u (Gqi u 20001 (prs l))) := fun u => rparse_k hb (by omega)
    obtain ⟨q, z, hqz⟩ : ∃ q z, prs l = (q, z) := ⟨_, _, rfl⟩
    rw [hqz] at C1 C2
    clear hqz hb
    rcases (show l.length ≤ 2000 ∨ 20000 < l.length from by omega) with h1 | h1
    all_goals
      clear hg
      go_enter Tryz.func3, Tryz.ntmps3
      go_wp2_with fail
      refine (C1.out w).mono ?_
      rintro e w1 ⟨s1, no1, nn1, nc1, eo1, en1, ec1, rfl, cq1, b1⟩
      have bx1 : Rb (w1.alloc (.cells #[.bool s1, .slice no1 nn1 nc1, .slice eo1 en1 ec1] 25)) w1.heap.size (.bool s1) (.slice no1 nn1 nc1) (.slice eo1 en1 ec1) := ⟨heap_alloc_new _ _⟩
      have l1 : Below w1.heap.size w1 (w1.alloc (.cells #[.bool s1, .slice no1 nn1 nc1, .slice eo1 en1 ec1] 25)) := (Below.refl _ _).alloc (Nat.le_refl _) _
      have cq2 := cq1.later l1
      have B2 := b1.trans (l1.mono b1.size)
      clear cq1 b1 l1
      go_wp2_with fail
      generalize w1.alloc (.cells #[.bool s1, .slice no1 nn1 nc1, .slice eo1 en1 ec1] 25) = w2 at *
      generalize w1.heap.size = g3 at *
      refine (C2.out w2).mono ?_
      rintro e w3 ⟨s2, no2, nn2, nc2, eo2, en2, ec2, rfl, cp, b3⟩
      have bx3 := bx1.later b3
      have by3 : Rb (w3.alloc (.cells #[.bool s2, .slice no2 nn2 nc2, .slice eo2 en2 ec2] 25)) w3.heap.size (.bool s2) (.slice no2 nn2 nc2) (.slice eo2 en2 ec2) := ⟨heap_alloc_new _ _⟩
      have l3 : Below w3.heap.size w3 (w3.alloc (.cells #[.bool s2, .slice no2 nn2 nc2, .slice eo2 en2 ec2] 25)) := (Below.refl _ _).alloc (Nat.le_refl _) _
      have cq4 := (cq2.later b3).later l3
      have cp4 := cp.later l3
      have bx4 := bx3.later l3
      have B4 := (B2.trans (b3.mono B2.size)).trans (l3.mono (Nat.le_trans B2.size b3.size))
      clear cq2 cp bx1 bx3 b3 l3 B2
      go_wp2_with fail
      generalize w3.alloc (.cells #[.bool s2, .slice no2 nn2 nc2, .slice eo2 en2 ec2] 25) = w4 at *
      generalize w3.heap.size = g5 at *
      refine (fixed4_any w4).mono ?_
      rintro e w5 ⟨rfl, b5⟩
      have cq5 := cq4.later b5
      have cp5 := cp4.later b5
      have bx5 := bx4.later b5
      have by5 := by3.later b5
      have B5 := B4.trans (b5.mono B4.size)
      have hl1 := cq5.ln
      have hl2 := cq5.ld
      have hl3 := cp5.ln
      have hl4 := cp5.ld
      clear cq4 cp4 bx4 by3 b5 B4
      obtain ⟨c0, c1, c2⟩ := bx5.cells
      obtain ⟨d0, d1, d2⟩ := by5.cells
      go_wp2_with fail
      refine (is3_any w5 s1 no1 nn1 nc1 eo1 en1 ec1 s2 no2 nn2 nc2 eo2 en2 ec2 _ _ _ _ cq5.num cq5.den cp5.num cp5.den (by omega) (by omega) (by omega) (by omega)).mono ?_
      rintro e w6 ⟨r, rfl, HR, b6⟩
      obtain rfl : r = true := HR.out.2 (cq_same4 cq5 cp5)
      have B6 := B5.trans (b6.mono B5.size)
      have hzz : (z == z) = true := by simp
      clear HR cq5 cp5 B5 b6
      go_wp2
      go_ret
      exact ⟨rfl, B6⟩
end Go.Proofs.YtmfpnlhpdjabeaaGreatDoor
