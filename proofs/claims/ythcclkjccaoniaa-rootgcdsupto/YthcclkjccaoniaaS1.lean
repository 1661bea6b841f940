/- penumbraref02: Gcd. -/
import Derived.Test.YthcclkjccaoniaaR6
import Derived.Deep.LoopGhost
namespace Go.Proofs.Ythcclkjccaoniaa
open Go.RowKit M

theorem gcd_lt_Bp {A B K : Nat} (hA : A < Bp K) (hB : B < Bp K) : Nat.gcd A B < Bp K := by
  by_cases h : A = 0
  · rw [h, Nat.gcd_zero_left]; exact hB
  · exact Nat.lt_of_le_of_lt (Nat.gcd_le_left _ (Nat.pos_of_ne_zero h)) hA
theorem gcd_step (A B : Nat) : Nat.gcd B (A % B) = Nat.gcd A B := by
  rw [Nat.gcd_comm B, ← Nat.gcd_rec, Nat.gcd_comm]

set_option maxHeartbeats 400000 in
theorem rgcd_any (w : World) (ao bo : Option Addr) (n cap n2 cap2 K : Nat) (xs ys : List Nat) (h : Sl w.heap.size w ao n cap xs) (h2 : Sl w.heap.size w bo n2 cap2 ys) (hn : n ≤ K) (hn2 : n2 ≤ K) (hK : K ≤ 1048576) :
    Calls Try.prog 12 #[.slice ao n cap, .slice bo n2 cap2] w (Gv w K (toL (Nat.gcd (val xs) (val ys)))) := by
  have B0 : Below w.heap.size w w := Below.refl _ _
  obtain ⟨G, hG⟩ : ∃ G, G = Nat.gcd (val xs) (val ys) := ⟨_, rfl⟩
  have HG : Hid (Nat.gcd (val xs) (val ys) = G) := hG.symm
  rw [← hG]
  clear hG
  go_enter Try.func12, Try.ntmps12
  go_wp2
  go_loopg [0, 1] (val ys) (fun gk av bv wr => ∃ ao n cap xs bo m bcap ys, av = .slice ao n cap ∧ bv = .slice bo m bcap ∧ Sl wr.heap.size wr ao n cap xs ∧ Sl wr.heap.size wr bo m bcap ys ∧ n ≤ K ∧ m ≤ K ∧ Hid (Nat.gcd (val xs) (val ys) = G) ∧ Below w.heap.size w wr ∧ Hid (gk = val ys))
  case atStart => exact ⟨ao, n, cap, xs, bo, n2, cap2, ys, rfl, rfl, h, h2, hn, hn2, HG, B0, rfl⟩
  case round =>
    clear h h2 hn hn2 HG B0
    obtain ⟨ao, n, cap, xs, bo, m, bcap, ys, rfl, rfl, sa, sb, hn, hm, HG, bw, HK⟩ := hrel
    by_cases h0 : val ys = 0
    · have HG2 : Hid (val xs = G) := by show val xs = G; have := HG.out; rwa [h0, Nat.gcd_zero_right] at this
      go_wp2_with fail
      refine (zero_any _ bo m bcap ys sb (by omega)).mono ?_
      rintro e w' ⟨rfl, rfl⟩
      rw [h0, cmpN_eq rfl]
      go_wp2_with fail
      refine (rnorm_k sa K hn (by omega)).mono ?_
      rintro e w2 ⟨ao1, an1, ac1, rfl, sa1, la1, b2⟩
      rw [HG2.out] at sa1
      go_wp2
      go_ret
      exact ⟨ao1, an1, ac1, rfl, sa1, la1, bw.trans (b2.mono bw.size)⟩
    · have hz : (cmpN (val ys) 0 == 0) = false := by rw [cmpN_gt (by omega)]; rfl
      have H0 : Hid _ := h0
      have hml : m ≤ 1048576 := by omega
      have hnl : n ≤ 1048576 := by omega
      go_wp2_with fail
      refine (zero_any _ bo m bcap ys sb (by omega)).mono ?_
      rintro e w' ⟨rfl, rfl⟩
      rw [hz]
      clear hz
      go_wp2_with fail
      refine (rdivMod_any _ ao bo n cap m bcap xs ys sa sb hnl hml h0).mono ?_
      rintro e w2 ⟨qo, qn, qc, ro, rn, rc, rfl, sq, sr, b2⟩
      have hrn : rn ≤ K := sr.ln (Nat.lt_trans (Nat.mod_lt _ (Nat.pos_of_ne_zero h0)) (sb.bd hm))
      have hlt : Hid (val (toL (val xs % val ys)) < gk) := by
        show val (toL (val xs % val ys)) < gk
        rw [val_toL, HK.out]; exact Nat.mod_lt _ (Nat.pos_of_ne_zero h0)
      have HG2 : Hid (Nat.gcd (val ys) (val (toL (val xs % val ys))) = G) := by
        show Nat.gcd (val ys) (val (toL (val xs % val ys))) = G
        rw [val_toL, gcd_step]; exact HG.out
      have sb2 := sb.later b2
      have bw2 := bw.trans (b2.mono bw.size)
      clear h0 sq b2 sa sb bw HG
      go_wp2
      go_roundg (val (toL (val xs % val ys)))
      case measure => exact hlt.out
      case rel => exact ⟨bo, m, bcap, ys, ro, rn, rc, _, rfl, rfl, sb2, sr, hm, hrn, HG2, bw2, rfl⟩
end Go.Proofs.Ythcclkjccaoniaa
