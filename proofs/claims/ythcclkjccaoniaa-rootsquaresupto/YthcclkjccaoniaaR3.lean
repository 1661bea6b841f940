/- penumbraref01: Mul. -/
import Derived.Test.YthcclkjccaoniaaR2
namespace Go.Proofs.Ythcclkjccaoniaa
open Go.RowKit M

theorem M.PrInv.done' {s s' ys : List Nat} {q k c : Nat} (h : PrInv s s' ys q k c) (hk : s.length = k) (hy : ys.length = k) : val s' + Bp k * c = val s + q * val ys := by
  subst hk; exact h.done hy

set_option maxHeartbeats 2000000 in
theorem rmul_any (w : World) (ao bo : Option Addr) (n cap m bcap : Nat) (xs ys : List Nat) (h : Sl w.heap.size w ao n cap xs) (h2 : Sl w.heap.size w bo m bcap ys) (hlen : n ≤ 274877906944) (hlen2 : m ≤ 274877906944) :
    Calls Try.prog 33 #[.slice ao n cap, .slice bo m bcap] w (Gives w (toL (val xs * val ys))) := by
  have hmk := fun u => make_run (n + m + 1) (by omega) u
  rw [show ((n + m + 1 : Nat) : Int) = (n : Int) + m + 1 from by omega] at hmk
  obtain ⟨w2, hw2, hbl, how, hz0⟩ := fresh w (n + m + 1)
  go_enter Try.func33, Try.ntmps33
  go_wp2
  rw [← hw2]
  have u1 := h.below hbl
  have u2 := h2.below hbl
  obtain ⟨g, hg⟩ : ∃ g, g = w.heap.size := ⟨_, rfl⟩
  rw [← hg] at how hz0 u1 u2 hbl ⊢
  have HG : Hid (g = w.heap.size) := hg
  have HZ0 : Hid _ := hz0
  clear hmk hg hw2 h h2 hz0
  go_loopw [6] (fun iv wr => ∃ k P, k ≤ n ∧ iv = .int .i64 ((k : Nat) : Int) ∧ Fr g w2 wr ∧ Own wr g P ∧ MulJnv (n + m + 1) P xs ys k) (fun iv _ => n - (intOf iv).toNat)
  case atStart => exact ⟨0, _, Nat.zero_le _, rfl, Fr.refl _ _, how, MulJnv.start _ _ _⟩
  case round =>
    obtain ⟨k, P, hk, rfl, hf, hs, hi⟩ := hrel
    by_cases hlt : k < n
    · obtain ⟨b, p, x, rfl, hx0, hx1, hx2, HX⟩ := (u1.fr hf (Nat.le_refl _)).cell k hlt
      have HP : Hid (P.length = n + m + 1) := hi.len
      have sg0 := Sg.cut hs hi.lim k m (by rw [HP.out]; omega)
      have cells := (u1.fr hf (Nat.le_refl _))
      have HI : Hid _ := hi
      clear hi hs
      go_wp2
      go_loopw [7, 8] (fun cv jv wq => ∃ j c s', j ≤ m ∧ cv = .int .u64 ((c : Nat) : Int) ∧ jv = .int .i64 ((j : Nat) : Int) ∧ Fr g w2 wq ∧ Sg wq g k m (P.take k) s' (P.drop (k + m)) ∧ PrInv ((P.drop k).take m) s' ys x j c) (fun _ jv _ => m - (intOf jv).toNat)
      case atStart => exact ⟨0, 0, _, Nat.zero_le _, rfl, rfl, hf, sg0, PrInv.start _ sg0.lim⟩
      case round =>
        clear hf sg0 cells hx1
        obtain ⟨j, c, s', hj, rfl, rfl, hf, hsg, hpi⟩ := hrel
        have hc1 := hpi.car
        by_cases hlt2 : j < m
        · obtain ⟨b', p', x', e1, hx0', hx1, hx2', HX'⟩ := (u1.fr hf (Nat.le_refl _)).cell k hlt
          simp only [Option.some.injEq, Addr.mk.injEq, and_true] at e1
          obtain ⟨rfl, rfl⟩ := e1
          obtain rfl : x = x' := by rw [HX.out, HX'.out]
          obtain ⟨b2, p2, y, rfl, hy0, hy1, hy2, HY⟩ := (u2.fr hf (Nat.le_refl _)).cell j hlt2
          obtain ⟨z, hz1, hz2, hz3, HZ⟩ := hsg.cell j (by omega)
          have hp0 : (0 : Int) ≤ (x : Int) * (y : Int) := by rw [← Int.natCast_mul]; omega
          have hp1 : (x : Int) * (y : Int) ≤ 18446744065119617025 := by have := mul_bound hx2 hy2; rw [← Int.natCast_mul]; omega
          go_wp2
          go_quiet (fail)
          go_wp2
          have qt : Qt wr (wr.drewN nq) := (Qt.refl _).drewN _
          have ev : ((x : Int) * y + z + c) % 4294967296 = (((c + (x * y + z)) % 4294967296 : Nat) : Int) := by rw [← Int.natCast_mul]; omega
          have ec : ((x : Int) * y + z + c) / 4294967296 = (((c + (x * y + z)) / 4294967296 : Nat) : Int) := by rw [← Int.natCast_mul]; omega
          rw [ev, ec]
          go_roundw
          case rel => exact ⟨j + 1, _, s'.set j ((c + (x * y + z)) % 4294967296), by omega, rfl, by go_num, (hf.qt qt).set _ _, (hsg.qt qt).set (by omega) (by omega),
            hpi.step (by rw [List.length_take, List.length_drop, HP.out]; omega) hx2 (u2.lim.getD j) (by rw [← HZ.out, ← HY.out]) (by rw [← HZ.out, ← HY.out])⟩
          case measure => simp [intOf]; omega
        · obtain rfl : j = m := by omega
          have hsl : ((P.drop k).take j).length = j := by rw [List.length_take, List.length_drop, HP.out]; omega
          have hpd := hpi.done' hsl u2.len
          have hl3 : (P.take k ++ (s' ++ P.drop (k + j))).length = n + j + 1 := by
            rw [List.length_append, List.length_append, List.length_take, List.length_drop, HP.out, hsg.len]; omega
          have hcl := hsg.own.cell (i := k + j) (by omega)
          have hfr := hsg.own.free (k + j)
          have HS : Hid _ := HI.out.step (by rw [u1.len, u2.len]; omega) (by rw [u1.len]; exact hlt) (by rw [hsg.len, u2.len]) hsg.lim hc1 (by rw [u2.len, ← HX.out]; exact hpd)
          generalize (P.take k ++ (s' ++ P.drop (k + j))).getD (k + j) 0 = old at hcl
          clear hsl hpi hpd hl3
          go_wp2
          go_roundw
          case rel =>
            refine ⟨k + 1, _, by omega, by go_num, hf.set _ _, hsg.own.set (k + j) c, ?_⟩
            have := HS.out
            rwa [u2.len] at this
          case measure => simp [intOf]; omega
    · obtain rfl : k = n := by omega
      have HP : Hid (P.length = k + m + 1) := hi.len
      have HD : Hid (val P = val xs * val ys) := by
        have hl := u1.len
        rw [← hl] at hi
        exact hi.done (by rw [u1.len, u2.len]; omega)
      have hslp : Sl wr.heap.size wr (some ⟨g, 0, none⟩) (k + m + 1) (k + m + 1) P := Sl.own hs hi.lim (by rw [hf.size, HZ0.out]; omega) _ _ hi.len (Nat.le_refl _)
      go_wp2_with fail
      refine (rnorm_any wr _ _ _ P hslp (by omega)).mono ?_
      rintro e w3 ⟨a3, n3, c3, rfl, s3, b3⟩
      go_wp2
      go_ret
      rw [HD.out] at s3
      have hg := HG.out
      refine ⟨a3, n3, c3, rfl, s3, ?_⟩
      have hbw := hbl.trans (hf.below (Nat.le_refl _))
      rw [hg] at hbw
      exact hbw.trans (b3.mono hbw.size)

end Go.Proofs.Ythcclkjccaoniaa
