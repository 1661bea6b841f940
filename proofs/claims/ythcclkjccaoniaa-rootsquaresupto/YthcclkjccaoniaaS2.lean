/- penumbraref02: Sqrt. -/
import Derived.Test.YthcclkjccaoniaaS1
import Derived.Test.YthcclkjccaoniaaMe
namespace Go.Proofs.Ythcclkjccaoniaa
open Go.RowKit M

theorem nb_le {V K : Nat} (h : V < Bp K) : nb V ≤ 32 * K := by
  by_cases h0 : V = 0
  · rw [h0, nb_zero]; exact Nat.zero_le _
  · have h1 := nb_ge h0
    apply Nat.le_of_not_lt; intro hl
    have h2 : 2 ^ (32 * K) ≤ 2 ^ (nb V - 1) := Nat.pow_le_pow_right (by omega) (by omega)
    rw [Bp_two] at h
    omega

theorem cmpN_beq (a b : Nat) : (cmpN a b == 0) = decide (a = b) := by
  rcases Nat.lt_trichotomy a b with h | h | h
  · rw [cmpN_lt h, decide_eq_false (by omega)]; rfl
  · rw [cmpN_eq h, decide_eq_true h]; rfl
  · rw [cmpN_gt h, decide_eq_false (by omega)]; rfl

set_option maxHeartbeats 400000 in
theorem rsqrt_any (w : World) (ao : Option Addr) (n cap K : Nat) (xs : List Nat) (h : Sl w.heap.size w ao n cap xs) (hn : n ≤ K) (hK : K ≤ 1048576) :
    Calls Try.prog 14 #[.slice ao n cap] w fun e w' => ∃ ro rn rc, e = .returned (.tuple #[.slice ro rn rc, .bool (decide (isq (val xs) * isq (val xs) = val xs))]) ∧ Sl w'.heap.size w' ro rn rc (toL (isq (val xs))) ∧ rn ≤ K ∧ Below w.heap.size w w' := by
  have B0 : Below w.heap.size w w := Below.refl _ _
  have hV := h.bd hn
  have hnb := nb_le hV
  have hst : Hid (SqInv (val xs) 0 ((nb (val xs) + 1) / 2 + 1)) := SqInv.start (nb_lt _)
  have HV : Hid _ := hV
  clear hV
  obtain ⟨sx, bx⟩ := lit1 w 0 [] #[] rfl Lim.nil rfl
  have sa := h.later bx
  go_enter Try.func14, Try.ntmps14
  go_wp2_with fail
  refine (rbits_k sa (by omega)).mono ?_
  rintro e w1 ⟨rfl, b1⟩
  replace sx := sx.later b1
  replace sa := sa.later b1
  have B1 := bx.trans (b1.mono bx.size)
  rw [show ([] : List Nat) = toL 0 from rfl] at sx
  have hi0 : ((nb (val xs) : Int) + 1) / 2 = (((nb (val xs) + 1) / 2 + 1 : Nat) : Int) - 1 := by omega
  clear h B0 bx b1
  generalize nb (val xs) = b at *
  go_wp2
  go_loopg [4, 5] ((b + 1) / 2 + 1) (fun gk xv iv wr => ∃ X k iz xo xn xc, xv = .slice xo xn xc ∧ iv = .int .i64 iz ∧ Hid (iz = ((k : Nat) : Int) - 1) ∧ Sl wr.heap.size wr xo xn xc (toL X) ∧ Sl wr.heap.size wr ao n cap xs ∧ Hid (SqInv (val xs) X k) ∧ k ≤ 16 * K + 2 ∧ Below w.heap.size w wr ∧ Hid (gk = k))
  case atStart => exact ⟨0, (b + 1) / 2 + 1, _, _, 0, 0, rfl, rfl, hi0, sx, sa, hst, by omega, B1, rfl⟩
  case round =>
    clear hi0 sx sa hst B1 hnb
    obtain ⟨X, k, iz, xo, xn, xc, rfl, rfl, HI, sx, sa, HS, hk, bw, HK⟩ := hrel
    have HX : Hid (X < Bp K) := Nat.lt_of_le_of_lt HS.out.bound HV.out
    have hxn : xn ≤ K := sx.ln HX.out
    by_cases h0 : k = 0
    · have hge : decide ((0 : Int) ≤ iz) = false := by have := HI.out; simp only [decide_eq_false_iff_not]; omega
      have HE : Hid (isq (val xs) = X) := by show isq (val xs) = X; subst h0; exact HS.out.done
      clear HS HK hk HI
      go_wp2_with fail
      refine (rmul_k sx sx K K hxn hxn (by omega) (by omega)).mono ?_
      rintro e w2 ⟨mo, mn, mc, rfl, sm, lm, b2⟩
      replace sx := sx.later b2
      replace sa := sa.later b2
      replace bw := bw.trans (b2.mono bw.size)
      clear b2
      go_wp2_with fail
      refine (rcmp_k sm sa (by omega) (by omega)).mono ?_
      rintro e w3 ⟨rfl, b3⟩
      replace sx := sx.later b3
      replace bw := bw.trans (b3.mono bw.size)
      have hd : (cmpN (val (toL (val (toL X) * val (toL X)))) (val xs) == 0) = decide (isq (val xs) * isq (val xs) = val xs) := by
        rw [HE.out, val_toL, val_toL, cmpN_beq]
      go_wp2
      go_ret2
      refine ⟨xo, xn, xc, rfl, ?_, hxn, bw⟩
      · rw [HE.out]; exact sx
    · obtain ⟨j, rfl⟩ : ∃ j, k = j + 1 := ⟨k - 1, by omega⟩
      obtain rfl : iz = (j : Int) := by have := HI.out; omega
      have hge : decide ((0 : Int) ≤ (j : Int)) = true := by simp
      have hmk := fun u => make_run (j / 32) (by omega) u
      rw [show ((j / 32 : Nat) : Int) = (j : Int) / 32 from by omega] at hmk
      have hb0 : Below w.heap.size wr (wr.alloc (.cells (u32s (List.replicate (j / 32) 0)) 32)) := (Below.refl _ _).alloc bw.size _
      have ow0 := Ow.zeros wr (j / 32) (by omega)
      have hp31 := pow31 (show j % 32 < 32 from Nat.mod_lt _ (by omega))
      have hpe : (2 : Int) ^ (j % 32) % 4294967296 = ((2 ^ (j % 32) : Nat) : Int) := by
        rw [show (2 : Int) ^ (j % 32) = ((2 ^ (j % 32) : Nat) : Int) from by rw [Int.natCast_pow]; rfl]
        generalize 2 ^ (j % 32) = p at *
        omega
      obtain ⟨l1, lb⟩ := lit1 (wr.alloc (.cells (u32s (List.replicate (j / 32) 0)) 32)) 1 [2 ^ (j % 32)] #[.int .u32 ((2 : Int) ^ (j % 32) % 4294967296)] (by rw [hpe]; simp [u32s]) (lim1 (by omega)) rfl
      have ow1 := ow0.alloc (.cells #[.int .u32 ((2 : Int) ^ (j % 32) % 4294967296)] 32)
      have hz : (wr.alloc (.cells (u32s (List.replicate (j / 32) 0)) 32)).heap.size = wr.heap.size + 1 := by simp
      rw [hz] at l1
      have hbr : Below wr.heap.size wr (wr.alloc (.cells (u32s (List.replicate (j / 32) 0)) 32)) := (Below.refl _ _).alloc (Nat.le_refl _) _
      have hbq := hbr.trans (lb.mono hbr.size)
      have hbs := hbq.size
      clear HI hpe hb0 lb hbr ow0
      go_wp2_with (at_builtin; refine wp_appS rfl _ _ rfl ow1 l1 rfl rfl (by simp; omega) hbs ?_; intro v' w2 hv hb2; obtain ⟨fo, fm, fc, rfl, sf⟩ := hv.sl)
      have HVB : Hid (val (List.replicate (j / 32) 0 ++ [2 ^ (j % 32)]) = 2 ^ j) := by
        show val (List.replicate (j / 32) 0 ++ [2 ^ (j % 32)]) = 2 ^ j
        rw [val_append, val_rep, List.length_replicate, Nat.zero_add, shl_math j]
        simp [val_cons, val_nil]
      have hfm : fm ≤ K + 1 := by rw [← sf.len, List.length_append, List.length_replicate]; simp; omega
      have hb3 := hbq.trans hb2
      replace sx := sx.later hb3
      replace sa := sa.later hb3
      replace bw := bw.trans (hb3.mono bw.size)
      clear hb3 hb2 hbq hbs ow1 l1 hv hmk hp31 hz h0
      refine (radd_k sx sf (K + 1) (by omega) hfm (by omega)).mono ?_
      rintro e w3 ⟨yo, yn, yc, rfl, sy, ly, b3⟩
      rw [HVB.out, val_toL] at sy
      replace sx := sx.later b3
      replace sa := sa.later b3
      replace bw := bw.trans (b3.mono bw.size)
      clear sf b3 HVB
      go_wp2_with fail
      refine (rmul_k sy sy (K + 2) (K + 2) ly ly (by omega) (by omega)).mono ?_
      rintro e w4 ⟨mo, mn, mc, rfl, sm, lm, b4⟩
      rw [val_toL] at sm
      replace sx := sx.later b4
      replace sa := sa.later b4
      replace sy := sy.later b4
      replace bw := bw.trans (b4.mono bw.size)
      clear b4
      go_wp2_with fail
      refine (rcmp_k sm sa (by omega) (by omega)).mono ?_
      rintro e w5 ⟨rfl, b5⟩
      rw [val_toL]
      replace sx := sx.later b5
      replace sa := sa.later b5
      replace sy := sy.later b5
      replace bw := bw.trans (b5.mono bw.size)
      clear b5 sm lm
      have HM : Hid (j < gk) := by show j < gk; have := HK.out; omega
      by_cases hle : (X + 2 ^ j) * (X + 2 ^ j) ≤ val xs
      · have hc : decide (cmpN ((X + 2 ^ j) * (X + 2 ^ j)) (val xs) ≤ 0) = true := by
          rcases Nat.lt_or_eq_of_le hle with h | h
          · rw [cmpN_lt h]; rfl
          · rw [cmpN_eq h]; rfl
        have HS2 : Hid (SqInv (val xs) (X + 2 ^ j) j) := HS.out.yes hle
        clear hle HS HK
        go_wp2
        go_roundg j
        case measure => exact HM.out
        case rel => exact ⟨X + 2 ^ j, j, (j : Int) - 1, yo, yn, yc, rfl, by go_num, rfl, sy, sa, HS2, by omega, bw, rfl⟩
      · have hc : decide (cmpN ((X + 2 ^ j) * (X + 2 ^ j)) (val xs) ≤ 0) = false := by
          rw [cmpN_gt (by omega)]; rfl
        have HS2 : Hid (SqInv (val xs) X j) := HS.out.no (by omega)
        clear hle HS HK
        go_wp2
        go_roundg j
        case measure => exact HM.out
        case rel => exact ⟨X, j, (j : Int) - 1, xo, xn, xc, rfl, by go_num, rfl, sx, sa, HS2, by omega, bw, rfl⟩
end Go.Proofs.Ythcclkjccaoniaa
