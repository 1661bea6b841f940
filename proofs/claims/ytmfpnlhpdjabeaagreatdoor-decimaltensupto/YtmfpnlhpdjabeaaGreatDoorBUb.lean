/- penumbralaw04.DecimalTens: true. -/
import Derived.Test.YtmfpnlhpdjabeaaGreatDoorBUa
namespace Go.Proofs.YtmfpnlhpdjabeaaGreatDoor
open Go.RowKit M Kahn

set_option maxHeartbeats 2000000 in
theorem tens_any (w : World) (ao : Option Addr) (n cap : Nat) (xs : List Nat) (h : Sl w.heap.size w ao n cap xs) (hn : n ≤ 1048576) :
    Calls Tryz.prog 7 #[.slice ao n cap] w fun e w' => e = .returned (.bool true) ∧ Below w.heap.size w w' := by
  by_cases hg : 100 < n
  · go_enter Tryz.func7, Tryz.ntmps7
    go_wp2_with fail
    refine (fixed4_any w).mono ?_
    rintro e w1 ⟨rfl, b1⟩
    go_wp2_with fail
    refine (fixed4_any w1).mono ?_
    rintro e w2 ⟨rfl, b2⟩
    go_wp2
    go_ret
    exact ⟨rfl, b1.trans (b2.mono b1.size)⟩
  · have hn2 : n ≤ 100 := by omega
    clear hg
    go_enter Tryz.func7, Tryz.ntmps7
    go_wp2_with fail
    refine (fixed4_any w).mono ?_
    rintro e w1 ⟨rfl, b1⟩
    have h1 := h.later b1
    clear h
    go_wp2_with fail
    refine (dnatural_k h1 (by omega)).mono ?_
    rintro e w2 ⟨rfl, b2⟩
    have h2 := h1.later b2
    have B2 := b1.trans (b2.mono b1.size)
    obtain ⟨sT, bT⟩ := lit1 w2 1 [10] #[.int .u32 10] rfl (Lim.mk (by omega) Lim.nil) rfl
    have h3 := h2.later bT
    have B3 := B2.trans (bT.mono B2.size)
    have HLN : Hid (val xs < Bp n) := h3.lt
    clear h1 h2 b1 b2 B2 bT
    obtain ⟨A, hA⟩ : ∃ A, A = val xs := ⟨_, rfl⟩
    have HA : Hid (val xs = A) := hA.symm
    rw [← hA]
    clear hA
    go_wp2_with fail
    generalize w2.alloc (.cells #[.int .u32 10] 40) = w3 at *
    generalize w2.heap.size = g2 at *
    refine (mul_k h3 sT n 1 (Nat.le_refl _) (by omega) (by omega) (by omega)).mono ?_
    rintro e w4 ⟨mo, mn, mc, rfl, sm, lm, b4⟩
    rw [HA.out, show val [10] = 10 from rfl] at sm
    have h4 := h3.later b4
    have B4 := B3.trans (b4.mono B3.size)
    clear h3 sT b4 B3
    go_wp2_with fail
    refine (dnatural_k sm (by omega)).mono ?_
    rintro e w5 ⟨rfl, b5⟩
    rw [val_toL]
    have h5 := h4.later b5
    have B5 := B4.trans (b5.mono B4.size)
    clear h4 B4 b5 sm
    by_cases h0 : A = 0
    · have e1 : tx (dec A) = ⟨#[48]⟩ := by rw [h0]; rfl
      have e2 : tx (dec (A * 10)) = ⟨#[48]⟩ := by rw [h0]; rfl
      rw [e1, e2]
      clear e1 e2
      go_wp2_with fail
      refine (norm_k h5 n (Nat.le_refl _) (by omega)).mono ?_
      rintro e w6 ⟨ro, rn, rc, rfl, sr, lr, b6⟩
      rw [HA.out, h0, toL_zero] at sr
      obtain rfl : rn = 0 := by rw [← sr.len]; rfl
      have B6 := B5.trans (b6.mono B5.size)
      clear h0 sr
      go_wp2
      go_ret
      exact ⟨rfl, B6⟩
    · have hd1 : dec A ≠ [48] := fun he => dec_head h0 (by rw [he]; rfl)
      have hb := (dec_dig A).byt
      have hne : tx (dec A) ≠ ⟨#[48]⟩ := fun he => hd1 (tx_inj hb (Byt.mk (by omega) Byt.nil) (he.trans rfl))
      have hpos : 0 < (dec A).length := List.length_pos_iff.2 (dec_ne A)
      have hne2 : tx (dec A) ≠ ⟨#[]⟩ := fun he => by have h9 := tx_size (dec A); rw [he] at h9; rw [← h9] at hpos; exact absurd hpos (by decide)
      have hix : ∀ u, (Instr.index 9 (.string (tx (dec A))) (.int .i64 0)).run Tryz.prog u = .ok (.int .u8 (((dec A).getD 0 0 : Nat) : Int)) u := fun u => idx_run hb (i := 0) hpos u
      have hhead := dec_head h0
      have ht : tx (dec (A * 10)) = tx (dec A) ++ ⟨#[48]⟩ := by rw [dec_tens h0]; exact (tx_append (dec A) [48]).symm
      have hsz := tx_size (dec A)
      have hdl : (dec A).length ≤ 10 * 101 := dec_bd (Nat.lt_of_lt_of_le (by rw [← HA.out]; exact HLN.out) (Bp_mono (show n ≤ 101 from by omega))) (by omega)
      rw [ht]
      obtain ⟨c, hc⟩ : ∃ c, (dec A).getD 0 0 = c := ⟨_, rfl⟩
      rw [hc] at hix hhead
      have hcb : ((c : Int) != 48) = true := by rw [bne_iff_ne]; omega
      obtain ⟨D, hD⟩ : ∃ D, dec A = D := ⟨_, rfl⟩
      rw [hD] at hne hne2 hix hsz hdl hpos ⊢
      obtain ⟨S, hS⟩ : ∃ S, tx D = S := ⟨_, rfl⟩
      rw [hS] at hne hne2 hix hsz ⊢
      have hlist : ∀ b : ByteArray, S ≠ b → (S.toList == b.toList) = false := fun b hb => by
        rw [beq_eq_false_iff_ne]
        intro he
        rw [ByteArray.toList_eq, ByteArray.toList_eq] at he
        exact hb (by cases S; cases b; simp at he; rw [he])
      have q1 : (S.toList == [48]) = false := by have := hlist ⟨#[48]⟩ hne; simpa using this
      have q2 : (S.toList == []) = false := by have := hlist ⟨#[]⟩ hne2; simpa using this
      clear hlist hne hne2
      clear hc hD hS ht hd1 hb hhead
      go_wp2
      go_ret
      exact ⟨rfl, B5⟩
end Go.Proofs.YtmfpnlhpdjabeaaGreatDoor
