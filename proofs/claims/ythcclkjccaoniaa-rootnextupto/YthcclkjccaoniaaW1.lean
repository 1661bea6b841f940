/- nat.trimmed. -/
import Derived.Test.YthcclkjccaoniaaBase
namespace Go.Proofs.Ythcclkjccaoniaa
open Go.RowKit M

set_option maxHeartbeats 400000 in
theorem trimmed_any (N : Nat) (w : World) (ao : Option Addr) (n cap : Nat) (xs : List Nat) (h : Sl N w ao n cap xs) (hlen : n ≤ 1099511627776) :
    Calls Try.prog 34 #[.slice ao n cap] w fun e w' => w = w' ∧ ∃ ao' n' cap', e = .returned (.slice ao' n' cap') ∧ Sl N w ao' n' cap' (toL (val xs)) ∧ n' ≤ n := by
  have hcap := h.le
  go_enter Try.func34, Try.ntmps34
  go_wp2
  go_loop [3] (fun v => ∃ k : Nat, k ≤ n ∧ v = .int .i64 k ∧ ∀ j, k ≤ j → xs.getD j 0 = 0) (fun v => (intOf v).toNat)
  case atStart => exact ⟨n, Nat.le_refl _, rfl, fun j hj => by rw [List.getD_eq_getElem?_getD, List.getElem?_eq_none (by rw [h.len]; exact hj)]; rfl⟩
  case round =>
    obtain ⟨k, hk, rfl, hz⟩ := hrel
    have HZ : Hid (∀ j, k ≤ j → xs.getD j 0 = 0) := hz
    clear hz
    by_cases h0 : k = 0
    · subst h0
      have e0 : toL (val xs) = [] := by have := toL_trim h.lim 0 (Nat.zero_le _) HZ.out (.inl rfl); simpa using this
      have E0 : Hid (toL (val xs) = []) := e0
      clear e0
      go_wp2
      go_ret
      rw [E0.out]
      exact ⟨rfl, none, 0, 0, rfl, Sl.nil _ _, Nat.zero_le _⟩
    · obtain ⟨b, o, x, rfl, hb, hcell, hx, HX⟩ := h.cell (k - 1) (by omega)
      have h1 : 1 ≤ k := by omega
      by_cases hx0 : x = 0
      · have hxb : ((x : Int) == 0) = true := by simp [hx0]
        have HX0 : Hid (x = 0) := hx0
        clear hx0
        go_wp2
        go_round
        case rel => exact ⟨k - 1, by omega, by go_num, fun j hj => by
          by_cases hjk : k ≤ j
          · exact HZ.out j hjk
          · obtain rfl : j = k - 1 := by omega
            rw [← HX.out]; exact HX0.out⟩
        case measure => simp [intOf]; omega
      · have hxb : ((x : Int) == 0) = false := by simp [hx0]
        have et := toL_trim h.lim k (by rw [h.len]; exact hk) HZ.out (.inr (by rw [← HX.out]; exact hx0))
        have ET : Hid (toL (val xs) = xs.take k) := et
        clear hx0 et
        go_wp2
        go_ret
        refine ⟨rfl, some ⟨b, o, none⟩, k, cap, rfl, ?_, hk⟩
        rw [ET.out]
        exact h.take k hk

end Go.Proofs.Ythcclkjccaoniaa
