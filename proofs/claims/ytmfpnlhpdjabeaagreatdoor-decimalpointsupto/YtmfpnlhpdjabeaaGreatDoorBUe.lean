/- penumbralaw04: digits; what DecimalPoints' texts say. -/
import Derived.Test.YtmfpnlhpdjabeaaGreatDoorAn
import Derived.Test.YtmfpnlhpdjabeaaGreatDoorAo
namespace Go.Proofs.YtmfpnlhpdjabeaaGreatDoor
open Go.RowKit M

/-- The digits of some bytes, at most sixty. -/
def dgs (xs : List Nat) : List Nat := (xs.take 60).map fun x => 48 + x % 10
theorem dgs_dig (xs : List Nat) : Dig (dgs xs) := fun x hx => by
  obtain ⟨y, _, rfl⟩ := List.mem_map.1 hx
  exact isd_iff.2 (by omega)
theorem dgs_len (xs : List Nat) : (dgs xs).length ≤ 60 := by
  unfold dgs
  rw [List.length_map, List.length_take]
  omega
theorem digit_cut {d : Nat} (h : d < 10) : (⟨#[48, 49, 50, 51, 52, 53, 54, 55, 56, 57]⟩ : ByteArray).extract d (d + 1) = tx [48 + d] := by
  have : ∀ d : Fin 10, (⟨#[48, 49, 50, 51, 52, 53, 54, 55, 56, 57]⟩ : ByteArray).extract d.val (d.val + 1) = tx [48 + d.val] := by decide +kernel
  exact this ⟨d, h⟩

set_option maxRecDepth 100000 in
set_option maxHeartbeats 2000000 in
theorem digits_k {w : World} {ao : Option Addr} {n cap : Nat} {xs : List Nat} (h : Sb w.heap.size w ao n cap xs) (hn : n ≤ 1048576) :
    Calls Tryz.prog 18 #[.slice ao n cap] w fun e w' => e = .returned (.string (tx (dgs xs))) ∧ w = w' := by
  have hlen := h.len
  have hle := h.le
  go_enter Tryz.func18, Tryz.ntmps18
  go_wp2
  go_loop [3, 4] (fun sv iv => ∃ k : Nat, ∃ l : List Nat, k ≤ n ∧ k ≤ 60 ∧ iv = .int .i64 (k : Int) ∧ sv = .string (tx l) ∧ l.length = k ∧ Hid (l = (xs.take k).map fun x => 48 + x % 10)) (fun _ iv => 60 - (intOf iv).toNat)
  case atStart => exact ⟨0, [], Nat.zero_le _, by omega, rfl, rfl, rfl, rfl⟩
  case round =>
    obtain ⟨k, l, hk, hk6, rfl, rfl, hl, HL⟩ := hrel
    have hsz := tx_size l
    rw [hl] at hsz
    by_cases h1 : k < n
    · by_cases h2 : k < 60
      · obtain ⟨b, o, e1, e2, e3⟩ := h.there (by omega)
        have hc := e3 k h1
        have hx := h.byt.get k
        obtain ⟨x, hxx⟩ : ∃ x, xs.getD k 0 = x := ⟨_, rfl⟩
        rw [hxx] at hc hx
        have HX : Hid _ := hxx
        have hd := digit_cut (d := x % 10) (Nat.mod_lt _ (by omega))
        have hx10 : x % 10 < 10 := Nat.mod_lt _ (by omega)
        have hr : (x : Int) % 10 = ((x % 10 : Nat) : Int) := by omega
        have HL2 : Hid (l ++ [48 + x % 10] = (xs.take (k + 1)).map fun x => 48 + x % 10) := by
          show _ = _
          have hkx : k < xs.length := by omega
          rw [List.take_add_one, List.getElem?_eq_getElem hkx, List.map_append, ← HL.out]
          have := HX.out
          rw [List.getD_eq_getElem?_getD, List.getElem?_eq_getElem hkx] at this
          simp at this
          simp [this]
        subst e1
        obtain ⟨d, hdd⟩ : ∃ d, d = x % 10 := ⟨_, rfl⟩
        rw [← hdd] at hd hx10 hr HL2
        have ht := tx_append l [48 + d]
        have hs1 := tx_size [48 + d]
        clear hdd hxx e3
        generalize tx [48 + d] = D at *
        go_wp2
        go_round
        case rel => exact ⟨k + 1, l ++ [48 + d], by omega, by omega, by go_num, rfl, by rw [List.length_append, hl]; rfl, HL2⟩
        case measure => simp [intOf]; omega
      · obtain rfl : k = 60 := by omega
        have HE : Hid (tx (dgs xs) = tx l) := by show _ = _; rw [HL.out]; rfl
        go_wp2
        go_ret
        exact ⟨by rw [HE.out]; rfl, rfl⟩
    · obtain rfl : k = n := by omega
      have HE : Hid (tx (dgs xs) = tx l) := by
        show _ = _
        rw [HL.out]
        unfold dgs
        rw [List.take_of_length_le (by omega), List.take_of_length_le (by omega)]
      go_wp2
      go_ret
      exact ⟨by rw [HE.out]; rfl, rfl⟩

/-- What the five texts say. -/
structure Pts (s t : List Nat) (k : Nat) (q qd qe : Rat) : Prop where
  a : prs (s ++ 46 :: t) = (q, 0)
  b : prs (s ++ t ++ 47 :: 49 :: List.replicate t.length 48) = (q, 0)
  c : prs (45 :: (List.replicate k 48 ++ s ++ 46 :: (t ++ List.replicate k 48))) = (-q, 0)
  d : prs s = (qd, 0)
  e : prs (48 :: 46 :: t) = (qe, 0)
  sum : q = qd + qe
theorem pts {s t : List Nat} {k : Nat} (hs : Dig s) (ht : Dig t) (h1 : 0 < s.length) (h2 : 0 < t.length) (h3 : s.length ≤ 60) (h4 : t.length ≤ 60) (h5 : k ≤ 20) : ∃ q qd qe, Pts s t k q qd qe := by
  have hz := zeros_dig k
  have h10 : 10 ^ t.length ≠ 0 := Nat.ne_of_gt (Nat.pow_pos (by omega))
  have hk10 : 10 ^ k ≠ 0 := Nat.ne_of_gt (Nat.pow_pos (by omega))
  have ho : dnum (49 :: List.replicate t.length 48) = 10 ^ t.length := dnum_one_zeros _
  have hod : Dig (49 :: List.replicate t.length 48) := fun x hx => by
    rcases List.mem_cons.1 hx with rfl | hx
    · rfl
    · exact zeros_dig _ x hx
  refine ⟨rq false (dnum (s ++ t)) (10 ^ t.length), rq false (dnum s) 1, rq false (dnum t) (10 ^ t.length), ?_, ?_, ?_, ?_, ?_, ?_⟩
  · rw [prs_plain hs h1 (by simp; omega), prs2_point hs h1 ht h2]
  · rw [prs_plain (hs.append ht) (by simp; omega) (by simp; omega), prs2_over (hs.append ht) (by simp; omega) hod (by rw [ho]; exact h10), ho]
  · rw [prs_minus (by simp; omega), prs2_point (hz.append hs) (by simp; omega) (ht.append hz) (by simp; omega)]
    have hn : dnum (List.replicate k 48 ++ s ++ (t ++ List.replicate k 48)) = dnum (s ++ t) * 10 ^ k := by
      rw [show List.replicate k 48 ++ s ++ (t ++ List.replicate k 48) = List.replicate k 48 ++ ((s ++ t) ++ List.replicate k 48) from by simp, dnum_append, dnum_zeros, dnum_append (s ++ t), dnum_zeros, List.length_replicate]
      omega
    rw [hn, List.length_append, List.length_replicate, Nat.pow_add, rq_scale true _ _ hk10, show true = !false from rfl, rq_not]
  · have := prs_plain (l := []) hs h1 (by simp; omega)
    rw [List.append_nil] at this
    rw [this, prs2_whole hs h1]
  · have h48 : Dig [48] := zeros_dig 1
    have := prs_plain (l := 46 :: t) h48 (by simp) (by simp; omega)
    rw [show 48 :: 46 :: t = [48] ++ 46 :: t from rfl, this, prs2_point h48 (by simp) ht h2, dnum_append]
    simp [dnum]
  · have := rq_add_same (s := false) (n := dnum s) (d := 1) (m := dnum t) (e := 10 ^ t.length) (by omega) h10
    rw [Nat.mul_one, Nat.one_mul, ← dnum_append] at this
    exact this.symm
end Go.Proofs.YtmfpnlhpdjabeaaGreatDoor
