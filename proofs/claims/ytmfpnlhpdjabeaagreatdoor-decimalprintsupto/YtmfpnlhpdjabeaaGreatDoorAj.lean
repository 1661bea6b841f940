/- package decimal: digitsAhead, partValue. -/
import Derived.Test.YtmfpnlhpdjabeaaGreatDoorAi
import Derived.Test.YtmfpnlhpdjabeaaGreatDoorAg
import Derived.Test.YtmfpnlhpdjabeaaGreatDoorBSh
import Derived.Test.YtmfpnlhpdjabeaaGreatDoorAa
namespace Go.Proofs.YtmfpnlhpdjabeaaGreatDoor
open Go.RowKit M

set_option maxHeartbeats 1000000 in
theorem dahead_k {w : World} {l : List Nat} (hb : Byt l) (hlen : l.length ≤ 1099511627776) :
    Calls Tryz.prog 54 #[.string (tx l)] w fun e w' => e = .returned (.string (tx (l.take (dg l)))) ∧ w = w' := by
  have hsz := tx_size l
  go_enter Tryz.func54, Tryz.ntmps54
  go_wp2
  go_loop [6] (fun v => ∃ k : Nat, k ≤ l.length ∧ v = .int .i64 k ∧ Hid (Dig (l.take k))) (fun v => l.length - (intOf v).toNat)
  case atStart => exact ⟨0, Nat.zero_le _, rfl, fun _ h => by cases h⟩
  case round =>
    obtain ⟨k, hk, rfl, HD⟩ := hrel
    by_cases hlt : k < l.length
    · have hix := fun u => idx_run hb hlt u
      have hc := hb.get k
      obtain ⟨c, hcc⟩ : ∃ c, l.getD k 0 = c := ⟨_, rfl⟩
      rw [hcc] at hix hc
      have HC : Hid _ := hcc
      clear hcc
      have HT := tx_take l k
      by_cases h1 : 48 ≤ c
      · by_cases h2 : c ≤ 57
        · have HD2 : Hid (Dig (l.take (k + 1))) := by
            show Dig (l.take (k + 1))
            rw [List.take_add_one, List.getElem?_eq_getElem hlt]
            refine HD.out.append fun x hx => ?_
            have hcc := HC.out
            rw [List.getD_eq_getElem?_getD, List.getElem?_eq_getElem hlt] at hcc
            simp at hx hcc
            rw [hx, hcc]
            exact isd_iff.2 ⟨h1, h2⟩
          clear HT
          go_wp2
          go_round
          case rel => exact ⟨k + 1, by omega, by go_num, HD2⟩
          case measure => simp [intOf]; omega
        · have HE : Hid (dg l = k) := dg_is HD.out hk (fun _ => by rw [HC.out]; simp [isd]; omega)
          have h3 : 57 < c := by omega
          clear h2
          go_wp2
          go_ret
          exact ⟨by rw [HE.out]; rfl, rfl⟩
      · have HE : Hid (dg l = k) := dg_is HD.out hk (fun _ => by rw [HC.out]; simp [isd]; omega)
        have h3 : c < 48 := by omega
        clear h1
        go_wp2
        go_ret
        exact ⟨by rw [HE.out]; rfl, rfl⟩
    · obtain rfl : k = l.length := by omega
      have HE : Hid (dg l = l.length) := dg_is HD.out hk (fun h => absurd h hlt)
      go_wp2
      go_ret
      exact ⟨by rw [HE.out, List.take_length]; rfl, rfl⟩

set_option maxHeartbeats 1000000 in
theorem partValue_k {w : World} {l : List Nat} (hd : Dig l) (hlen : l.length ≤ 9) :
    Calls Tryz.prog 89 #[.string (tx l)] w fun e w' => e = .returned (.int .u64 ((dnum l : Nat) : Int)) ∧ w = w' := by
  have hsz := tx_size l
  have hb := hd.byt
  go_enter Tryz.func89, Tryz.ntmps89
  go_wp2
  go_loop [3, 7] (fun v iv => ∃ k x : Nat, k ≤ l.length ∧ iv = .int .i64 k ∧ v = .int .u64 (x : Nat) ∧ x < 1000000000 ∧ Hid (x = dnum (l.take k))) (fun _ iv => l.length - (intOf iv).toNat)
  case atStart => exact ⟨0, 0, Nat.zero_le _, rfl, rfl, by omega, rfl⟩
  case round =>
    obtain ⟨k, x, hk, rfl, rfl, hx, HX⟩ := hrel
    by_cases hlt : k < l.length
    · have hix := fun u => idx_run hb hlt u
      have hc := isd_iff.1 (hd (l.getD k 0) (by rw [List.getD_eq_getElem?_getD, List.getElem?_eq_getElem hlt]; exact List.getElem_mem hlt))
      have HN : Hid (x * 10 + (l.getD k 0 - 48) = dnum (l.take (k + 1))) := by
        show _ = _
        rw [dnum_take hlt, HX.out]
      have HL : Hid (dnum (l.take (k + 1)) < 1000000000) := by
        show _ < _
        refine Nat.lt_of_lt_of_le (dnum_lt _ (fun y hy => hd y (List.mem_of_mem_take hy))) ?_
        rw [show (1000000000 : Nat) = 10 ^ 9 from rfl]
        exact Nat.pow_le_pow_right (by omega) (by rw [List.length_take]; omega)
      obtain ⟨c, hcc⟩ : ∃ c, l.getD k 0 = c := ⟨_, rfl⟩
      rw [hcc] at hix hc HN
      clear hcc
      obtain ⟨hc1, hc2⟩ := hc
      go_wp2
      go_round
      case rel => exact ⟨k + 1, x * 10 + (c - 48), by omega, by go_num, by go_num, by rw [HN.out]; exact HL.out, HN⟩
      case measure => simp [intOf]; omega
    · obtain rfl : k = l.length := by omega
      have HE : Hid (x = dnum l) := by show x = _; rw [HX.out, List.take_length]
      go_wp2
      go_ret
      exact ⟨ret1 (by rw [HE.out]), rfl⟩
end Go.Proofs.YtmfpnlhpdjabeaaGreatDoor

/- package decimal: quotient; calls of package strings. -/
namespace Go.Proofs.YtmfpnlhpdjabeaaGreatDoor
open Go.RowKit M

theorem tx_data (l : List Nat) : (tx l).data.toList = l.map UInt8.ofNat := by unfold tx; simp
theorem tx_toList (l : List Nat) : (tx l).toList = l.map UInt8.ofNat := by rw [ByteArray.toList_eq, tx_data]
theorem tx_beq {a b : List Nat} (ha : Byt a) (hb : Byt b) : ((tx a).toList == (tx b).toList) = decide (a = b) := by
  by_cases h : a = b
  · subst h; simp
  · rw [decide_eq_false h]
    refine beq_false_of_ne fun e => h (tx_inj ha hb ?_)
    rw [ByteArray.toList_eq, ByteArray.toList_eq] at e
    exact ByteArray.ext (Array.ext' e)
theorem tx_beq_nil (a : List Nat) : ((tx a).toList == []) = decide (a = []) := by
  rw [tx_toList]
  cases a <;> simp
theorem ofNat_inj {a b : Nat} (ha : a < 256) (hb : b < 256) (h : UInt8.ofNat a = UInt8.ofNat b) : a = b := by
  have := congrArg UInt8.toNat h
  simpa [UInt8.toNat_ofNat', Nat.mod_eq_of_lt ha, Nat.mod_eq_of_lt hb] using this

/-- strings.CutPrefix(s, "-"). -/
theorem cut_k {w : World} {l : List Nat} (hb : Byt l) :
    Calls Tryz.prog 26 #[.string (tx l), .string ⟨#[45]⟩] w fun e w' => e = .returned (.tuple #[.string (tx (if l.getD 0 0 = 45 then l.drop 1 else l)), .bool (decide (l.getD 0 0 = 45))]) ∧ w = w' := by
  refine (Tryz.strings_CutPrefix (tx l) ⟨#[45]⟩ w).mono ?_
  rintro e w' ⟨rfl, rfl⟩
  refine ⟨?_, rfl⟩
  have hp : Lib.hasPrefix (tx l).data.toList [45] = decide (l.getD 0 0 = 45) := by
    rw [tx_data]
    unfold Lib.hasPrefix
    cases l with
    | nil => rfl
    | cons x r =>
      have hx : x < 256 := hb x (List.mem_cons_self ..)
      by_cases h : x = 45
      · subst h; simp
      · have h2 : ((45 : UInt8) == UInt8.ofNat x) = false := beq_false_of_ne fun e => h (ofNat_inj hx (by omega) e.symm)
        rw [List.map_cons, List.isPrefixOf, h2]
        simp [h]
  have ht : Lib.trimPrefix (tx l).data.toList [45] = (if l.getD 0 0 = 45 then l.drop 1 else l).map UInt8.ofNat := by
    unfold Lib.trimPrefix
    rw [hp, tx_data]
    by_cases h : l.getD 0 0 = 45
    · rw [if_pos (by simpa using h), if_pos h]; simp
    · rw [if_neg (by simpa using h), if_neg h]
  show Ending.returned (.tuple #[.string ⟨(Lib.trimPrefix (tx l).data.toList [45]).toArray⟩, .bool (Lib.hasPrefix (tx l).data.toList [45])]) = _
  rw [hp, ht]
  rfl
/-- strings.TrimLeft(s, "0"). -/
theorem trim_k {w : World} {l : List Nat} (hb : Byt l) :
    Calls Tryz.prog 41 #[.string (tx l), .string ⟨#[48]⟩] w fun e w' => e = .returned (.string (tx (trz l))) ∧ w = w' := by
  refine (Tryz.strings_TrimLeft_one (tx l) 48 (by decide) w).mono ?_
  rintro e w' ⟨rfl, rfl⟩
  refine ⟨?_, rfl⟩
  have ht : ∀ l : List Nat, Byt l → (l.map UInt8.ofNat).dropWhile (· == 48) = (l.dropWhile (· == 48)).map UInt8.ofNat := by
    intro l
    induction l with
    | nil => intro _; rfl
    | cons x r ih =>
      intro hb
      have hx : x < 256 := hb x (List.mem_cons_self ..)
      rw [List.map_cons, List.dropWhile_cons, List.dropWhile_cons]
      by_cases h : x = 48
      · subst h
        rw [if_pos (by rfl), if_pos (by rfl), ih (fun y hy => hb y (List.mem_cons_of_mem _ hy))]
      · have h2 : ¬ UInt8.ofNat x = (48 : UInt8) := fun e => h (ofNat_inj hx (by omega) e)
        rw [if_neg (by simpa using h2), if_neg (by simpa using h), List.map_cons]
  unfold Lib.trimLeftB
  rw [tx_data, ht l hb]
  rfl
/-- strings.Repeat("0", k). -/
theorem repeat_k {w : World} {k : Nat} (hk : k ≤ 1099511627776) :
    Calls Tryz.prog 55 #[.string ⟨#[48]⟩, .int .i64 (k : Int)] w fun e w' => e = .returned (.string (tx (List.replicate k 48))) ∧ Below w.heap.size w w' := by
  refine (Tryz.strings_Repeat ⟨#[48]⟩ k w (by omega) (by show 1 * k ≤ _; omega)).mono ?_
  rintro e w' ⟨rfl, hb⟩
  refine ⟨?_, hb⟩
  have : ∀ k, Lib.repeatL [48] k = (List.replicate k 48).map UInt8.ofNat := by
    intro k
    induction k with
    | zero => rfl
    | succ k ih => rw [Lib.repeatL, ih, List.replicate_succ]; rfl
  show Ending.returned (.string ⟨(Lib.repeatL [48] k).toArray⟩) = _
  rw [this]
  rfl

/-- The two numbers' digits of a text without its sign; is it a number's text? -/
def qt (l : List Nat) : List Nat × List Nat × Bool :=
  if dg l = 0 then ([], [], false)
  else if dg l = l.length then (l, [49], true)
  else if dg (l.drop (dg l + 1)) = 0 ∨ dg (l.drop (dg l + 1)) < (l.drop (dg l + 1)).length then ([], [], false)
  else if l.getD (dg l) 0 = 46 then (l.take (dg l) ++ l.drop (dg l + 1), 49 :: List.replicate (l.drop (dg l + 1)).length 48, true)
  else if l.getD (dg l) 0 = 47 then (l.take (dg l), l.drop (dg l + 1), true)
  else ([], [], false)
def Gqt (w : World) (p : List Nat × List Nat × Bool) (e : Ending) (w' : World) : Prop :=
  e = .returned (.tuple #[.string (tx p.1), .string (tx p.2.1), .bool p.2.2]) ∧ Below w.heap.size w w'

set_option maxHeartbeats 1000000 in
theorem quot_a {w : World} {l : List Nat} (hb : Byt l) (hlen : l.length ≤ 1099511627776) (h0 : dg l = 0) :
    Calls Tryz.prog 27 #[.string (tx l)] w (Gqt w ([], [], false)) := by
  have hd := fun u => dahead_k (w := u) hb hlen
  rw [h0, List.take_zero] at hd
  have hsz := tx_size l
  have hz : (tx []) = ⟨#[]⟩ := rfl
  rw [hz] at hd
  have he := tx_drop l 0
  rw [List.drop_zero] at he
  have HP : Hid (Gqt w ([], [], false) (.returned (.tuple #[.string ⟨#[]⟩, .string ⟨#[]⟩, .bool false])) w) := ⟨rfl, Below.refl _ _⟩
  clear h0 hz
  go_enter Tryz.func27, Tryz.ntmps27
  go_wp2_with fail
  refine (hd _).mono ?_
  rintro e w1 ⟨rfl, rfl⟩
  go_wp2
  go_ret3
  exact HP.out
set_option maxHeartbeats 1000000 in
theorem quot_b {w : World} {l : List Nat} (hb : Dig l) (hlen : l.length ≤ 1099511627776) (h0 : 0 < l.length) :
    Calls Tryz.prog 27 #[.string (tx l)] w (Gqt w (l, [49], true)) := by
  have hd := fun u => dahead_k (w := u) hb.byt hlen
  rw [dg_all hb, List.take_length] at hd
  have hsz := tx_size l
  have he := tx_drop l l.length
  rw [List.drop_length, show tx [] = ⟨#[]⟩ from rfl] at he
  have hq : ((tx l).toList == []) = false := by rw [tx_beq_nil]; exact decide_eq_false (fun e => by subst e; simp at h0)
  have HP : Hid (Gqt w (l, [49], true) (.returned (.tuple #[.string (tx l), .string ⟨#[49]⟩, .bool true])) w) := ⟨rfl, Below.refl _ _⟩
  generalize tx l = T at *
  generalize l.length = n at *
  go_enter Tryz.func27, Tryz.ntmps27
  go_wp2_with fail
  refine (hd _).mono ?_
  rintro e w1 ⟨rfl, rfl⟩
  go_wp2
  go_ret3
  exact HP.out

section
variable {w : World} {h r : List Nat} {c : Nat}
theorem tx_cons_tail (c : Nat) (r : List Nat) : (tx (c :: r)).extract 1 (r.length + 1) = tx r := tx_tail c r
theorem tx_app_drop (h t : List Nat) : (tx (h ++ t)).extract h.length (h.length + t.length) = tx t := by
  have := tx_drop (h ++ t) h.length
  rwa [List.drop_left, List.length_append] at this
theorem idx_zero {c : Nat} {r : List Nat} (hc : c < 256) (hb : Byt r) (u : World) : (Instr.index 9 (.string (tx (c :: r))) (.int .i64 0)).run Tryz.prog u = .ok (.int .u8 (c : Int)) u := by
  have := idx_run (Byt.mk hc hb) (i := 0) (by simp) u
  simpa using this
/-- What is known of the parts of such a text, each under a name. -/
theorem quot_parts (hh : Dig h) (h0 : 0 < h.length) (hc : isd c = false) (hcb : c < 256) (hb : Byt r) (hlen : h.length + (r.length + 1) ≤ 1099511627776) :
    ∃ T H R Q S : ByteArray, T = tx (h ++ c :: r) ∧ H = tx h ∧ R = tx (c :: r) ∧ Q = tx r ∧ S = tx (r.take (dg r)) ∧ T.size = h.length + (r.length + 1) ∧ H.size = h.length ∧ R.size = r.length + 1 ∧ Q.size = r.length ∧ S.size = dg r ∧
      T.extract h.length (h.length + (r.length + 1)) = R ∧ R.extract 1 (r.length + 1) = Q ∧ (H.toList == []) = false ∧ (R.toList == []) = false ∧ (S.toList == []) = decide (dg r = 0) ∧ (S.toList == Q.toList) = decide (dg r = r.length) ∧
      (∀ u, (Instr.index 9 (.string R) (.int .i64 0)).run Tryz.prog u = .ok (.int .u8 (c : Int)) u) ∧
      (∀ u, Calls Tryz.prog 54 #[.string T] u fun e w' => e = .returned (.string H) ∧ u = w') ∧
      (∀ u, Calls Tryz.prog 54 #[.string Q] u fun e w' => e = .returned (.string S) ∧ u = w') := by
  have hT : Byt (h ++ c :: r) := hh.byt.append (Byt.mk hcb hb)
  have hle := dg_le r
  refine ⟨_, _, _, _, _, rfl, rfl, rfl, rfl, rfl, ?_, tx_size _, ?_, tx_size _, ?_, ?_, tx_cons_tail c r, ?_, ?_, ?_, ?_, fun u => idx_zero hcb hb u, fun u => ?_, fun u => dahead_k hb (by omega)⟩
  · rw [tx_size, List.length_append, List.length_cons]
  · rw [tx_size, List.length_cons]
  · rw [tx_size, List.length_take]; omega
  · have := tx_app_drop h (c :: r)
    rwa [List.length_cons] at this
  · rw [tx_beq_nil]; exact decide_eq_false fun e => by rw [e] at h0; simp at h0
  · rw [tx_beq_nil]; exact decide_eq_false fun e => by cases e
  · rw [tx_beq_nil]
    congr 1
    apply propext
    constructor
    · intro e
      have := congrArg List.length e
      rw [List.length_take, List.length_nil] at this
      omega
    · intro e; rw [e, List.take_zero]
  · rw [tx_beq (hb.take _) hb]
    congr 1
    apply propext
    constructor
    · intro e
      have := congrArg List.length e
      rw [List.length_take] at this
      omega
    · intro e; rw [e, List.take_length]
  · have := dahead_k (w := u) hT (by rw [List.length_append, List.length_cons]; exact hlen)
    rwa [dg_app hh hc, List.take_left] at this

set_option maxHeartbeats 2000000 in
theorem quot_no (hh : Dig h) (h0 : 0 < h.length) (hc : isd c = false) (hcb : c < 256) (hb : Byt r) (hlen : h.length + (r.length + 1) ≤ 1099511627776) (hn : dg r = 0 ∨ dg r < r.length) :
    Calls Tryz.prog 27 #[.string (tx (h ++ c :: r))] w (Gqt w ([], [], false)) := by
  obtain ⟨T, H, R, Q, S, hT, hH, hR, hQ, hS, s1, s2, s3, s4, s5, e1, e2, b1, b2, b3, b4, ix, c1, c2⟩ := quot_parts hh h0 hc hcb hb hlen
  rw [← hT]
  have HP : Hid (Gqt w ([], [], false) (.returned (.tuple #[.string ⟨#[]⟩, .string ⟨#[]⟩, .bool false])) w) := ⟨rfl, Below.refl _ _⟩
  have hle := dg_le r
  clear hT hH hR hQ hS hh hb hc
  generalize h.length = n at *
  generalize r.length = m at *
  generalize dg r = k at *
  by_cases hk : k = 0
  · rw [decide_eq_true hk] at b3
    clear hn b4
    go_enter Tryz.func27, Tryz.ntmps27
    go_wp2_with fail
    refine (c1 _).mono ?_
    rintro e w1 ⟨rfl, rfl⟩
    clear c1
    go_wp2_with fail
    refine (c2 _).mono ?_
    rintro e w1 ⟨rfl, rfl⟩
    clear c2
    go_wp2
    go_ret3
    exact HP.out
  · have hkm : ¬ k = m := by omega
    rw [decide_eq_false hk] at b3
    rw [decide_eq_false hkm] at b4
    clear hn
    go_enter Tryz.func27, Tryz.ntmps27
    go_wp2_with fail
    refine (c1 _).mono ?_
    rintro e w1 ⟨rfl, rfl⟩
    clear c1
    go_wp2_with fail
    refine (c2 _).mono ?_
    rintro e w1 ⟨rfl, rfl⟩
    clear c2
    go_wp2
    go_ret3
    exact HP.out
set_option maxHeartbeats 2000000 in
theorem quot_over (hh : Dig h) (h0 : 0 < h.length) (hb : Dig r) (hlen : h.length + (r.length + 1) ≤ 1099511627776) (hn : 0 < r.length) :
    Calls Tryz.prog 27 #[.string (tx (h ++ 47 :: r))] w (Gqt w (h, r, true)) := by
  obtain ⟨T, H, R, Q, S, hT, hH, hR, hQ, hS, s1, s2, s3, s4, s5, e1, e2, b1, b2, b3, b4, ix, c1, c2⟩ := quot_parts (c := 47) hh h0 rfl (by omega) hb.byt hlen
  rw [← hT]
  have hQS : S = Q := by rw [hS, hQ, dg_all hb, List.take_length]
  have HP : Hid (Gqt w (h, r, true) (.returned (.tuple #[.string H, .string Q, .bool true])) w) := ⟨by rw [hH, hQ], Below.refl _ _⟩
  rw [dg_all hb] at b3 b4 s5
  rw [decide_eq_false (by omega : ¬ r.length = 0)] at b3
  rw [decide_eq_true rfl] at b4
  subst hQS
  clear hT hH hR hQ hS hh hb
  generalize h.length = n at *
  generalize r.length = m at *
  go_enter Tryz.func27, Tryz.ntmps27
  go_wp2_with fail
  refine (c1 _).mono ?_
  rintro e w1 ⟨rfl, rfl⟩
  clear c1
  go_wp2_with fail
  refine (c2 _).mono ?_
  rintro e w1 ⟨rfl, rfl⟩
  clear c2
  go_wp2
  go_ret3
  exact HP.out
set_option maxHeartbeats 2000000 in
theorem quot_other (hh : Dig h) (h0 : 0 < h.length) (hc : isd c = false) (hcb : c < 256) (hb : Dig r) (hlen : h.length + (r.length + 1) ≤ 1099511627776) (hn : 0 < r.length) (h46 : c ≠ 46) (h47 : c ≠ 47) :
    Calls Tryz.prog 27 #[.string (tx (h ++ c :: r))] w (Gqt w ([], [], false)) := by
  obtain ⟨T, H, R, Q, S, hT, hH, hR, hQ, hS, s1, s2, s3, s4, s5, e1, e2, b1, b2, b3, b4, ix, c1, c2⟩ := quot_parts hh h0 hc hcb hb.byt hlen
  rw [← hT]
  have hQS : S = Q := by rw [hS, hQ, dg_all hb, List.take_length]
  have HP : Hid (Gqt w ([], [], false) (.returned (.tuple #[.string ⟨#[]⟩, .string ⟨#[]⟩, .bool false])) w) := ⟨rfl, Below.refl _ _⟩
  rw [dg_all hb] at b3 b4 s5
  rw [decide_eq_false (by omega : ¬ r.length = 0)] at b3
  rw [decide_eq_true rfl] at b4
  subst hQS
  clear hT hH hR hQ hS hh hb hc
  generalize h.length = n at *
  generalize r.length = m at *
  have z1 : decide ((c : Int) = 46) = false := decide_eq_false (by omega)
  have z2 : decide ((c : Int) = 47) = false := decide_eq_false (by omega)
  go_enter Tryz.func27, Tryz.ntmps27
  go_wp2_with fail
  refine (c1 _).mono ?_
  rintro e w1 ⟨rfl, rfl⟩
  clear c1
  go_wp2_with fail
  refine (c2 _).mono ?_
  rintro e w1 ⟨rfl, rfl⟩
  clear c2
  go_wp2
  go_ret3
  exact HP.out
set_option maxHeartbeats 2000000 in
theorem quot_point (hh : Dig h) (h0 : 0 < h.length) (hb : Dig r) (hlen : h.length + (r.length + 1) ≤ 549755813888) (hn : 0 < r.length) :
    Calls Tryz.prog 27 #[.string (tx (h ++ 46 :: r))] w (Gqt w (h ++ r, 49 :: List.replicate r.length 48, true)) := by
  obtain ⟨T, H, R, Q, S, hT, hH, hR, hQ, hS, s1, s2, s3, s4, s5, e1, e2, b1, b2, b3, b4, ix, c1, c2⟩ := quot_parts (c := 46) hh h0 rfl (by omega) hb.byt (by omega)
  rw [← hT]
  have hQS : S = Q := by rw [hS, hQ, dg_all hb, List.take_length]
  have HP : Hid (∀ w', Below w.heap.size w w' → Gqt w (h ++ r, 49 :: List.replicate r.length 48, true) (.returned (.tuple #[.string (H ++ Q), .string (⟨#[49]⟩ ++ tx (List.replicate r.length 48)), .bool true])) w') := fun w' hw => ⟨by
    rw [hH, hQ, tx_append, show (⟨#[49]⟩ : ByteArray) = tx [49] from rfl, tx_append]; rfl, hw⟩
  rw [dg_all hb] at b3 b4 s5
  rw [decide_eq_false (by omega : ¬ r.length = 0)] at b3
  rw [decide_eq_true rfl] at b4
  have hz := tx_size (List.replicate r.length 48)
  rw [List.length_replicate] at hz
  have c3 := fun u => repeat_k (w := u) (k := r.length) (by omega)
  subst hQS
  clear hT hH hR hQ hS hh hb
  generalize tx (List.replicate r.length 48) = Z at *
  generalize h.length = n at *
  generalize r.length = m at *
  go_enter Tryz.func27, Tryz.ntmps27
  go_wp2_with fail
  refine (c1 _).mono ?_
  rintro e w1 ⟨rfl, rfl⟩
  clear c1
  go_wp2_with fail
  refine (c2 _).mono ?_
  rintro e w1 ⟨rfl, rfl⟩
  clear c2
  go_wp2_with fail
  refine (c3 _).mono ?_
  rintro e w1 ⟨rfl, hw1⟩
  clear c3
  go_wp2
  go_ret3
  exact HP.out _ hw1
end
end Go.Proofs.YtmfpnlhpdjabeaaGreatDoor

/- Rows of rows of limbs: read, stored to, appended to. -/
namespace Go.Proofs.YtmfpnlhpdjabeaaGreatDoor
open Go.RowKit M

def IsS (u : Value) : Prop := ∃ ao n c, u = .slice ao n c
/-- The slice value v is the call's own (its block is from B on), and holds the slices vs; nothing but slices lies in its block. -/
structure Os (B : Nat) (w : World) (v : Value) (vs : List Value) : Prop where
  sl : ∀ u ∈ vs, IsS u
  row : ∃ g cap cur, v = .slice (some ⟨g, 0, none⟩) vs.length cap ∧ B ≤ g ∧ w.heap[g]? = some (.cells cur 23 (0, 0)) ∧ vs.length ≤ cap ∧ cap ≤ maxLen ∧ cur.size = cap ∧ cur.toList.take vs.length = vs ∧ ∀ u ∈ cur.toList, IsS u
theorem infoS : (Tryz.prog.info? 23).map (fun i => (i.zero, i.size, i.bytes)) = some (some (.slice none 0 0), 1, 24) := by kernel_rfl
theorem Os.keep {B : Nat} {w w' : World} {v : Value} {vs : List Value} (h : Os B w v vs) (hb : ∀ k, v.ownBlock = some k → w'.heap[k]? = w.heap[k]?) : Os B w' v vs := by
  obtain ⟨g, cap, cur, h1, h2, h3, r⟩ := h.row
  exact ⟨h.sl, g, cap, cur, h1, h2, by rw [hb g (by rw [h1]; rfl)]; exact h3, r⟩
theorem Os.lt {B : Nat} {w : World} {v : Value} {vs : List Value} (h : Os B w v vs) : ∀ k, v.ownBlock = some k → B ≤ k ∧ k < w.heap.size := by
  obtain ⟨g, cap, cur, h1, h2, h3, r⟩ := h.row
  intro k hk
  rw [h1] at hk
  simp only [Value.ownBlock, Option.some.injEq] at hk
  subst hk
  exact ⟨h2, (Array.getElem?_eq_some_iff.1 h3).1⟩
theorem Os.later {B : Nat} {w w' : World} {v : Value} {vs : List Value} (h : Os B w v vs) (hb : Below w.heap.size w w') : Os B w' v vs := h.keep fun k hk => hb.block k (h.lt k hk).2
theorem Os.mono {B B' : Nat} {w : World} {v : Value} {vs : List Value} (h : Os B w v vs) (hb : B' ≤ B) : Os B' w v vs := by
  obtain ⟨g, cap, cur, h1, h2, r⟩ := h.row
  exact ⟨h.sl, g, cap, cur, h1, Nat.le_trans hb h2, r⟩
/-- Its parts. -/
theorem Os.inv {B : Nat} {w : World} {v : Value} {vs : List Value} (h : Os B w v vs) : ∃ g cap, v = .slice (some ⟨g, 0, none⟩) vs.length cap ∧ vs.length ≤ cap ∧ B ≤ g ∧ ∀ i u, vs[i]? = some u → w.cell? ⟨g, i, none⟩ = some u := by
  obtain ⟨g, cap, cur, h1, h2, h3, h4, h5, h6, h7, h8⟩ := h.row
  refine ⟨g, cap, h1, h4, h2, fun i u hi => ?_⟩
  rw [cell_of_row w g i _ _ _ h3]
  have hl : i < vs.length := (List.getElem?_eq_some_iff.1 hi).1
  rw [← h7, List.getElem?_take_of_lt hl] at hi
  simpa using hi
/-- A row of limbs stays where such a row grows. -/
theorem Sl.grownS {u u' : World} {B n cap : Nat} {ao : Option Addr} {xs : List Nat} {v : Value} {vs : List Value} (h : Sl u.heap.size u ao n cap xs) (ho : Os B u v vs) (hg : u.grownBy u' v.ownBlock) : Sl u'.heap.size u' ao n cap xs := by
  obtain ⟨g, cap', cur, h1, h2, h3, h4, h5, h6, h7, h8⟩ := ho.row
  refine ⟨h.len, h.le, h.lim, fun h0 => ?_, h.nilc⟩
  obtain ⟨b, o, e1, e2, e3⟩ := h.there h0
  have hne : b ≠ g := by
    intro he
    subst he
    have hc := e3 0 h0
    rw [Nat.add_zero, cell_of_row u b o _ _ _ h3] at hc
    obtain ⟨_, _, _, hx⟩ := h8 _ (Array.mem_toList_iff.2 (Array.mem_of_getElem? hc))
    simp at hx
  refine ⟨b, o, e1, Nat.lt_of_lt_of_le e2 hg.size, fun i hi => ?_⟩
  rw [World.cell?_of_block (w := u) (a := ⟨b, o + i, none⟩) (hg.block b e2 (by rw [h1]; simp [Value.ownBlock]; exact fun e => hne e))]
  exact e3 i hi

/-- 'append(out, ys...)', of slices. -/
theorem run_appV {w : World} {B : Nat} {v : Value} {vs : List Value} (ys : List Value) (hown : Os B w v vs) (hy : ∀ u ∈ ys, IsS u) (hlen : vs.length + ys.length ≤ 1099511627776) (ad : Addr) (hc : ∀ j u, ys[j]? = some u → w.cell? (ad.add j) = some u) (ty : TypeId) (hB : B ≤ w.heap.size) :
    ∃ v' w', (Builtin.append_ #[58, 58] ty #[v, .slice (some ad) ys.length ys.length]).run Tryz.prog w = .ok v' w' ∧ Os B w' v' (vs ++ ys) ∧ w.grownBy w' v.ownBlock := by
  obtain ⟨i0, hi, hz0, hz1, hz2⟩ := info_parts infoS
  have hb : ∀ u ∈ vs ++ ys, IsS u := fun u hu => by
    rcases List.mem_append.1 hu with h | h
    · exact hown.sl u h
    · exact hy u h
  obtain ⟨g, cap, cur, h1, h2, h3, h4, h5, h6, h7, h8⟩ := hown.row
  have hinv := hown.inv
  subst h1
  have hone : ∀ u ∈ ys, u.oneCell' = true := by intro u hu; obtain ⟨_, _, _, rfl⟩ := hy u hu; rfl
  have hll : (vs ++ ys).length = vs.length + ys.length := by simp
  by_cases hroom : vs.length + ys.length ≤ cap
  · have he := run_append_room (P := Tryz.prog) w 58 ty 23 i0 Tryz.underlying58 hi g vs.length cap cur h3 ad ys.length ys.length ys (by rw [hz1, Nat.mul_one]) hc hone hroom (by rw [hz1]; omega)
    rw [hz1, Nat.mul_one] at he
    refine ⟨_, _, he, ⟨hb, g, cap, _, by rw [hll], h2, setRow_heap w g cur _ _ _ h3, by rw [hll]; exact hroom, h5, ?_, ?_, ?_⟩, ⟨rfl, rfl, rfl, by simp, fun k _ hk => setRow_other w g k _ (fun e => hk (by simp [Value.ownBlock, e]))⟩⟩
    · simp; omega
    · rw [hll, List.toList_toArray]
      have hl : (cur.toList.take vs.length ++ ys).length = vs.length + ys.length := by simp; omega
      rw [← hl, List.take_left, h7]
    · intro u hu
      simp only [List.mem_append] at hu
      rcases hu with (hu | hu) | hu
      · exact h8 u (List.mem_of_mem_take hu)
      · exact hy u hu
      · exact h8 u (List.mem_of_mem_drop hu)
  · have hfits := growslice_fits (need := vs.length + ys.length) (old := cap) (bytes := 24) (by omega) (by omega)
    have he := run_append_grow (P := Tryz.prog) w 58 ty 23 i0 (.slice none 0 0) Tryz.underlying58 hi hz0 ⟨g, 0, none⟩ vs.length cap vs (by rw [hz1]; simp) (by
      intro j u hj
      obtain ⟨g', cap', e1, _, _, e3⟩ := hinv
      simp only [Value.slice.injEq, Option.some.injEq, Addr.mk.injEq] at e1
      obtain ⟨⟨rfl, _⟩, _⟩ := e1
      have hadd : (⟨g, 0, none⟩ : Addr).add j = ⟨g, j, none⟩ := by unfold Addr.add; split <;> simp_all
      rw [hadd]
      exact e3 j u hj) ad ys.length ys.length ys (by rw [hz1, Nat.mul_one]) hc (by omega) (by omega) (by rw [hz2]; exact hfits)
    have hge := grownCap_ge w (vs.length + ys.length) cap 23
    have hcm : grownCap w (vs.length + ys.length) cap 23 ≤ maxLen := grownCap_le_maxLen w (vs.length + ys.length) cap 23 (by unfold maxLen; omega)
    refine ⟨_, _, he, ⟨hb, w.heap.size, _, _, by rw [hll], hB, heap_alloc_new w.drew _, by rw [hll]; exact hge, hcm, ?_, ?_, ?_⟩, ⟨rfl, rfl, rfl, by simp, fun k hk _ => heap_alloc_old w.drew _ hk⟩⟩
    · simp [size_zeroCells, Value.cells]; omega
    · rw [Array.toList_append, Array.toList_append, List.toList_toArray, List.toList_toArray, List.take_left]
    · intro u hu
      rw [Array.toList_append, Array.toList_append] at hu
      simp only [List.mem_append] at hu
      rcases hu with (hu | hu) | hu
      · exact hown.sl u hu
      · exact hy u hu
      · simp [Builtin.zeroCells, Value.cells] at hu
        obtain ⟨k, _, h⟩ := hu
        rw [Nat.mod_one] at h
        exact ⟨_, _, _, h.symm⟩

/-- The naturals that the slices vs are read as. -/
structure Ns (u : World) (vs : List Value) (xss : List (List Nat)) : Prop where
  len : vs.length = xss.length
  at_ : ∀ i, i < xss.length → ∃ ao n c, vs[i]? = some (.slice ao n c) ∧ Sl u.heap.size u ao n c (xss.getD i [])
theorem Ns.later {u u' : World} {vs : List Value} {xss : List (List Nat)} (h : Ns u vs xss) (hb : Below u.heap.size u u') : Ns u' vs xss :=
  ⟨h.len, fun i hi => by obtain ⟨ao, n, c, h1, h2⟩ := h.at_ i hi; exact ⟨ao, n, c, h1, h2.later hb⟩⟩
theorem Ns.nil (u : World) : Ns u [] [] := ⟨rfl, fun i hi => by simp at hi⟩
theorem getD_app_left {a b : List (List Nat)} {i : Nat} (h : i < a.length) : (a ++ b).getD i [] = a.getD i [] := by
  rw [List.getD_eq_getElem?_getD, List.getElem?_append_left h, ← List.getD_eq_getElem?_getD]
theorem getD_app_right {a b : List (List Nat)} {i : Nat} (h : a.length ≤ i) : (a ++ b).getD i [] = b.getD (i - a.length) [] := by
  rw [List.getD_eq_getElem?_getD, List.getElem?_append_right h, ← List.getD_eq_getElem?_getD]
theorem Ns.append {u : World} {vs ys : List Value} {xss zss : List (List Nat)} (h : Ns u vs xss) (k : Ns u ys zss) : Ns u (vs ++ ys) (xss ++ zss) := by
  refine ⟨by rw [List.length_append, List.length_append, h.len, k.len], fun i hi => ?_⟩
  by_cases hl : i < xss.length
  · rw [getD_app_left hl, List.getElem?_append_left (by rw [h.len]; exact hl)]
    exact h.at_ i hl
  · rw [getD_app_right (by omega), List.getElem?_append_right (by rw [h.len]; omega), h.len]
    exact k.at_ _ (by rw [List.length_append] at hi; omega)
theorem Ns.one {u : World} {ao : Option Addr} {n c : Nat} {xs : List Nat} (h : Sl u.heap.size u ao n c xs) : Ns u [.slice ao n c] [xs] :=
  ⟨rfl, fun i hi => by
    obtain rfl : i = 0 := by simpa using hi
    exact ⟨ao, n, c, rfl, h⟩⟩
theorem Ns.isS {u : World} {vs : List Value} {xss : List (List Nat)} (h : Ns u vs xss) : ∀ v ∈ vs, IsS v := fun v hv => by
  obtain ⟨i, hi, rfl⟩ := List.getElem_of_mem hv
  obtain ⟨ao, n, c, h1, _⟩ := h.at_ i (by rw [← h.len]; exact hi)
  rw [List.getElem?_eq_getElem hi] at h1
  exact ⟨ao, n, c, by simpa using h1⟩
/-- The slice value v is a row of naturals. -/
def Nr (B : Nat) (w : World) (v : Value) (xss : List (List Nat)) : Prop := ∃ vs, Os B w v vs ∧ Ns w vs xss
theorem Nr.later {B : Nat} {w w' : World} {v : Value} {xss : List (List Nat)} (h : Nr B w v xss) (hb : Below w.heap.size w w') : Nr B w' v xss := by
  obtain ⟨vs, h1, h2⟩ := h
  exact ⟨vs, h1.later hb, h2.later hb⟩
theorem Nr.mono {B B' : Nat} {w : World} {v : Value} {xss : List (List Nat)} (h : Nr B w v xss) (hb : B' ≤ B) : Nr B' w v xss := by
  obtain ⟨vs, h1, h2⟩ := h
  exact ⟨vs, h1.mono hb, h2⟩
theorem Nr.lt {B : Nat} {w : World} {v : Value} {xss : List (List Nat)} (h : Nr B w v xss) : ∀ k, v.ownBlock = some k → B ≤ k ∧ k < w.heap.size := by
  obtain ⟨vs, h1, _⟩ := h
  exact h1.lt
/-- Its address, and its cells. -/
theorem Nr.inv {B : Nat} {w : World} {v : Value} {xss : List (List Nat)} (h : Nr B w v xss) : ∃ g cap, v = .slice (some ⟨g, 0, none⟩) xss.length cap ∧ xss.length ≤ cap ∧ B ≤ g ∧ ∀ i, i < xss.length → ∃ ao n c, w.cell? ⟨g, i, none⟩ = some (.slice ao n c) ∧ Sl w.heap.size w ao n c (xss.getD i []) := by
  obtain ⟨vs, h1, h2⟩ := h
  obtain ⟨g, cap, e1, e2, e3, e4⟩ := h1.inv
  rw [h2.len] at e1 e2
  refine ⟨g, cap, e1, e2, e3, fun i hi => ?_⟩
  obtain ⟨ao, n, c, k1, k2⟩ := h2.at_ i hi
  exact ⟨ao, n, c, e4 i _ k1, k2⟩
/-- 'append(out, ..)', of naturals. -/
theorem run_appN {w : World} {B : Nat} {v : Value} {xss : List (List Nat)} {ys : List Value} {zss : List (List Nat)} (hown : Nr B w v xss) (hy : Ns w ys zss) (hlen : xss.length + zss.length ≤ 1099511627776) (ad : Addr) (hc : ∀ j u, ys[j]? = some u → w.cell? (ad.add j) = some u) (ty : TypeId) (hB : B ≤ w.heap.size) :
    ∃ v' w', (Builtin.append_ #[58, 58] ty #[v, .slice (some ad) ys.length ys.length]).run Tryz.prog w = .ok v' w' ∧ Nr B w' v' (xss ++ zss) ∧ Below B w w' ∧ (∀ (ao : Option Addr) (n cap : Nat) (xs : List Nat), Sl w.heap.size w ao n cap xs → Sl w'.heap.size w' ao n cap xs) := by
  obtain ⟨vs, h1, h2⟩ := hown
  obtain ⟨v', w', hr, ho, hg⟩ := run_appV ys h1 hy.isS (by rw [h2.len, hy.len]; exact hlen) ad hc ty hB
  have hs : ∀ (ao : Option Addr) (n cap : Nat) (xs : List Nat), Sl w.heap.size w ao n cap xs → Sl w'.heap.size w' ao n cap xs := fun ao n cap xs h => h.grownS h1 hg
  have hn : ∀ {vs : List Value} {xss : List (List Nat)}, Ns w vs xss → Ns w' vs xss := fun h => ⟨h.len, fun i hi => by
    obtain ⟨ao, n, c, k1, k2⟩ := h.at_ i hi
    exact ⟨ao, n, c, k1, hs _ _ _ _ k2⟩⟩
  exact ⟨v', w', hr, ⟨_, ho, (hn h2).append (hn hy)⟩, (Below.refl B w).grown hg hB (fun k hk => (h1.lt k hk).1), hs⟩
end Go.Proofs.YtmfpnlhpdjabeaaGreatDoor

/- Rows of naturals: append, make, store; package decimal: squares, split. -/
namespace Go.Proofs.YtmfpnlhpdjabeaaGreatDoor
open Go.RowKit M

theorem addr_add (g j : Nat) : (⟨g, 0, none⟩ : Addr).add j = ⟨g, j, none⟩ := by unfold Addr.add; split <;> simp_all
theorem lit_cells (w : World) (ys : List Value) (j : Nat) (u : Value) (h : ys[j]? = some u) : (w.alloc (.cells ys.toArray 23)).cell? ((⟨w.heap.size, 0, none⟩ : Addr).add j) = some u := by
  rw [addr_add, cell_of_row _ w.heap.size j _ _ _ (heap_alloc_new _ _)]
  simpa using h
section
variable {ops : Array Oper} {rest : List Oper} {o : Oper} {a : Act} {Q : Exit → Act → World → Prop} {w : World} {B : Nat} {v : Value} {xss zss : List (List Nat)}
theorem wp_appN (hgd : o.guard = none) (s x : Operand) (ho : o.op = .call { callee := .builtin .append, args := #[s, x], argTypes := #[58, 58] })
    (ys : List Value) (hown : Nr B w v xss) (hy : Ns w ys zss) (hs : a.eval s = v) (hx : a.eval x = .slice (some ⟨w.heap.size, 0, none⟩) ys.length ys.length)
    (hlen : xss.length + zss.length ≤ 1099511627776) (hB : B ≤ w.heap.size)
    (h : ∀ v' w', Nr B w' v' (xss ++ zss) → Below B w w' → (∀ (ao : Option Addr) (n cap : Nat) (xs : List Nat), Sl w.heap.size w ao n cap xs → Sl w'.heap.size w' ao n cap xs) → wpList Tryz.prog ops Q rest (a.put o.dst v') w') :
    wpList Tryz.prog ops Q (o :: rest) a (w.alloc (.cells ys.toArray 23)) := by
  have bl : Below w.heap.size w (w.alloc (.cells ys.toArray 23)) := (Below.refl _ _).alloc (Nat.le_refl _) _
  obtain ⟨v', w', hr, ho', hb, hsl⟩ := run_appN (hown.later bl) (hy.later bl) hlen ⟨w.heap.size, 0, none⟩ (lit_cells w ys) o.type (Nat.le_trans hB bl.size)
  refine wpList_plain hgd fun K hK => ?_
  unfold Oper.wp execOp
  simp only [ho, resolve, invoke, builtin, Sem.run_bind, Sem.run_pure, Result.andThen_ok, List.map_toArray, List.map_cons, List.map_nil, hs, hx, hr]
  exact hK _ _ (h v' w' ho' (((Below.refl B w).trans (bl.mono hB)).trans hb) (fun ao n cap xs hs => hsl _ _ _ _ (hs.later bl)))
end
/-- 'make([][]uint32, n, m)'. -/
theorem make_runS (n m : Nat) (hn : n ≤ m) (hm : m ≤ 1099511627776) (u : World) : (Instr.makeSlice 58 (.int .i64 (n : Int)) (.int .i64 (m : Int))).run Tryz.prog u =
    .ok (.slice (some ⟨u.heap.size, 0, none⟩) n m) (u.alloc (.cells (List.replicate m (Value.slice none 0 0)).toArray 23)) := by
  obtain ⟨i0, hi, hz0, hz1, hz2⟩ := info_parts infoS
  have h := run_make (P := Tryz.prog) u 58 23 i0 (.slice none 0 0) Tryz.underlying58 hi hz0 .i64 .i64 (n : Int) (m : Int) (by omega) (by omega) (by rw [hz2]; omega) (by omega)
  rw [Int.toNat_natCast, Int.toNat_natCast] at h
  have hm : madeCells #[Value.slice none 0 0] m = (List.replicate m (Value.slice none 0 0)).toArray := by
    apply Array.ext'
    rw [toList_madeCells_one]
  rw [← hm]
  simpa [hz1, Value.cells] using h
theorem Nr.made (w : World) (n m : Nat) (hn : n ≤ m) (hm : m ≤ 1099511627776) : Nr w.heap.size (w.alloc (.cells (List.replicate m (Value.slice none 0 0)).toArray 23)) (.slice (some ⟨w.heap.size, 0, none⟩) n m) (List.replicate n []) := by
  refine ⟨List.replicate n (.slice none 0 0), ⟨fun u hu => ?_, w.heap.size, m, _, by rw [List.length_replicate], Nat.le_refl _, heap_alloc_new _ _, by rw [List.length_replicate]; exact hn, by unfold maxLen; omega, by simp, by simp; omega, fun u hu => ?_⟩, ⟨by simp, fun i hi => ?_⟩⟩
  · rw [List.eq_of_mem_replicate hu]; exact ⟨_, _, _, rfl⟩
  · rw [List.toList_toArray] at hu
    rw [List.eq_of_mem_replicate hu]; exact ⟨_, _, _, rfl⟩
  · rw [List.length_replicate] at hi
    refine ⟨none, 0, 0, by rw [List.getElem?_replicate, if_pos hi], ?_⟩
    rw [List.getD_eq_getElem?_getD, List.getElem?_replicate, if_pos hi]
    exact Sl.nil _ _
/-- A row of limbs stays where such a row is stored to. -/
theorem Sl.storeS {u : World} {B n cap i : Nat} {ao : Option Addr} {xs : List Nat} {g k c : Nat} {vs : List Value} (h : Sl u.heap.size u ao n cap xs) (ho : Os B u (.slice (some ⟨g, 0, none⟩) k c) vs) (x : Value) : Sl (u.setCell ⟨g, i, none⟩ x).heap.size (u.setCell ⟨g, i, none⟩ x) ao n cap xs := by
  obtain ⟨g', cap', cur, h1, h2, h3, h4, h5, h6, h7, h8⟩ := ho.row
  simp only [Value.slice.injEq, Option.some.injEq, Addr.mk.injEq] at h1
  obtain ⟨⟨rfl, _⟩, _⟩ := h1
  have fr := (Fr.refl g u).set i x
  refine ⟨h.len, h.le, h.lim, fun h0 => ?_, h.nilc⟩
  obtain ⟨b, o, e1, e2, e3⟩ := h.there h0
  have hne : b ≠ g := by
    intro he
    subst he
    have hc := e3 0 h0
    rw [Nat.add_zero, cell_of_row u b o _ _ _ h3] at hc
    obtain ⟨_, _, _, hx⟩ := h8 _ (Array.mem_toList_iff.2 (Array.mem_of_getElem? hc))
    simp at hx
  refine ⟨b, o, e1, by rw [fr.size]; exact e2, fun i hi => ?_⟩
  rw [World.cell?_of_block (w := u) (a := ⟨b, o + i, none⟩) (fr.block b hne)]
  exact e3 i hi
theorem Nr.set {w : World} {B g n cap i : Nat} {ao : Option Addr} {k c : Nat} {zs : List Nat} {xss : List (List Nat)} (h : Nr B w (.slice (some ⟨g, 0, none⟩) n cap) xss) (hi : i < xss.length) (hs : Sl w.heap.size w ao k c zs) :
    Nr B (w.setCell ⟨g, i, none⟩ (.slice ao k c)) (.slice (some ⟨g, 0, none⟩) n cap) (xss.set i zs) := by
  obtain ⟨vs, h1, h2⟩ := h
  have hst2 : ∀ {ao' : Option Addr} {n' cap' : Nat} {xs' : List Nat}, Sl w.heap.size w ao' n' cap' xs' → Sl (w.setCell ⟨g, i, none⟩ (.slice ao k c)).heap.size (w.setCell ⟨g, i, none⟩ (.slice ao k c)) ao' n' cap' xs' := fun h => h.storeS h1 _
  obtain ⟨g', cap', cur, e1, e2, e3, e4, e5, e6, e7, e8⟩ := h1.row
  simp only [Value.slice.injEq, Option.some.injEq, Addr.mk.injEq] at e1
  obtain ⟨⟨rfl, _⟩, rfl, rfl⟩ := e1
  refine ⟨vs.set i (.slice ao k c), ⟨fun u hu => ?_, g, cap, cur.setIfInBounds i (.slice ao k c), by rw [List.length_set], e2, heap_setCell_same w g i _ _ _ e3, by rw [List.length_set]; exact e4, e5, by simp [e6], ?_, fun u hu => ?_⟩, ⟨by rw [List.length_set, List.length_set, h2.len], fun j hj => ?_⟩⟩
  · rcases List.mem_or_eq_of_mem_set hu with hu | rfl
    · exact h1.sl u hu
    · exact ⟨_, _, _, rfl⟩
  · rw [List.length_set, Array.toList_setIfInBounds, List.take_set, e7]
  · rw [Array.toList_setIfInBounds] at hu
    rcases List.mem_or_eq_of_mem_set hu with hu | rfl
    · exact e8 u hu
    · exact ⟨_, _, _, rfl⟩
  · rw [List.length_set] at hj
    by_cases hij : i = j
    · subst hij
      refine ⟨ao, k, c, by rw [List.getElem?_set_self (by rw [h2.len]; exact hi)], ?_⟩
      rw [List.getD_eq_getElem?_getD, List.getElem?_set_self hi]
      exact hst2 hs
    · obtain ⟨ao', n', c', k1, k2⟩ := h2.at_ j hj
      refine ⟨ao', n', c', by rw [List.getElem?_set_ne hij]; exact k1, ?_⟩
      rw [List.getD_eq_getElem?_getD, List.getElem?_set_ne hij, ← List.getD_eq_getElem?_getD]
      exact hst2 k2
theorem Nr.free {w : World} {B g n cap : Nat} {xss : List (List Nat)} (h : Nr B w (.slice (some ⟨g, 0, none⟩) n cap) xss) (i : Nat) : w.frozen? ⟨g, i, none⟩ = false := by
  obtain ⟨vs, h1, _⟩ := h
  obtain ⟨g', cap', cur, e1, e2, e3, _⟩ := h1.row
  simp only [Value.slice.injEq, Option.some.injEq, Addr.mk.injEq] at e1
  obtain ⟨⟨rfl, _⟩, _⟩ := e1
  exact frozen_of_row w g i _ _ e3
end Go.Proofs.YtmfpnlhpdjabeaaGreatDoor

/- package decimal: squares, split. -/
namespace Go.Proofs.YtmfpnlhpdjabeaaGreatDoor
open Go.RowKit M

/-- The squares. -/
def pws (m : Nat) : List (List Nat) := (List.range m).map fun k => toL (pw k)
theorem pws_len (m : Nat) : (pws m).length = m := by simp [pws]
theorem pws_get {m k : Nat} (h : k < m) : (pws m).getD k [] = toL (pw k) := by
  unfold pws
  rw [List.getD_eq_getElem?_getD, List.getElem?_map, List.getElem?_range h]
  rfl
theorem pws_succ (m : Nat) : pws m ++ [toL (pw m)] = pws (m + 1) := by
  unfold pws
  rw [List.range_succ, List.map_append]
  rfl
theorem Sl.len_le {N n cap : Nat} {w : World} {ao : Option Addr} {k : Nat} (h : Sl N w ao n cap (toL (pw k))) : n ≤ 2 ^ k := h.ln (pw_bp k)

set_option maxRecDepth 100000 in
set_option maxHeartbeats 2000000 in
theorem squares_k {w : World} {c : Nat} (hc : c ≤ 1073741824) :
    Calls Tryz.prog 57 #[.int .i64 (c : Int)] w fun e w' => ∃ v m, e = .returned v ∧ 1 ≤ m ∧ c ≤ 2 ^ m ∧ (2 ^ m < 2 * c ∨ m = 1) ∧ Nr w.heap.size w' v (pws m) ∧ Below w.heap.size w w' := by
  obtain ⟨B, hB⟩ : ∃ B, B = w.heap.size := ⟨_, rfl⟩
  have HB : Hid (w.heap.size = B) := hB.symm
  rw [← hB]
  clear hB
  go_enter Tryz.func57, Tryz.ntmps57
  go_wp2_with fail
  refine (of_kw w 1000000000 (by omega)).mono ?_
  rintro e w1 ⟨ao, n, cap, rfl, s1, l1, b1⟩
  rw [HB.out] at b1
  have bl : Below w1.heap.size w1 (w1.alloc (.cells #[.slice ao n cap] 23)) := (Below.refl _ _).alloc (Nat.le_refl _) _
  have hgB : B ≤ w1.heap.size := by rw [← HB.out]; have := b1.size; rwa [HB.out] at this ⊢
  have N0 : Nr B (w1.alloc (.cells #[.slice ao n cap] 23)) (.slice (some ⟨w1.heap.size, 0, none⟩) 1 1) (pws 1) := by
    refine ⟨[.slice ao n cap], ⟨fun u hu => ?_, w1.heap.size, 1, _, rfl, hgB, heap_alloc_new _ _, by simp, by unfold maxLen; omega, rfl, rfl, fun u hu => ?_⟩, ?_⟩
    · rw [List.mem_singleton.1 hu]; exact ⟨_, _, _, rfl⟩
    · rw [List.mem_singleton.1 hu]; exact ⟨_, _, _, rfl⟩
    · have := Ns.one (s1.later bl)
      rw [← pw_zero] at this
      exact this
  have B0 : Below B w (w1.alloc (.cells #[.slice ao n cap] 23)) := b1.trans (bl.mono hgB)
  have hg0 : B ≤ (w1.alloc (.cells #[.slice ao n cap] 23)).heap.size := Nat.le_trans hgB bl.size
  go_wp2
  generalize w1.alloc (.cells #[.slice ao n cap] 23) = w2 at *
  generalize w1.heap.size = g1 at *
  clear s1 b1 bl hgB
  go_loopw [3, 4] (fun pv rv wr => ∃ m r : Nat, rv = .int .i64 (r : Int) ∧ r ≤ 2147483648 ∧ 2 ≤ r ∧ Hid (r = 2 ^ m) ∧ Hid (1 ≤ m) ∧ Hid (2 ^ m < 2 * c ∨ m = 1) ∧ Nr B wr pv (pws m) ∧ Below B w wr ∧ B ≤ wr.heap.size) (fun _ rv _ => 2147483649 - (intOf rv).toNat)
  case atStart => exact ⟨1, 2, rfl, by omega, by omega, rfl, Nat.le_refl _, .inr rfl, N0, B0, hg0⟩
  case round =>
    clear N0 B0 hg0
    obtain ⟨m, r, rfl, hr, hr2, HR, HM, HC, hN, hBl, hgB⟩ := hrel
    by_cases hlt : r < c
    · obtain ⟨j, rfl⟩ : ∃ j, m = j + 1 := ⟨m - 1, by have := HM.out; omega⟩
      obtain ⟨g, cap, rfl, hle, hBg, hcell⟩ := hN.inv
      obtain ⟨ao, n, cp, hc1, s1⟩ := hcell j (by rw [pws_len]; omega)
      rw [pws_get (by omega)] at s1
      rw [pws_len] at hle
      have hpl := pws_len (j + 1)
      have hn : n ≤ 1073741824 := by
        have h1 := s1.len_le
        have h2 := HR.out
        rw [Nat.pow_succ] at h2
        omega
      have hj : j ≤ 1073741824 := by
        have h1 := le_two j
        have h2 := HR.out
        rw [Nat.pow_succ] at h2
        omega
      have HM2 : Hid (pws (j + 1) ++ [toL (pw j * pw j)] = pws (j + 1 + 1)) := by
        show _ = _
        rw [← pw_succ, pws_succ]
      clear hcell
      rw [hpl] at hN
      go_wp2_with fail
      refine (mul_k s1 s1 1073741824 1073741824 hn hn (by omega) (by omega)).mono ?_
      rintro e w3 ⟨ao3, n3, cap3, rfl, s3, l3, b3⟩
      rw [val_toL] at s3
      have hN3 := hN.later b3
      have hB3 := hBl.trans (b3.mono hgB)
      have hg3 := Nat.le_trans hgB b3.size
      clear hN s1
      go_wp2_with (at_builtin; refine wp_appN rfl _ _ rfl [.slice ao3 n3 cap3] hN3 (Ns.one s3) rfl rfl (by rw [pws_len]; simp; omega) hg3 ?_; intro v' w5 hv hb5 _)
      go_roundw
      case rel => exact ⟨j + 1 + 1, r * 2, by go_num, by omega, by omega, by show _ = _; rw [HR.out, ← Nat.pow_succ], by show 1 ≤ j + 1 + 1; omega, .inl (by rw [Nat.pow_succ, ← HR.out]; omega), by rw [← HM2.out]; exact hv, hB3.trans hb5, Nat.le_trans hg3 hb5.size⟩
      case measure => simp [intOf]; omega
    · have HE : Hid (c ≤ 2 ^ m) := by show c ≤ 2 ^ m; rw [← HR.out]; omega
      go_wp2
      go_ret
      exact ⟨_, m, rfl, HM.out, HE.out, HC.out, hN, hBl⟩
end Go.Proofs.YtmfpnlhpdjabeaaGreatDoor

/- package decimal: split, cut. -/
namespace Go.Proofs.YtmfpnlhpdjabeaaGreatDoor
open Go.RowKit M

theorem sp_take (p : Nat) (ns : List Nat) (k : Nat) (hk : k < ns.length) : (sp p (ns.take (k + 1))).map toL = (sp p (ns.take k)).map toL ++ [toL (ns.getD k 0 % p), toL (ns.getD k 0 / p)] := by
  rw [List.take_add_one, List.getElem?_eq_getElem hk, List.getD_eq_getElem?_getD, List.getElem?_eq_getElem hk, sp_append, List.map_append]
  rfl
theorem getD_val {xss : List (List Nat)} {ns : List Nat} (h : xss.map val = ns) (k : Nat) : val (xss.getD k []) = ns.getD k 0 := by
  subst h
  rw [List.getD_eq_getElem?_getD, List.getD_eq_getElem?_getD, List.getElem?_map]
  by_cases hk : k < xss.length
  · rw [List.getElem?_eq_getElem hk]; rfl
  · rw [List.getElem?_eq_none (by omega)]; rfl

set_option maxRecDepth 100000 in
set_option maxHeartbeats 2000000 in
theorem split_k {w : World} {B0 : Nat} {v : Value} {xss : List (List Nat)} {ns : List Nat} {po : Option Addr} {pn pc p K : Nat} (h : Nr B0 w v xss) (hp : Sl w.heap.size w po pn pc (toL p)) (hns : xss.map val = ns) (hl : xss.length ≤ 268435456) (hx : ∀ i, i < xss.length → (xss.getD i []).length ≤ K) (hpn : pn ≤ K) (hK : K ≤ 274877906944) (hp0 : p ≠ 0) :
    Calls Tryz.prog 66 #[v, .slice po pn pc] w fun e w' => ∃ v', e = .returned v' ∧ Nr w.heap.size w' v' ((sp p ns).map toL) ∧ Below w.heap.size w w' := by
  obtain ⟨g, cap, rfl, hle, hBg, hcell⟩ := h.inv
  have hnl : ns.length = xss.length := by rw [← hns, List.length_map]
  obtain ⟨m, hm⟩ : ∃ m, m = xss.length := ⟨_, rfl⟩
  have HN : Hid (ns.length = m) := by show _ = m; rw [hm, hnl]
  have HX : Hid (∀ i, i < m → (xss.getD i []).length ≤ K) := by rw [hm]; exact hx
  have HV := fun i => getD_val hns i
  have HP : Hid (val (toL p) ≠ 0) := by show val (toL p) ≠ 0; rw [val_toL]; exact hp0
  have HPV : Hid (val (toL p) = p) := val_toL p
  rw [← hm] at hl hcell hle ⊢
  clear hm hx hp0 hnl
  obtain ⟨B, hB⟩ : ∃ B, B = w.heap.size := ⟨_, rfl⟩
  have HB : Hid (w.heap.size = B) := hB.symm
  have hmk := make_runS 0 (2 * m) (by omega) (by omega) w
  have N0 := Nr.made w 0 (2 * m) (by omega) (by omega)
  have b0 : Below w.heap.size w (w.alloc (.cells (List.replicate (2 * m) (Value.slice none 0 0)).toArray 23)) := (Below.refl _ _).alloc (Nat.le_refl _) _
  have g0 := b0.size
  rw [← hB] at N0 b0 hmk g0 ⊢
  have hcast : (2 : Int) * (m : Int) = ((2 * m : Nat) : Int) := by omega
  have hmk2 : (Instr.makeSlice 58 (.int .i64 0) (.int .i64 (2 * (m : Int)))).run Tryz.prog w = .ok (.slice (some ⟨B, 0, none⟩) 0 (2 * m)) (w.alloc (.cells (List.replicate (2 * m) (Value.slice none 0 0)).toArray 23)) := by
    rw [hcast]
    exact hmk
  clear hB hmk hcast
  have h1 : Nr B0 w (.slice (some ⟨g, 0, none⟩) m cap) xss ∧ True := by
    refine ⟨?_, trivial⟩
    have := HN.out
    rw [← this, ← hns, List.length_map]
    exact h
  have hcw := h1.1
  clear h h1
  generalize w.alloc (.cells (List.replicate (2 * m) (Value.slice none 0 0)).toArray 23) = w2 at *
  go_enter Tryz.func66, Tryz.ntmps66
  go_wp2
  go_loopw [5, 17] (fun hv iv wr => ∃ k : Nat, iv = .int .i64 (k : Int) ∧ k ≤ m ∧ Nr B wr hv ((sp p (ns.take k)).map toL) ∧ Below B w wr ∧ B ≤ wr.heap.size) (fun _ iv _ => m - (intOf iv).toNat)
  case atStart => exact ⟨0, rfl, Nat.zero_le _, N0, b0, g0⟩
  case round =>
    clear N0 b0 g0
    obtain ⟨k, rfl, hk, hN, hBl, hgB⟩ := hrel
    by_cases hlt : k < m
    · have hbw : Below w.heap.size w wr := by rw [HB.out]; exact hBl
      obtain ⟨ao, n, cp, hc1, s1⟩ := hcell k hlt
      have hc2 : wr.cell? ⟨g, k, none⟩ = some (.slice ao n cp) := by
        rw [hbw.cell (p := ⟨g, k, none⟩) (by have := (hcw.lt g rfl).2; exact this)]
        exact hc1
      have s2 := s1.later hbw
      have p2 := hp.later hbw
      have hn : n ≤ K := by rw [← s1.len]; exact HX.out k hlt
      have HS : Hid ((sp p (ns.take (k + 1))).map toL = (sp p (ns.take k)).map toL ++ [toL (ns.getD k 0 % p), toL (ns.getD k 0 / p)]) := sp_take p ns k (by rw [HN.out]; exact hlt)
      have HL : Hid (((sp p (ns.take k)).map toL).length + 2 ≤ 1099511627776) := by
        show _ ≤ _
        rw [List.length_map, sp_len, List.length_take]
        omega
      clear hc1 s1
      go_wp2_with fail
      refine (divMod_k s2 p2 K hn hpn hK HP.out).mono ?_
      rintro e w3 ⟨qo, qn, qc, ro, rn, rc, rfl, sq, sr, lq, lr, b3⟩
      rw [HPV.out, HV k] at sq sr
      have hN3 := hN.later b3
      have hB3 := hBl.trans (b3.mono hgB)
      have hg3 := Nat.le_trans hgB b3.size
      clear hN s2 p2 hc2
      go_wp2_with (at_builtin; refine wp_appN rfl _ _ rfl [.slice ro rn rc, .slice qo qn qc] hN3 ((Ns.one sr).append (Ns.one sq)) rfl rfl HL.out hg3 ?_; intro v' w5 hv hb5 _)
      go_roundw
      case rel => exact ⟨k + 1, by go_num, by omega, by rw [HS.out]; exact hv, hB3.trans hb5, Nat.le_trans hg3 hb5.size⟩
      case measure => simp [intOf]; omega
    · obtain rfl : k = m := by omega
      have HE : Hid (ns.take k = ns) := by show _ = _; rw [← HN.out, List.take_length]
      go_wp2
      go_ret
      exact ⟨_, rfl, by rw [← HE.out]; exact hN, hBl⟩
end Go.Proofs.YtmfpnlhpdjabeaaGreatDoor

/- package decimal: cut. -/
namespace Go.Proofs.YtmfpnlhpdjabeaaGreatDoor
open Go.RowKit M

/-- A row of m that is filled up to place k. -/
def upto (f : Nat → List Nat) (m k : Nat) : List (List Nat) := (List.range m).map fun i => if i < k then f i else []
theorem upto_len (f : Nat → List Nat) (m k : Nat) : (upto f m k).length = m := by simp [upto]
theorem upto_zero (f : Nat → List Nat) (m : Nat) : upto f m 0 = List.replicate m [] := by
  apply List.ext_getElem
  · simp [upto]
  · intro i h1 h2; simp [upto]
theorem upto_set (f : Nat → List Nat) {m k : Nat} : (upto f m k).set k (f k) = upto f m (k + 1) := by
  apply List.ext_getElem
  · simp [upto]
  · intro i h1 h2
    rw [List.getElem_set]
    by_cases hik : k = i
    · subst hik; simp [upto]
    · rw [if_neg hik]
      simp only [upto, List.getElem_map, List.getElem_range]
      by_cases hl : i < k
      · rw [if_pos hl, if_pos (by omega)]
      · rw [if_neg hl, if_neg (by omega)]
theorem upto_full (f : Nat → List Nat) (m : Nat) : upto f m m = (List.range m).map f := by
  apply List.map_congr_left
  intro i hi
  rw [if_pos (List.mem_range.1 hi)]
theorem tx_part (l : List Nat) (s e : Nat) : (tx l).extract s e = tx ((l.take e).drop s) := by
  unfold tx
  rw [ByteArray.extract_mk]
  congr 1
  apply Array.ext'
  simp [List.map_take, List.map_drop, List.drop_take]
theorem ck_upto (l : List Nat) : upto (fun i => toL (cki l i)) ((l.length + 8) / 9) ((l.length + 8) / 9) = (ck l).map toL := by
  rw [upto_full, ck, List.map_map]
  rfl

theorem Nr.cell {w : World} {B g n cap : Nat} {xss : List (List Nat)} (h : Nr B w (.slice (some ⟨g, 0, none⟩) n cap) xss) {i : Nat} (hi : i < xss.length) : ∃ ao n c, w.cell? ⟨g, i, none⟩ = some (.slice ao n c) ∧ Sl w.heap.size w ao n c (xss.getD i []) := by
  obtain ⟨g', cap', e1, _, _, hc⟩ := h.inv
  simp only [Value.slice.injEq, Option.some.injEq, Addr.mk.injEq] at e1
  obtain ⟨⟨rfl, _⟩, _⟩ := e1
  exact hc i hi

set_option maxRecDepth 100000 in
set_option maxHeartbeats 2000000 in
theorem dcut_k {w : World} {l : List Nat} (hd : Dig l) (hlen : l.length ≤ 1073741824) :
    Calls Tryz.prog 56 #[.string (tx l)] w fun e w' => ∃ v', e = .returned v' ∧ Nr w.heap.size w' v' ((ck l).map toL) ∧ Below w.heap.size w w' := by
  have hsz := tx_size l
  obtain ⟨m, hm⟩ : ∃ m, m = (l.length + 8) / 9 := ⟨_, rfl⟩
  have hm1 : m ≤ 268435456 := by omega
  obtain ⟨B, hB⟩ : ∃ B, B = w.heap.size := ⟨_, rfl⟩
  have HB : Hid (w.heap.size = B) := hB.symm
  have hmk := make_runS m m (by omega) (by omega) w
  have N0 := Nr.made w m m (by omega) (by omega)
  have b0 : Below w.heap.size w (w.alloc (.cells (List.replicate m (Value.slice none 0 0)).toArray 23)) := (Below.refl _ _).alloc (Nat.le_refl _) _
  have g0 := b0.size
  have HF : Hid (upto (fun i => toL (cki l i)) m m = (ck l).map toL) := by
    show _ = _
    rw [hm]
    exact ck_upto l
  rw [← upto_zero (fun i => toL (cki l i))] at N0
  rw [← hB] at N0 b0 hmk g0 ⊢
  have hq : Int.tdiv ((l.length : Int) + 9 - 1) 9 = (m : Int) := by
    rw [Int.tdiv_eq_ediv_of_nonneg (by omega)]
    omega
  have HM : Hid (m = (l.length + 8) / 9) := hm
  obtain ⟨n, hn⟩ : ∃ n, n = l.length := ⟨_, rfl⟩
  have HN : Hid (l.length = n) := hn.symm
  have HMN : Hid (∀ i, i < m → 9 * i < n) := by show ∀ i, i < m → 9 * i < n; omega
  rw [← hn] at hsz hq hlen
  clear hB hm hn
  generalize w.alloc (.cells (List.replicate m (Value.slice none 0 0)).toArray 23) = w2 at *
  have hEx := tx_part l
  obtain ⟨T, hT⟩ : ∃ T, T = tx l := ⟨_, rfl⟩
  rw [← hT] at hsz hEx ⊢
  have HX : Hid (∀ s e, T.extract s e = tx ((l.take e).drop s)) := hEx
  clear hT hEx
  go_enter Tryz.func56, Tryz.ntmps56
  go_wp2
  go_loopw [15] (fun iv wr => ∃ k : Nat, iv = .int .i64 (k : Int) ∧ k ≤ m ∧ Nr B wr (.slice (some ⟨B, 0, none⟩) m m) (upto (fun i => toL (cki l i)) m k) ∧ Below B w wr ∧ B ≤ wr.heap.size) (fun iv _ => m - (intOf iv).toNat)
  case atStart => exact ⟨0, rfl, Nat.zero_le _, N0, b0, g0⟩
  case round =>
    clear N0 b0 g0
    obtain ⟨k, rfl, hk, hN, hBl, hgB⟩ := hrel
    by_cases hlt : k < m
    · have hkn := HMN.out k hlt
      obtain ⟨e, he⟩ : ∃ e, e = n - 9 * k := ⟨_, rfl⟩
      have he1 : (n : Int) - (k : Int) * 9 = (e : Int) := by omega
      obtain ⟨s, hs⟩ : ∃ s, s = e - 9 := ⟨_, rfl⟩
      have hs1 : max (0 : Int) ((e : Int) - 9) = (s : Int) := by omega
      have hse : s ≤ e := by omega
      have hen : e ≤ n := by omega
      have hx := HX.out s e
      have HP := fun u => partValue_k (w := u) (l := (l.take e).drop s) (fun x hx => hd x (List.mem_of_mem_take (List.mem_of_mem_drop hx))) (by rw [List.length_drop, List.length_take]; omega)
      have HC : Hid (dnum ((l.take e).drop s) = cki l k) := by
        show _ = _
        unfold cki
        rw [hs, he, HN.out]
      have HU : Hid (cki l k < 18446744073709551616) := by
        have := cki_lt hd k
        rw [pw_zero] at this
        show _ < _
        omega
      clear he hs
      generalize tx ((l.take e).drop s) = T1 at *
      go_wp2_with fail
      refine (HP _).mono ?_
      rintro e2 w3 ⟨rfl, rfl⟩
      rw [HC.out]
      clear HP
      go_wp2_with fail
      refine (of_kw wr (cki l k) HU.out).mono ?_
      rintro e2 w3 ⟨ao3, n3, cap3, rfl, s3, l3, b3⟩
      have hN3 := hN.later b3
      have hB3 := hBl.trans (b3.mono hgB)
      have hg3 := Nat.le_trans hgB b3.size
      have hul := upto_len (fun i => toL (cki l i)) m k
      have hfz := hN3.free k
      obtain ⟨ao4, n4, c4, hc4, _⟩ := hN3.cell (i := k) (by rw [hul]; exact hlt)
      have hN4 := hN3.set (i := k) (by rw [hul]; exact hlt) s3
      rw [upto_set (fun i => toL (cki l i))] at hN4
      have hB4 := hB3.trans (((Fr.refl B w3).set k (.slice ao3 n3 cap3)).below (Nat.le_refl _))
      have hg4 : B ≤ (w3.setCell ⟨B, k, none⟩ (.slice ao3 n3 cap3)).heap.size := by rw [((Fr.refl B w3).set k (.slice ao3 n3 cap3)).size]; exact hg3
      clear hN hN3 s3 hul
      go_wp2
      go_roundw
      case rel => exact ⟨k + 1, by go_num, by omega, hN4, hB4, hg4⟩
      case measure => simp [intOf]; omega
    · obtain rfl : k = m := by omega
      go_wp2
      go_ret
      exact ⟨_, rfl, by rw [← HF.out]; exact hN, hBl⟩
end Go.Proofs.YtmfpnlhpdjabeaaGreatDoor
