/- Plain facts: Knuth's guess, and the long division. No Go text. -/
import Derived.Test.YthcclkjccaoniaaMb
namespace Go.Proofs.Ythcclkjccaoniaa.M

/-- All that the guess leans on: the divisor's two last limbs d1, d0, the dividend's three last ones a2, a1, a0 (hd: the first two of them); Q: how often it can be taken. -/
structure Gs (u v p lu lv a0 hd d0 d1 Q : Nat) : Prop where
  hu : u = lu + p * (a0 + 4294967296 * hd)
  hlu : lu < p
  hv : v = lv + p * (d0 + 4294967296 * d1)
  hlv : lv < p
  ha0 : a0 < 4294967296
  hd0 : d0 < 4294967296
  hd1 : 2147483648 ≤ d1
  hd1b : d1 < 4294967296
  uv : u < 4294967296 * v
  q1 : Q * v ≤ u
  q2 : u < (Q + 1) * v

section
variable {u v p lu lv a0 hd d0 d1 Q : Nat}

theorem Gs.qlt (h : Gs u v p lu lv a0 hd d0 d1 Q) : Q < 4294967296 := by
  apply Nat.lt_of_not_le; intro hle
  have := Nat.mul_le_mul_right v hle
  have := h.q1; have := h.uv
  omega
theorem Gs.over (h : Gs u v p lu lv a0 hd d0 d1 Q) {q : Nat} (hq : a0 + 4294967296 * hd < q * (d0 + 4294967296 * d1)) : Q < q := by
  apply Nat.lt_of_not_le; intro hle
  have h1 : a0 + 4294967296 * hd + 1 ≤ Q * (d0 + 4294967296 * d1) := Nat.le_trans hq (Nat.mul_le_mul_right _ hle)
  have h2 := Nat.mul_le_mul_left p h1
  have h3 : Q * v = Q * lv + p * (Q * (d0 + 4294967296 * d1)) := by rw [h.hv, Nat.mul_add, Nat.mul_left_comm]
  rw [Nat.mul_add p _ 1, Nat.mul_one] at h2
  have := h.hu; have := h.hlu; have := h.q1
  omega
theorem Gs.exit (h : Gs u v p lu lv a0 hd d0 d1 Q) {q : Nat} (hq : q < 4294967296) (hle : q * (d0 + 4294967296 * d1) ≤ a0 + 4294967296 * hd) : q ≤ Q + 1 := by
  apply Nat.le_of_not_lt; intro hlt
  have h1 := Nat.mul_le_mul_right v (show Q + 1 + 1 ≤ q from hlt)
  rw [Nat.add_mul (Q + 1) 1 v, Nat.one_mul] at h1
  have h3 : q * v = q * lv + p * (q * (d0 + 4294967296 * d1)) := by rw [h.hv, Nat.mul_add, Nat.mul_left_comm]
  have h4 := Nat.mul_le_mul_left p hle
  have h5 : q * lv ≤ 4294967296 * p := Nat.mul_le_mul (by omega) (by have := h.hlv; omega)
  have hd1 := h.hd1
  have h6 : p * 4294967296 ≤ p * (d0 + 4294967296 * d1) := Nat.mul_le_mul_left p (by omega)
  have := h.hu; have := h.hv; have := h.q2
  omega
theorem Gs.top (h : Gs u v p lu lv a0 hd d0 d1 Q) : hd < 4294967296 * (d1 + 1) := by
  apply Nat.lt_of_not_le; intro hle
  have h1 : p * (4294967296 * (4294967296 * (d1 + 1))) ≤ p * (a0 + 4294967296 * hd) := Nat.mul_le_mul_left p (by omega)
  have h2 : p * (d0 + 4294967296 * d1 + 1) ≤ p * (4294967296 * (d1 + 1)) := Nat.mul_le_mul_left p (by have := h.hd0; omega)
  rw [Nat.mul_add p _ 1, Nat.mul_one] at h2
  rw [Nat.mul_left_comm p] at h1
  have := h.hu; have := h.hv; have := h.uv; have := h.hlv
  omega
theorem Gs.first (h : Gs u v p lu lv a0 hd d0 d1 Q) : Q ≤ hd / d1 := by
  have hd1 := h.hd1
  rw [Nat.le_div_iff_mul_le (by omega)]
  apply Nat.le_of_not_lt; intro hlt
  -- (hd + 1) <= Q * d1
  have h1 : p * (4294967296 * (hd + 1)) ≤ p * (4294967296 * (Q * d1)) := Nat.mul_le_mul_left p (Nat.mul_le_mul_left _ hlt)
  have h2 : p * (a0 + 4294967296 * hd + 1) ≤ p * (4294967296 * (hd + 1)) := Nat.mul_le_mul_left p (by have := h.ha0; omega)
  rw [Nat.mul_add p _ 1, Nat.mul_one] at h2
  have h3 : Q * v = Q * lv + (p * (Q * d0) + p * (4294967296 * (Q * d1))) := by
    rw [h.hv, Nat.mul_add Q, Nat.mul_left_comm Q p, Nat.mul_add Q, Nat.mul_add p, Nat.mul_left_comm Q 4294967296]
  have := h.hu; have := h.hlu; have := h.q1
  omega
theorem Gs.first_le (h : Gs u v p lu lv a0 hd d0 d1 Q) : hd / d1 ≤ 4294967297 := by
  have ht := h.top
  have hd1 := h.hd1
  have : hd / d1 < 4294967298 := by
    rw [Nat.div_lt_iff_lt_mul (by omega)]
    omega
  omega

/-- What holds at the loop's head. -/
structure GsInv (hd d1 Q q r : Nat) : Prop where
  eq : q * d1 + r = hd
  ge : Q ≤ q
  le : q ≤ 4294967297
  hr : r < 4294967296
theorem Gs.start (h : Gs u v p lu lv a0 hd d0 d1 Q) : GsInv hd d1 Q (hd / d1) (hd % d1) := by
  have hd1 := h.hd1
  have hm := Nat.mod_lt hd (show d1 > 0 from by omega)
  have hb := h.hd1b
  exact ⟨by rw [Nat.mul_comm]; exact Nat.div_add_mod hd d1, h.first, h.first_le, by omega⟩
/-- Too great: one less. -/
theorem Gs.less (h : Gs u v p lu lv a0 hd d0 d1 Q) {q r : Nat} (hi : GsInv hd d1 Q q r) (hq : 4294967296 ≤ q ∨ r * 4294967296 + a0 < q * d0) :
    Q < q ∧ (q - 1) * d1 + (r + d1) = hd := by
  have h1 : Q < q := by
    rcases hq with hq | hq
    · have := h.qlt; omega
    · apply h.over
      rw [Nat.mul_add, Nat.mul_left_comm]
      have := hi.eq
      omega
  refine ⟨h1, ?_⟩
  obtain ⟨q', rfl⟩ : ∃ q', q = q' + 1 := ⟨q - 1, by omega⟩
  have := hi.eq
  rw [Nat.add_mul, Nat.one_mul] at this
  rw [Nat.add_sub_cancel]
  omega
theorem Gs.fine (h : Gs u v p lu lv a0 hd d0 d1 Q) {q r : Nat} (he : q * d1 + r = hd) (hq : q < 4294967296) (hle : q * d0 ≤ r * 4294967296 + a0) : q ≤ Q + 1 := by
  apply h.exit hq
  rw [Nat.mul_add, Nat.mul_left_comm]
  omega
theorem Gs.broke (h : Gs u v p lu lv a0 hd d0 d1 Q) {q r : Nat} (he : q * d1 + r = hd) (hr : 4294967296 ≤ r) : q < 4294967296 ∧ q ≤ Q + 1 := by
  have h1 : q < 4294967296 := by
    apply Nat.lt_of_not_le; intro hle
    have := Nat.mul_le_mul_right d1 hle
    have := h.top
    omega
  refine ⟨h1, h.fine he h1 ?_⟩
  have h0 := h.hd0
  have := Nat.mul_le_mul (show q ≤ 4294967296 from by omega) (show d0 ≤ 4294967296 from by omega)
  omega
end

/-- The two numbers, as the limbs give them. -/
theorem Gs.mk' {ls ds : List Nat} {n : Nat} (hl : Lim ls) (hd : Lim ds) (hll : ls.length = n + 3) (hdl : ds.length = n + 2) (htop : 2147483648 ≤ ds.getD (n + 1) 0) (huv : val ls < 4294967296 * val ds) :
    Gs (val ls) (val ds) (Bp n) (val (ls.take n)) (val (ds.take n)) (ls.getD n 0) (ls.getD (n + 1) 0 + 4294967296 * ls.getD (n + 2) 0) (ds.getD n 0) (ds.getD (n + 1) 0) (val ls / val ds) := by
  have hv : 0 < val ds := by omega
  refine ⟨?_, ?_, ?_, ?_, hl.getD _, hd.getD _, htop, hd.getD _, huv, Nat.div_mul_le_self _ _, ?_⟩
  · rw [val_take_drop ls n (by omega), val_drop (by omega), val_drop (by omega), val_drop (by omega), List.drop_of_length_le (by omega)]
    simp [val]
  · have := val_lt (hl.take n); rwa [List.length_take, Nat.min_eq_left (by omega)] at this
  · rw [val_take_drop ds n (by omega), val_drop (by omega), val_drop (by omega), List.drop_of_length_le (by omega)]
    simp [val]
  · have := val_lt (hd.take n); rwa [List.length_take, Nat.min_eq_left (by omega)] at this
  · have := Nat.lt_div_mul_add hv (a := val ls); rw [Nat.add_mul, Nat.one_mul]; exact this

/-- The guess was right, or 1 too great and a divisor is added again. -/
theorem step_yes {u v q t P b : Nat} (h1 : u / v ≤ q) (h2 : q ≤ u / v + 1) (hv : 0 < v) (he : t + q * v = u + P * b) (hb : b = 0) : q = u / v ∧ t = u % v := by
  subst hb
  have hm := Nat.div_add_mod u v
  have hml := Nat.mod_lt u hv
  rw [Nat.mul_comm] at hm
  rcases (show q = u / v ∨ q = u / v + 1 from by omega) with rfl | rfl
  · exact ⟨rfl, by omega⟩
  · rw [Nat.add_mul, Nat.one_mul] at he; omega
theorem step_no {u v q t t2 P b c : Nat} (h1 : u / v ≤ q) (h2 : q ≤ u / v + 1) (hv : 0 < v) (he : t + q * v = u + P * b) (ht : t < P) (hb : b = 1) (ht2 : t2 < P) (hc : c ≤ 1) (ha : t2 + P * c = t + v) :
    1 ≤ q ∧ q - 1 = u / v ∧ t2 = u % v := by
  subst hb
  have hm := Nat.div_add_mod u v
  have hml := Nat.mod_lt u hv
  rw [Nat.mul_comm] at hm
  generalize u / v = Q at *
  generalize u % v = R at *
  rcases (show q = Q ∨ q = Q + 1 from by omega) with rfl | rfl
  · omega
  · rw [Nat.add_mul, Nat.one_mul] at he
    rcases (show c = 0 ∨ c = 1 from by omega) with rfl | rfl
    · exact ⟨by omega, by omega, by omega⟩
    · exact ⟨by omega, by omega, by omega⟩

theorem val_rest_zero {xs : List Nat} {n V : Nat} (h : val xs < V) (hV : V ≤ Bp n) (hn : n ≤ xs.length) : val (xs.drop n) = 0 := by
  have := val_take_drop xs n hn
  rcases Nat.eq_zero_or_pos (val (xs.drop n)) with h0 | h0
  · exact h0
  · have := Nat.mul_le_mul_left (Bp n) h0
    omega

/-- Long division, from the last limb on: the quotient's limbs from j on are done. n: the divisor's limbs, V its value; m: the dividend's limbs. -/
structure LongInv (m n U V : Nat) (L q : List Nat) (j : Nat) : Prop where
  len : L.length = m + 1
  lim : Lim L
  qlen : q.length = m - n + 1
  qlim : Lim q
  low : val (L.drop j) < V
  eq : U = val L + val (q.drop j) * (Bp j * V)
theorem LongInv.start {m n U V : Nat} {L : List Nat} (hl : L.length = m + 1) (hm : Lim L) (hu : val L = U) (hn : n ≤ m) (hlow : U < Bp (m - n + 1) * V) : LongInv m n U V L (List.replicate (m - n + 1) 0) (m - n + 1) := by
  refine ⟨hl, hm, by simp, Lim.rep _, ?_, by rw [List.drop_of_length_le (l := List.replicate (m - n + 1) 0) (by simp)]; simp [val, hu]⟩
  apply Nat.lt_of_not_le; intro hle
  have := Nat.mul_le_mul_left (Bp (m - n + 1)) hle
  have := val_take_drop L (m - n + 1) (by omega)
  omega
theorem LongInv.seg {m n U V j : Nat} {L q : List Nat} (h : LongInv m n U V L q (j + 1)) (hV : V ≤ Bp n) (hj : j + n + 1 ≤ m + 1) :
    val ((L.drop j).take (n + 1)) = val (L.drop j) ∧ val (L.drop (j + (n + 1))) = 0 ∧ val ((L.drop j).take (n + 1)) < 4294967296 * V := by
  have hl := h.len
  have h0 : val (L.drop (j + (n + 1))) = 0 := by
    have := val_rest_zero h.low hV (by rw [List.length_drop]; omega)
    rw [List.drop_drop] at this
    rw [show j + (n + 1) = j + 1 + n from by omega]; exact this
  have h1 := val_take_drop (L.drop j) (n + 1) (by rw [List.length_drop]; omega)
  rw [List.drop_drop, h0, Nat.mul_zero, Nat.add_zero] at h1
  refine ⟨h1.symm, h0, ?_⟩
  rw [← h1, val_drop (by omega)]
  have := h.lim.getD j
  have := h.low
  omega
theorem LongInv.step {m n U V j : Nat} {L q s' : List Nat} (h : LongInv m n U V L q (j + 1)) (hV : V ≤ Bp n) (hV0 : 0 < V) (hj : j + n + 1 ≤ m + 1) (hs : s'.length = n + 1) (hsl : Lim s')
    (he : val s' = val ((L.drop j).take (n + 1)) % V) (hq : val ((L.drop j).take (n + 1)) / V < 4294967296) :
    LongInv m n U V (L.take j ++ (s' ++ L.drop (j + (n + 1)))) (q.set j (val ((L.drop j).take (n + 1)) / V)) j := by
  have hl := h.len
  obtain ⟨e1, e2, _⟩ := h.seg hV hj
  have ht : (L.take j).length = j := by rw [List.length_take]; omega
  have hd : (L.take j ++ (s' ++ L.drop (j + (n + 1)))).drop j = s' ++ L.drop (j + (n + 1)) := by
    rw [List.drop_append, ht, List.drop_of_length_le (by omega), Nat.sub_self]; simp
  have hvd : val (s' ++ L.drop (j + (n + 1))) = val s' := by rw [val_append, e2]; omega
  refine ⟨by rw [List.length_append, List.length_append, List.length_drop, ht, hs]; omega, (h.lim.take j).append (hsl.append (h.lim.drop _)), by rw [List.length_set, h.qlen], h.qlim.set j hq, ?_, ?_⟩
  · rw [hd, hvd, he]; exact Nat.mod_lt _ hV0
  · rw [val_append, hvd, ht, he, val_drop_set (by rw [h.qlen]; omega), h.eq, val_take_drop L j (by omega), ← e1]
    generalize val ((L.drop j).take (n + 1)) = W
    have hm := Nat.div_add_mod W V
    have hm2 := congrArg (Bp j * ·) hm
    simp only [Nat.mul_add] at hm2
    rw [Nat.add_mul, Bp_succ]
    have r1 : val (q.drop (j + 1)) * (4294967296 * Bp j * V) = 4294967296 * val (q.drop (j + 1)) * (Bp j * V) := by
      rw [Nat.mul_assoc 4294967296 (Bp j) V, Nat.mul_left_comm, Nat.mul_assoc]
    have r2 : W / V * (Bp j * V) = Bp j * (V * (W / V)) := by
      rw [Nat.mul_left_comm, Nat.mul_comm (W / V) V]
    rw [r1, r2]
    omega
theorem LongInv.done {m n U V : Nat} {L q : List Nat} (h : LongInv m n U V L q 0) (hV : V ≤ Bp n) (hn : n ≤ m) : val q = U / V ∧ val (L.take n) = U % V := by
  have hl := h.low
  have he := h.eq
  rw [List.drop_zero] at hl
  rw [List.drop_zero, Bp_zero, Nat.one_mul] at he
  have h0 := val_rest_zero hl hV (by rw [h.len]; omega)
  have h1 := val_take_drop L n (by rw [h.len]; omega)
  rw [h0, Nat.mul_zero, Nat.add_zero] at h1
  rw [he, ← h1, Nat.mul_comm]
  constructor
  · rw [Nat.add_mul_div_left _ _ (by omega), Nat.div_eq_of_lt hl]; omega
  · rw [Nat.add_mul_mod_self_left, Nat.mod_eq_of_lt hl]

/-- The shift that sets the last bit. -/
theorem shift_top {x l : Nat} (hx : x ≠ 0) (hl : nb x = l) (hx2 : x < 4294967296) : l ≤ 32 ∧ 1 ≤ l ∧ 2147483648 ≤ x * 2 ^ (32 - l) ∧ (x + 1) * 2 ^ (32 - l) ≤ 4294967296 := by
  have h1 := nb_lt x
  have h2 := nb_ge hx
  have h3 := nb_pos hx
  rw [hl] at h1 h2 h3
  have hl32 : l ≤ 32 := by
    apply Nat.le_of_not_lt; intro hlt
    have : 2 ^ 32 ≤ 2 ^ (l - 1) := Nat.pow_le_pow_right (by omega) (by omega)
    omega
  refine ⟨hl32, h3, ?_, ?_⟩
  · have := Nat.mul_le_mul_right (2 ^ (32 - l)) h2
    rw [← Nat.pow_add, show l - 1 + (32 - l) = 31 from by omega] at this
    exact this
  · have := Nat.mul_le_mul_right (2 ^ (32 - l)) h1
    rw [← Nat.pow_add, show l + (32 - l) = 32 from by omega] at this
    exact this

/-- The divisor, shifted: as long as it was, its last bit set. -/
theorem divisor_shift {b n d : Nat} (hb : b ≠ 0) (hn : (toL b).length = n + 1) (hd : d + nb ((toL b).getD n 0) = 32) {s : List Nat} (hs : s.length = n + 2) (hsl : Lim s) (hv : val s = b * 2 ^ d) :
    val (s.take (n + 1)) = b * 2 ^ d ∧ 2147483648 ≤ (s.take (n + 1)).getD n 0 ∧ b * 2 ^ d ≤ Bp (n + 1) ∧ Bp n * 2 ^ d ≤ b * 2 ^ d := by
  have ht := toL_last hb
  rw [hn, Nat.add_sub_cancel] at ht
  have htl := (Lim_toL b).getD n
  have e := val_take_succ (xs := toL b) (k := n) (by omega)
  rw [← hn, take_len, val_toL] at e
  have hl := val_lt ((Lim_toL b).take n)
  rw [List.length_take, Nat.min_eq_left (by omega)] at hl
  obtain ⟨g1, g2, g3, g4⟩ := shift_top ht rfl htl
  rw [show 32 - nb ((toL b).getD n 0) = d from by omega] at g3 g4
  generalize (toL b).getD n 0 = t at *
  have hlt : b * 2 ^ d < Bp (n + 1) := by
    have h1 : b < Bp n * (t + 1) := by rw [Nat.mul_add, Nat.mul_one]; omega
    have h2 : b * 2 ^ d < Bp n * (t + 1) * 2 ^ d := (Nat.mul_lt_mul_right (Nat.two_pow_pos d)).2 h1
    have h3 := Nat.mul_le_mul_left (Bp n) g4
    rw [Nat.mul_assoc] at h2
    rw [Bp_succ, Nat.mul_comm 4294967296]
    omega
  have hge : Bp n * 2147483648 ≤ b * 2 ^ d := by
    have h1 := Nat.mul_le_mul_left (Bp n) g3
    have h2 : Bp n * t * 2 ^ d ≤ b * 2 ^ d := Nat.mul_le_mul_right _ (by omega)
    rw [Nat.mul_assoc] at h2
    omega
  have h0 : val (s.drop (n + 1)) = 0 := val_rest_zero (by rw [hv]; exact hlt) (Nat.le_refl _) (by omega)
  have hvt : val (s.take (n + 1)) = b * 2 ^ d := by
    have := val_take_drop s (n + 1) (by omega)
    rw [h0, Nat.mul_zero, Nat.add_zero] at this
    omega
  refine ⟨hvt, ?_, by omega, Nat.mul_le_mul_right _ ?_⟩
  · rw [getD_take _ _ _ (by omega)]
    rw [val_take_succ (by omega)] at hvt
    have hl2 := val_lt (hsl.take n)
    rw [List.length_take, Nat.min_eq_left (by omega)] at hl2
    apply Nat.le_of_not_lt; intro hlt2
    have := Nat.mul_le_mul_left (Bp n) (show s.getD n 0 + 1 ≤ 2147483648 from hlt2)
    rw [Nat.mul_add, Nat.mul_one] at this
    omega
  · have := toL_ge hb
    rw [hn, Nat.add_sub_cancel] at this
    exact this

end Go.Proofs.Ythcclkjccaoniaa.M
