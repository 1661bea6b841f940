/- Plain facts: what holds after k rounds of the loops over limbs (sums, differences, products, shifts). No Go text. -/
import Derived.Test.YthcclkjccaoniaaM
namespace Go.Proofs.Ythcclkjccaoniaa.M

theorem getD_beyond {xs : List Nat} {k : Nat} (h : xs.length ≤ k) : xs.getD k 0 = 0 := by
  rw [List.getD_eq_getElem?_getD, List.getElem?_eq_none h]; rfl
theorem val_take_succ' (xs : List Nat) (k : Nat) : val (xs.take (k + 1)) = val (xs.take k) + Bp k * xs.getD k 0 := by
  by_cases h : k < xs.length
  · exact val_take_succ h
  · rw [getD_beyond (by omega), List.take_of_length_le (by omega), List.take_of_length_le (by omega)]; omega
theorem list_ext {xs ys : List Nat} (hl : xs.length = ys.length) (h : ∀ j, xs.getD j 0 = ys.getD j 0) : xs = ys := by
  apply List.ext_getElem hl
  intro i h1 h2
  have := h i
  rw [List.getD_eq_getElem?_getD, List.getD_eq_getElem?_getD, List.getElem?_eq_getElem h1, List.getElem?_eq_getElem h2] at this
  simpa using this
theorem drop_eq {xs ys : List Nat} {k : Nat} (hl : xs.length = ys.length) (h : ∀ j, k ≤ j → xs.getD j 0 = ys.getD j 0) : xs.drop k = ys.drop k := by
  apply list_ext (by simp [hl])
  intro j
  rw [getD_drop, getD_drop]
  exact h _ (by omega)

/-- Sums: after k rounds. -/
structure AddInv (s s' ys : List Nat) (k c : Nat) : Prop where
  len : s'.length = s.length
  lim : Lim s'
  car : c ≤ 1
  rest : ∀ j, k ≤ j → s'.getD j 0 = s.getD j 0
  sum : val (s'.take k) + Bp k * c = val (s.take k) + val (ys.take k)
theorem AddInv.start {s ys : List Nat} (h : Lim s) : AddInv s s ys 0 0 := ⟨rfl, h, by omega, fun _ _ => rfl, by simp [val, Bp]⟩
theorem AddInv.step {s s' ys : List Nat} {k c v c' : Nat} (h : AddInv s s' ys k c) (hk : k < s.length) (hy : ys.getD k 0 < 4294967296)
    (hv : v = (s'.getD k 0 + ys.getD k 0 + c) % 4294967296) (hc : c' = (s'.getD k 0 + ys.getD k 0 + c) / 4294967296) : AddInv s (s'.set k v) ys (k + 1) c' := by
  have hx := h.lim.getD k
  have hc1 := h.car
  refine ⟨by rw [List.length_set, h.len], h.lim.set k (by omega), by omega, fun j hj => by rw [getD_set_other (by omega)]; exact h.rest j (by omega), ?_⟩
  rw [val_take_set (by rw [h.len]; exact hk), val_take_succ' s, val_take_succ' ys, ← h.rest k (Nat.le_refl _), Bp_succ]
  have e : v + 4294967296 * c' = s'.getD k 0 + ys.getD k 0 + c := by omega
  have e2 := congrArg (Bp k * ·) e
  simp only [Nat.mul_add] at e2
  rw [Nat.mul_assoc, Nat.mul_left_comm 4294967296 (Bp k) c']
  have := h.sum
  omega
theorem AddInv.done {s s' ys : List Nat} {k c : Nat} (h : AddInv s s' ys k c) (hk : k ≤ s.length) (hy : ys.length ≤ k) (he : c = 0 ∨ k = s.length) :
    ∃ c, c ≤ 1 ∧ val s' + Bp s.length * c = val s + val ys := by
  have hs := h.sum
  rw [List.take_of_length_le hy] at hs
  rcases he with rfl | rfl
  · refine ⟨0, by omega, ?_⟩
    rw [val_take_drop s' k (by rw [h.len]; exact hk), val_take_drop s k hk, drop_eq h.len h.rest]
    omega
  · refine ⟨c, h.car, ?_⟩
    rw [List.take_of_length_le (by rw [h.len]; exact Nat.le_refl _), List.take_of_length_le (Nat.le_refl _)] at hs
    exact hs

/-- Differences: after k rounds. -/
structure SubInv (n : Nat) (r xs ys : List Nat) (k c : Nat) : Prop where
  len : r.length = n
  lim : Lim r
  bor : c ≤ 1
  dif : val (r.take k) + val (ys.take k) = val (xs.take k) + Bp k * c
theorem SubInv.start (n : Nat) (xs ys : List Nat) : SubInv n (List.replicate n 0) xs ys 0 0 := ⟨by simp, Lim.rep n, by omega, by simp [val]⟩
theorem SubInv.step {n : Nat} {r xs ys : List Nat} {k c v c' : Nat} (h : SubInv n r xs ys k c) (hk : k < n) (hv : v < 4294967296) (hc : c' ≤ 1)
    (he : v + ys.getD k 0 + c = xs.getD k 0 + 4294967296 * c') : SubInv n (r.set k v) xs ys (k + 1) c' := by
  refine ⟨by rw [List.length_set, h.len], h.lim.set k hv, hc, ?_⟩
  rw [val_take_set (by rw [h.len]; exact hk), val_take_succ' xs, val_take_succ' ys, Bp_succ]
  have e2 := congrArg (Bp k * ·) he
  simp only [Nat.mul_add] at e2
  rw [Nat.mul_assoc, Nat.mul_left_comm 4294967296 (Bp k) c']
  have := h.dif
  omega
theorem SubInv.done {n : Nat} {r xs ys : List Nat} {c : Nat} (h : SubInv n r xs ys n c) (hx : xs.length = n) (hy : ys.length ≤ n) (hle : val ys ≤ val xs) : val r = val xs - val ys := by
  have hs := h.dif
  have hl := val_lt h.lim
  rw [List.take_of_length_le (by rw [h.len]; exact Nat.le_refl _), List.take_of_length_le hy, List.take_of_length_le (by omega)] at hs
  rw [h.len] at hl
  have := h.bor
  rcases (show c = 0 ∨ c = 1 from by omega) with rfl | rfl <;> omega

/-- Products of a limb: after k rounds. -/
structure PrInv (s s' ys : List Nat) (q k c : Nat) : Prop where
  len : s'.length = s.length
  lim : Lim s'
  car : c < 4294967296
  rest : ∀ j, k ≤ j → s'.getD j 0 = s.getD j 0
  sum : val (s'.take k) + Bp k * c = val (s.take k) + q * val (ys.take k)
theorem PrInv.start {s ys : List Nat} (q : Nat) (h : Lim s) : PrInv s s ys q 0 0 := ⟨rfl, h, by omega, fun _ _ => rfl, by simp [val, Bp]⟩
theorem mul_bound {q y : Nat} (hq : q < 4294967296) (hy : y < 4294967296) : q * y ≤ 18446744065119617025 := by
  have : q * y ≤ 4294967295 * 4294967295 := Nat.mul_le_mul (by omega) (by omega)
  omega
theorem PrInv.step {s s' ys : List Nat} {q k c v c' : Nat} (h : PrInv s s' ys q k c) (hk : k < s.length) (hq : q < 4294967296) (hy : ys.getD k 0 < 4294967296)
    (hv : v = (c + (q * ys.getD k 0 + s'.getD k 0)) % 4294967296) (hc : c' = (c + (q * ys.getD k 0 + s'.getD k 0)) / 4294967296) : PrInv s (s'.set k v) ys q (k + 1) c' := by
  have hx := h.lim.getD k
  have hc1 := h.car
  have hm := mul_bound hq hy
  refine ⟨by rw [List.length_set, h.len], h.lim.set k (by omega), by omega, fun j hj => by rw [getD_set_other (by omega)]; exact h.rest j (by omega), ?_⟩
  rw [val_take_set (by rw [h.len]; exact hk), val_take_succ' s, val_take_succ' ys, ← h.rest k (Nat.le_refl _), Bp_succ]
  have e : v + 4294967296 * c' = c + (q * ys.getD k 0 + s'.getD k 0) := by omega
  have e2 := congrArg (Bp k * ·) e
  simp only [Nat.mul_add] at e2
  rw [Nat.mul_assoc, Nat.mul_left_comm 4294967296 (Bp k) c', Nat.mul_add q, Nat.mul_left_comm q (Bp k)]
  have := h.sum
  omega
theorem PrInv.done {s s' ys : List Nat} {q c : Nat} (h : PrInv s s' ys q s.length c) (hy : ys.length = s.length) : val s' + Bp s.length * c = val s + q * val ys := by
  have hs := h.sum
  rw [List.take_of_length_le (by rw [h.len]; exact Nat.le_refl _), List.take_of_length_le (Nat.le_refl _), List.take_of_length_le (by omega)] at hs
  exact hs

/-- A shift by p = 2^n: after k rounds. -/
structure ShInv (s' xs : List Nat) (n p k c : Nat) : Prop where
  len : s'.length = n
  lim : Lim s'
  car : c < p
  sum : val (s'.take k) + Bp k * c = val (xs.take k) * p
theorem ShInv.start {s xs : List Nat} {n p : Nat} (h : Lim s) (hn : s.length = n) (hp : 0 < p) : ShInv s xs n p 0 0 := ⟨hn, h, hp, by simp [val, Bp]⟩
theorem ShInv.step {s' xs : List Nat} {n p k c v c' : Nat} (h : ShInv s' xs n p k c) (hk : k < n) (hx : xs.getD k 0 < 4294967296)
    (hv : v = (c + xs.getD k 0 * p) % 4294967296) (hc : c' = (c + xs.getD k 0 * p) / 4294967296) : ShInv (s'.set k v) xs n p (k + 1) c' := by
  have hc1 := h.car
  have hb : xs.getD k 0 * p ≤ 4294967295 * p := Nat.mul_le_mul_right p (by omega)
  refine ⟨by rw [List.length_set, h.len], h.lim.set k (by omega), by omega, ?_⟩
  rw [val_take_set (by rw [h.len]; exact hk), val_take_succ' xs, Bp_succ]
  have e : v + 4294967296 * c' = c + xs.getD k 0 * p := by omega
  have e2 := congrArg (Bp k * ·) e
  simp only [Nat.mul_add] at e2
  rw [Nat.mul_assoc, Nat.mul_left_comm 4294967296 (Bp k) c', Nat.add_mul, Nat.mul_assoc (Bp k)]
  have := h.sum
  omega
/-- The last limb is the carry. -/
theorem ShInv.done {s' xs : List Nat} {n p m c : Nat} (h : ShInv s' xs n p m c) (hx : xs.length = m) (hm : m < n) : val ((s'.set m c).take (m + 1)) = val xs * p := by
  have hs := h.sum
  rw [val_take_set (by rw [h.len]; exact hm)]
  rw [List.take_of_length_le (l := xs) (by omega)] at hs
  exact hs

/-- A limb's multiple taken away: after k rounds: c what is carried of the product, b the borrow. -/
structure SpInv (s s' ys : List Nat) (q k c b : Nat) : Prop where
  len : s'.length = s.length
  lim : Lim s'
  car : c < 4294967296
  bor : b ≤ 1
  rest : ∀ j, k ≤ j → s'.getD j 0 = s.getD j 0
  dif : val (s'.take k) + q * val (ys.take k) = val (s.take k) + Bp k * (c + b)
theorem SpInv.start {s ys : List Nat} (q : Nat) (h : Lim s) : SpInv s s ys q 0 0 0 := ⟨rfl, h, by omega, by omega, fun _ _ => rfl, by simp [val]⟩
theorem SpInv.step {s s' ys : List Nat} {q k c b v c' b' : Nat} (h : SpInv s s' ys q k c b) (hk : k < s.length) (hq : q < 4294967296) (hy : ys.getD k 0 < 4294967296) (hv : v < 4294967296) (hb : b' ≤ 1)
    (hc : c' = (c + q * ys.getD k 0) / 4294967296) (he : v + (c + q * ys.getD k 0) % 4294967296 + b = s'.getD k 0 + 4294967296 * b') : SpInv s (s'.set k v) ys q (k + 1) c' b' := by
  have hx := h.lim.getD k
  have hc1 := h.car
  have hm := mul_bound hq hy
  refine ⟨by rw [List.length_set, h.len], h.lim.set k hv, by omega, hb, fun j hj => by rw [getD_set_other (by omega)]; exact h.rest j (by omega), ?_⟩
  rw [val_take_set (by rw [h.len]; exact hk), val_take_succ' s, val_take_succ' ys, ← h.rest k (Nat.le_refl _), Bp_succ]
  have e : v + (c + q * ys.getD k 0) + b = s'.getD k 0 + 4294967296 * (c' + b') := by omega
  have e2 := congrArg (Bp k * ·) e
  simp only [Nat.mul_add] at e2
  have hd := h.dif
  rw [Nat.mul_add] at hd
  rw [Nat.mul_assoc, Nat.mul_left_comm 4294967296 (Bp k), Nat.mul_add q, Nat.mul_left_comm q (Bp k)]
  simp only [Nat.mul_add]
  omega
/-- The last limb: what is carried and borrowed is taken from it. -/
theorem SpInv.last {s s' ys : List Nat} {q m c b v b' : Nat} (h : SpInv s s' ys q m c b) (hs : s.length = m + 1) (hy : ys.length = m)
    (he : v + c + b = s'.getD m 0 + 4294967296 * b') : val (s'.set m v) + q * val ys = val s + Bp (m + 1) * b' := by
  have hd := h.dif
  have e1 : val (s'.set m v) = val (s'.take m) + Bp m * v := by
    rw [← val_take_set (by rw [h.len]; omega), List.take_of_length_le (by rw [List.length_set, h.len]; omega)]
  have e3 : val s = val (s.take m) + Bp m * s.getD m 0 := by rw [← val_take_succ (by omega), List.take_of_length_le (by omega)]
  rw [List.take_of_length_le (l := ys) (by omega)] at hd
  rw [e1, e3, Bp_succ, ← h.rest m (Nat.le_refl _)]
  have e2 := congrArg (Bp m * ·) he
  simp only [Nat.mul_add] at e2 hd
  rw [Nat.mul_assoc, Nat.mul_left_comm 4294967296 (Bp m)]
  omega

/-- Products: after i rounds over the limbs of xs. -/
structure MulInv (P xs ys : List Nat) (i : Nat) : Prop where
  len : P.length = xs.length + ys.length
  lim : Lim P
  rest : ∀ j, i + ys.length ≤ j → P.getD j 0 = 0
  prod : val (P.take (i + ys.length)) = val (xs.take i) * val ys
theorem MulInv.start (xs ys : List Nat) : MulInv (List.replicate (xs.length + ys.length) 0) xs ys 0 := by
  refine ⟨by simp, Lim.rep _, fun j _ => ?_, ?_⟩
  · by_cases h : j < xs.length + ys.length <;> simp [List.getD_eq_getElem?_getD, h]
  · rw [List.take_replicate, val_rep]; simp [val]
theorem MulInv.step {P xs ys s' : List Nat} {i c : Nat} (h : MulInv P xs ys i) (hi : i < xs.length) (hl : s'.length = ys.length) (hs : Lim s') (hc : c < 4294967296)
    (he : val s' + Bp ys.length * c = val ((P.drop i).take ys.length) + xs.getD i 0 * val ys) :
    MulInv ((P.take i ++ (s' ++ P.drop (i + ys.length))).set (i + ys.length) c) xs ys (i + 1) := by
  have hlen := h.len
  have h1 : (P.take i).length = i := by rw [List.length_take]; omega
  have h2 : (P.take i ++ (s' ++ P.drop (i + ys.length))).length = xs.length + ys.length := by
    rw [List.length_append, List.length_append, List.length_drop, h1, hl]; omega
  refine ⟨by rw [List.length_set, h2], ((h.lim.take i).append (hs.append (h.lim.drop _))).set _ hc, fun j hj => ?_, ?_⟩
  · rw [getD_set_other (by omega), List.getD_eq_getElem?_getD, List.getElem?_append_right (by omega), List.getElem?_append_right (by omega), ← List.getD_eq_getElem?_getD, getD_drop]
    exact h.rest _ (by omega)
  · rw [show i + 1 + ys.length = (i + ys.length) + 1 from by omega, val_take_set (by omega), val_take_succ hi, Nat.add_mul, ← h.prod]
    have e1 : (P.take i ++ (s' ++ P.drop (i + ys.length))).take (i + ys.length) = P.take i ++ s' := by
      rw [List.take_append, h1, List.take_of_length_le (by omega), Nat.add_sub_cancel_left, List.take_append, hl, List.take_of_length_le (l := s') (by omega)]; simp
    have e2 : P.take (i + ys.length) = P.take i ++ (P.drop i).take ys.length := List.take_add
    rw [e1, e2, val_append, val_append, h1, Bp_add, Nat.mul_assoc, Nat.mul_assoc]
    have e3 := congrArg (Bp i * ·) he
    simp only [Nat.mul_add] at e3
    omega
theorem MulInv.done {P xs ys : List Nat} (h : MulInv P xs ys xs.length) : val P = val xs * val ys := by
  have := h.prod
  rw [← h.len, take_len, take_len] at this
  exact this

/-- The same in a row of L limbs, not shorter than the product. -/
structure MulJnv (L : Nat) (P xs ys : List Nat) (i : Nat) : Prop where
  len : P.length = L
  lim : Lim P
  rest : ∀ j, i + ys.length ≤ j → P.getD j 0 = 0
  prod : val (P.take (i + ys.length)) = val (xs.take i) * val ys
theorem MulJnv.start (L : Nat) (xs ys : List Nat) : MulJnv L (List.replicate L 0) xs ys 0 := by
  refine ⟨by simp, Lim.rep _, fun j _ => ?_, ?_⟩
  · by_cases h : j < L <;> simp [List.getD_eq_getElem?_getD, h]
  · rw [List.take_replicate, val_rep]; simp [val]
theorem MulJnv.step {L : Nat} {P xs ys s' : List Nat} {i c : Nat} (h : MulJnv L P xs ys i) (hL : xs.length + ys.length ≤ L) (hi : i < xs.length) (hl : s'.length = ys.length) (hs : Lim s') (hc : c < 4294967296)
    (he : val s' + Bp ys.length * c = val ((P.drop i).take ys.length) + xs.getD i 0 * val ys) :
    MulJnv L ((P.take i ++ (s' ++ P.drop (i + ys.length))).set (i + ys.length) c) xs ys (i + 1) := by
  have hlen := h.len
  have h1 : (P.take i).length = i := by rw [List.length_take]; omega
  have h2 : (P.take i ++ (s' ++ P.drop (i + ys.length))).length = L := by
    rw [List.length_append, List.length_append, List.length_drop, h1, hl]; omega
  refine ⟨by rw [List.length_set, h2], ((h.lim.take i).append (hs.append (h.lim.drop _))).set _ hc, fun j hj => ?_, ?_⟩
  · rw [getD_set_other (by omega), List.getD_eq_getElem?_getD, List.getElem?_append_right (by omega), List.getElem?_append_right (by omega), ← List.getD_eq_getElem?_getD, getD_drop]
    exact h.rest _ (by omega)
  · rw [show i + 1 + ys.length = (i + ys.length) + 1 from by omega, val_take_set (by omega), val_take_succ hi, Nat.add_mul, ← h.prod]
    have e1 : (P.take i ++ (s' ++ P.drop (i + ys.length))).take (i + ys.length) = P.take i ++ s' := by
      rw [List.take_append, h1, List.take_of_length_le (by omega), Nat.add_sub_cancel_left, List.take_append, hl, List.take_of_length_le (l := s') (by omega)]; simp
    have e2 : P.take (i + ys.length) = P.take i ++ (P.drop i).take ys.length := List.take_add
    rw [e1, e2, val_append, val_append, h1, Bp_add, Nat.mul_assoc, Nat.mul_assoc]
    have e3 := congrArg (Bp i * ·) he
    simp only [Nat.mul_add] at e3
    omega
theorem MulJnv.done {L : Nat} {P xs ys : List Nat} (h : MulJnv L P xs ys xs.length) (hL : xs.length + ys.length ≤ L) : val P = val xs * val ys := by
  have hp := h.prod
  rw [take_len] at hp
  have h0 : val (P.drop (xs.length + ys.length)) = 0 := val_zeros (fun j => by rw [getD_drop]; exact h.rest _ (by omega))
  rw [val_take_drop P (xs.length + ys.length) (by rw [h.len]; exact hL), h0, hp]
  omega

/-- Division by a limb, from the last limb on: the limbs from j on are done. -/
structure DivInv (n : Nat) (q xs : List Nat) (b j r : Nat) : Prop where
  len : q.length = n
  lim : Lim q
  rest : r < b
  div : val (xs.drop j) = val (q.drop j) * b + r
theorem DivInv.start {n b : Nat} {xs : List Nat} (hn : xs.length = n) (hb : 0 < b) : DivInv n (List.replicate n 0) xs b n 0 :=
  ⟨by simp, Lim.rep n, hb, by rw [List.drop_of_length_le (by omega), List.drop_of_length_le (by simp)]; simp [val]⟩
theorem DivInv.step {n b j r x : Nat} {q xs : List Nat} (h : DivInv n q xs b (j + 1) r) (hn : xs.length = n) (hj : j < n) (hb : b < 4294967296) (hx : x = xs.getD j 0) (hx2 : x < 4294967296) :
    (r * 4294967296 + x) / b < 4294967296 ∧ DivInv n (q.set j ((r * 4294967296 + x) / b)) xs b j ((r * 4294967296 + x) % b) := by
  have hr := h.rest
  have h1 : (r * 4294967296 + x) / b < 4294967296 := by
    rw [Nat.div_lt_iff_lt_mul (by omega)]
    have : (r + 1) * 4294967296 ≤ b * 4294967296 := Nat.mul_le_mul_right _ hr
    rw [Nat.mul_comm 4294967296 b]
    omega
  refine ⟨h1, by rw [List.length_set, h.len], h.lim.set j h1, Nat.mod_lt _ (by omega), ?_⟩
  rw [val_drop (by omega), val_drop_set (by rw [h.len]; exact hj), h.div, ← hx, Nat.add_mul]
  have e := Nat.div_add_mod (r * 4294967296 + x) b
  rw [Nat.mul_comm b] at e
  rw [Nat.mul_add, Nat.mul_assoc]
  omega
theorem DivInv.done {n b r : Nat} {q xs : List Nat} (h : DivInv n q xs b 0 r) : val q = val xs / b ∧ r = val xs % b := by
  have hd := h.div
  have hr := h.rest
  simp only [List.drop_zero] at hd
  rw [hd]
  constructor
  · rw [Nat.mul_comm, Nat.mul_add_div (by omega), Nat.div_eq_of_lt hr]; omega
  · rw [Nat.mul_comm, Nat.mul_add_mod, Nat.mod_eq_of_lt hr]

/-- A shift down by p = 2^d, from the last limb on: the limbs from j on are done; t: the limb at place j. -/
structure DnInv (n : Nat) (q xs : List Nat) (p j : Nat) : Prop where
  len : q.length = n
  lim : Lim q
  div : val (q.drop j) = val (xs.drop j) / p
theorem DnInv.start {n p : Nat} {xs : List Nat} (hn : xs.length = n) : DnInv n (List.replicate n 0) xs p n :=
  ⟨by simp, Lim.rep n, by rw [List.drop_of_length_le (l := xs) (by omega), List.drop_of_length_le (l := List.replicate n 0) (by simp)]; simp [val]⟩
theorem down_math {p e t x V : Nat} (hpe : p * e = 4294967296) (hx : x < 4294967296) (ht : V % 4294967296 = t) :
    (x + 4294967296 * V) / p = (t * 4294967296 + x) / p % 4294967296 + 4294967296 * (V / p) := by
  have hp : 0 < p := by rcases Nat.eq_zero_or_pos p with h | h; rw [h] at hpe; omega; exact h
  have hv := Nat.div_add_mod V p
  have hvp := Nat.mod_lt V hp
  have htp : t % p = V % p := by
    rw [← ht, ← hpe]
    exact Nat.mod_mul_right_mod V p e
  have ht2 := Nat.div_add_mod t p
  rw [htp] at ht2
  have e1 : x + 4294967296 * V = p * (4294967296 * (V / p)) + (4294967296 * (V % p) + x) := by
    have := congrArg (4294967296 * ·) hv
    simp only [Nat.mul_add] at this
    rw [Nat.mul_left_comm p]; omega
  have e2 : t * 4294967296 + x = p * (4294967296 * (t / p)) + (4294967296 * (V % p) + x) := by
    have := congrArg (4294967296 * ·) ht2
    simp only [Nat.mul_add] at this
    rw [Nat.mul_left_comm p, Nat.mul_comm t]; omega
  rw [e1, e2, Nat.mul_add_div hp, Nat.mul_add_div hp, Nat.mul_add_mod]
  have h3 : (4294967296 * (V % p) + x) / p < 4294967296 := by
    rw [Nat.div_lt_iff_lt_mul hp]
    have : 4294967296 * (V % p + 1) ≤ 4294967296 * p := Nat.mul_le_mul_left _ hvp
    omega
  rw [Nat.mod_eq_of_lt h3]
  omega
theorem DnInv.step {n p e j t x : Nat} {q xs : List Nat} (h : DnInv n q xs p (j + 1)) (hn : xs.length = n) (hl : Lim xs) (hj : j < n) (hpe : p * e = 4294967296) (hx : x = xs.getD j 0) (ht : t = xs.getD (j + 1) 0) :
    DnInv n (q.set j ((t * 4294967296 + x) / p % 4294967296)) xs p j := by
  refine ⟨by rw [List.length_set, h.len], h.lim.set j (by omega), ?_⟩
  rw [val_drop_set (by rw [h.len]; exact hj), val_drop (xs := xs) (by omega), h.div, ← hx]
  refine (down_math hpe (by rw [hx]; exact hl.getD j) ?_).symm
  rw [ht]
  by_cases hk : j + 1 < xs.length
  · rw [val_drop hk]; have := hl.getD (j + 1); omega
  · rw [List.drop_of_length_le (by omega), getD_beyond (by omega)]; rfl
theorem DnInv.done {n p : Nat} {q xs : List Nat} (h : DnInv n q xs p 0) : val q = val xs / p := by
  have := h.div
  simpa using this

end Go.Proofs.Ythcclkjccaoniaa.M
