/- Plain facts on lists of limbs (base 2^32) and their values; no Go text. -/
namespace Go.Proofs.YtbobhhnhlgdkiaaGreat.M

def val : List Nat → Nat
  | [] => 0
  | x :: xs => x + 4294967296 * val xs

def Lim (xs : List Nat) : Prop := ∀ x ∈ xs, x < 4294967296

def Bp (k : Nat) : Nat := 4294967296 ^ k

theorem Bp_zero : Bp 0 = 1 := rfl
theorem Bp_succ (k : Nat) : Bp (k + 1) = 4294967296 * Bp k := by unfold Bp; rw [Nat.pow_succ, Nat.mul_comm]
theorem Bp_pos (k : Nat) : 0 < Bp k := Nat.pow_pos (by decide)
theorem Bp_add (i j : Nat) : Bp (i + j) = Bp i * Bp j := Nat.pow_add _ _ _
theorem Bp_mono {i j : Nat} (h : i ≤ j) : Bp i ≤ Bp j := Nat.pow_le_pow_right (by decide) h

/-- The limbs of n, at most f of them. -/
def toLf : Nat → Nat → List Nat
  | 0, _ => []
  | f + 1, n => if n = 0 then [] else n % 4294967296 :: toLf f (n / 4294967296)

/-- The limbs of n, the least one first. -/
def toL (n : Nat) : List Nat := toLf n n

theorem toLf_zero (f : Nat) : toLf f 0 = [] := by cases f <;> simp [toLf]
theorem toLf_same : ∀ (f g n : Nat), n ≤ f → n ≤ g → toLf f n = toLf g n := by
  intro f
  induction f with
  | zero => intro g n h _; obtain rfl : n = 0 := by omega
            rw [toLf_zero, toLf_zero]
  | succ f ih =>
    intro g n h1 h2
    by_cases h0 : n = 0
    · subst h0; rw [toLf_zero, toLf_zero]
    · obtain ⟨g', rfl⟩ : ∃ g', g = g' + 1 := ⟨g - 1, by omega⟩
      simp only [toLf, if_neg h0]
      rw [ih g' (n / 4294967296) (by omega) (by omega)]
theorem toL_zero : toL 0 = [] := rfl
theorem toL_pos {n : Nat} (h : n ≠ 0) : toL n = n % 4294967296 :: toL (n / 4294967296) := by
  obtain ⟨f, hf⟩ : ∃ f, n = f + 1 := ⟨n - 1, by omega⟩
  unfold toL
  rw [show toLf n n = toLf (f + 1) n from by rw [← hf]]
  simp only [toLf, if_neg h]
  rw [toLf_same f (n / 4294967296) (n / 4294967296) (by omega) (by omega)]

theorem val_nil : val [] = 0 := rfl
theorem val_cons (x : Nat) (xs : List Nat) : val (x :: xs) = x + 4294967296 * val xs := rfl

theorem val_append (xs ys : List Nat) : val (xs ++ ys) = val xs + Bp xs.length * val ys := by
  induction xs with
  | nil => simp [val, Bp_zero]
  | cons x xs ih => simp only [List.cons_append, val_cons, ih, List.length_cons, Bp_succ]; rw [Nat.mul_add, Nat.mul_assoc]; omega

theorem Lim.cons {x : Nat} {xs : List Nat} (h : Lim (x :: xs)) : x < 4294967296 ∧ Lim xs := ⟨h x (by simp), fun y hy => h y (by simp [hy])⟩
theorem Lim.mk {x : Nat} {xs : List Nat} (h1 : x < 4294967296) (h2 : Lim xs) : Lim (x :: xs) := by
  intro y hy; rcases List.mem_cons.1 hy with rfl | h; exact h1; exact h2 y h
theorem Lim.nil : Lim [] := by intro y hy; simp at hy
theorem Lim.take {xs : List Nat} (h : Lim xs) (k : Nat) : Lim (xs.take k) := fun x hx => h x (List.mem_of_mem_take hx)
theorem Lim.drop {xs : List Nat} (h : Lim xs) (k : Nat) : Lim (xs.drop k) := fun x hx => h x (List.mem_of_mem_drop hx)
theorem Lim.append {xs ys : List Nat} (h : Lim xs) (k : Lim ys) : Lim (xs ++ ys) := fun x hx => by
  rcases List.mem_append.1 hx with h1 | h1; exact h x h1; exact k x h1
theorem Lim.getD {xs : List Nat} (h : Lim xs) (k : Nat) : xs.getD k 0 < 4294967296 := by
  by_cases hk : k < xs.length
  · rw [List.getD_eq_getElem?_getD, List.getElem?_eq_getElem hk]; exact h _ (List.getElem_mem hk)
  · rw [List.getD_eq_getElem?_getD, List.getElem?_eq_none (by omega)]; decide
theorem Lim.set {xs : List Nat} (h : Lim xs) (k : Nat) {v : Nat} (hv : v < 4294967296) : Lim (xs.set k v) := fun x hx => by
  rcases List.mem_or_eq_of_mem_set hx with h1 | h1; exact h x h1; omega
theorem Lim.rep (n : Nat) : Lim (List.replicate n 0) := fun x hx => by rw [List.mem_replicate] at hx; omega

theorem val_lt {xs : List Nat} (h : Lim xs) : val xs < Bp xs.length := by
  induction xs with
  | nil => simp [val, Bp_zero]
  | cons x xs ih =>
    obtain ⟨h1, h2⟩ := h.cons
    have := ih h2
    rw [val_cons, List.length_cons, Bp_succ]
    omega

theorem val_rep (n : Nat) : val (List.replicate n 0) = 0 := by
  induction n with
  | zero => rfl
  | succ n ih => rw [List.replicate_succ, val_cons, ih]

theorem val_toL (n : Nat) : val (toL n) = n := by
  induction n using Nat.strongRecOn with
  | _ n ih =>
    by_cases h : n = 0
    · subst h; simp [toL_zero, val]
    · rw [toL_pos h, val_cons, ih _ (by omega)]; omega

theorem Lim_toL (n : Nat) : Lim (toL n) := by
  induction n using Nat.strongRecOn with
  | _ n ih =>
    by_cases h : n = 0
    · subst h; rw [toL_zero]; exact Lim.nil
    · rw [toL_pos h]; exact Lim.mk (by omega) (ih _ (by omega))

theorem toL_inj {a b : Nat} (h : toL a = toL b) : a = b := by rw [← val_toL a, ← val_toL b, h]

theorem toL_len_le {n k : Nat} (h : n < Bp k) : (toL n).length ≤ k := by
  induction k generalizing n with
  | zero => rw [Bp_zero] at h; obtain rfl : n = 0 := by omega
            simp [toL_zero]
  | succ k ih =>
    rw [Bp_succ] at h
    by_cases h0 : n = 0
    · subst h0; simp [toL_zero]
    · rw [toL_pos h0, List.length_cons]; have := @ih (n / 4294967296) (by omega); omega

theorem toL_length_pos {n : Nat} (h : n ≠ 0) : 0 < (toL n).length := by rw [toL_pos h]; simp
theorem toL_length_zero {n : Nat} : (toL n).length = 0 ↔ n = 0 := by
  constructor
  · intro h; by_cases h0 : n = 0; exact h0; have := toL_length_pos h0; omega
  · rintro rfl; simp [toL_zero]

/-- The lower bound that the last limb gives. -/
theorem toL_ge {n : Nat} (h : n ≠ 0) : Bp ((toL n).length - 1) ≤ n := by
  induction n using Nat.strongRecOn with
  | _ n ih =>
    rw [toL_pos h, List.length_cons]
    by_cases h1 : n / 4294967296 = 0
    · rw [h1]; simp [toL_zero, Bp_zero]; omega
    · have := ih (n / 4294967296) (by omega) h1
      have h2 := toL_length_pos h1
      rw [show (toL (n / 4294967296)).length + 1 - 1 = ((toL (n / 4294967296)).length - 1) + 1 from by omega, Bp_succ]
      omega

theorem toL_last {n : Nat} (h : n ≠ 0) : (toL n).getD ((toL n).length - 1) 0 ≠ 0 := by
  induction n using Nat.strongRecOn with
  | _ n ih =>
    by_cases h1 : n / 4294967296 = 0
    · rw [toL_pos h, h1]; simp [toL_zero]; omega
    · have := ih (n / 4294967296) (by omega) h1
      have h2 := toL_length_pos h1
      rw [toL_pos h, List.length_cons]
      rw [show (toL (n / 4294967296)).length + 1 - 1 = ((toL (n / 4294967296)).length - 1) + 1 from by omega]
      simpa using this

theorem toL_len_lt {a b : Nat} (h : (toL a).length < (toL b).length) : a < b := by
  have hb : b ≠ 0 := by rintro rfl; simp [toL_zero] at h
  have h1 := toL_ge hb
  have h2 := val_lt (Lim_toL a)
  rw [val_toL] at h2
  have h3 : Bp (toL a).length ≤ Bp ((toL b).length - 1) := Bp_mono (by omega)
  omega

theorem toL_of_normal {xs : List Nat} (h : Lim xs) (hn : xs = [] ∨ xs.getD (xs.length - 1) 0 ≠ 0) : toL (val xs) = xs := by
  induction xs with
  | nil => simp [val, toL_zero]
  | cons x xs ih =>
    obtain ⟨h1, h2⟩ := h.cons
    rcases hn with hn | hn
    · simp at hn
    have key : xs = [] ∨ xs.getD (xs.length - 1) 0 ≠ 0 := by
      cases xs with
      | nil => exact .inl rfl
      | cons y ys => right; simpa using hn
    have ih' := ih h2 key
    have hne : val (x :: xs) ≠ 0 := by
      rw [val_cons]
      intro h0
      have hx : x = 0 := by omega
      have hv : val xs = 0 := by omega
      rw [hv, toL_zero] at ih'
      subst ih'
      simp [hx] at hn
    rw [toL_pos hne, val_cons]
    rw [show (x + 4294967296 * val xs) % 4294967296 = x from by omega, show (x + 4294967296 * val xs) / 4294967296 = val xs from by omega, ih']

theorem val_take_drop (xs : List Nat) (k : Nat) (h : k ≤ xs.length) : val xs = val (xs.take k) + Bp k * val (xs.drop k) := by
  conv => lhs; rw [← List.take_append_drop k xs]
  rw [val_append, List.length_take, Nat.min_eq_left h]

theorem val_zeros {xs : List Nat} (h : ∀ j, xs.getD j 0 = 0) : val xs = 0 := by
  induction xs with
  | nil => rfl
  | cons x xs ih =>
    have h0 := h 0
    have := ih (fun j => by simpa using h (j + 1))
    simp at h0
    rw [val_cons, this, h0]

theorem getD_drop (xs : List Nat) (k j : Nat) : (xs.drop k).getD j 0 = xs.getD (k + j) 0 := by
  simp [List.getD_eq_getElem?_getD, List.getElem?_drop]
theorem getD_take (xs : List Nat) (k j : Nat) (h : j < k) : (xs.take k).getD j 0 = xs.getD j 0 := by
  simp [List.getD_eq_getElem?_getD, h]

/-- Trimming: places from k on are 0, the one below is not. -/
theorem toL_trim {xs : List Nat} (h : Lim xs) (k : Nat) (hk : k ≤ xs.length) (hz : ∀ j, k ≤ j → xs.getD j 0 = 0) (hl : k = 0 ∨ xs.getD (k - 1) 0 ≠ 0) :
    toL (val xs) = xs.take k := by
  have h0 : val (xs.drop k) = 0 := val_zeros (fun j => by rw [getD_drop]; exact hz _ (by omega))
  rw [val_take_drop xs k hk, h0, Nat.mul_zero, Nat.add_zero]
  apply toL_of_normal (h.take k)
  rcases hl with rfl | hl
  · left; simp
  · by_cases hk0 : k = 0
    · left; simp [hk0]
    · right
      rw [List.length_take, Nat.min_eq_left hk, getD_take _ _ _ (by omega)]
      exact hl

theorem val_take_succ {xs : List Nat} {k : Nat} (h : k < xs.length) : val (xs.take (k + 1)) = val (xs.take k) + Bp k * xs.getD k 0 := by
  rw [List.take_succ_eq_append_getElem h, val_append, List.length_take, Nat.min_eq_left (by omega)]
  rw [val_cons, val_nil, List.getD_eq_getElem?_getD, List.getElem?_eq_getElem h]
  simp

theorem val_drop {xs : List Nat} {k : Nat} (h : k < xs.length) : val (xs.drop k) = xs.getD k 0 + 4294967296 * val (xs.drop (k + 1)) := by
  rw [List.drop_eq_getElem_cons h, val_cons, List.getD_eq_getElem?_getD, List.getElem?_eq_getElem h]
  simp

theorem take_len (xs : List Nat) : xs.take xs.length = xs := List.take_length
theorem val_take_all {xs : List Nat} {k : Nat} (h : xs.length ≤ k) : val (xs.take k) = val xs := by rw [List.take_of_length_le h]
theorem val_take_zero (xs : List Nat) : val (xs.take 0) = 0 := by simp [val]

theorem getD_set_same {xs : List Nat} {k v : Nat} (h : k < xs.length) : (xs.set k v).getD k 0 = v := by
  simp [List.getD_eq_getElem?_getD, h]
theorem getD_set_other {xs : List Nat} {k j v : Nat} (h : k ≠ j) : (xs.set k v).getD j 0 = xs.getD j 0 := by
  simp [List.getD_eq_getElem?_getD, h]
theorem take_set (xs : List Nat) (k v : Nat) : (xs.set k v).take k = xs.take k := by
  rw [List.take_set, List.set_eq_of_length_le (by simp; omega)]
theorem val_take_set {xs : List Nat} {k v : Nat} (h : k < xs.length) : val ((xs.set k v).take (k + 1)) = val (xs.take k) + Bp k * v := by
  rw [val_take_succ (by simpa using h), take_set, getD_set_same h]
theorem drop_set {xs : List Nat} {k j v : Nat} (h : k < j) : (xs.set k v).drop j = xs.drop j := by
  rw [List.drop_set]; simp [h]
theorem val_drop_set {xs : List Nat} {k v : Nat} (h : k < xs.length) : val ((xs.set k v).drop k) = v + 4294967296 * val (xs.drop (k + 1)) := by
  rw [val_drop (by simpa using h), getD_set_same h, drop_set (by omega)]

/-- -1, 0, 1: below, the same, above. -/
def cmpN (a b : Nat) : Int := if a < b then -1 else if a = b then 0 else 1
theorem cmpN_lt {a b : Nat} (h : a < b) : cmpN a b = -1 := by unfold cmpN; rw [if_pos h]
theorem cmpN_gt {a b : Nat} (h : b < a) : cmpN a b = 1 := by unfold cmpN; rw [if_neg (by omega), if_neg (by omega)]
theorem cmpN_eq {a b : Nat} (h : a = b) : cmpN a b = 0 := by unfold cmpN; rw [if_neg (by omega), if_pos h]

theorem val_lt_of_limb {xs ys : List Nat} (hx : Lim xs) {k : Nat} (hkx : k < xs.length) (hky : k < ys.length) (hd : xs.drop (k + 1) = ys.drop (k + 1)) (hl : xs.getD k 0 < ys.getD k 0) : val xs < val ys := by
  rw [val_take_drop xs (k + 1) (by omega), val_take_drop ys (k + 1) (by omega), hd, val_take_succ hkx, val_take_succ hky]
  have h1 := val_lt (hx.take k)
  rw [List.length_take, Nat.min_eq_left (by omega)] at h1
  have h2 : Bp k * (xs.getD k 0 + 1) ≤ Bp k * ys.getD k 0 := Nat.mul_le_mul_left _ hl
  rw [Nat.mul_add, Nat.mul_one] at h2
  omega

theorem drop_step {xs ys : List Nat} {k : Nat} (hkx : k < xs.length) (hky : k < ys.length) (hd : xs.drop (k + 1) = ys.drop (k + 1)) (hl : xs.getD k 0 = ys.getD k 0) : xs.drop k = ys.drop k := by
  rw [List.drop_eq_getElem_cons hkx, List.drop_eq_getElem_cons hky, hd]
  congr 1
  simpa [List.getD_eq_getElem?_getD, hkx, hky] using hl

/-- How many bits. -/
def nb (n : Nat) : Nat := if n = 0 then 0 else n.log2 + 1
theorem nb_zero : nb 0 = 0 := rfl
theorem nb_half {n : Nat} (h : n ≠ 0) : nb n = 1 + nb (n / 2) := by
  unfold nb
  rw [if_neg h, Nat.log2_def]
  by_cases h2 : 2 ≤ n
  · rw [if_pos h2, if_neg (by omega)]; omega
  · rw [if_neg h2, if_pos (by omega)]
theorem Bp_two (k : Nat) : Bp k = 2 ^ (32 * k) := by unfold Bp; rw [show 4294967296 = 2 ^ 32 from rfl, ← Nat.pow_mul]
theorem nb_eq {n k : Nat} (h1 : 2 ^ k ≤ n) (h2 : n < 2 ^ (k + 1)) : nb n = k + 1 := by
  have hn : n ≠ 0 := by have := Nat.two_pow_pos k; omega
  unfold nb
  rw [if_neg hn]
  have a := (Nat.le_log2 hn).2 h1
  have b := (Nat.log2_lt hn).2 h2
  omega
theorem nb_lt (n : Nat) : n < 2 ^ nb n := by
  unfold nb
  split
  · simp_all
  · rename_i h; exact (Nat.log2_lt h).1 (by omega)
theorem nb_ge {n : Nat} (h : n ≠ 0) : 2 ^ (nb n - 1) ≤ n := by
  unfold nb
  rw [if_neg h]
  exact (Nat.le_log2 h).1 (by omega)
theorem nb_pos {n : Nat} (h : n ≠ 0) : 0 < nb n := by unfold nb; rw [if_neg h]; omega
theorem nb_top {t low k : Nat} (ht : t ≠ 0) (hl : low < Bp k) : nb (low + Bp k * t) = 32 * k + nb t := by
  have h1 := nb_lt t
  have h2 := nb_ge ht
  have h3 := nb_pos ht
  have e : 32 * k + nb t = (32 * k + (nb t - 1)) + 1 := by omega
  rw [e]
  apply nb_eq
  · rw [Nat.pow_add, ← Bp_two]
    have := Nat.mul_le_mul_left (Bp k) h2
    omega
  · rw [← e, Nat.pow_add, ← Bp_two]
    have : Bp k * (t + 1) ≤ Bp k * 2 ^ nb t := Nat.mul_le_mul_left _ h1
    rw [Nat.mul_add, Nat.mul_one] at this
    omega
theorem nb_toL {n : Nat} (h : n ≠ 0) : nb n = 32 * ((toL n).length - 1) + nb ((toL n).getD ((toL n).length - 1) 0) := by
  have hp := toL_length_pos h
  have e := val_take_succ (xs := toL n) (k := (toL n).length - 1) (by omega)
  rw [show (toL n).length - 1 + 1 = (toL n).length from by omega, take_len, val_toL] at e
  have hl := val_lt ((Lim_toL n).take ((toL n).length - 1))
  rw [List.length_take, Nat.min_eq_left (by omega)] at hl
  conv => lhs; rw [e]
  exact nb_top (toL_last h) hl
end Go.Proofs.YtbobhhnhlgdkiaaGreat.M

/- Plain facts: what holds after k rounds of the loops over limbs (sums, differences, products, shifts). No Go text. -/
namespace Go.Proofs.YtbobhhnhlgdkiaaGreat.M

theorem getD_beyond {xs : List Nat} {k : Nat} (h : xs.length ≤ k) : xs.getD k 0 = 0 := by
  rw [List.getD_eq_getElem?_getD, List.getElem?_eq_none h]; rfl
theorem val_take_succ' (xs : List Nat) (k : Nat) : val (xs.take (k + 1)) = val (xs.take k) + Bp k * xs.getD k 0 := by
  by_cases h : k < xs.length
  · exact val_take_succ h
  · rw [getD_beyond (by omega), List.take_of_length_le (by omega), List.take_of_length_le (by omega)]; omega
theorem list_ext {xs ys : List Nat} (hl : xs.length = ys.length) (h : ∀ j, xs.getD j 0 = ys.getD j 0) : xs = ys := by
  apply List.ext_getElem hl
  intro i h1 h2
  have := h i
  rw [List.getD_eq_getElem?_getD, List.getD_eq_getElem?_getD, List.getElem?_eq_getElem h1, List.getElem?_eq_getElem h2] at this
  simpa using this
theorem drop_eq {xs ys : List Nat} {k : Nat} (hl : xs.length = ys.length) (h : ∀ j, k ≤ j → xs.getD j 0 = ys.getD j 0) : xs.drop k = ys.drop k := by
  apply list_ext (by simp [hl])
  intro j
  rw [getD_drop, getD_drop]
  exact h _ (by omega)

/-- Sums: after k rounds. -/
structure AddInv (s s' ys : List Nat) (k c : Nat) : Prop where
  len : s'.length = s.length
  lim : Lim s'
  car : c ≤ 1
  rest : ∀ j, k ≤ j → s'.getD j 0 = s.getD j 0
  sum : val (s'.take k) + Bp k * c = val (s.take k) + val (ys.take k)
theorem AddInv.start {s ys : List Nat} (h : Lim s) : AddInv s s ys 0 0 := ⟨rfl, h, by omega, fun _ _ => rfl, by simp [val, Bp]⟩
theorem AddInv.step {s s' ys : List Nat} {k c v c' : Nat} (h : AddInv s s' ys k c) (hk : k < s.length) (hy : ys.getD k 0 < 4294967296)
    (hv : v = (s'.getD k 0 + ys.getD k 0 + c) % 4294967296) (hc : c' = (s'.getD k 0 + ys.getD k 0 + c) / 4294967296) : AddInv s (s'.set k v) ys (k + 1) c' := by
  have hx := h.lim.getD k
  have hc1 := h.car
  refine ⟨by rw [List.length_set, h.len], h.lim.set k (by omega), by omega, fun j hj => by rw [getD_set_other (by omega)]; exact h.rest j (by omega), ?_⟩
  rw [val_take_set (by rw [h.len]; exact hk), val_take_succ' s, val_take_succ' ys, ← h.rest k (Nat.le_refl _), Bp_succ]
  have e : v + 4294967296 * c' = s'.getD k 0 + ys.getD k 0 + c := by omega
  have e2 := congrArg (Bp k * ·) e
  simp only [Nat.mul_add] at e2
  rw [Nat.mul_assoc, Nat.mul_left_comm 4294967296 (Bp k) c']
  have := h.sum
  omega
theorem AddInv.done {s s' ys : List Nat} {k c : Nat} (h : AddInv s s' ys k c) (hk : k ≤ s.length) (hy : ys.length ≤ k) (he : c = 0 ∨ k = s.length) :
    ∃ c, c ≤ 1 ∧ val s' + Bp s.length * c = val s + val ys := by
  have hs := h.sum
  rw [List.take_of_length_le hy] at hs
  rcases he with rfl | rfl
  · refine ⟨0, by omega, ?_⟩
    rw [val_take_drop s' k (by rw [h.len]; exact hk), val_take_drop s k hk, drop_eq h.len h.rest]
    omega
  · refine ⟨c, h.car, ?_⟩
    rw [List.take_of_length_le (by rw [h.len]; exact Nat.le_refl _), List.take_of_length_le (Nat.le_refl _)] at hs
    exact hs

/-- Differences: after k rounds. -/
structure SubInv (n : Nat) (r xs ys : List Nat) (k c : Nat) : Prop where
  len : r.length = n
  lim : Lim r
  bor : c ≤ 1
  dif : val (r.take k) + val (ys.take k) = val (xs.take k) + Bp k * c
theorem SubInv.start (n : Nat) (xs ys : List Nat) : SubInv n (List.replicate n 0) xs ys 0 0 := ⟨by simp, Lim.rep n, by omega, by simp [val]⟩
theorem SubInv.step {n : Nat} {r xs ys : List Nat} {k c v c' : Nat} (h : SubInv n r xs ys k c) (hk : k < n) (hv : v < 4294967296) (hc : c' ≤ 1)
    (he : v + ys.getD k 0 + c = xs.getD k 0 + 4294967296 * c') : SubInv n (r.set k v) xs ys (k + 1) c' := by
  refine ⟨by rw [List.length_set, h.len], h.lim.set k hv, hc, ?_⟩
  rw [val_take_set (by rw [h.len]; exact hk), val_take_succ' xs, val_take_succ' ys, Bp_succ]
  have e2 := congrArg (Bp k * ·) he
  simp only [Nat.mul_add] at e2
  rw [Nat.mul_assoc, Nat.mul_left_comm 4294967296 (Bp k) c']
  have := h.dif
  omega
theorem SubInv.done {n : Nat} {r xs ys : List Nat} {c : Nat} (h : SubInv n r xs ys n c) (hx : xs.length = n) (hy : ys.length ≤ n) (hle : val ys ≤ val xs) : val r = val xs - val ys := by
  have hs := h.dif
  have hl := val_lt h.lim
  rw [List.take_of_length_le (by rw [h.len]; exact Nat.le_refl _), List.take_of_length_le hy, List.take_of_length_le (by omega)] at hs
  rw [h.len] at hl
  have := h.bor
  rcases (show c = 0 ∨ c = 1 from by omega) with rfl | rfl <;> omega

/-- Products of a limb: after k rounds. -/
structure PrInv (s s' ys : List Nat) (q k c : Nat) : Prop where
  len : s'.length = s.length
  lim : Lim s'
  car : c < 4294967296
  rest : ∀ j, k ≤ j → s'.getD j 0 = s.getD j 0
  sum : val (s'.take k) + Bp k * c = val (s.take k) + q * val (ys.take k)
theorem PrInv.start {s ys : List Nat} (q : Nat) (h : Lim s) : PrInv s s ys q 0 0 := ⟨rfl, h, by omega, fun _ _ => rfl, by simp [val, Bp]⟩
theorem mul_bound {q y : Nat} (hq : q < 4294967296) (hy : y < 4294967296) : q * y ≤ 18446744065119617025 := by
  have : q * y ≤ 4294967295 * 4294967295 := Nat.mul_le_mul (by omega) (by omega)
  omega
theorem PrInv.step {s s' ys : List Nat} {q k c v c' : Nat} (h : PrInv s s' ys q k c) (hk : k < s.length) (hq : q < 4294967296) (hy : ys.getD k 0 < 4294967296)
    (hv : v = (c + (q * ys.getD k 0 + s'.getD k 0)) % 4294967296) (hc : c' = (c + (q * ys.getD k 0 + s'.getD k 0)) / 4294967296) : PrInv s (s'.set k v) ys q (k + 1) c' := by
  have hx := h.lim.getD k
  have hc1 := h.car
  have hm := mul_bound hq hy
  refine ⟨by rw [List.length_set, h.len], h.lim.set k (by omega), by omega, fun j hj => by rw [getD_set_other (by omega)]; exact h.rest j (by omega), ?_⟩
  rw [val_take_set (by rw [h.len]; exact hk), val_take_succ' s, val_take_succ' ys, ← h.rest k (Nat.le_refl _), Bp_succ]
  have e : v + 4294967296 * c' = c + (q * ys.getD k 0 + s'.getD k 0) := by omega
  have e2 := congrArg (Bp k * ·) e
  simp only [Nat.mul_add] at e2
  rw [Nat.mul_assoc, Nat.mul_left_comm 4294967296 (Bp k) c', Nat.mul_add q, Nat.mul_left_comm q (Bp k)]
  have := h.sum
  omega
theorem PrInv.done {s s' ys : List Nat} {q c : Nat} (h : PrInv s s' ys q s.length c) (hy : ys.length = s.length) : val s' + Bp s.length * c = val s + q * val ys := by
  have hs := h.sum
  rw [List.take_of_length_le (by rw [h.len]; exact Nat.le_refl _), List.take_of_length_le (Nat.le_refl _), List.take_of_length_le (by omega)] at hs
  exact hs

/-- A shift by p = 2^n: after k rounds. -/
structure ShInv (s' xs : List Nat) (n p k c : Nat) : Prop where
  len : s'.length = n
  lim : Lim s'
  car : c < p
  sum : val (s'.take k) + Bp k * c = val (xs.take k) * p
theorem ShInv.start {s xs : List Nat} {n p : Nat} (h : Lim s) (hn : s.length = n) (hp : 0 < p) : ShInv s xs n p 0 0 := ⟨hn, h, hp, by simp [val, Bp]⟩
theorem ShInv.step {s' xs : List Nat} {n p k c v c' : Nat} (h : ShInv s' xs n p k c) (hk : k < n) (hx : xs.getD k 0 < 4294967296)
    (hv : v = (c + xs.getD k 0 * p) % 4294967296) (hc : c' = (c + xs.getD k 0 * p) / 4294967296) : ShInv (s'.set k v) xs n p (k + 1) c' := by
  have hc1 := h.car
  have hb : xs.getD k 0 * p ≤ 4294967295 * p := Nat.mul_le_mul_right p (by omega)
  refine ⟨by rw [List.length_set, h.len], h.lim.set k (by omega), by omega, ?_⟩
  rw [val_take_set (by rw [h.len]; exact hk), val_take_succ' xs, Bp_succ]
  have e : v + 4294967296 * c' = c + xs.getD k 0 * p := by omega
  have e2 := congrArg (Bp k * ·) e
  simp only [Nat.mul_add] at e2
  rw [Nat.mul_assoc, Nat.mul_left_comm 4294967296 (Bp k) c', Nat.add_mul, Nat.mul_assoc (Bp k)]
  have := h.sum
  omega
/-- The last limb is the carry. -/
theorem ShInv.done {s' xs : List Nat} {n p m c : Nat} (h : ShInv s' xs n p m c) (hx : xs.length = m) (hm : m < n) : val ((s'.set m c).take (m + 1)) = val xs * p := by
  have hs := h.sum
  rw [val_take_set (by rw [h.len]; exact hm)]
  rw [List.take_of_length_le (l := xs) (by omega)] at hs
  exact hs

/-- A limb's multiple taken away: after k rounds: c what is carried of the product, b the borrow. -/
structure SpInv (s s' ys : List Nat) (q k c b : Nat) : Prop where
  len : s'.length = s.length
  lim : Lim s'
  car : c < 4294967296
  bor : b ≤ 1
  rest : ∀ j, k ≤ j → s'.getD j 0 = s.getD j 0
  dif : val (s'.take k) + q * val (ys.take k) = val (s.take k) + Bp k * (c + b)
theorem SpInv.start {s ys : List Nat} (q : Nat) (h : Lim s) : SpInv s s ys q 0 0 0 := ⟨rfl, h, by omega, by omega, fun _ _ => rfl, by simp [val]⟩
theorem SpInv.step {s s' ys : List Nat} {q k c b v c' b' : Nat} (h : SpInv s s' ys q k c b) (hk : k < s.length) (hq : q < 4294967296) (hy : ys.getD k 0 < 4294967296) (hv : v < 4294967296) (hb : b' ≤ 1)
    (hc : c' = (c + q * ys.getD k 0) / 4294967296) (he : v + (c + q * ys.getD k 0) % 4294967296 + b = s'.getD k 0 + 4294967296 * b') : SpInv s (s'.set k v) ys q (k + 1) c' b' := by
  have hx := h.lim.getD k
  have hc1 := h.car
  have hm := mul_bound hq hy
  refine ⟨by rw [List.length_set, h.len], h.lim.set k hv, by omega, hb, fun j hj => by rw [getD_set_other (by omega)]; exact h.rest j (by omega), ?_⟩
  rw [val_take_set (by rw [h.len]; exact hk), val_take_succ' s, val_take_succ' ys, ← h.rest k (Nat.le_refl _), Bp_succ]
  have e : v + (c + q * ys.getD k 0) + b = s'.getD k 0 + 4294967296 * (c' + b') := by omega
  have e2 := congrArg (Bp k * ·) e
  simp only [Nat.mul_add] at e2
  have hd := h.dif
  rw [Nat.mul_add] at hd
  rw [Nat.mul_assoc, Nat.mul_left_comm 4294967296 (Bp k), Nat.mul_add q, Nat.mul_left_comm q (Bp k)]
  simp only [Nat.mul_add]
  omega
/-- The last limb: what is carried and borrowed is taken from it. -/
theorem SpInv.last {s s' ys : List Nat} {q m c b v b' : Nat} (h : SpInv s s' ys q m c b) (hs : s.length = m + 1) (hy : ys.length = m)
    (he : v + c + b = s'.getD m 0 + 4294967296 * b') : val (s'.set m v) + q * val ys = val s + Bp (m + 1) * b' := by
  have hd := h.dif
  have e1 : val (s'.set m v) = val (s'.take m) + Bp m * v := by
    rw [← val_take_set (by rw [h.len]; omega), List.take_of_length_le (by rw [List.length_set, h.len]; omega)]
  have e3 : val s = val (s.take m) + Bp m * s.getD m 0 := by rw [← val_take_succ (by omega), List.take_of_length_le (by omega)]
  rw [List.take_of_length_le (l := ys) (by omega)] at hd
  rw [e1, e3, Bp_succ, ← h.rest m (Nat.le_refl _)]
  have e2 := congrArg (Bp m * ·) he
  simp only [Nat.mul_add] at e2 hd
  rw [Nat.mul_assoc, Nat.mul_left_comm 4294967296 (Bp m)]
  omega

/-- Products: after i rounds over the limbs of xs. -/
structure MulInv (P xs ys : List Nat) (i : Nat) : Prop where
  len : P.length = xs.length + ys.length
  lim : Lim P
  rest : ∀ j, i + ys.length ≤ j → P.getD j 0 = 0
  prod : val (P.take (i + ys.length)) = val (xs.take i) * val ys
theorem MulInv.start (xs ys : List Nat) : MulInv (List.replicate (xs.length + ys.length) 0) xs ys 0 := by
  refine ⟨by simp, Lim.rep _, fun j _ => ?_, ?_⟩
  · by_cases h : j < xs.length + ys.length <;> simp [List.getD_eq_getElem?_getD, h]
  · rw [List.take_replicate, val_rep]; simp [val]
theorem MulInv.step {P xs ys s' : List Nat} {i c : Nat} (h : MulInv P xs ys i) (hi : i < xs.length) (hl : s'.length = ys.length) (hs : Lim s') (hc : c < 4294967296)
    (he : val s' + Bp ys.length * c = val ((P.drop i).take ys.length) + xs.getD i 0 * val ys) :
    MulInv ((P.take i ++ (s' ++ P.drop (i + ys.length))).set (i + ys.length) c) xs ys (i + 1) := by
  have hlen := h.len
  have h1 : (P.take i).length = i := by rw [List.length_take]; omega
  have h2 : (P.take i ++ (s' ++ P.drop (i + ys.length))).length = xs.length + ys.length := by
    rw [List.length_append, List.length_append, List.length_drop, h1, hl]; omega
  refine ⟨by rw [List.length_set, h2], ((h.lim.take i).append (hs.append (h.lim.drop _))).set _ hc, fun j hj => ?_, ?_⟩
  · rw [getD_set_other (by omega), List.getD_eq_getElem?_getD, List.getElem?_append_right (by omega), List.getElem?_append_right (by omega), ← List.getD_eq_getElem?_getD, getD_drop]
    exact h.rest _ (by omega)
  · rw [show i + 1 + ys.length = (i + ys.length) + 1 from by omega, val_take_set (by omega), val_take_succ hi, Nat.add_mul, ← h.prod]
    have e1 : (P.take i ++ (s' ++ P.drop (i + ys.length))).take (i + ys.length) = P.take i ++ s' := by
      rw [List.take_append, h1, List.take_of_length_le (by omega), Nat.add_sub_cancel_left, List.take_append, hl, List.take_of_length_le (l := s') (by omega)]; simp
    have e2 : P.take (i + ys.length) = P.take i ++ (P.drop i).take ys.length := List.take_add
    rw [e1, e2, val_append, val_append, h1, Bp_add, Nat.mul_assoc, Nat.mul_assoc]
    have e3 := congrArg (Bp i * ·) he
    simp only [Nat.mul_add] at e3
    omega
theorem MulInv.done {P xs ys : List Nat} (h : MulInv P xs ys xs.length) : val P = val xs * val ys := by
  have := h.prod
  rw [← h.len, take_len, take_len] at this
  exact this

/-- The same in a row of L limbs, not shorter than the product. -/
structure MulJnv (L : Nat) (P xs ys : List Nat) (i : Nat) : Prop where
  len : P.length = L
  lim : Lim P
  rest : ∀ j, i + ys.length ≤ j → P.getD j 0 = 0
  prod : val (P.take (i + ys.length)) = val (xs.take i) * val ys
theorem MulJnv.start (L : Nat) (xs ys : List Nat) : MulJnv L (List.replicate L 0) xs ys 0 := by
  refine ⟨by simp, Lim.rep _, fun j _ => ?_, ?_⟩
  · by_cases h : j < L <;> simp [List.getD_eq_getElem?_getD, h]
  · rw [List.take_replicate, val_rep]; simp [val]
theorem MulJnv.step {L : Nat} {P xs ys s' : List Nat} {i c : Nat} (h : MulJnv L P xs ys i) (hL : xs.length + ys.length ≤ L) (hi : i < xs.length) (hl : s'.length = ys.length) (hs : Lim s') (hc : c < 4294967296)
    (he : val s' + Bp ys.length * c = val ((P.drop i).take ys.length) + xs.getD i 0 * val ys) :
    MulJnv L ((P.take i ++ (s' ++ P.drop (i + ys.length))).set (i + ys.length) c) xs ys (i + 1) := by
  have hlen := h.len
  have h1 : (P.take i).length = i := by rw [List.length_take]; omega
  have h2 : (P.take i ++ (s' ++ P.drop (i + ys.length))).length = L := by
    rw [List.length_append, List.length_append, List.length_drop, h1, hl]; omega
  refine ⟨by rw [List.length_set, h2], ((h.lim.take i).append (hs.append (h.lim.drop _))).set _ hc, fun j hj => ?_, ?_⟩
  · rw [getD_set_other (by omega), List.getD_eq_getElem?_getD, List.getElem?_append_right (by omega), List.getElem?_append_right (by omega), ← List.getD_eq_getElem?_getD, getD_drop]
    exact h.rest _ (by omega)
  · rw [show i + 1 + ys.length = (i + ys.length) + 1 from by omega, val_take_set (by omega), val_take_succ hi, Nat.add_mul, ← h.prod]
    have e1 : (P.take i ++ (s' ++ P.drop (i + ys.length))).take (i + ys.length) = P.take i ++ s' := by
      rw [List.take_append, h1, List.take_of_length_le (by omega), Nat.add_sub_cancel_left, List.take_append, hl, List.take_of_length_le (l := s') (by omega)]; simp
    have e2 : P.take (i + ys.length) = P.take i ++ (P.drop i).take ys.length := List.take_add
    rw [e1, e2, val_append, val_append, h1, Bp_add, Nat.mul_assoc, Nat.mul_assoc]
    have e3 := congrArg (Bp i * ·) he
    simp only [Nat.mul_add] at e3
    omega
theorem MulJnv.done {L : Nat} {P xs ys : List Nat} (h : MulJnv L P xs ys xs.length) (hL : xs.length + ys.length ≤ L) : val P = val xs * val ys := by
  have hp := h.prod
  rw [take_len] at hp
  have h0 : val (P.drop (xs.length + ys.length)) = 0 := val_zeros (fun j => by rw [getD_drop]; exact h.rest _ (by omega))
  rw [val_take_drop P (xs.length + ys.length) (by rw [h.len]; exact hL), h0, hp]
  omega

/-- Division by a limb, from the last limb on: the limbs from j on are done. -/
structure DivInv (n : Nat) (q xs : List Nat) (b j r : Nat) : Prop where
  len : q.length = n
  lim : Lim q
  rest : r < b
  div : val (xs.drop j) = val (q.drop j) * b + r
theorem DivInv.start {n b : Nat} {xs : List Nat} (hn : xs.length = n) (hb : 0 < b) : DivInv n (List.replicate n 0) xs b n 0 :=
  ⟨by simp, Lim.rep n, hb, by rw [List.drop_of_length_le (by omega), List.drop_of_length_le (by simp)]; simp [val]⟩
theorem DivInv.step {n b j r x : Nat} {q xs : List Nat} (h : DivInv n q xs b (j + 1) r) (hn : xs.length = n) (hj : j < n) (hb : b < 4294967296) (hx : x = xs.getD j 0) (hx2 : x < 4294967296) :
    (r * 4294967296 + x) / b < 4294967296 ∧ DivInv n (q.set j ((r * 4294967296 + x) / b)) xs b j ((r * 4294967296 + x) % b) := by
  have hr := h.rest
  have h1 : (r * 4294967296 + x) / b < 4294967296 := by
    rw [Nat.div_lt_iff_lt_mul (by omega)]
    have : (r + 1) * 4294967296 ≤ b * 4294967296 := Nat.mul_le_mul_right _ hr
    rw [Nat.mul_comm 4294967296 b]
    omega
  refine ⟨h1, by rw [List.length_set, h.len], h.lim.set j h1, Nat.mod_lt _ (by omega), ?_⟩
  rw [val_drop (by omega), val_drop_set (by rw [h.len]; exact hj), h.div, ← hx, Nat.add_mul]
  have e := Nat.div_add_mod (r * 4294967296 + x) b
  rw [Nat.mul_comm b] at e
  rw [Nat.mul_add, Nat.mul_assoc]
  omega
theorem DivInv.done {n b r : Nat} {q xs : List Nat} (h : DivInv n q xs b 0 r) : val q = val xs / b ∧ r = val xs % b := by
  have hd := h.div
  have hr := h.rest
  simp only [List.drop_zero] at hd
  rw [hd]
  constructor
  · rw [Nat.mul_comm, Nat.mul_add_div (by omega), Nat.div_eq_of_lt hr]; omega
  · rw [Nat.mul_comm, Nat.mul_add_mod, Nat.mod_eq_of_lt hr]

/-- A shift down by p = 2^d, from the last limb on: the limbs from j on are done; t: the limb at place j. -/
structure DnInv (n : Nat) (q xs : List Nat) (p j : Nat) : Prop where
  len : q.length = n
  lim : Lim q
  div : val (q.drop j) = val (xs.drop j) / p
theorem DnInv.start {n p : Nat} {xs : List Nat} (hn : xs.length = n) : DnInv n (List.replicate n 0) xs p n :=
  ⟨by simp, Lim.rep n, by rw [List.drop_of_length_le (l := xs) (by omega), List.drop_of_length_le (l := List.replicate n 0) (by simp)]; simp [val]⟩
theorem down_math {p e t x V : Nat} (hpe : p * e = 4294967296) (hx : x < 4294967296) (ht : V % 4294967296 = t) :
    (x + 4294967296 * V) / p = (t * 4294967296 + x) / p % 4294967296 + 4294967296 * (V / p) := by
  have hp : 0 < p := by rcases Nat.eq_zero_or_pos p with h | h; rw [h] at hpe; omega; exact h
  have hv := Nat.div_add_mod V p
  have hvp := Nat.mod_lt V hp
  have htp : t % p = V % p := by
    rw [← ht, ← hpe]
    exact Nat.mod_mul_right_mod V p e
  have ht2 := Nat.div_add_mod t p
  rw [htp] at ht2
  have e1 : x + 4294967296 * V = p * (4294967296 * (V / p)) + (4294967296 * (V % p) + x) := by
    have := congrArg (4294967296 * ·) hv
    simp only [Nat.mul_add] at this
    rw [Nat.mul_left_comm p]; omega
  have e2 : t * 4294967296 + x = p * (4294967296 * (t / p)) + (4294967296 * (V % p) + x) := by
    have := congrArg (4294967296 * ·) ht2
    simp only [Nat.mul_add] at this
    rw [Nat.mul_left_comm p, Nat.mul_comm t]; omega
  rw [e1, e2, Nat.mul_add_div hp, Nat.mul_add_div hp, Nat.mul_add_mod]
  have h3 : (4294967296 * (V % p) + x) / p < 4294967296 := by
    rw [Nat.div_lt_iff_lt_mul hp]
    have : 4294967296 * (V % p + 1) ≤ 4294967296 * p := Nat.mul_le_mul_left _ hvp
    omega
  rw [Nat.mod_eq_of_lt h3]
  omega
theorem DnInv.step {n p e j t x : Nat} {q xs : List Nat} (h : DnInv n q xs p (j + 1)) (hn : xs.length = n) (hl : Lim xs) (hj : j < n) (hpe : p * e = 4294967296) (hx : x = xs.getD j 0) (ht : t = xs.getD (j + 1) 0) :
    DnInv n (q.set j ((t * 4294967296 + x) / p % 4294967296)) xs p j := by
  refine ⟨by rw [List.length_set, h.len], h.lim.set j (by omega), ?_⟩
  rw [val_drop_set (by rw [h.len]; exact hj), val_drop (xs := xs) (by omega), h.div, ← hx]
  refine (down_math hpe (by rw [hx]; exact hl.getD j) ?_).symm
  rw [ht]
  by_cases hk : j + 1 < xs.length
  · rw [val_drop hk]; have := hl.getD (j + 1); omega
  · rw [List.drop_of_length_le (by omega), getD_beyond (by omega)]; rfl
theorem DnInv.done {n p : Nat} {q xs : List Nat} (h : DnInv n q xs p 0) : val q = val xs / p := by
  have := h.div
  simpa using this

end Go.Proofs.YtbobhhnhlgdkiaaGreat.M

/- Plain facts: Knuth's guess, and the long division. No Go text. -/
namespace Go.Proofs.YtbobhhnhlgdkiaaGreat.M

/-- All that the guess leans on: the divisor's two last limbs d1, d0, the dividend's three last ones a2, a1, a0 (hd: the first two of them); Q: how often it can be taken. -/
structure Gs (u v p lu lv a0 hd d0 d1 Q : Nat) : Prop where
  hu : u = lu + p * (a0 + 4294967296 * hd)
  hlu : lu < p
  hv : v = lv + p * (d0 + 4294967296 * d1)
  hlv : lv < p
  ha0 : a0 < 4294967296
  hd0 : d0 < 4294967296
  hd1 : 2147483648 ≤ d1
  hd1b : d1 < 4294967296
  uv : u < 4294967296 * v
  q1 : Q * v ≤ u
  q2 : u < (Q + 1) * v

section
variable {u v p lu lv a0 hd d0 d1 Q : Nat}

theorem Gs.qlt (h : Gs u v p lu lv a0 hd d0 d1 Q) : Q < 4294967296 := by
  apply Nat.lt_of_not_le; intro hle
  have := Nat.mul_le_mul_right v hle
  have := h.q1; have := h.uv
  omega
theorem Gs.over (h : Gs u v p lu lv a0 hd d0 d1 Q) {q : Nat} (hq : a0 + 4294967296 * hd < q * (d0 + 4294967296 * d1)) : Q < q := by
  apply Nat.lt_of_not_le; intro hle
  have h1 : a0 + 4294967296 * hd + 1 ≤ Q * (d0 + 4294967296 * d1) := Nat.le_trans hq (Nat.mul_le_mul_right _ hle)
  have h2 := Nat.mul_le_mul_left p h1
  have h3 : Q * v = Q * lv + p * (Q * (d0 + 4294967296 * d1)) := by rw [h.hv, Nat.mul_add, Nat.mul_left_comm]
  rw [Nat.mul_add p _ 1, Nat.mul_one] at h2
  have := h.hu; have := h.hlu; have := h.q1
  omega
theorem Gs.exit (h : Gs u v p lu lv a0 hd d0 d1 Q) {q : Nat} (hq : q < 4294967296) (hle : q * (d0 + 4294967296 * d1) ≤ a0 + 4294967296 * hd) : q ≤ Q + 1 := by
  apply Nat.le_of_not_lt; intro hlt
  have h1 := Nat.mul_le_mul_right v (show Q + 1 + 1 ≤ q from hlt)
  rw [Nat.add_mul (Q + 1) 1 v, Nat.one_mul] at h1
  have h3 : q * v = q * lv + p * (q * (d0 + 4294967296 * d1)) := by rw [h.hv, Nat.mul_add, Nat.mul_left_comm]
  have h4 := Nat.mul_le_mul_left p hle
  have h5 : q * lv ≤ 4294967296 * p := Nat.mul_le_mul (by omega) (by have := h.hlv; omega)
  have hd1 := h.hd1
  have h6 : p * 4294967296 ≤ p * (d0 + 4294967296 * d1) := Nat.mul_le_mul_left p (by omega)
  have := h.hu; have := h.hv; have := h.q2
  omega
theorem Gs.top (h : Gs u v p lu lv a0 hd d0 d1 Q) : hd < 4294967296 * (d1 + 1) := by
  apply Nat.lt_of_not_le; intro hle
  have h1 : p * (4294967296 * (4294967296 * (d1 + 1))) ≤ p * (a0 + 4294967296 * hd) := Nat.mul_le_mul_left p (by omega)
  have h2 : p * (d0 + 4294967296 * d1 + 1) ≤ p * (4294967296 * (d1 + 1)) := Nat.mul_le_mul_left p (by have := h.hd0; omega)
  rw [Nat.mul_add p _ 1, Nat.mul_one] at h2
  rw [Nat.mul_left_comm p] at h1
  have := h.hu; have := h.hv; have := h.uv; have := h.hlv
  omega
theorem Gs.first (h : Gs u v p lu lv a0 hd d0 d1 Q) : Q ≤ hd / d1 := by
  have hd1 := h.hd1
  rw [Nat.le_div_iff_mul_le (by omega)]
  apply Nat.le_of_not_lt; intro hlt
  -- (hd + 1) <= Q * d1
  have h1 : p * (4294967296 * (hd + 1)) ≤ p * (4294967296 * (Q * d1)) := Nat.mul_le_mul_left p (Nat.mul_le_mul_left _ hlt)
  have h2 : p * (a0 + 4294967296 * hd + 1) ≤ p * (4294967296 * (hd + 1)) := Nat.mul_le_mul_left p (by have := h.ha0; omega)
  rw [Nat.mul_add p _ 1, Nat.mul_one] at h2
  have h3 : Q * v = Q * lv + (p * (Q * d0) + p * (4294967296 * (Q * d1))) := by
    rw [h.hv, Nat.mul_add Q, Nat.mul_left_comm Q p, Nat.mul_add Q, Nat.mul_add p, Nat.mul_left_comm Q 4294967296]
  have := h.hu; have := h.hlu; have := h.q1
  omega
theorem Gs.first_le (h : Gs u v p lu lv a0 hd d0 d1 Q) : hd / d1 ≤ 4294967297 := by
  have ht := h.top
  have hd1 := h.hd1
  have : hd / d1 < 4294967298 := by
    rw [Nat.div_lt_iff_lt_mul (by omega)]
    omega
  omega

/-- What holds at the loop's head. -/
structure GsInv (hd d1 Q q r : Nat) : Prop where
  eq : q * d1 + r = hd
  ge : Q ≤ q
  le : q ≤ 4294967297
  hr : r < 4294967296
theorem Gs.start (h : Gs u v p lu lv a0 hd d0 d1 Q) : GsInv hd d1 Q (hd / d1) (hd % d1) := by
  have hd1 := h.hd1
  have hm := Nat.mod_lt hd (show d1 > 0 from by omega)
  have hb := h.hd1b
  exact ⟨by rw [Nat.mul_comm]; exact Nat.div_add_mod hd d1, h.first, h.first_le, by omega⟩
/-- Too great: one less. -/
theorem Gs.less (h : Gs u v p lu lv a0 hd d0 d1 Q) {q r : Nat} (hi : GsInv hd d1 Q q r) (hq : 4294967296 ≤ q ∨ r * 4294967296 + a0 < q * d0) :
    Q < q ∧ (q - 1) * d1 + (r + d1) = hd := by
  have h1 : Q < q := by
    rcases hq with hq | hq
    · have := h.qlt; omega
    · apply h.over
      rw [Nat.mul_add, Nat.mul_left_comm]
      have := hi.eq
      omega
  refine ⟨h1, ?_⟩
  obtain ⟨q', rfl⟩ : ∃ q', q = q' + 1 := ⟨q - 1, by omega⟩
  have := hi.eq
  rw [Nat.add_mul, Nat.one_mul] at this
  rw [Nat.add_sub_cancel]
  omega
theorem Gs.fine (h : Gs u v p lu lv a0 hd d0 d1 Q) {q r : Nat} (he : q * d1 + r = hd) (hq : q < 4294967296) (hle : q * d0 ≤ r * 4294967296 + a0) : q ≤ Q + 1 := by
  apply h.exit hq
  rw [Nat.mul_add, Nat.mul_left_comm]
  omega
theorem Gs.broke (h : Gs u v p lu lv a0 hd d0 d1 Q) {q r : Nat} (he : q * d1 + r = hd) (hr : 4294967296 ≤ r) : q < 4294967296 ∧ q ≤ Q + 1 := by
  have h1 : q < 4294967296 := by
    apply Nat.lt_of_not_le; intro hle
    have := Nat.mul_le_mul_right d1 hle
    have := h.top
    omega
  refine ⟨h1, h.fine he h1 ?_⟩
  have h0 := h.hd0
  have := Nat.mul_le_mul (show q ≤ 4294967296 from by omega) (show d0 ≤ 4294967296 from by omega)
  omega
end

/-- The two numbers, as the limbs give them. -/
theorem Gs.mk' {ls ds : List Nat} {n : Nat} (hl : Lim ls) (hd : Lim ds) (hll : ls.length = n + 3) (hdl : ds.length = n + 2) (htop : 2147483648 ≤ ds.getD (n + 1) 0) (huv : val ls < 4294967296 * val ds) :
    Gs (val ls) (val ds) (Bp n) (val (ls.take n)) (val (ds.take n)) (ls.getD n 0) (ls.getD (n + 1) 0 + 4294967296 * ls.getD (n + 2) 0) (ds.getD n 0) (ds.getD (n + 1) 0) (val ls / val ds) := by
  have hv : 0 < val ds := by omega
  refine ⟨?_, ?_, ?_, ?_, hl.getD _, hd.getD _, htop, hd.getD _, huv, Nat.div_mul_le_self _ _, ?_⟩
  · rw [val_take_drop ls n (by omega), val_drop (by omega), val_drop (by omega), val_drop (by omega), List.drop_of_length_le (by omega)]
    simp [val]
  · have := val_lt (hl.take n); rwa [List.length_take, Nat.min_eq_left (by omega)] at this
  · rw [val_take_drop ds n (by omega), val_drop (by omega), val_drop (by omega), List.drop_of_length_le (by omega)]
    simp [val]
  · have := val_lt (hd.take n); rwa [List.length_take, Nat.min_eq_left (by omega)] at this
  · have := Nat.lt_div_mul_add hv (a := val ls); rw [Nat.add_mul, Nat.one_mul]; exact this

/-- The guess was right, or 1 too great and a divisor is added again. -/
theorem step_yes {u v q t P b : Nat} (h1 : u / v ≤ q) (h2 : q ≤ u / v + 1) (hv : 0 < v) (he : t + q * v = u + P * b) (hb : b = 0) : q = u / v ∧ t = u % v := by
  subst hb
  have hm := Nat.div_add_mod u v
  have hml := Nat.mod_lt u hv
  rw [Nat.mul_comm] at hm
  rcases (show q = u / v ∨ q = u / v + 1 from by omega) with rfl | rfl
  · exact ⟨rfl, by omega⟩
  · rw [Nat.add_mul, Nat.one_mul] at he; omega
theorem step_no {u v q t t2 P b c : Nat} (h1 : u / v ≤ q) (h2 : q ≤ u / v + 1) (hv : 0 < v) (he : t + q * v = u + P * b) (ht : t < P) (hb : b = 1) (ht2 : t2 < P) (hc : c ≤ 1) (ha : t2 + P * c = t + v) :
    1 ≤ q ∧ q - 1 = u / v ∧ t2 = u % v := by
  subst hb
  have hm := Nat.div_add_mod u v
  have hml := Nat.mod_lt u hv
  rw [Nat.mul_comm] at hm
  generalize u / v = Q at *
  generalize u % v = R at *
  rcases (show q = Q ∨ q = Q + 1 from by omega) with rfl | rfl
  · omega
  · rw [Nat.add_mul, Nat.one_mul] at he
    rcases (show c = 0 ∨ c = 1 from by omega) with rfl | rfl
    · exact ⟨by omega, by omega, by omega⟩
    · exact ⟨by omega, by omega, by omega⟩

theorem val_rest_zero {xs : List Nat} {n V : Nat} (h : val xs < V) (hV : V ≤ Bp n) (hn : n ≤ xs.length) : val (xs.drop n) = 0 := by
  have := val_take_drop xs n hn
  rcases Nat.eq_zero_or_pos (val (xs.drop n)) with h0 | h0
  · exact h0
  · have := Nat.mul_le_mul_left (Bp n) h0
    omega

/-- Long division, from the last limb on: the quotient's limbs from j on are done. n: the divisor's limbs, V its value; m: the dividend's limbs. -/
structure LongInv (m n U V : Nat) (L q : List Nat) (j : Nat) : Prop where
  len : L.length = m + 1
  lim : Lim L
  qlen : q.length = m - n + 1
  qlim : Lim q
  low : val (L.drop j) < V
  eq : U = val L + val (q.drop j) * (Bp j * V)
theorem LongInv.start {m n U V : Nat} {L : List Nat} (hl : L.length = m + 1) (hm : Lim L) (hu : val L = U) (hn : n ≤ m) (hlow : U < Bp (m - n + 1) * V) : LongInv m n U V L (List.replicate (m - n + 1) 0) (m - n + 1) := by
  refine ⟨hl, hm, by simp, Lim.rep _, ?_, by rw [List.drop_of_length_le (l := List.replicate (m - n + 1) 0) (by simp)]; simp [val, hu]⟩
  apply Nat.lt_of_not_le; intro hle
  have := Nat.mul_le_mul_left (Bp (m - n + 1)) hle
  have := val_take_drop L (m - n + 1) (by omega)
  omega
theorem LongInv.seg {m n U V j : Nat} {L q : List Nat} (h : LongInv m n U V L q (j + 1)) (hV : V ≤ Bp n) (hj : j + n + 1 ≤ m + 1) :
    val ((L.drop j).take (n + 1)) = val (L.drop j) ∧ val (L.drop (j + (n + 1))) = 0 ∧ val ((L.drop j).take (n + 1)) < 4294967296 * V := by
  have hl := h.len
  have h0 : val (L.drop (j + (n + 1))) = 0 := by
    have := val_rest_zero h.low hV (by rw [List.length_drop]; omega)
    rw [List.drop_drop] at this
    rw [show j + (n + 1) = j + 1 + n from by omega]; exact this
  have h1 := val_take_drop (L.drop j) (n + 1) (by rw [List.length_drop]; omega)
  rw [List.drop_drop, h0, Nat.mul_zero, Nat.add_zero] at h1
  refine ⟨h1.symm, h0, ?_⟩
  rw [← h1, val_drop (by omega)]
  have := h.lim.getD j
  have := h.low
  omega
theorem LongInv.step {m n U V j : Nat} {L q s' : List Nat} (h : LongInv m n U V L q (j + 1)) (hV : V ≤ Bp n) (hV0 : 0 < V) (hj : j + n + 1 ≤ m + 1) (hs : s'.length = n + 1) (hsl : Lim s')
    (he : val s' = val ((L.drop j).take (n + 1)) % V) (hq : val ((L.drop j).take (n + 1)) / V < 4294967296) :
    LongInv m n U V (L.take j ++ (s' ++ L.drop (j + (n + 1)))) (q.set j (val ((L.drop j).take (n + 1)) / V)) j := by
  have hl := h.len
  obtain ⟨e1, e2, _⟩ := h.seg hV hj
  have ht : (L.take j).length = j := by rw [List.length_take]; omega
  have hd : (L.take j ++ (s' ++ L.drop (j + (n + 1)))).drop j = s' ++ L.drop (j + (n + 1)) := by
    rw [List.drop_append, ht, List.drop_of_length_le (by omega), Nat.sub_self]; simp
  have hvd : val (s' ++ L.drop (j + (n + 1))) = val s' := by rw [val_append, e2]; omega
  refine ⟨by rw [List.length_append, List.length_append, List.length_drop, ht, hs]; omega, (h.lim.take j).append (hsl.append (h.lim.drop _)), by rw [List.length_set, h.qlen], h.qlim.set j hq, ?_, ?_⟩
  · rw [hd, hvd, he]; exact Nat.mod_lt _ hV0
  · rw [val_append, hvd, ht, he, val_drop_set (by rw [h.qlen]; omega), h.eq, val_take_drop L j (by omega), ← e1]
    generalize val ((L.drop j).take (n + 1)) = W
    have hm := Nat.div_add_mod W V
    have hm2 := congrArg (Bp j * ·) hm
    simp only [Nat.mul_add] at hm2
    rw [Nat.add_mul, Bp_succ]
    have r1 : val (q.drop (j + 1)) * (4294967296 * Bp j * V) = 4294967296 * val (q.drop (j + 1)) * (Bp j * V) := by
      rw [Nat.mul_assoc 4294967296 (Bp j) V, Nat.mul_left_comm, Nat.mul_assoc]
    have r2 : W / V * (Bp j * V) = Bp j * (V * (W / V)) := by
      rw [Nat.mul_left_comm, Nat.mul_comm (W / V) V]
    rw [r1, r2]
    omega
theorem LongInv.done {m n U V : Nat} {L q : List Nat} (h : LongInv m n U V L q 0) (hV : V ≤ Bp n) (hn : n ≤ m) : val q = U / V ∧ val (L.take n) = U % V := by
  have hl := h.low
  have he := h.eq
  rw [List.drop_zero] at hl
  rw [List.drop_zero, Bp_zero, Nat.one_mul] at he
  have h0 := val_rest_zero hl hV (by rw [h.len]; omega)
  have h1 := val_take_drop L n (by rw [h.len]; omega)
  rw [h0, Nat.mul_zero, Nat.add_zero] at h1
  rw [he, ← h1, Nat.mul_comm]
  constructor
  · rw [Nat.add_mul_div_left _ _ (by omega), Nat.div_eq_of_lt hl]; omega
  · rw [Nat.add_mul_mod_self_left, Nat.mod_eq_of_lt hl]

/-- The shift that sets the last bit. -/
theorem shift_top {x l : Nat} (hx : x ≠ 0) (hl : nb x = l) (hx2 : x < 4294967296) : l ≤ 32 ∧ 1 ≤ l ∧ 2147483648 ≤ x * 2 ^ (32 - l) ∧ (x + 1) * 2 ^ (32 - l) ≤ 4294967296 := by
  have h1 := nb_lt x
  have h2 := nb_ge hx
  have h3 := nb_pos hx
  rw [hl] at h1 h2 h3
  have hl32 : l ≤ 32 := by
    apply Nat.le_of_not_lt; intro hlt
    have : 2 ^ 32 ≤ 2 ^ (l - 1) := Nat.pow_le_pow_right (by omega) (by omega)
    omega
  refine ⟨hl32, h3, ?_, ?_⟩
  · have := Nat.mul_le_mul_right (2 ^ (32 - l)) h2
    rw [← Nat.pow_add, show l - 1 + (32 - l) = 31 from by omega] at this
    exact this
  · have := Nat.mul_le_mul_right (2 ^ (32 - l)) h1
    rw [← Nat.pow_add, show l + (32 - l) = 32 from by omega] at this
    exact this

/-- The divisor, shifted: as long as it was, its last bit set. -/
theorem divisor_shift {b n d : Nat} (hb : b ≠ 0) (hn : (toL b).length = n + 1) (hd : d + nb ((toL b).getD n 0) = 32) {s : List Nat} (hs : s.length = n + 2) (hsl : Lim s) (hv : val s = b * 2 ^ d) :
    val (s.take (n + 1)) = b * 2 ^ d ∧ 2147483648 ≤ (s.take (n + 1)).getD n 0 ∧ b * 2 ^ d ≤ Bp (n + 1) ∧ Bp n * 2 ^ d ≤ b * 2 ^ d := by
  have ht := toL_last hb
  rw [hn, Nat.add_sub_cancel] at ht
  have htl := (Lim_toL b).getD n
  have e := val_take_succ (xs := toL b) (k := n) (by omega)
  rw [← hn, take_len, val_toL] at e
  have hl := val_lt ((Lim_toL b).take n)
  rw [List.length_take, Nat.min_eq_left (by omega)] at hl
  obtain ⟨g1, g2, g3, g4⟩ := shift_top ht rfl htl
  rw [show 32 - nb ((toL b).getD n 0) = d from by omega] at g3 g4
  generalize (toL b).getD n 0 = t at *
  have hlt : b * 2 ^ d < Bp (n + 1) := by
    have h1 : b < Bp n * (t + 1) := by rw [Nat.mul_add, Nat.mul_one]; omega
    have h2 : b * 2 ^ d < Bp n * (t + 1) * 2 ^ d := (Nat.mul_lt_mul_right (Nat.two_pow_pos d)).2 h1
    have h3 := Nat.mul_le_mul_left (Bp n) g4
    rw [Nat.mul_assoc] at h2
    rw [Bp_succ, Nat.mul_comm 4294967296]
    omega
  have hge : Bp n * 2147483648 ≤ b * 2 ^ d := by
    have h1 := Nat.mul_le_mul_left (Bp n) g3
    have h2 : Bp n * t * 2 ^ d ≤ b * 2 ^ d := Nat.mul_le_mul_right _ (by omega)
    rw [Nat.mul_assoc] at h2
    omega
  have h0 : val (s.drop (n + 1)) = 0 := val_rest_zero (by rw [hv]; exact hlt) (Nat.le_refl _) (by omega)
  have hvt : val (s.take (n + 1)) = b * 2 ^ d := by
    have := val_take_drop s (n + 1) (by omega)
    rw [h0, Nat.mul_zero, Nat.add_zero] at this
    omega
  refine ⟨hvt, ?_, by omega, Nat.mul_le_mul_right _ ?_⟩
  · rw [getD_take _ _ _ (by omega)]
    rw [val_take_succ (by omega)] at hvt
    have hl2 := val_lt (hsl.take n)
    rw [List.length_take, Nat.min_eq_left (by omega)] at hl2
    apply Nat.le_of_not_lt; intro hlt2
    have := Nat.mul_le_mul_left (Bp n) (show s.getD n 0 + 1 ≤ 2147483648 from hlt2)
    rw [Nat.mul_add, Nat.mul_one] at this
    omega
  · have := toL_ge hb
    rw [hn, Nat.add_sub_cancel] at this
    exact this

end Go.Proofs.YtbobhhnhlgdkiaaGreat.M

/- Plain facts: the document's own division. No Go text. -/
namespace Go.Proofs.YtbobhhnhlgdkiaaGreat.M

theorem toL_len_eq {v n : Nat} (h1 : Bp n ≤ v) (h2 : v < Bp (n + 1)) : (toL v).length = n + 1 := by
  have a := toL_len_le h2
  have b := val_lt (Lim_toL v)
  rw [val_toL] at b
  apply Nat.le_antisymm a
  apply Nat.le_of_not_lt; intro hlt
  have := Bp_mono (show (toL v).length ≤ n from by omega)
  omega
theorem top_ge {L m : Nat} (h : (toL L).length = m + 1) : (toL L).getD m 0 * Bp m ≤ L := by
  have e := val_take_succ (xs := toL L) (k := m) (by omega)
  rw [List.take_of_length_le (by omega), val_toL, Nat.mul_comm] at e
  omega
theorem top_ge2 {L m : Nat} (h : (toL L).length = m + 2) : ((toL L).getD (m + 1) 0 * 4294967296 + (toL L).getD m 0) * Bp m ≤ L := by
  have e := val_take_succ (xs := toL L) (k := m + 1) (by omega)
  have e2 := val_take_succ (xs := toL L) (k := m) (by omega)
  rw [List.take_of_length_le (by omega), val_toL, Bp_succ] at e
  generalize (toL L).getD (m + 1) 0 = T at *
  generalize (toL L).getD m 0 = S at *
  rw [Nat.mul_assoc] at e
  rw [Nat.add_mul, Nat.mul_comm S, Nat.mul_assoc T, Nat.mul_left_comm T, Nat.mul_comm T]
  omega
theorem top_lt {b n : Nat} (h : (toL b).length = n + 1) : b < ((toL b).getD n 0 + 1) * Bp n := by
  have e := val_take_succ (xs := toL b) (k := n) (by omega)
  rw [List.take_of_length_le (by omega), val_toL] at e
  have hl := val_lt ((Lim_toL b).take n)
  rw [List.length_take, Nat.min_eq_left (by omega)] at hl
  rw [Nat.add_mul, Nat.one_mul, Nat.mul_comm _ (Bp n)]
  omega
/-- So many times the divisor, at that place, is not too great. -/
theorem some_le {t top x p n e L b : Nat} (h1 : t * top ≤ x) (h2 : x * Bp e ≤ L) (h3 : b < top * Bp n) (h4 : n + p = e) : Bp p * t * b ≤ L := by
  subst h4
  have a := Nat.mul_le_mul_left (Bp p * t) (Nat.le_of_lt h3)
  have c := Nat.mul_le_mul_right (Bp (n + p)) h1
  have e : Bp p * t * (top * Bp n) = t * top * Bp (n + p) := by
    rw [Bp_add, Nat.mul_comm (Bp p) t, Nat.mul_assoc t (Bp p), Nat.mul_assoc t top]
    congr 1
    rw [Nat.mul_left_comm (Bp p) top, Nat.mul_comm (Bp p)]
  omega

end Go.Proofs.YtbobhhnhlgdkiaaGreat.M

/- The square root, as a function on naturals. -/
namespace Go.Proofs.YtbobhhnhlgdkiaaGreat.M

/-- The greatest number whose square is not above n. -/
def isq : Nat → Nat
  | 0 => 0
  | n + 1 => if (isq n + 1) * (isq n + 1) ≤ n + 1 then isq n + 1 else isq n
theorem isq_le (n : Nat) : isq n * isq n ≤ n := by
  induction n with
  | zero => simp [isq]
  | succ n ih => unfold isq; split <;> omega
theorem isq_lt (n : Nat) : n < (isq n + 1) * (isq n + 1) := by
  induction n with
  | zero => simp [isq]
  | succ n ih =>
    unfold isq; split
    · have : (isq n + 1) * (isq n + 1) < (isq n + 1 + 1) * (isq n + 1 + 1) := Nat.mul_lt_mul'' (by omega) (by omega)
      omega
    · omega
theorem sq_le {a b : Nat} (h : a ≤ b) : a * a ≤ b * b := Nat.mul_le_mul h h
theorem isq_eq {n s : Nat} (h : s * s ≤ n) (k : n < (s + 1) * (s + 1)) : isq n = s := by
  have h1 := isq_le n
  have h2 := isq_lt n
  apply Nat.le_antisymm
  · apply Nat.le_of_not_lt; intro hl
    have := sq_le (show s + 1 ≤ isq n from hl); omega
  · apply Nat.le_of_not_lt; intro hl
    have := sq_le (show isq n + 1 ≤ s from hl); omega
/-- Bit by bit: X is not above the root, and less than 2^k below what is beyond it. -/
structure SqInv (V X k : Nat) : Prop where
  le : X * X ≤ V
  lt : V < (X + 2 ^ k) * (X + 2 ^ k)
theorem SqInv.yes {V X k : Nat} (h : SqInv V X (k + 1)) (hy : (X + 2 ^ k) * (X + 2 ^ k) ≤ V) : SqInv V (X + 2 ^ k) k := by
  refine ⟨hy, ?_⟩
  have := h.lt
  rw [Nat.pow_succ, Nat.mul_two, ← Nat.add_assoc] at this
  exact this
theorem SqInv.no {V X k : Nat} (h : SqInv V X (k + 1)) (hy : V < (X + 2 ^ k) * (X + 2 ^ k)) : SqInv V X k := ⟨h.le, hy⟩
theorem SqInv.done {V X : Nat} (h : SqInv V X 0) : isq V = X := isq_eq h.le (by have := h.lt; rwa [Nat.pow_zero] at this)
theorem SqInv.start {V b : Nat} (h : V < 2 ^ b) : SqInv V 0 ((b + 1) / 2 + 1) := by
  refine ⟨Nat.zero_le _, Nat.lt_of_lt_of_le h ?_⟩
  rw [Nat.zero_add, ← Nat.pow_add]
  exact Nat.pow_le_pow_right (by omega) (by omega)
end Go.Proofs.YtbobhhnhlgdkiaaGreat.M

/- Numbers that are quotients: Lean's own Rat; how a sign and two naturals are read as one. -/
namespace Go.Proofs.YtbobhhnhlgdkiaaGreat.M
/-- A natural with a sign. -/
def sg (s : Bool) (n : Nat) : Int := if s then -(n : Int) else n
theorem sg_abs (s : Bool) (n : Nat) : (sg s n).natAbs = n := by cases s <;> simp [sg]
theorem sg_zero (s : Bool) : sg s 0 = 0 := by cases s <;> rfl
theorem sg_mul (s t : Bool) (n m : Nat) : sg s n * sg t m = sg (s != t) (n * m) := by
  cases s <;> cases t <;> simp [sg, Int.natCast_mul, Int.neg_mul, Int.mul_neg]
theorem sg_not (s : Bool) (n : Nat) : sg (!s) n = - sg s n := by cases s <;> simp [sg]
/-- The number that a Rat is read as. -/
def rq (s : Bool) (n d : Nat) : Rat := mkRat (sg s n) d
theorem rq_num0 (s : Bool) (d : Nat) : rq s 0 d = 0 := by unfold rq; rw [sg_zero, Rat.zero_mkRat]
theorem rq_den0 (s : Bool) (n : Nat) : rq s n 0 = 0 := by unfold rq; rw [Rat.mkRat_zero]

theorem rq_canon {s : Bool} {n d : Nat} (hd : d ≠ 0) :
    (rq s n d).num = sg s (n / Nat.gcd n d) ∧ (rq s n d).den = d / Nat.gcd n d := by
  unfold rq
  rw [show mkRat (sg s n) d = Rat.normalize (sg s n) d hd from by unfold mkRat; rw [dif_neg hd], Rat.normalize_eq]
  simp only [sg_abs]
  refine ⟨?_, trivial⟩
  cases s
  · simp [sg]
  · simp only [sg, if_true]
    rw [Int.neg_ediv_of_dvd (Int.ofNat_dvd.2 (Nat.gcd_dvd_left n d))]
    simp
theorem gcd_pos' {n d : Nat} (hd : d ≠ 0) : 0 < Nat.gcd n d := Nat.gcd_pos_of_pos_right _ (Nat.pos_of_ne_zero hd)
theorem rq_sign {s : Bool} {n d : Nat} (hn : n ≠ 0) (hd : d ≠ 0) : decide ((rq s n d).num < 0) = s := by
  rw [(rq_canon hd).1]
  have : 0 < n / Nat.gcd n d := Nat.div_pos (Nat.gcd_le_left d (Nat.pos_of_ne_zero hn)) (gcd_pos' hd)
  cases s
  · simp [sg]; omega
  · simp [sg]; omega
theorem rq_natAbs {s : Bool} {n d : Nat} (hd : d ≠ 0) : (rq s n d).num.natAbs = n / Nat.gcd n d := by
  rw [(rq_canon hd).1, sg_abs]

/-- A canonical number is read as itself. -/
theorem rq_self (q : Rat) : rq (decide (q.num < 0)) q.num.natAbs q.den = q := by
  unfold rq
  have : sg (decide (q.num < 0)) q.num.natAbs = q.num := by
    unfold sg
    by_cases h : q.num < 0
    · simp [h]; omega
    · simp [h]; omega
  rw [this, Rat.mkRat_self]

theorem rq_mul (s t : Bool) (n d m e : Nat) : rq s n d * rq t m e = rq (s != t) (n * m) (d * e) := by
  unfold rq
  rw [Rat.mkRat_mul_mkRat, sg_mul]
theorem rq_not (s : Bool) (n d : Nat) : rq (!s) n d = - rq s n d := by
  unfold rq
  rw [sg_not, Rat.neg_mkRat]
theorem rq_inv (s : Bool) (n d : Nat) : (rq s n d)⁻¹ = rq s d n := by
  by_cases hn : n = 0
  · subst hn; rw [rq_num0, rq_den0, Rat.inv_zero]
  by_cases hd : d = 0
  · subst hd; rw [rq_num0, rq_den0, Rat.inv_zero]
  have h : rq s n d * rq s d n = 1 := by
    rw [rq_mul]
    unfold rq
    rw [Nat.mul_comm d n, show (s != s) = false from by cases s <;> rfl, show sg false (n * d) = ((n * d : Nat) : Int) from rfl]
    have : mkRat (((n * d : Nat) : Int) * 1) (n * d * 1) = mkRat 1 1 := Rat.mkRat_mul_left (Nat.mul_ne_zero hn hd)
    rw [Int.mul_one, Nat.mul_one] at this
    rw [this]; rfl
  have hne : rq s n d ≠ 0 := by
    intro h0; rw [h0, Rat.zero_mul] at h; exact absurd h (by decide)
  grind

theorem rq_add_same {s : Bool} {n d m e : Nat} (hd : d ≠ 0) (he : e ≠ 0) : rq s n d + rq s m e = rq s (n * e + m * d) (d * e) := by
  unfold rq
  rw [Rat.mkRat_add_mkRat _ _ hd he]
  congr 1
  cases s <;> simp [sg, Int.natCast_add, Int.natCast_mul, Int.neg_mul]
  omega
theorem rq_add_ge {s t : Bool} {n d m e : Nat} (hst : s ≠ t) (hd : d ≠ 0) (he : e ≠ 0) (h : m * d ≤ n * e) : rq s n d + rq t m e = rq s (n * e - m * d) (d * e) := by
  unfold rq
  rw [Rat.mkRat_add_mkRat _ _ hd he]
  congr 1
  cases s <;> cases t <;> simp at hst <;> simp [sg, Int.neg_mul, Int.natCast_sub h, Int.natCast_mul] <;> omega
theorem rq_add_lt {s t : Bool} {n d m e : Nat} (hst : s ≠ t) (hd : d ≠ 0) (he : e ≠ 0) (h : n * e ≤ m * d) : rq s n d + rq t m e = rq t (m * d - n * e) (d * e) := by
  unfold rq
  rw [Rat.mkRat_add_mkRat _ _ hd he]
  congr 1
  cases s <;> cases t <;> simp at hst <;> simp [sg, Int.neg_mul, Int.natCast_sub h, Int.natCast_mul] <;> omega

/-- The sign of a number. -/
def qsgn (q : Rat) : Int := if q.num < 0 then -1 else if q.num = 0 then 0 else 1
theorem qsgn_rq {s : Bool} {n d : Nat} : qsgn (rq s n d) = if n = 0 ∨ d = 0 then 0 else if s then -1 else 1 := by
  by_cases hn : n = 0
  · subst hn; rw [rq_num0, if_pos (.inl rfl)]; rfl
  by_cases hd : d = 0
  · subst hd; rw [rq_den0, if_pos (.inr rfl)]; rfl
  rw [if_neg (by omega)]
  have h := rq_sign (s := s) hn hd
  have hc := (rq_canon (s := s) (n := n) hd).1
  have hp : 0 < n / Nat.gcd n d := Nat.div_pos (Nat.gcd_le_left d (Nat.pos_of_ne_zero hn)) (gcd_pos' hd)
  unfold qsgn
  rw [hc]
  cases s
  · simp [sg]; omega
  · simp [sg]; omega
theorem qsgn_zero {q : Rat} : qsgn q = 0 ↔ q = 0 := by
  unfold qsgn
  rw [← Rat.num_eq_zero]
  by_cases h : q.num < 0
  · rw [if_pos h]; omega
  · rw [if_neg h]
    by_cases h0 : q.num = 0
    · rw [if_pos h0]; omega
    · rw [if_neg h0]; omega
theorem num_lt {q : Rat} : q.num < 0 ↔ q < 0 := by
  rw [Rat.lt_iff]; simp
theorem num_gt {q : Rat} : 0 < q.num ↔ 0 < q := by
  rw [Rat.lt_iff]; simp
theorem qsgn_cases (q : Rat) : (qsgn q = -1 ∧ q < 0) ∨ (qsgn q = 0 ∧ q = 0) ∨ (qsgn q = 1 ∧ 0 < q) := by
  unfold qsgn
  rw [← num_lt, ← num_gt, ← Rat.num_eq_zero]
  by_cases h : q.num < 0
  · rw [if_pos h]; exact .inl ⟨rfl, h⟩
  · rw [if_neg h]
    by_cases h0 : q.num = 0
    · rw [if_pos h0]; exact .inr (.inl ⟨rfl, h0⟩)
    · rw [if_neg h0]; exact .inr (.inr ⟨rfl, by omega⟩)
/-- A number without its sign. -/
def qabs (q : Rat) : Rat := if q.num < 0 then -q else q
theorem qabs_rq (s : Bool) (n d : Nat) : qabs (rq s n d) = rq false n d := by
  by_cases hn : n = 0
  · subst hn; rw [rq_num0, rq_num0]; rfl
  by_cases hd : d = 0
  · subst hd; rw [rq_den0, rq_den0]; rfl
  have h := rq_sign (s := s) hn hd
  unfold qabs
  cases s
  · rw [if_neg (by simpa using h)]
  · rw [if_pos (by simpa using h), ← rq_not]; rfl

theorem rq_one (s : Bool) (k : Nat) : rq s k 1 = ((sg s k : Int) : Rat) := by
  unfold rq; rw [Rat.mkRat_eq_div]; simp [Rat.div_def]; grind
/-- Has a number a root? -/
def qsq (q : Rat) : Bool := decide (¬ q.num < 0 ∧ isq q.num.natAbs * isq q.num.natAbs = q.num.natAbs ∧ isq q.den * isq q.den = q.den)
def qsqrt (q : Rat) : Rat := if qsq q then rq false (isq q.num.natAbs) (isq q.den) else 0
end Go.Proofs.YtbobhhnhlgdkiaaGreat.M

/- Lehmer's steps: many steps of Euclid at once, foreseen from the first bits (Collins' rule). -/
namespace Go.Proofs.YtbobhhnhlgdkiaaGreat.M

/-- Two rests r and r' of the heads a and b, what they are made of, and that they are sure. -/
structure Sure (t : Bool) (a b u0 u1 v0 v1 r r' : Nat) : Prop where
  ea : v1 * r + v0 * r' = a
  eb : u1 * r + u0 * r' = b
  det : if t then u1 * v0 = u0 * v1 + 1 else u0 * v1 = u1 * v0 + 1
  lo : v1 ≤ r'
  gap : r' + v0 + v1 ≤ r
  uv0 : v0 = 0 ∨ u0 ≤ v0
  uv1 : u1 ≤ v1
  one : 1 ≤ v1
  up : v0 ≤ v1

/-- The loop of the heads: x and y are the last two rests. -/
structure Fs (t : Bool) (a b x y u0 u1 u2 v0 v1 v2 : Nat) : Prop where
  ea : v2 * x + v1 * y = a
  eb : u2 * x + u1 * y = b
  det : if t then u1 * v2 = u2 * v1 + 1 else u2 * v1 = u1 * v2 + 1
  le : y ≤ x
  pos : 1 ≤ x
  uv1 : (v1 = 0 ∧ u1 = 1 ∧ u2 = 0) ∨ u1 ≤ v1
  uv2 : u2 ≤ v2
  one : 1 ≤ v2
  up : v1 ≤ v2
  past : v0 = 0 ∨ ∃ r r', Sure t a b u0 u1 v0 v1 r r'

theorem Fs.start {a b : Nat} (hb : b ≤ a) (ha : 1 ≤ a) : Fs true a b a b 0 1 0 0 0 1 :=
  ⟨by omega, by omega, by simp, hb, ha, .inl ⟨rfl, rfl, rfl⟩, by omega, by omega, by omega, .inl rfl⟩

theorem Fs.bounds {t : Bool} {a b x y u0 u1 u2 v0 v1 v2 : Nat} (h : Fs t a b x y u0 u1 u2 v0 v1 v2) : v2 ≤ a ∧ v1 ≤ a ∧ u2 ≤ a ∧ x ≤ a := by
  have h1 := h.ea
  have h2 := Nat.le_mul_of_pos_right v2 h.pos
  have h3 := Nat.le_mul_of_pos_left x h.one
  have := h.up
  have := h.uv2
  omega

/-- A sure step. -/
theorem Fs.step {t : Bool} {a b x y u0 u1 u2 v0 v1 v2 : Nat} (h : Fs t a b x y u0 u1 u2 v0 v1 v2) (h1 : v2 ≤ y) (h2 : v1 + v2 ≤ x - y) :
    Fs (!t) a b y (x % y) u1 u2 (u1 + x / y * u2) v1 v2 (v1 + x / y * v2) := by
  have hy : 0 < y := by have := h.one; omega
  have hq : 1 ≤ x / y := (Nat.le_div_iff_mul_le hy).2 (by have := h.le; omega)
  have hm := Nat.mod_lt x hy
  have hd := Nat.div_add_mod x y
  have ea := h.ea
  have eb := h.eb
  have det := h.det
  have u2v := h.uv2
  generalize x / y = q at *
  generalize x % y = m at *
  have hm1 : v2 ≤ q * v2 := Nat.le_mul_of_pos_left _ hq
  have hm2 : q * u2 ≤ q * v2 := Nat.mul_le_mul_left q u2v
  have hle := h.le
  refine ⟨by grind, by grind, ?_, by omega, by omega, .inr u2v, ?_, by have := h.one; omega, by omega, .inr ⟨x, y, ea, eb, ?_, h1, by omega, h.uv1.imp (·.1) id, u2v, h.one, h.up⟩⟩
  · cases t <;> simp at det ⊢ <;> grind
  · rcases h.uv1 with h0 | h0
    · obtain ⟨e0, e1, e2⟩ := h0
      have := h.one
      rw [e0, e1, e2]; omega
    · omega
  · cases t <;> simp at det ⊢ <;> omega

/-- What the rests of the whole naturals are, by the same combination. -/
structure Lehm (t : Bool) (A B u0 u1 v0 v1 R R' : Nat) : Prop where
  er : if t then R + u0 * A = v0 * B else R + v0 * B = u0 * A
  er' : if t then R' + v1 * B = u1 * A else R' + u1 * A = v1 * B
  le : R' ≤ R
  sum : R + R' ≤ A
  gcd : Nat.gcd R R' = Nat.gcd A B

theorem Sure.lehm {t : Bool} {a b u0 u1 v0 v1 r r' P A B x y : Nat} (h : Sure t a b u0 u1 v0 v1 r r') (h0 : v0 ≠ 0) (hA : A = P * a + x) (hx : x < P) (hB : B = P * b + y) (hy : y < P) :
    ∃ R R', Lehm t A B u0 u1 v0 v1 R R' := by
  have ea := h.ea
  have eb := h.eb
  have det := h.det
  have uv0 : u0 ≤ v0 := h.uv0.resolve_left h0
  have uv1 := h.uv1
  have lo := h.lo
  have gap := h.gap
  have one := h.one
  -- what the rests of the naturals are more or less than P times those of the heads
  have m1 : u1 * x ≤ v1 * x := Nat.mul_le_mul_right x uv1
  have m2 : v1 * x ≤ v1 * P := Nat.mul_le_mul_left v1 (Nat.le_of_lt hx)
  have m3 : v1 * y ≤ v1 * P := Nat.mul_le_mul_left v1 (Nat.le_of_lt hy)
  have m4 : P * v1 ≤ P * r' := Nat.mul_le_mul_left P lo
  have m5 : P * (r' + v0 + v1) ≤ P * r := Nat.mul_le_mul_left P gap
  have m6 : u0 * x ≤ v0 * x := Nat.mul_le_mul_right x uv0
  have m7 : v0 * x ≤ v0 * P := Nat.mul_le_mul_left v0 (Nat.le_of_lt hx)
  have m8 : v0 * y ≤ v0 * P := Nat.mul_le_mul_left v0 (Nat.le_of_lt hy)
  rw [Nat.mul_add, Nat.mul_add] at m5
  rw [Nat.mul_comm P v1] at m4 m5
  rw [Nat.mul_comm P v0] at m5
  have key : ∀ R R' : Nat, (if t then R + u0 * A = v0 * B else R + v0 * B = u0 * A) → (if t then R' + v1 * B = u1 * A else R' + u1 * A = v1 * B) → R' ≤ R → Lehm t A B u0 u1 v0 v1 R R' := by
    intro R R' e1 e2 e3
    have eA : A = v1 * R + v0 * R' := by cases t <;> simp at det e1 e2 <;> grind
    have eB : B = u1 * R + u0 * R' := by cases t <;> simp at det e1 e2 <;> grind
    refine ⟨e1, e2, e3, ?_, ?_⟩
    · have g1 := Nat.le_mul_of_pos_left R one
      have g2 := Nat.le_mul_of_pos_left R' (Nat.pos_of_ne_zero h0)
      omega
    · apply Nat.dvd_antisymm
      · apply Nat.dvd_gcd
        · rw [eA]; exact Nat.dvd_add (Nat.dvd_mul_left_of_dvd (Nat.gcd_dvd_left _ _) _) (Nat.dvd_mul_left_of_dvd (Nat.gcd_dvd_right _ _) _)
        · rw [eB]; exact Nat.dvd_add (Nat.dvd_mul_left_of_dvd (Nat.gcd_dvd_left _ _) _) (Nat.dvd_mul_left_of_dvd (Nat.gcd_dvd_right _ _) _)
      · have dA : ∀ k, Nat.gcd A B ∣ k * A := fun k => Nat.dvd_mul_left_of_dvd (Nat.gcd_dvd_left _ _) _
        have dB : ∀ k, Nat.gcd A B ∣ k * B := fun k => Nat.dvd_mul_left_of_dvd (Nat.gcd_dvd_right _ _) _
        apply Nat.dvd_gcd
        · cases t
          · simp at e1; exact (Nat.dvd_add_left (dB v0)).1 (e1 ▸ dA u0)
          · simp at e1; exact (Nat.dvd_add_left (dA u0)).1 (e1 ▸ dB v0)
        · cases t
          · simp at e2; exact (Nat.dvd_add_left (dA u1)).1 (e2 ▸ dB v1)
          · simp at e2; exact (Nat.dvd_add_left (dB v1)).1 (e2 ▸ dA u1)
  cases t
  · simp at det
    have f1 : u0 * A = v0 * B + (P * r + u0 * x) - v0 * y := by
      have : u0 * A + v0 * y = v0 * B + (P * r + u0 * x) := by grind
      omega
    have f2 : v1 * B = u1 * A + (P * r' + v1 * y) - u1 * x := by
      have : v1 * B + u1 * x = u1 * A + (P * r' + v1 * y) := by grind
      omega
    exact ⟨P * r + u0 * x - v0 * y, P * r' + v1 * y - u1 * x, key _ _ (by simp; omega) (by simp; omega) (by omega)⟩
  · simp at det
    have f1 : v0 * B + u0 * x = u0 * A + (P * r + v0 * y) := by grind
    have f2 : u1 * A + v1 * y = v1 * B + (P * r' + u1 * x) := by grind
    exact ⟨P * r + v0 * y - u0 * x, P * r' + u1 * x - v1 * y, key _ _ (by simp; omega) (by simp; omega) (by omega)⟩

/-- The factors are below 2^32. -/
theorem Sure.small {t : Bool} {a b u0 u1 v0 v1 r r' : Nat} (h : Sure t a b u0 u1 v0 v1 r r') (h0 : v0 ≠ 0) (ha : a < 18446744073709551616) :
    u0 < 4294967296 ∧ u1 < 4294967296 ∧ v0 < 4294967296 ∧ v1 < 4294967296 := by
  have h1 : v1 * v1 ≤ v1 * r := Nat.mul_le_mul_left v1 (by have := h.lo; have := h.gap; omega)
  have h2 := h.ea
  have h3 : v1 < 4294967296 := by
    apply Nat.lt_of_not_le; intro hl
    have := Nat.mul_le_mul hl hl
    omega
  have := h.up
  have := h.uv1
  have := h.uv0.resolve_left h0
  omega
end Go.Proofs.YtbobhhnhlgdkiaaGreat.M

/- The first 64 bits of a natural. -/
namespace Go.Proofs.YtbobhhnhlgdkiaaGreat.M

/-- The bits of xs from place n + 2 down, 64 of them, but for the first d. -/
def hd (xs : List Nat) (n d : Nat) : Nat := (xs.getD (n + 2) 0 * 4294967296 + xs.getD (n + 1) 0) * 2 ^ d + xs.getD n 0 / 2 ^ (32 - d)

theorem pow_join {d : Nat} (h : d ≤ 32) : 2 ^ d * 2 ^ (32 - d) = 4294967296 := by
  rw [← Nat.pow_add, show d + (32 - d) = 32 from by omega]

theorem hd_split {xs : List Nat} {n d : Nat} (hl : Lim xs) (hlen : xs.length ≤ n + 3) (hd32 : d ≤ 32) :
    ∃ x, val xs = Bp n * 2 ^ (32 - d) * hd xs n d + x ∧ x < Bp n * 2 ^ (32 - d) := by
  have e0 := val_take_succ' xs n
  have e1 := val_take_succ' xs (n + 1)
  have e2 := val_take_succ' xs (n + 2)
  rw [List.take_of_length_le (show xs.length ≤ n + 2 + 1 from hlen)] at e2
  have hlow : val (xs.take n) < Bp n := by
    by_cases h : n ≤ xs.length
    · have := val_lt (hl.take n)
      rwa [List.length_take, Nat.min_eq_left h] at this
    · rw [List.take_of_length_le (by omega)]
      exact Nat.lt_of_lt_of_le (val_lt hl) (Bp_mono (by omega))
  rw [Bp_succ] at e1
  rw [Bp_succ, Bp_succ] at e2
  have hj := pow_join hd32
  have hq := Nat.div_add_mod (xs.getD n 0) (2 ^ (32 - d))
  have hm := Nat.mod_lt (xs.getD n 0) (Nat.two_pow_pos (32 - d))
  unfold hd
  generalize xs.getD n 0 = z0 at *
  generalize xs.getD (n + 1) 0 = z1 at *
  generalize xs.getD (n + 2) 0 = z2 at *
  generalize z0 / 2 ^ (32 - d) = q at *
  generalize z0 % 2 ^ (32 - d) = r at *
  generalize val (xs.take n) = low at *
  generalize 2 ^ d = p at *
  generalize 2 ^ (32 - d) = e at *
  generalize Bp n = b at *
  refine ⟨b * r + low, by grind, ?_⟩
  have h1 : b * (r + 1) ≤ b * e := Nat.mul_le_mul_left b hm
  rw [Nat.mul_add, Nat.mul_one] at h1
  omega

theorem hd_lt {xs : List Nat} {n d : Nat} (hl : Lim xs) (hd32 : d ≤ 32) (ht : xs.getD (n + 2) 0 < 2 ^ (32 - d)) :
    (xs.getD (n + 2) 0 * 4294967296 + xs.getD (n + 1) 0) * 2 ^ d + 2 ^ d ≤ 18446744073709551616 ∧ xs.getD n 0 / 2 ^ (32 - d) < 2 ^ d := by
  have h1 := hl.getD (n + 1)
  have h0 := hl.getD n
  have hj := pow_join hd32
  constructor
  · have h2 : (xs.getD (n + 2) 0 * 4294967296 + xs.getD (n + 1) 0 + 1) ≤ 2 ^ (32 - d) * 4294967296 := by omega
    have h3 := Nat.mul_le_mul_right (2 ^ d) h2
    rw [Nat.add_mul, Nat.one_mul, Nat.mul_right_comm, Nat.mul_comm (2 ^ (32 - d)), hj] at h3
    omega
  · rw [Nat.div_lt_iff_lt_mul (Nat.two_pow_pos _), hj]; exact h0

/-- Heads are ordered as the naturals are. -/
theorem head_le {P A B a b x y : Nat} (hA : A = P * a + x) (hx : x < P) (hB : B = P * b + y) (hle : B ≤ A) : b ≤ a := by
  apply Nat.le_of_not_lt; intro hl
  have := Nat.mul_le_mul_left P (show a + 1 ≤ b from hl)
  rw [Nat.mul_add, Nat.mul_one] at this
  omega
/-- The top limb of the lesser one is not above that of the greater one. -/
theorem top_le {xs ys : List Nat} {n : Nat} (hx : Lim xs) (hxl : xs.length ≤ n + 1) (hyl : ys.length ≤ n + 1) (hle : val ys ≤ val xs) : ys.getD n 0 ≤ xs.getD n 0 := by
  have e1 := val_take_succ' xs n
  have e2 := val_take_succ' ys n
  rw [List.take_of_length_le hxl] at e1
  rw [List.take_of_length_le hyl] at e2
  have h1 : val (xs.take n) < Bp n := by
    by_cases h : n ≤ xs.length
    · have := val_lt (hx.take n)
      rwa [List.length_take, Nat.min_eq_left h] at this
    · rw [List.take_of_length_le (by omega)]
      exact Nat.lt_of_lt_of_le (val_lt hx) (Bp_mono (by omega))
  apply Nat.le_of_not_lt; intro hl
  have := Nat.mul_le_mul_left (Bp n) (show xs.getD n 0 + 1 ≤ ys.getD n 0 from hl)
  rw [Nat.mul_add, Nat.mul_one] at this
  omega
end Go.Proofs.YtbobhhnhlgdkiaaGreat.M

/- One row of limbs times a factor less another one, limb by limb. -/
namespace Go.Proofs.YtbobhhnhlgdkiaaGreat.M

/-- Behind k limbs: out holds p times xs less q times ys; c and l are what both carry, b is what was borrowed. -/
structure DfInv (n : Nat) (xs ys out : List Nat) (p q k c l b : Nat) : Prop where
  len : out.length = n
  lim : Lim out
  car : c < 4294967296
  les : l < 4294967296
  bor : b ≤ 1
  rest : ∀ j, k ≤ j → out.getD j 0 = xs.getD j 0
  eq : val (out.take k) + q * val (ys.take k) + Bp k * c = p * val (xs.take k) + Bp k * (l + b)

theorem DfInv.start {n : Nat} {xs ys : List Nat} (p q : Nat) (h : Lim xs) (hn : xs.length = n) : DfInv n xs ys xs p q 0 0 0 0 :=
  ⟨hn, h, by omega, by omega, by omega, fun _ _ => rfl, by simp [val]⟩

theorem DfInv.step {n : Nat} {xs ys out : List Nat} {p q k c l b v b' : Nat} (h : DfInv n xs ys out p q k c l b) (hk : k < n) (hp : p < 4294967296) (hq : q < 4294967296) (hx : xs.getD k 0 < 4294967296) (hy : ys.getD k 0 < 4294967296)
    (hv : v < 4294967296) (hb : b' ≤ 1) (he : v + ((l + q * ys.getD k 0) % 4294967296 + b) = (c + p * xs.getD k 0) % 4294967296 + 4294967296 * b') :
    DfInv n xs ys (out.set k v) p q (k + 1) ((c + p * xs.getD k 0) / 4294967296) ((l + q * ys.getD k 0) / 4294967296) b' := by
  have h1 := mul_bound hp hx
  have h2 := mul_bound hq hy
  have h3 := h.car
  have h4 := h.les
  have e := h.eq
  refine ⟨by rw [List.length_set]; exact h.len, h.lim.set k hv, by omega, by omega, hb, fun j hj => by rw [getD_set_other (by omega)]; exact h.rest j (by omega), ?_⟩
  rw [val_take_set (by rw [h.len]; exact hk), val_take_succ' ys k, val_take_succ' xs k, Bp_succ]
  have d1 := Nat.div_add_mod (c + p * xs.getD k 0) 4294967296
  have d2 := Nat.div_add_mod (l + q * ys.getD k 0) 4294967296
  generalize (c + p * xs.getD k 0) / 4294967296 = c' at *
  generalize (c + p * xs.getD k 0) % 4294967296 = cr at *
  generalize (l + q * ys.getD k 0) / 4294967296 = l' at *
  generalize (l + q * ys.getD k 0) % 4294967296 = lr at *
  generalize xs.getD k 0 = x at *
  generalize ys.getD k 0 = y at *
  generalize val (out.take k) = O at *
  generalize val (ys.take k) = Y at *
  generalize val (xs.take k) = X at *
  generalize Bp k = K at *
  grind

theorem DfInv.done {n R : Nat} {xs ys out : List Nat} {p q c l b : Nat} (h : DfInv n xs ys out p q n c l b) (hx : xs.length = n) (hy : ys.length = n) (hR : R + q * val ys = p * val xs) (hRn : R < Bp n) : val out = R := by
  have e := h.eq
  have ho := val_lt h.lim
  rw [h.len] at ho
  rw [val_take_all (by rw [h.len]; omega), val_take_all (by omega), val_take_all (by omega)] at e
  have e2 : val out + Bp n * c = R + Bp n * (l + b) := by omega
  have m1 : (val out + Bp n * c) % Bp n = val out := by rw [Nat.add_mul_mod_self_left, Nat.mod_eq_of_lt ho]
  have m2 : (R + Bp n * (l + b)) % Bp n = R := by rw [Nat.add_mul_mod_self_left, Nat.mod_eq_of_lt hRn]
  rw [← m1, e2, m2]
end Go.Proofs.YtbobhhnhlgdkiaaGreat.M
