/- Plain facts on lists of limbs (base 2^32) and their values; no Go text. -/
namespace Go.Proofs.Ythcclkjccaoniaa.M

def val : List Nat → Nat
  | [] => 0
  | x :: xs => x + 4294967296 * val xs

def Lim (xs : List Nat) : Prop := ∀ x ∈ xs, x < 4294967296

def Bp (k : Nat) : Nat := 4294967296 ^ k

theorem Bp_zero : Bp 0 = 1 := rfl
theorem Bp_succ (k : Nat) : Bp (k + 1) = 4294967296 * Bp k := by unfold Bp; rw [Nat.pow_succ, Nat.mul_comm]
theorem Bp_pos (k : Nat) : 0 < Bp k := Nat.pow_pos (by decide)
theorem Bp_add (i j : Nat) : Bp (i + j) = Bp i * Bp j := Nat.pow_add _ _ _
theorem Bp_mono {i j : Nat} (h : i ≤ j) : Bp i ≤ Bp j := Nat.pow_le_pow_right (by decide) h

/-- The limbs of n, at most f of them. -/
def toLf : Nat → Nat → List Nat
  | 0, _ => []
  | f + 1, n => if n = 0 then [] else n % 4294967296 :: toLf f (n / 4294967296)

/-- The limbs of n, the least one first. -/
def toL (n : Nat) : List Nat := toLf n n

theorem toLf_zero (f : Nat) : toLf f 0 = [] := by cases f <;> simp [toLf]
theorem toLf_same : ∀ (f g n : Nat), n ≤ f → n ≤ g → toLf f n = toLf g n := by
  intro f
  induction f with
  | zero => intro g n h _; obtain rfl : n = 0 := by omega
            rw [toLf_zero, toLf_zero]
  | succ f ih =>
    intro g n h1 h2
    by_cases h0 : n = 0
    · subst h0; rw [toLf_zero, toLf_zero]
    · obtain ⟨g', rfl⟩ : ∃ g', g = g' + 1 := ⟨g - 1, by omega⟩
      simp only [toLf, if_neg h0]
      rw [ih g' (n / 4294967296) (by omega) (by omega)]
theorem toL_zero : toL 0 = [] := rfl
theorem toL_pos {n : Nat} (h : n ≠ 0) : toL n = n % 4294967296 :: toL (n / 4294967296) := by
  obtain ⟨f, hf⟩ : ∃ f, n = f + 1 := ⟨n - 1, by omega⟩
  unfold toL
  rw [show toLf n n = toLf (f + 1) n from by rw [← hf]]
  simp only [toLf, if_neg h]
  rw [toLf_same f (n / 4294967296) (n / 4294967296) (by omega) (by omega)]

theorem val_nil : val [] = 0 := rfl
theorem val_cons (x : Nat) (xs : List Nat) : val (x :: xs) = x + 4294967296 * val xs := rfl

theorem val_append (xs ys : List Nat) : val (xs ++ ys) = val xs + Bp xs.length * val ys := by
  induction xs with
  | nil => simp [val, Bp_zero]
  | cons x xs ih => simp only [List.cons_append, val_cons, ih, List.length_cons, Bp_succ]; rw [Nat.mul_add, Nat.mul_assoc]; omega

theorem Lim.cons {x : Nat} {xs : List Nat} (h : Lim (x :: xs)) : x < 4294967296 ∧ Lim xs := ⟨h x (by simp), fun y hy => h y (by simp [hy])⟩
theorem Lim.mk {x : Nat} {xs : List Nat} (h1 : x < 4294967296) (h2 : Lim xs) : Lim (x :: xs) := by
  intro y hy; rcases List.mem_cons.1 hy with rfl | h; exact h1; exact h2 y h
theorem Lim.nil : Lim [] := by intro y hy; simp at hy
theorem Lim.take {xs : List Nat} (h : Lim xs) (k : Nat) : Lim (xs.take k) := fun x hx => h x (List.mem_of_mem_take hx)
theorem Lim.drop {xs : List Nat} (h : Lim xs) (k : Nat) : Lim (xs.drop k) := fun x hx => h x (List.mem_of_mem_drop hx)
theorem Lim.append {xs ys : List Nat} (h : Lim xs) (k : Lim ys) : Lim (xs ++ ys) := fun x hx => by
  rcases List.mem_append.1 hx with h1 | h1; exact h x h1; exact k x h1
theorem Lim.getD {xs : List Nat} (h : Lim xs) (k : Nat) : xs.getD k 0 < 4294967296 := by
  by_cases hk : k < xs.length
  · rw [List.getD_eq_getElem?_getD, List.getElem?_eq_getElem hk]; exact h _ (List.getElem_mem hk)
  · rw [List.getD_eq_getElem?_getD, List.getElem?_eq_none (by omega)]; decide
theorem Lim.set {xs : List Nat} (h : Lim xs) (k : Nat) {v : Nat} (hv : v < 4294967296) : Lim (xs.set k v) := fun x hx => by
  rcases List.mem_or_eq_of_mem_set hx with h1 | h1; exact h x h1; omega
theorem Lim.rep (n : Nat) : Lim (List.replicate n 0) := fun x hx => by rw [List.mem_replicate] at hx; omega

theorem val_lt {xs : List Nat} (h : Lim xs) : val xs < Bp xs.length := by
  induction xs with
  | nil => simp [val, Bp_zero]
  | cons x xs ih =>
    obtain ⟨h1, h2⟩ := h.cons
    have := ih h2
    rw [val_cons, List.length_cons, Bp_succ]
    omega

theorem val_rep (n : Nat) : val (List.replicate n 0) = 0 := by
  induction n with
  | zero => rfl
  | succ n ih => rw [List.replicate_succ, val_cons, ih]

theorem val_toL (n : Nat) : val (toL n) = n := by
  induction n using Nat.strongRecOn with
  | _ n ih =>
    by_cases h : n = 0
    · subst h; simp [toL_zero, val]
    · rw [toL_pos h, val_cons, ih _ (by omega)]; omega

theorem Lim_toL (n : Nat) : Lim (toL n) := by
  induction n using Nat.strongRecOn with
  | _ n ih =>
    by_cases h : n = 0
    · subst h; rw [toL_zero]; exact Lim.nil
    · rw [toL_pos h]; exact Lim.mk (by omega) (ih _ (by omega))

theorem toL_inj {a b : Nat} (h : toL a = toL b) : a = b := by rw [← val_toL a, ← val_toL b, h]

theorem toL_len_le {n k : Nat} (h : n < Bp k) : (toL n).length ≤ k := by
  induction k generalizing n with
  | zero => rw [Bp_zero] at h; obtain rfl : n = 0 := by omega
            simp [toL_zero]
  | succ k ih =>
    rw [Bp_succ] at h
    by_cases h0 : n = 0
    · subst h0; simp [toL_zero]
    · rw [toL_pos h0, List.length_cons]; have := @ih (n / 4294967296) (by omega); omega

theorem toL_ne_nil {n : Nat} (h : n ≠ 0) : toL n ≠ [] := by rw [toL_pos h]; simp
theorem toL_length_pos {n : Nat} (h : n ≠ 0) : 0 < (toL n).length := by rw [toL_pos h]; simp
theorem toL_length_zero {n : Nat} : (toL n).length = 0 ↔ n = 0 := by
  constructor
  · intro h; by_cases h0 : n = 0; exact h0; have := toL_length_pos h0; omega
  · rintro rfl; simp [toL_zero]

/-- The lower bound that the last limb gives. -/
theorem toL_ge {n : Nat} (h : n ≠ 0) : Bp ((toL n).length - 1) ≤ n := by
  induction n using Nat.strongRecOn with
  | _ n ih =>
    rw [toL_pos h, List.length_cons]
    by_cases h1 : n / 4294967296 = 0
    · rw [h1]; simp [toL_zero, Bp_zero]; omega
    · have := ih (n / 4294967296) (by omega) h1
      have h2 := toL_length_pos h1
      rw [show (toL (n / 4294967296)).length + 1 - 1 = ((toL (n / 4294967296)).length - 1) + 1 from by omega, Bp_succ]
      omega

theorem toL_last {n : Nat} (h : n ≠ 0) : (toL n).getD ((toL n).length - 1) 0 ≠ 0 := by
  induction n using Nat.strongRecOn with
  | _ n ih =>
    by_cases h1 : n / 4294967296 = 0
    · rw [toL_pos h, h1]; simp [toL_zero]; omega
    · have := ih (n / 4294967296) (by omega) h1
      have h2 := toL_length_pos h1
      rw [toL_pos h, List.length_cons]
      rw [show (toL (n / 4294967296)).length + 1 - 1 = ((toL (n / 4294967296)).length - 1) + 1 from by omega]
      simpa using this

theorem toL_len_lt {a b : Nat} (h : (toL a).length < (toL b).length) : a < b := by
  have hb : b ≠ 0 := by rintro rfl; simp [toL_zero] at h
  have h1 := toL_ge hb
  have h2 := val_lt (Lim_toL a)
  rw [val_toL] at h2
  have h3 : Bp (toL a).length ≤ Bp ((toL b).length - 1) := Bp_mono (by omega)
  omega

theorem toL_of_normal {xs : List Nat} (h : Lim xs) (hn : xs = [] ∨ xs.getD (xs.length - 1) 0 ≠ 0) : toL (val xs) = xs := by
  induction xs with
  | nil => simp [val, toL_zero]
  | cons x xs ih =>
    obtain ⟨h1, h2⟩ := h.cons
    rcases hn with hn | hn
    · simp at hn
    have key : xs = [] ∨ xs.getD (xs.length - 1) 0 ≠ 0 := by
      cases xs with
      | nil => exact .inl rfl
      | cons y ys => right; simpa using hn
    have ih' := ih h2 key
    have hne : val (x :: xs) ≠ 0 := by
      rw [val_cons]
      intro h0
      have hx : x = 0 := by omega
      have hv : val xs = 0 := by omega
      rw [hv, toL_zero] at ih'
      subst ih'
      simp [hx] at hn
    rw [toL_pos hne, val_cons]
    rw [show (x + 4294967296 * val xs) % 4294967296 = x from by omega, show (x + 4294967296 * val xs) / 4294967296 = val xs from by omega, ih']

theorem val_take_drop (xs : List Nat) (k : Nat) (h : k ≤ xs.length) : val xs = val (xs.take k) + Bp k * val (xs.drop k) := by
  conv => lhs; rw [← List.take_append_drop k xs]
  rw [val_append, List.length_take, Nat.min_eq_left h]

theorem val_zeros {xs : List Nat} (h : ∀ j, xs.getD j 0 = 0) : val xs = 0 := by
  induction xs with
  | nil => rfl
  | cons x xs ih =>
    have h0 := h 0
    have := ih (fun j => by simpa using h (j + 1))
    simp at h0
    rw [val_cons, this, h0]

theorem getD_drop (xs : List Nat) (k j : Nat) : (xs.drop k).getD j 0 = xs.getD (k + j) 0 := by
  simp [List.getD_eq_getElem?_getD, List.getElem?_drop]
theorem getD_take (xs : List Nat) (k j : Nat) (h : j < k) : (xs.take k).getD j 0 = xs.getD j 0 := by
  simp [List.getD_eq_getElem?_getD, h]

/-- Trimming: places from k on are 0, the one below is not. -/
theorem toL_trim {xs : List Nat} (h : Lim xs) (k : Nat) (hk : k ≤ xs.length) (hz : ∀ j, k ≤ j → xs.getD j 0 = 0) (hl : k = 0 ∨ xs.getD (k - 1) 0 ≠ 0) :
    toL (val xs) = xs.take k := by
  have h0 : val (xs.drop k) = 0 := val_zeros (fun j => by rw [getD_drop]; exact hz _ (by omega))
  rw [val_take_drop xs k hk, h0, Nat.mul_zero, Nat.add_zero]
  apply toL_of_normal (h.take k)
  rcases hl with rfl | hl
  · left; simp
  · by_cases hk0 : k = 0
    · left; simp [hk0]
    · right
      rw [List.length_take, Nat.min_eq_left hk, getD_take _ _ _ (by omega)]
      exact hl

theorem val_take_succ {xs : List Nat} {k : Nat} (h : k < xs.length) : val (xs.take (k + 1)) = val (xs.take k) + Bp k * xs.getD k 0 := by
  rw [List.take_succ_eq_append_getElem h, val_append, List.length_take, Nat.min_eq_left (by omega)]
  rw [val_cons, val_nil, List.getD_eq_getElem?_getD, List.getElem?_eq_getElem h]
  simp

theorem val_drop {xs : List Nat} {k : Nat} (h : k < xs.length) : val (xs.drop k) = xs.getD k 0 + 4294967296 * val (xs.drop (k + 1)) := by
  rw [List.drop_eq_getElem_cons h, val_cons, List.getD_eq_getElem?_getD, List.getElem?_eq_getElem h]
  simp

theorem take_len (xs : List Nat) : xs.take xs.length = xs := List.take_length
theorem val_take_all {xs : List Nat} {k : Nat} (h : xs.length ≤ k) : val (xs.take k) = val xs := by rw [List.take_of_length_le h]
theorem val_take_zero (xs : List Nat) : val (xs.take 0) = 0 := by simp [val]

theorem getD_set_same {xs : List Nat} {k v : Nat} (h : k < xs.length) : (xs.set k v).getD k 0 = v := by
  simp [List.getD_eq_getElem?_getD, h]
theorem getD_set_other {xs : List Nat} {k j v : Nat} (h : k ≠ j) : (xs.set k v).getD j 0 = xs.getD j 0 := by
  simp [List.getD_eq_getElem?_getD, h]
theorem take_set (xs : List Nat) (k v : Nat) : (xs.set k v).take k = xs.take k := by
  rw [List.take_set, List.set_eq_of_length_le (by simp; omega)]
theorem val_take_set {xs : List Nat} {k v : Nat} (h : k < xs.length) : val ((xs.set k v).take (k + 1)) = val (xs.take k) + Bp k * v := by
  rw [val_take_succ (by simpa using h), take_set, getD_set_same h]
theorem drop_set {xs : List Nat} {k j v : Nat} (h : k < j) : (xs.set k v).drop j = xs.drop j := by
  rw [List.drop_set]; simp [h]
theorem val_drop_set {xs : List Nat} {k v : Nat} (h : k < xs.length) : val ((xs.set k v).drop k) = v + 4294967296 * val (xs.drop (k + 1)) := by
  rw [val_drop (by simpa using h), getD_set_same h, drop_set (by omega)]

/-- -1, 0, 1: below, the same, above. -/
def cmpN (a b : Nat) : Int := if a < b then -1 else if a = b then 0 else 1
theorem cmpN_lt {a b : Nat} (h : a < b) : cmpN a b = -1 := by unfold cmpN; rw [if_pos h]
theorem cmpN_gt {a b : Nat} (h : b < a) : cmpN a b = 1 := by unfold cmpN; rw [if_neg (by omega), if_neg (by omega)]
theorem cmpN_eq {a b : Nat} (h : a = b) : cmpN a b = 0 := by unfold cmpN; rw [if_neg (by omega), if_pos h]

theorem val_lt_of_limb {xs ys : List Nat} (hx : Lim xs) {k : Nat} (hkx : k < xs.length) (hky : k < ys.length) (hd : xs.drop (k + 1) = ys.drop (k + 1)) (hl : xs.getD k 0 < ys.getD k 0) : val xs < val ys := by
  rw [val_take_drop xs (k + 1) (by omega), val_take_drop ys (k + 1) (by omega), hd, val_take_succ hkx, val_take_succ hky]
  have h1 := val_lt (hx.take k)
  rw [List.length_take, Nat.min_eq_left (by omega)] at h1
  have h2 : Bp k * (xs.getD k 0 + 1) ≤ Bp k * ys.getD k 0 := Nat.mul_le_mul_left _ hl
  rw [Nat.mul_add, Nat.mul_one] at h2
  omega

theorem drop_step {xs ys : List Nat} {k : Nat} (hkx : k < xs.length) (hky : k < ys.length) (hd : xs.drop (k + 1) = ys.drop (k + 1)) (hl : xs.getD k 0 = ys.getD k 0) : xs.drop k = ys.drop k := by
  rw [List.drop_eq_getElem_cons hkx, List.drop_eq_getElem_cons hky, hd]
  congr 1
  simpa [List.getD_eq_getElem?_getD, hkx, hky] using hl

/-- How many bits. -/
def nb (n : Nat) : Nat := if n = 0 then 0 else n.log2 + 1
theorem nb_zero : nb 0 = 0 := rfl
theorem nb_half {n : Nat} (h : n ≠ 0) : nb n = 1 + nb (n / 2) := by
  unfold nb
  rw [if_neg h, Nat.log2_def]
  by_cases h2 : 2 ≤ n
  · rw [if_pos h2, if_neg (by omega)]; omega
  · rw [if_neg h2, if_pos (by omega)]
theorem Bp_two (k : Nat) : Bp k = 2 ^ (32 * k) := by unfold Bp; rw [show 4294967296 = 2 ^ 32 from rfl, ← Nat.pow_mul]
theorem nb_eq {n k : Nat} (h1 : 2 ^ k ≤ n) (h2 : n < 2 ^ (k + 1)) : nb n = k + 1 := by
  have hn : n ≠ 0 := by have := Nat.two_pow_pos k; omega
  unfold nb
  rw [if_neg hn]
  have a := (Nat.le_log2 hn).2 h1
  have b := (Nat.log2_lt hn).2 h2
  omega
theorem nb_lt (n : Nat) : n < 2 ^ nb n := by
  unfold nb
  split
  · simp_all
  · rename_i h; exact (Nat.log2_lt h).1 (by omega)
theorem nb_ge {n : Nat} (h : n ≠ 0) : 2 ^ (nb n - 1) ≤ n := by
  unfold nb
  rw [if_neg h]
  exact (Nat.le_log2 h).1 (by omega)
theorem nb_pos {n : Nat} (h : n ≠ 0) : 0 < nb n := by unfold nb; rw [if_neg h]; omega
theorem nb_top {t low k : Nat} (ht : t ≠ 0) (hl : low < Bp k) : nb (low + Bp k * t) = 32 * k + nb t := by
  have h1 := nb_lt t
  have h2 := nb_ge ht
  have h3 := nb_pos ht
  have e : 32 * k + nb t = (32 * k + (nb t - 1)) + 1 := by omega
  rw [e]
  apply nb_eq
  · rw [Nat.pow_add, ← Bp_two]
    have := Nat.mul_le_mul_left (Bp k) h2
    omega
  · rw [← e, Nat.pow_add, ← Bp_two]
    have : Bp k * (t + 1) ≤ Bp k * 2 ^ nb t := Nat.mul_le_mul_left _ h1
    rw [Nat.mul_add, Nat.mul_one] at this
    omega
theorem nb_toL {n : Nat} (h : n ≠ 0) : nb n = 32 * ((toL n).length - 1) + nb ((toL n).getD ((toL n).length - 1) 0) := by
  have hp := toL_length_pos h
  have e := val_take_succ (xs := toL n) (k := (toL n).length - 1) (by omega)
  rw [show (toL n).length - 1 + 1 = (toL n).length from by omega, take_len, val_toL] at e
  have hl := val_lt ((Lim_toL n).take ((toL n).length - 1))
  rw [List.length_take, Nat.min_eq_left (by omega)] at hl
  conv => lhs; rw [e]
  exact nb_top (toL_last h) hl
theorem nb_mono {a b : Nat} (h : a ≤ b) : nb a ≤ nb b := by
  by_cases ha : a = 0
  · subst ha; rw [nb_zero]; omega
  · have h1 := nb_ge ha
    have h2 := nb_lt b
    have h3 := nb_pos ha
    have : 2 ^ (nb a - 1) < 2 ^ nb b := by omega
    have := (Nat.pow_lt_pow_iff_right (a := 2) (by decide)).1 this
    omega
theorem nb_shift {a : Nat} (h : a ≠ 0) (k : Nat) : nb (a * 2 ^ k) = nb a + k := by
  have h1 := nb_lt a
  have h2 := nb_ge h
  have h3 := nb_pos h
  have e : nb a + k = (nb a - 1 + k) + 1 := by omega
  rw [e]
  apply nb_eq
  · rw [Nat.pow_add]; exact Nat.mul_le_mul_right _ h2
  · rw [← e, Nat.pow_add]; exact (Nat.mul_lt_mul_right (Nat.two_pow_pos k)).2 h1

end Go.Proofs.Ythcclkjccaoniaa.M
