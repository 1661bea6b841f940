/- One row of limbs times a factor less another one, limb by limb. -/
import Derived.Test.YthcclkjccaoniaaMg
namespace Go.Proofs.Ythcclkjccaoniaa.M

/-- Behind k limbs: out holds p times xs less q times ys; c and l are what both carry, b is what was borrowed. -/
structure DfInv (n : Nat) (xs ys out : List Nat) (p q k c l b : Nat) : Prop where
  len : out.length = n
  lim : Lim out
  car : c < 4294967296
  les : l < 4294967296
  bor : b ≤ 1
  rest : ∀ j, k ≤ j → out.getD j 0 = xs.getD j 0
  eq : val (out.take k) + q * val (ys.take k) + Bp k * c = p * val (xs.take k) + Bp k * (l + b)

theorem DfInv.start {n : Nat} {xs ys : List Nat} (p q : Nat) (h : Lim xs) (hn : xs.length = n) : DfInv n xs ys xs p q 0 0 0 0 :=
  ⟨hn, h, by omega, by omega, by omega, fun _ _ => rfl, by simp [val]⟩

theorem DfInv.step {n : Nat} {xs ys out : List Nat} {p q k c l b v b' : Nat} (h : DfInv n xs ys out p q k c l b) (hk : k < n) (hp : p < 4294967296) (hq : q < 4294967296) (hx : xs.getD k 0 < 4294967296) (hy : ys.getD k 0 < 4294967296)
    (hv : v < 4294967296) (hb : b' ≤ 1) (he : v + ((l + q * ys.getD k 0) % 4294967296 + b) = (c + p * xs.getD k 0) % 4294967296 + 4294967296 * b') :
    DfInv n xs ys (out.set k v) p q (k + 1) ((c + p * xs.getD k 0) / 4294967296) ((l + q * ys.getD k 0) / 4294967296) b' := by
  have h1 := mul_bound hp hx
  have h2 := mul_bound hq hy
  have h3 := h.car
  have h4 := h.les
  have e := h.eq
  refine ⟨by rw [List.length_set]; exact h.len, h.lim.set k hv, by omega, by omega, hb, fun j hj => by rw [getD_set_other (by omega)]; exact h.rest j (by omega), ?_⟩
  rw [val_take_set (by rw [h.len]; exact hk), val_take_succ' ys k, val_take_succ' xs k, Bp_succ]
  have d1 := Nat.div_add_mod (c + p * xs.getD k 0) 4294967296
  have d2 := Nat.div_add_mod (l + q * ys.getD k 0) 4294967296
  generalize (c + p * xs.getD k 0) / 4294967296 = c' at *
  generalize (c + p * xs.getD k 0) % 4294967296 = cr at *
  generalize (l + q * ys.getD k 0) / 4294967296 = l' at *
  generalize (l + q * ys.getD k 0) % 4294967296 = lr at *
  generalize xs.getD k 0 = x at *
  generalize ys.getD k 0 = y at *
  generalize val (out.take k) = O at *
  generalize val (ys.take k) = Y at *
  generalize val (xs.take k) = X at *
  generalize Bp k = K at *
  grind

theorem DfInv.done {n R : Nat} {xs ys out : List Nat} {p q c l b : Nat} (h : DfInv n xs ys out p q n c l b) (hx : xs.length = n) (hy : ys.length = n) (hR : R + q * val ys = p * val xs) (hRn : R < Bp n) : val out = R := by
  have e := h.eq
  have ho := val_lt h.lim
  rw [h.len] at ho
  rw [val_take_all (by rw [h.len]; omega), val_take_all (by omega), val_take_all (by omega)] at e
  have e2 : val out + Bp n * c = R + Bp n * (l + b) := by omega
  have m1 : (val out + Bp n * c) % Bp n = val out := by rw [Nat.add_mul_mod_self_left, Nat.mod_eq_of_lt ho]
  have m2 : (R + Bp n * (l + b)) % Bp n = R := by rw [Nat.add_mul_mod_self_left, Nat.mod_eq_of_lt hRn]
  rw [← m1, e2, m2]
end Go.Proofs.Ythcclkjccaoniaa.M
