/- The calls of nat, each with what is known of its answer's length: as the laws' walks use them. -/
import Derived.Test.YthcclkjccaoniaaF1
namespace Go.Proofs.Ythcclkjccaoniaa
open Go.RowKit M

theorem bd_add {A B i : Nat} (hA : A < Bp i) (hB : B < Bp i) : A + B < Bp (i + 1) := by rw [Bp_succ]; omega
theorem bd_mul {A B i j : Nat} (hA : A < Bp i) (hB : B < Bp j) : A * B < Bp (i + j) := by
  rw [Bp_add]; exact Nat.mul_lt_mul'' hA hB
theorem pow_bd {d k : Nat} (h : d < 32 * k) : 2 ^ d < Bp k := by rw [Bp_two]; exact Nat.pow_lt_pow_right (by omega) h
theorem Sl.bd {N n cap : Nat} {w : World} {ao : Option Addr} {xs : List Nat} (h : Sl N w ao n cap xs) {i : Nat} (hi : n ≤ i) : val xs < Bp i := Nat.lt_of_lt_of_le h.lt (Bp_mono hi)
theorem Sl.ln {N n cap V : Nat} {w : World} {ao : Option Addr} (h : Sl N w ao n cap (toL V)) {i : Nat} (hV : V < Bp i) : n ≤ i := by rw [← h.len]; exact toL_len_le hV

/-- What a call leaves: a slice of at most i limbs that reads as ys. -/
def Gv (w : World) (i : Nat) (ys : List Nat) (e : Ending) (w' : World) : Prop :=
  ∃ ao n cap, e = .returned (.slice ao n cap) ∧ Sl w'.heap.size w' ao n cap ys ∧ n ≤ i ∧ Below w.heap.size w w'
/-- .. beside true. -/
def Gt (w : World) (i : Nat) (ys : List Nat) (e : Ending) (w' : World) : Prop :=
  ∃ ao n cap, e = .returned (.tuple #[.slice ao n cap, .bool true]) ∧ Sl w'.heap.size w' ao n cap ys ∧ n ≤ i ∧ Below w.heap.size w w'

section
variable {w : World} {ao bo : Option Addr} {n cap m bcap : Nat} {xs ys : List Nat}

theorem add_k (h : Sl w.heap.size w ao n cap xs) (h2 : Sl w.heap.size w bo m bcap ys) (i : Nat) (hi : n ≤ i) (hj : m ≤ i) (hb : i ≤ 274877906944) :
    Calls Try.prog 19 #[.slice ao n cap, .slice bo m bcap] w (Gv w (i + 1) (toL (val xs + val ys))) :=
  (add_any w ao bo n cap m bcap xs ys h h2 (by omega) (by omega)).mono fun _ _ ⟨a, k, c, he, s, b⟩ => ⟨a, k, c, he, s, s.ln (bd_add (h.bd hi) (h2.bd hj)), b⟩
theorem mul_k (h : Sl w.heap.size w ao n cap xs) (h2 : Sl w.heap.size w bo m bcap ys) (i j : Nat) (hi : n ≤ i) (hj : m ≤ j) (hb : i ≤ 274877906944) (hc : j ≤ 274877906944) :
    Calls Try.prog 18 #[.slice ao n cap, .slice bo m bcap] w (Gv w (i + j) (toL (val xs * val ys))) :=
  (mul_any w ao bo n cap m bcap xs ys h h2 (by omega) (by omega)).mono fun _ _ ⟨a, k, c, he, s, b⟩ => ⟨a, k, c, he, s, s.ln (bd_mul (h.bd hi) (h2.bd hj)), b⟩
theorem norm_k (h : Sl w.heap.size w ao n cap xs) (i : Nat) (hi : n ≤ i) (hb : i ≤ 274877906944) :
    Calls Try.prog 16 #[.slice ao n cap] w (Gv w i (toL (val xs))) :=
  (norm_any w ao n cap xs h (by omega)).mono fun _ _ ⟨a, k, c, he, s, b⟩ => ⟨a, k, c, he, s, s.ln (h.bd hi), b⟩
theorem divMod_k (h : Sl w.heap.size w ao n cap xs) (h2 : Sl w.heap.size w bo m bcap ys) (i : Nat) (hi : n ≤ i) (hj : m ≤ i) (hb : i ≤ 274877906944) (h0 : val ys ≠ 0) :
    Calls Try.prog 17 #[.slice ao n cap, .slice bo m bcap] w fun e w' => ∃ qo qn qc ro rn rc, e = .returned (.tuple #[.slice qo qn qc, .slice ro rn rc, .bool true]) ∧
      Sl w'.heap.size w' qo qn qc (toL (val xs / val ys)) ∧ Sl w'.heap.size w' ro rn rc (toL (val xs % val ys)) ∧ qn ≤ i ∧ rn ≤ i ∧ Below w.heap.size w w' :=
  (divMod_any w ao bo n cap m bcap xs ys h h2 (by omega) (by omega) h0).mono fun _ _ ⟨a, k, c, a', k', c', he, s, s', b⟩ =>
    ⟨a, k, c, a', k', c', he, s, s', s.ln (Nat.lt_of_le_of_lt (Nat.div_le_self _ _) (h.bd hi)), s'.ln (Nat.lt_of_le_of_lt (Nat.mod_le _ _) (h.bd hi)), b⟩
theorem cmp_k (h : Sl w.heap.size w ao n cap xs) (h2 : Sl w.heap.size w bo m bcap ys) (hb : n ≤ 274877906944) (hm : m ≤ 274877906944) :
    Calls Try.prog 20 #[.slice ao n cap, .slice bo m bcap] w fun e w' => e = .returned (.int .i64 (cmpN (val xs) (val ys))) ∧ Below w.heap.size w w' :=
  (cmp_any w ao bo n cap m bcap _ xs ys h h2 (by omega) (by omega)).mono fun _ _ ⟨he, q⟩ => ⟨he, q.below _⟩
theorem bits_k (h : Sl w.heap.size w ao n cap xs) (hb : n ≤ 274877906944) :
    Calls Try.prog 49 #[.slice ao n cap] w fun e w' => e = .returned (.int .i64 (nb (val xs))) ∧ Below w.heap.size w w' :=
  (bits_any w ao n cap _ xs h (by omega)).mono fun _ _ ⟨he, q⟩ => ⟨he, by rw [← q]; exact Below.refl _ _⟩
theorem same_k (h : Sl w.heap.size w ao n cap xs) (h2 : Sl w.heap.size w bo m bcap ys) (he : xs = ys) (hb : n ≤ 274877906944) :
    Calls Try.prog 10 #[.slice ao n cap, .slice bo m bcap] w fun e w' => e = .returned (.bool true) ∧ Below w.heap.size w w' := by
  subst he
  exact (same_any w ao bo n cap m bcap _ xs h h2 (by omega)).mono fun _ _ ⟨he, q⟩ => ⟨he, q.below _⟩
end

end Go.Proofs.Ythcclkjccaoniaa
