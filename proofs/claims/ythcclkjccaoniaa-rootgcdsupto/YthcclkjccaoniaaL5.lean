/- penumbralaw01.NatAdds: true, whatever the two naturals are (of at most K limbs), and the number. -/
import Derived.Test.YthcclkjccaoniaaR2
namespace Go.Proofs.Ythcclkjccaoniaa
open Go.RowKit M

section
variable {w : World} {ao bo : Option Addr} {n cap m bcap : Nat} {xs ys : List Nat}
theorem rsub_k (h : Sl w.heap.size w ao n cap xs) (h2 : Sl w.heap.size w bo m bcap ys) (i : Nat) (hi : n ≤ i) (hb : i ≤ 274877906944) (hm : m ≤ 274877906944) (hle : val ys ≤ val xs) :
    Calls Try.prog 46 #[.slice ao n cap, .slice bo m bcap] w (Gt w i (toL (val xs - val ys))) :=
  (rsub_any w ao bo n cap m bcap xs ys h h2 (by omega) (by omega) hle).mono fun _ _ ⟨a, k, c, he, s, b⟩ => ⟨a, k, c, he, s, s.ln (Nat.lt_of_le_of_lt (Nat.sub_le _ _) (h.bd hi)), b⟩
theorem rsub_no_k (h : Sl w.heap.size w ao n cap xs) (h2 : Sl w.heap.size w bo m bcap ys) (hb : n ≤ 274877906944) (hm : m ≤ 274877906944) (hlt : val xs < val ys) :
    Calls Try.prog 46 #[.slice ao n cap, .slice bo m bcap] w fun e w' => e = .returned (.tuple #[.slice none 0 0, .bool false]) ∧ Below w.heap.size w w' :=
  (rsub_no w ao bo n cap m bcap _ xs ys h h2 (by omega) (by omega) hlt).mono fun _ _ ⟨he, q⟩ => ⟨he, by rw [← q]; exact Below.refl _ _⟩
theorem radd_k (h : Sl w.heap.size w ao n cap xs) (h2 : Sl w.heap.size w bo m bcap ys) (i : Nat) (hi : n ≤ i) (hj : m ≤ i) (hb : i ≤ 274877906944) :
    Calls Try.prog 31 #[.slice ao n cap, .slice bo m bcap] w (Gv w (i + 1) (toL (val xs + val ys))) :=
  (radd_any w ao bo n cap m bcap xs ys h h2 (by omega) (by omega)).mono fun _ _ ⟨a, k, c, he, s, b⟩ => ⟨a, k, c, he, s, s.ln (bd_add (h.bd hi) (h2.bd hj)), b⟩
theorem rcmp_k (h : Sl w.heap.size w ao n cap xs) (h2 : Sl w.heap.size w bo m bcap ys) (hb : n ≤ 274877906944) (hm : m ≤ 274877906944) :
    Calls Try.prog 32 #[.slice ao n cap, .slice bo m bcap] w fun e w' => e = .returned (.int .i64 (cmpN (val xs) (val ys))) ∧ Below w.heap.size w w' :=
  (rcmp_any w ao bo n cap m bcap _ xs ys h h2 (by omega) (by omega)).mono fun _ _ ⟨he, q⟩ => ⟨he, by rw [← q]; exact Below.refl _ _⟩
theorem rnorm_k (h : Sl w.heap.size w ao n cap xs) (i : Nat) (hi : n ≤ i) (hb : i ≤ 274877906944) :
    Calls Try.prog 27 #[.slice ao n cap] w (Gv w i (toL (val xs))) :=
  (rnorm_any w ao n cap xs h (by omega)).mono fun _ _ ⟨a, k, c, he, s, b⟩ => ⟨a, k, c, he, s, s.ln (h.bd hi), b⟩
theorem two_limbs {x : Nat} (hx : x < 18446744073709551616) : x < Bp 2 := by rw [Bp_succ, Bp_succ, Bp_zero]; omega
theorem of_k {x : Nat} (hx : x < 18446744073709551616) : Calls Try.prog 22 #[.int .u64 (x : Int)] w (Gv w 2 (toL x)) :=
  (of_any w x hx).mono fun _ _ ⟨a, k, c, he, s, b⟩ => ⟨a, k, c, he, s, s.ln (two_limbs hx), b⟩
end

end Go.Proofs.Ythcclkjccaoniaa
