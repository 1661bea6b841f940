/- penumbralaw01.NatMuls: true, whatever the two naturals are (of at most K limbs), and the number. -/
import Derived.Test.YthcclkjccaoniaaR4
namespace Go.Proofs.Ythcclkjccaoniaa
open Go.RowKit M

section
variable {w : World} {ao bo : Option Addr} {n cap m bcap : Nat} {xs ys : List Nat}
theorem rmul_k (h : Sl w.heap.size w ao n cap xs) (h2 : Sl w.heap.size w bo m bcap ys) (i j : Nat) (hi : n ≤ i) (hj : m ≤ j) (hb : i ≤ 274877906944) (hc : j ≤ 274877906944) :
    Calls Try.prog 33 #[.slice ao n cap, .slice bo m bcap] w (Gv w (i + j) (toL (val xs * val ys))) :=
  (rmul_any w ao bo n cap m bcap xs ys h h2 (by omega) (by omega)).mono fun _ _ ⟨a, k, c, he, s, b⟩ => ⟨a, k, c, he, s, s.ln (bd_mul (h.bd hi) (h2.bd hj)), b⟩
theorem rbits_k (h : Sl w.heap.size w ao n cap xs) (hb : n ≤ 274877906944) :
    Calls Try.prog 30 #[.slice ao n cap] w fun e w' => e = .returned (.int .i64 (nb (val xs))) ∧ Below w.heap.size w w' := rbits_any w ao n cap xs h (by omega)
end
end Go.Proofs.Ythcclkjccaoniaa
