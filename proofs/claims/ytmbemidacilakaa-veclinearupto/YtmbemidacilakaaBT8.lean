/- penumbralaw03.fixed: true. -/
import Derived.Test.YtmbemidacilakaaAc
namespace Go.Proofs.Ytmbemidacilakaa
open Go.RowKit M Kahn
set_option maxRecDepth 100000

theorem cq_same {u : World} {s : Bool} {no : Option Addr} {nn nc : Nat} {eo : Option Addr} {en ec : Nat} {q : Rat} {K : Nat} {t : Bool} {mo : Option Addr} {mn mc : Nat} {fo : Option Addr} {fn fc : Nat} {p : Rat} {L : Nat} (h : Cq u s no nn nc eo en ec q K) (h' : Cq u t mo mn mc fo fn fc p L) (e : q = p) :
    s = t ∧ toL q.num.natAbs = toL p.num.natAbs ∧ toL q.den = toL p.den := by
  subst e
  exact ⟨by rw [h.sgn, h'.sgn], rfl, rfl⟩

end Go.Proofs.Ytmbemidacilakaa
