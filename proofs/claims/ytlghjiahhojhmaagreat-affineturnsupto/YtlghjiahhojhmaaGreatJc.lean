/- rat: Floor. -/
import Derived.Test.YtlghjiahhojhmaaGreatJa
import Derived.Test.YtlghjiahhojhmaaGreatJb
namespace Go.Proofs.YtlghjiahhojhmaaGreat
open Go.RowKit M Kahn
set_option maxRecDepth 100000

/-- A whole number's canonical Rat. -/
theorem Cq.whole {w : World} {s s' : Bool} {no : Option Addr} {nn nc : Nat} {eo : Option Addr} {en ec : Nat} {q : Rat} {C K : Nat} (hq : rq s C 1 = q) (hs : s' = (s && decide (C ≠ 0))) (h1 : Sl w.heap.size w no nn nc (toL C)) (h2 : Sl w.heap.size w eo en ec [1]) (hn : nn ≤ K) (hK : 1 ≤ K) : Cq w s' no nn nc eo en ec q K := by
  rw [rq_one] at hq
  have e1 : q.num = sg s C := by rw [← hq]; rfl
  have e2 : q.den = 1 := by rw [← hq]; rfl
  refine ⟨?_, ?_, ?_, hn, ?_⟩
  · rw [hs, e1]
    cases s
    · simp [sg]
    · by_cases hc : C = 0
      · subst hc; rfl
      · simp [sg, hc]; omega
  · rw [e1, sg_abs]; exact h1
  · rw [e2, toL_one]; exact h2
  · have := h2.len; simp at this; omega

section
variable {w : World} {s : Bool} {no : Option Addr} {nn nc : Nat} {eo : Option Addr} {en ec : Nat} {K : Nat} {q : Rat}
end
end Go.Proofs.YtlghjiahhojhmaaGreat

/- rat: Sqrt. -/
namespace Go.Proofs.YtlghjiahhojhmaaGreat
open Go.RowKit M Kahn
set_option maxRecDepth 100000

section
variable {w : World} {s : Bool} {no : Option Addr} {nn nc : Nat} {eo : Option Addr} {en ec : Nat} {K : Nat} {q : Rat}
end
end Go.Proofs.YtlghjiahhojhmaaGreat

/- rat: isNormal, Check. -/
namespace Go.Proofs.YtlghjiahhojhmaaGreat
open Go.RowKit M Kahn
set_option maxRecDepth 100000

section
variable {w : World} {s : Bool} {no : Option Addr} {nn nc : Nat} {eo : Option Addr} {en ec : Nat} {K : Nat} {q : Rat}
end
end Go.Proofs.YtlghjiahhojhmaaGreat

/- Package rat's functions, by their contracts. -/
