/- Vecs that came in. -/
import Derived.Test.YtbobhhnhlgdkiaaJd
import Derived.Test.YtbobhhnhlgdkiaaJp
namespace Go.Proofs.Ytbobhhnhlgdkiaa.Pz
open Go.ChangeShapes Go.WideShapes Go.ChangeAt Go.RowKit
set_option maxRecDepth 100000
open Go.Proofs.Ytbobhhnhlgdkiaa Go.Proofs.Ytbobhhnhlgdkiaa.M

/-- The three cells of a Rat. -/
theorem open_ratc {H : Type} {enc : TypeId × Value → H} {W : World} {a b c : Value} {y : DataW H × List MemPlace} {fuel : Nat} (hf : DataW.trod enc Try.prog W 0 (fun _ => true) true fuel 28 [a, b, c] = some y) :
    ∃ r : RP, a = .bool r.s ∧ b = .slice r.no r.nn r.nc ∧ c = .slice r.eo r.en r.ec ∧ (∃ q, ∀ K, Rows.uptoBulk y.1 ≤ K → Qp W r q K) := by
  obtain ⟨y0, y1, y2, n, hx, _, t0, t1, t2⟩ := Deep.trod_struct3 Try.underlying28 hf
  have e4 : Try.prog.cellsOf 4 = 1 := by kernel_rfl
  have e22 : Try.prog.cellsOf 26 = 1 := by kernel_rfl
  simp [e4] at t0
  simp [e22] at t1 t2
  obtain ⟨s, hs⟩ : ∃ s, a = .bool s := by
    obtain ⟨b', hb, _⟩ := DataW.trod_bool Try.underlying4 t0
    exact ⟨b', by simpa using hb⟩
  subst hs
  obtain ⟨no, nn, nc, xs, rfl, sx, lx⟩ := open_limbs t1
  obtain ⟨eo, en, ec, ys, rfl, sy, ly⟩ := open_limbs t2
  subst hx
  refine ⟨⟨s, no, nn, nc, eo, en, ec⟩, rfl, rfl, rfl, _, fun K hK => ⟨⟨xs, ys, sx, sy, rfl⟩, ?_, ?_⟩⟩
  · simp only [Rows.uptoBulk, Rows.uptoBulkAll] at hK; show nn ≤ K; omega
  · simp only [Rows.uptoBulk, Rows.uptoBulkAll] at hK; show en ≤ K; omega
end Go.Proofs.Ytbobhhnhlgdkiaa.Pz
