/- Vecs that came in. -/
import Derived.Test.YtbobhhnhlgdkiaaGreatJd
import Derived.Test.YtbobhhnhlgdkiaaGreatJp
namespace Go.Proofs.YtbobhhnhlgdkiaaGreat.Pz
open Go.ChangeShapes Go.WideShapes Go.ChangeAt Go.RowKit
set_option maxRecDepth 100000
open Go.Proofs.YtbobhhnhlgdkiaaGreat Go.Proofs.YtbobhhnhlgdkiaaGreat.M

/-- The three cells of a Rat. -/
theorem open_ratc {H : Type} {enc : TypeId × Value → H} {W : World} {a b c : Value} {y : DataW H × List MemPlace} {fuel : Nat} (hf : DataW.trod enc Tryz.prog W 0 (fun _ => true) true fuel 24 [a, b, c] = some y) :
    ∃ r : RP, a = .bool r.s ∧ b = .slice r.no r.nn r.nc ∧ c = .slice r.eo r.en r.ec ∧ (∃ q, ∀ K, Rows.uptoBulk y.1 ≤ K → Qp W r q K) := by
  obtain ⟨y0, y1, y2, n, hx, _, t0, t1, t2⟩ := Deep.trod_struct3 Tryz.underlying24 hf
  have e4 : Tryz.prog.cellsOf 4 = 1 := by kernel_rfl
  have e22 : Tryz.prog.cellsOf 22 = 1 := by kernel_rfl
  simp [e4] at t0
  simp [e22] at t1 t2
  obtain ⟨s, hs⟩ : ∃ s, a = .bool s := by
    obtain ⟨b', hb, _⟩ := DataW.trod_bool Tryz.underlying4 t0
    exact ⟨b', by simpa using hb⟩
  subst hs
  obtain ⟨no, nn, nc, xs, rfl, sx, lx⟩ := open_limbs t1
  obtain ⟨eo, en, ec, ys, rfl, sy, ly⟩ := open_limbs t2
  subst hx
  refine ⟨⟨s, no, nn, nc, eo, en, ec⟩, rfl, rfl, rfl, _, fun K hK => ⟨⟨xs, ys, sx, sy, rfl⟩, ?_, ?_⟩⟩
  · simp only [Rows.uptoBulk, Rows.uptoBulkAll] at hK; show nn ≤ K; omega
  · simp only [Rows.uptoBulk, Rows.uptoBulkAll] at hK; show en ≤ K; omega
end Go.Proofs.YtbobhhnhlgdkiaaGreat.Pz
