/- Vecs that came in. -/
import Derived.Test.YtmbemidacilakaaAd
import Derived.Test.YtmbemidacilakaaAp
namespace Go.Proofs.Ytmbemidacilakaa.Pz
open Go.ChangeShapes Go.WideShapes Go.ChangeAt Go.RowKit
set_option maxRecDepth 100000
open Go.Proofs.Ytmbemidacilakaa Go.Proofs.Ytmbemidacilakaa.M

/-- The three cells of a Rat. -/
theorem open_ratc {H : Type} {enc : TypeId × Value → H} {W : World} {a b c : Value} {y : DataW H × List MemPlace} {fuel : Nat} (hf : DataW.trod enc Try.prog W 0 (fun _ => true) true fuel 24 [a, b, c] = some y) :
    ∃ r : RP, a = .bool r.s ∧ b = .slice r.no r.nn r.nc ∧ c = .slice r.eo r.en r.ec ∧ (∃ q, ∀ K, Rows.uptoBulk y.1 ≤ K → Qp W r q K) := by
  obtain ⟨y0, y1, y2, n, hx, _, t0, t1, t2⟩ := Deep.trod_struct3 Try.underlying24 hf
  have e4 : Try.prog.cellsOf 4 = 1 := by kernel_rfl
  have e22 : Try.prog.cellsOf 22 = 1 := by kernel_rfl
  simp [e4] at t0
  simp [e22] at t1 t2
  obtain ⟨s, hs⟩ : ∃ s, a = .bool s := by
    obtain ⟨b', hb, _⟩ := DataW.trod_bool Try.underlying4 t0
    exact ⟨b', by simpa using hb⟩
  subst hs
  obtain ⟨no, nn, nc, xs, rfl, sx, lx⟩ := open_limbs t1
  obtain ⟨eo, en, ec, ys, rfl, sy, ly⟩ := open_limbs t2
  subst hx
  refine ⟨⟨s, no, nn, nc, eo, en, ec⟩, rfl, rfl, rfl, _, fun K hK => ⟨⟨xs, ys, sx, sy, rfl⟩, ?_, ?_⟩⟩
  · simp only [Rows.uptoBulk, Rows.uptoBulkAll] at hK; show nn ≤ K; omega
  · simp only [Rows.uptoBulk, Rows.uptoBulkAll] at hK; show en ≤ K; omega
/-- The nine cells of a Vec. -/
theorem open_vecc {H : Type} {enc : TypeId × Value → H} {W : World} {c0 c1 c2 c3 c4 c5 c6 c7 c8 : Value} {y : DataW H × List MemPlace} {fuel : Nat} (hf : DataW.trod enc Try.prog W 0 (fun _ => true) true fuel 26 [c0, c1, c2, c3, c4, c5, c6, c7, c8] = some y) :
    ∃ a b c : RP, [c0, c1, c2, c3, c4, c5, c6, c7, c8] = [.bool a.s, .slice a.no a.nn a.nc, .slice a.eo a.en a.ec, .bool b.s, .slice b.no b.nn b.nc, .slice b.eo b.en b.ec, .bool c.s, .slice c.no c.nn c.nc, .slice c.eo c.en c.ec] ∧ (∃ p q r, ∀ K, Rows.uptoBulk y.1 ≤ K → Qv W a b c p q r K) := by
  obtain ⟨y0, y1, y2, n, hx, _, t0, t1, t2⟩ := Deep.trod_struct3 Try.underlying26 hf
  have e3 : Try.prog.cellsOf 24 = 3 := by kernel_rfl
  simp [e3] at t0 t1 t2
  obtain ⟨a, rfl, rfl, rfl, q1, k1⟩ := open_ratc t0
  obtain ⟨b, rfl, rfl, rfl, q2, k2⟩ := open_ratc t1
  obtain ⟨c, rfl, rfl, rfl, q3, k3⟩ := open_ratc t2
  subst hx
  refine ⟨a, b, c, rfl, q1, q2, q3, fun K hK => ⟨k1 K ?_, k2 K ?_, k3 K ?_⟩⟩ <;> (simp only [Rows.uptoBulk, Rows.uptoBulkAll] at hK; omega)
theorem nine {cs : Array Value} (h : cs.size = 9) : ∃ c0 c1 c2 c3 c4 c5 c6 c7 c8, cs = #[c0, c1, c2, c3, c4, c5, c6, c7, c8] := by
  obtain ⟨l⟩ := cs
  match l, h with
  | [c0, c1, c2, c3, c4, c5, c6, c7, c8], _ => exact ⟨c0, c1, c2, c3, c4, c5, c6, c7, c8, rfl⟩
theorem open_vec {H : Type} {enc : TypeId × Value → H} {W : World} {base : Nat} {v : Value} {d : DataW H} {p : List MemPlace} (hv : Value.okWide Try.prog W .any base 26 v) (h : ∃ fuel, DataW.trod enc Try.prog W 0 (fun _ => true) true fuel 26 v.cells.toList = some (d, p)) :
    ∃ a b c : RP, v = .agg #[.bool a.s, .slice a.no a.nn a.nc, .slice a.eo a.en a.ec, .bool b.s, .slice b.no b.nn b.nc, .slice b.eo b.en b.ec, .bool c.s, .slice c.no c.nn c.nc, .slice c.eo c.en c.ec] ∧ (∃ p q r, ∀ K, Rows.uptoBulk d ≤ K → Qv W a b c p q r K) := by
  obtain ⟨cs, rfl, hsz⟩ := okWide_struct Try.underlying26 hv
  obtain ⟨fuel, hf⟩ := h
  have h9 : Try.prog.cellsOf 26 = 9 := by kernel_rfl
  rw [h9] at hsz
  obtain ⟨c0, c1, c2, c3, c4, c5, c6, c7, c8, rfl⟩ := nine hsz
  simp only [Value.cells] at hf
  obtain ⟨a, b, c, e, q1, q2, q3, k⟩ := open_vecc hf
  refine ⟨a, b, c, ?_, q1, q2, q3, k⟩
  simp only [List.cons.injEq, and_true] at e
  obtain ⟨rfl, rfl, rfl, rfl, rfl, rfl, rfl, rfl, rfl⟩ := e
  rfl
theorem open_ratp {H : Type} {enc : TypeId × Value → H} {W : World} {base : Nat} {v : Value} {d : DataW H} {p : List MemPlace} (hv : Value.okWide Try.prog W .any base 24 v) (h : ∃ fuel, DataW.trod enc Try.prog W 0 (fun _ => true) true fuel 24 v.cells.toList = some (d, p)) :
    ∃ r : RP, v = .agg #[.bool r.s, .slice r.no r.nn r.nc, .slice r.eo r.en r.ec] ∧ (∃ q, ∀ K, Rows.uptoBulk d ≤ K → Qp W r q K) := by
  obtain ⟨s, no, nn, nc, eo, en, ec, xs, ys, rfl, sx, sy, u, y⟩ := open_rat hv h
  exact ⟨⟨s, no, nn, nc, eo, en, ec⟩, rfl, _, fun K hK => ⟨⟨xs, ys, sx, sy, rfl⟩, Nat.le_trans u hK, Nat.le_trans y hK⟩⟩
end Go.Proofs.Ytmbemidacilakaa.Pz
