/-
  VecLinear: for every input of bulk at most 1048576 (the statement 'VecLinearUptoSaid') the law returns true, and each argument reads afterwards as it read before.
-/
import Derived.Test.YtmbemidacilakaaBYd
import Derived.Test.YtmbemidacilakaaAt
namespace Go.Proofs.Ytmbemidacilakaa.vecLinear
open Go.ChangeShapes Go.WideShapes Go.ChangeAt Go.RowKit
open Go.Proofs.Ytmbemidacilakaa Go.Proofs.Ytmbemidacilakaa.M Go.Proofs.Ytmbemidacilakaa.Pz

theorem trod_struct4 {H : Type} {enc : TypeId × Value → H} {P : Program} {w : World} {t : TypeId} {f0 f1 f2 f3 : Field} {fuel : Nat} {cs : List Value} {x : DataW H × List MemPlace} (ht : P.underlying t = some (.struct #[f0, f1, f2, f3])) (h : DataW.trod enc P w 0 (fun _ => true) true fuel t cs = some x) :
    ∃ y0 y1 y2 y3 n, x = (.agg [y0.1, y1.1, y2.1, y3.1], y0.2 ++ (y1.2 ++ (y2.2 ++ y3.2))) ∧ DataW.trod enc P w 0 (fun _ => true) true n f0.type ((cs.drop f0.offset).take (P.cellsOf f0.type)) = some y0 ∧
      DataW.trod enc P w 0 (fun _ => true) true n f1.type ((cs.drop f1.offset).take (P.cellsOf f1.type)) = some y1 ∧ DataW.trod enc P w 0 (fun _ => true) true n f2.type ((cs.drop f2.offset).take (P.cellsOf f2.type)) = some y2 ∧ DataW.trod enc P w 0 (fun _ => true) true n f3.type ((cs.drop f3.offset).take (P.cellsOf f3.type)) = some y3 := by
  obtain ⟨xs, n, _, rfl, hl, hlen, hf⟩ := DataW.trod_struct ht h
  match xs, hlen with
  | [y0, y1, y2, y3], _ => exact ⟨y0, y1, y2, y3, n, by simp, by simpa using hf 0 f0 rfl, by simpa using hf 1 f1 rfl, by simpa using hf 2 f2 rfl, by simpa using hf 3 f3 rfl⟩
theorem thirty {cs : Array Value} (h : cs.size = 30) : ∃ c0 c1 c2 c3 c4 c5 c6 c7 c8 c9 c10 c11 c12 c13 c14 c15 c16 c17 c18 c19 c20 c21 c22 c23 c24 c25 c26 c27 c28 c29, cs = #[c0, c1, c2, c3, c4, c5, c6, c7, c8, c9, c10, c11, c12, c13, c14, c15, c16, c17, c18, c19, c20, c21, c22, c23, c24, c25, c26, c27, c28, c29] := by
  obtain ⟨l⟩ := cs
  match l, h with
  | [c0, c1, c2, c3, c4, c5, c6, c7, c8, c9, c10, c11, c12, c13, c14, c15, c16, c17, c18, c19, c20, c21, c22, c23, c24, c25, c26, c27, c28, c29], _ => exact ⟨c0, c1, c2, c3, c4, c5, c6, c7, c8, c9, c10, c11, c12, c13, c14, c15, c16, c17, c18, c19, c20, c21, c22, c23, c24, c25, c26, c27, c28, c29, rfl⟩
set_option maxRecDepth 100000 in
theorem open_four {H : Type} {enc : TypeId × Value → H} {W : World} {base : Nat} {v : Value} {d : DataW H} {p : List MemPlace} (hv : Value.okWide Try.prog W .any base 44 v) (h : ∃ fuel, DataW.trod enc Try.prog W 0 (fun _ => true) true fuel 44 v.cells.toList = some (d, p)) :
    ∃ a1 a2 a3 b1 b2 b3 y1 y2 y3 k : RP, v = .agg #[.bool a1.s, .slice a1.no a1.nn a1.nc, .slice a1.eo a1.en a1.ec, .bool a2.s, .slice a2.no a2.nn a2.nc, .slice a2.eo a2.en a2.ec, .bool a3.s, .slice a3.no a3.nn a3.nc, .slice a3.eo a3.en a3.ec, .bool b1.s, .slice b1.no b1.nn b1.nc, .slice b1.eo b1.en b1.ec, .bool b2.s, .slice b2.no b2.nn b2.nc, .slice b2.eo b2.en b2.ec, .bool b3.s, .slice b3.no b3.nn b3.nc, .slice b3.eo b3.en b3.ec, .bool y1.s, .slice y1.no y1.nn y1.nc, .slice y1.eo y1.en y1.ec, .bool y2.s, .slice y2.no y2.nn y2.nc, .slice y2.eo y2.en y2.ec, .bool y3.s, .slice y3.no y3.nn y3.nc, .slice y3.eo y3.en y3.ec, .bool k.s, .slice k.no k.nn k.nc, .slice k.eo k.en k.ec] ∧ (∃ qa1 qa2 qa3 qb1 qb2 qb3 qy1 qy2 qy3 qk, ∀ K, Rows.uptoBulk d ≤ K → Qv W a1 a2 a3 qa1 qa2 qa3 K ∧ Qv W b1 b2 b3 qb1 qb2 qb3 K ∧ Qv W y1 y2 y3 qy1 qy2 qy3 K ∧ Qp W k qk K) := by
  obtain ⟨cs, rfl, hsz⟩ := okWide_struct Try.underlying44 hv
  obtain ⟨fuel, hf⟩ := h
  have h30 : Try.prog.cellsOf 44 = 30 := by kernel_rfl
  rw [h30] at hsz
  obtain ⟨c0, c1, c2, c3, c4, c5, c6, c7, c8, c9, c10, c11, c12, c13, c14, c15, c16, c17, c18, c19, c20, c21, c22, c23, c24, c25, c26, c27, c28, c29, rfl⟩ := thirty hsz
  simp only [Value.cells] at hf
  obtain ⟨z0, z1, z2, z3, n, hx, t0, t1, t2, t3⟩ := trod_struct4 Try.underlying44 hf
  have e9 : Try.prog.cellsOf 26 = 9 := by kernel_rfl
  have e3 : Try.prog.cellsOf 24 = 3 := by kernel_rfl
  simp [e9] at t0 t1 t2
  simp [e3] at t3
  obtain ⟨a1, a2, a3, e0, qa1, qa2, qa3, k0⟩ := open_vecc t0
  obtain ⟨b1, b2, b3, e1, qb1, qb2, qb3, k1⟩ := open_vecc t1
  obtain ⟨y1, y2, y3, e2, qy1, qy2, qy3, k2⟩ := open_vecc t2
  obtain ⟨k, rfl, rfl, rfl, qk, k3⟩ := open_ratc t3
  simp only [List.cons.injEq, and_true] at e0 e1 e2
  obtain ⟨rfl, rfl, rfl, rfl, rfl, rfl, rfl, rfl, rfl⟩ := e0
  obtain ⟨rfl, rfl, rfl, rfl, rfl, rfl, rfl, rfl, rfl⟩ := e1
  obtain ⟨rfl, rfl, rfl, rfl, rfl, rfl, rfl, rfl, rfl⟩ := e2
  refine ⟨a1, a2, a3, b1, b2, b3, y1, y2, y3, k, rfl, qa1, qa2, qa3, qb1, qb2, qb3, qy1, qy2, qy3, qk, fun K hK => ?_⟩
  obtain ⟨rfl, rfl⟩ := Prod.mk.inj hx
  refine ⟨k0 K ?_, k1 K ?_, k2 K ?_, k3 K ?_⟩ <;> (simp only [Rows.uptoBulk, Rows.uptoBulkAll] at hK; omega)
set_option maxRecDepth 100000 in
theorem contract (H : Type) (enc : TypeId × Value → H) (W : World) (base : Nat) (args : Array Value) (ds gs : List (DataW H)) (before : List MemPlace)
    (hval : ∀ (j : Nat) t v, Try.f6.params[j]? = some t → args[j]? = some v → Value.okWide Try.prog W .any base t v)
    (hW : DataW.Whole enc Try.prog Try.f6.params.toList Rows.vecLinearSpec.vars false W args.toList ds gs before) (hk : Rows.uptoSmall H (ds ++ gs) = true) :
    Calls Try.prog 6 args W fun e W' => ∃ v, e = .returned v ∧ Rows.vecLinearSpec.post enc Try.prog Try.f6 false true false false W args v W' := by
  have hW' := hW
  obtain ⟨p, q, hA0, hV, rfl, hfz, hnd⟩ := hW
  have hA : DataW.TrodAll enc Try.prog W 0 (fun _ => true) true Try.f6.params.toList args.toList ds p := hA0
  rw [Try.params6] at hA hval
  obtain ⟨v0, vs0, d0, ds0, p0, q0, hargs, rfl, rfl, h0, r0⟩ := trodAll_cons hA
  obtain ⟨rfl, rfl, rfl⟩ := trodAll_nil r0
  obtain rfl : args = #[v0] := by cases args; simp_all
  obtain ⟨rfl, rfl⟩ := trodVars_none hV
  have hbulk : Rows.uptoBulkAll [d0] ≤ 1048576 := by simpa using of_decide_eq_true hk
  simp only [Rows.uptoBulkAll] at hbulk
  have k0 := h0
  have lt0 : ∀ x ∈ p0, x.block < W.heap.size := by obtain ⟨m, hm⟩ := k0; exact DataW.trod_lt m _ _ _ hm
  obtain ⟨a1, a2, a3, b1, b2, b3, y1, y2, y3, k, rfl, qa1, qa2, qa3, qb1, qb2, qb3, qy1, qy2, qy3, qk, m0⟩ := open_four (hval 0 44 v0 rfl rfl) h0
  clear hA0
  simp only [List.append_nil] at hW'
  obtain ⟨m1, m2, m3, m4⟩ := m0 1048576 (by omega)
  refine (vlinear_any W a1 a2 a3 b1 b2 b3 y1 y2 y3 k qa1 qa2 qa3 qb1 qb2 qb3 qy1 qy2 qy3 qk 1048576 m1 m2 m3 m4 (by omega) (Nat.le_refl _)).mono fun e W' ⟨he, bel⟩ => ?_
  subst he
  exact ⟨_, rfl, _, _, _, [], _, [], hW', trodAll_mk1 (shut_bool Try.underlying4 _), (trodAll_cons_mk (Below.trod laidOut (by kernel_rfl) (of_decide_eq_true (by kernel_rfl)) k0 bel lt0) trodAll_mk0), rfl, bel.frame _, fun h => by cases h⟩

set_option maxRecDepth 100000 in
theorem lifted (os : Os) (started : os.Started) (H : Type) (enc : TypeId × Value → H) (F : Stop.Interp) :
    ReturnsInHanded {} Try.checked os 6 .any ((Rows.OpenSpec.upto Rows.vecLinearSpec).pre6 enc Try.prog Try.f6 Rows.vecLinearUptoRow.domain false) (((Rows.OpenSpec.upto Rows.vecLinearSpec).at F).post enc Try.prog Try.f6 false true false false) := by
  refine returnsInHanded_of_cond (C := Try.checked) (s := Rows.OpenSpec.upto Rows.vecLinearSpec) (k := Rows.uptoSmall) rfl own started (by kernel_rfl) Try.func6
    (OpenSpec.witness (enc := enc) (C := Try.checked) (s := Rows.OpenSpec.upto Rows.vecLinearSpec) (k := Rows.uptoSmall) rfl false ⟨#[], #[.agg #[.bool false, .slice none 0 0, .slice none 0 0, .bool false, .slice none 0 0, .slice none 0 0, .bool false, .slice none 0 0, .slice none 0 0, .bool false, .slice none 0 0, .slice none 0 0, .bool false, .slice none 0 0, .slice none 0 0, .bool false, .slice none 0 0, .slice none 0 0, .bool false, .slice none 0 0, .slice none 0 0, .bool false, .slice none 0 0, .slice none 0 0, .bool false, .slice none 0 0, .slice none 0 0, .bool false, .slice none 0 0, .slice none 0 0]], []⟩ 8 (by kernel_rfl) (by kernel_rfl) (by kernel_rfl)
      (x := ([.agg [.agg [.agg [.lit (.bool false), .nil, .nil], .agg [.lit (.bool false), .nil, .nil], .agg [.lit (.bool false), .nil, .nil]], .agg [.agg [.lit (.bool false), .nil, .nil], .agg [.lit (.bool false), .nil, .nil], .agg [.lit (.bool false), .nil, .nil]], .agg [.agg [.lit (.bool false), .nil, .nil], .agg [.lit (.bool false), .nil, .nil], .agg [.lit (.bool false), .nil, .nil]], .agg [.lit (.bool false), .nil, .nil]]], [], [])) (by kernel_rfl) rfl (by kernel_rfl)) ?_
  intro W base args ds gs before hval hW _ hk _
  exact contract H enc W base args ds gs before hval hW hk

theorem proved : Rows.VecLinearUptoSaid :=
  OpenClaim.holds_of_cond 6 Try.f6 rfl rfl rfl rfl rfl rfl rfl ⟨rfl, rfl, rfl, rfl, rfl⟩ rfl rfl rfl rfl rfl (by kernel_rfl) Try.func6 (by kernel_rfl)
    (of_decide_eq_true (by kernel_rfl)) (by unfold Func.isWrapper; first | (rw [if_pos (by decide +kernel)]; kernel_rfl) | (rw [if_neg (by decide +kernel)]; exact ⟨rfl, rfl⟩))
    (fun os started H enc _ F => lifted os started H enc F)
end Go.Proofs.Ytmbemidacilakaa.vecLinear

namespace Go.Proofs.Ytmbemidacilakaa
theorem vecLinear_upto : Rows.VecLinearUptoSaid := vecLinear.proved
#print axioms vecLinear_upto
end Go.Proofs.Ytmbemidacilakaa
