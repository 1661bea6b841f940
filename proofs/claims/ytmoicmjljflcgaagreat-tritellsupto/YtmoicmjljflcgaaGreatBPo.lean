/- Structs and arrays of Rats that came in; how a law that was run becomes its statement. -/
import Derived.Test.YtmoicmjljflcgaaGreatJt
import Derived.Test.YtmoicmjljflcgaaGreatJw
namespace Go.Proofs.YtmoicmjljflcgaaGreat.Pz
open Go.ChangeShapes Go.WideShapes Go.ChangeAt Go.RowKit
set_option maxRecDepth 100000
open Go.Proofs.YtmoicmjljflcgaaGreat Go.Proofs.YtmoicmjljflcgaaGreat.M Go.Proofs.YtmoicmjljflcgaaGreat.Sym

theorem rpAll_append : ∀ (a b : List RP), RP.all (a ++ b) = RP.all a ++ RP.all b
  | [], _ => rfl
  | r :: a, b => by simp only [List.cons_append, RP.all, rpAll_append a b, List.append_assoc]
theorem rl_append {u : World} {K : Nat} : ∀ {a b : List RP} {p q : List Rat}, RL u K a p → RL u K b q → RL u K (a ++ b) (p ++ q)
  | [], _, [], _, _, h => h
  | _ :: _, _, _ :: _, _, h, h' => ⟨h.1, rl_append h.2 h'⟩
  | [], _, _ :: _, _, h, _ => h.elim
  | _ :: _, _, [], _, h, _ => h.elim
/-- A type of n Rats, one behind the other. -/
structure OpT (t : TypeId) (n : Nat) : Prop where
  go : ∀ {H : Type} {enc : TypeId × Value → H} {W : World} {fuel : Nat} {cs : List Value} {y : DataW H × List MemPlace}, DataW.trod enc Tryz.prog W 0 (fun _ => true) true fuel t cs = some y → cs.length = 3 * n →
    ∃ (rs : List RP) (qs : List Rat), cs = RP.all rs ∧ qs.length = n ∧ ∀ K, Rows.uptoBulk y.1 ≤ K → RL W K rs qs
theorem opRat : OpT 24 1 := ⟨fun {H enc W fuel cs y} h hl => by
  match cs, hl with
  | [a, b, c], _ =>
    obtain ⟨r, rfl, rfl, rfl, q, k⟩ := open_ratc h
    exact ⟨[r], [q], rfl, rfl, fun K hK => ⟨k K hK, trivial⟩⟩⟩
/-- Parts at their places. -/
def FitsL : Nat → List (Nat × TypeId) → List Nat → Prop
  | off, (o, t) :: ps, n :: l => (o = off ∧ Tryz.prog.cellsOf t = 3 * n ∧ OpT t n) ∧ FitsL (off + 3 * n) ps l
  | _, [], [] => True
  | _, _, _ => False
theorem FitsL.go {H : Type} {enc : TypeId × Value → H} {W : World} {m : Nat} {cs : List Value} : ∀ (ps : List (Nat × TypeId)) (l : List Nat) (xs : List (DataW H × List MemPlace)) (off : Nat), FitsL off ps l → xs.length = ps.length → cs.length = off + 3 * l.sum →
    (∀ (i o : Nat) (t : TypeId), ps[i]? = some (o, t) → DataW.trod enc Tryz.prog W 0 (fun _ => true) true m t ((cs.drop o).take (Tryz.prog.cellsOf t)) = xs[i]?) →
    ∃ (rs : List RP) (qs : List Rat), cs.drop off = RP.all rs ∧ qs.length = l.sum ∧ ∀ K, Rows.uptoBulkAll (xs.map (·.1)) ≤ K → RL W K rs qs
  | [], [], [], off, _, _, hc, _ => ⟨[], [], by rw [List.drop_eq_nil_of_le (by simp at hc; omega)]; rfl, rfl, fun _ _ => trivial⟩
  | (o, t) :: ps, n :: l, x :: xs, off, ⟨⟨h1, h2, h3⟩, h4⟩, hx, hc, hf => by
    subst h1
    rw [List.sum_cons] at hc
    have h0 := hf 0 o t rfl
    rw [List.getElem?_cons_zero, h2] at h0
    obtain ⟨rs, qs, e1, e2, e3⟩ := h3.go h0 (by rw [List.length_take, List.length_drop]; omega)
    obtain ⟨rs', qs', f1, f2, f3⟩ := FitsL.go (enc := enc) (W := W) (m := m) (cs := cs) ps l xs (o + 3 * n) h4 (by simpa using hx) (by omega) (fun i o' t' hi => by have := hf (i + 1) o' t' (by simpa using hi); simpa using this)
    refine ⟨rs ++ rs', qs ++ qs', ?_, by rw [List.length_append, e2, f2, List.sum_cons], fun K hK => ?_⟩
    · rw [rpAll_append, ← e1, ← f1, ← List.drop_drop, List.take_append_drop]
    · simp only [List.map_cons, Rows.uptoBulkAll] at hK
      exact rl_append (e3 K (by omega)) (f3 K (by omega))
  | [], [], _ :: _, _, _, hx, _, _ => by simp at hx
  | _ :: _, _, [], _, _, hx, _, _ => by simp at hx
  | [], _ :: _, _, _, h, _, _, _ => h.elim
  | _ :: _, [], _, _, h, _, _, _ => h.elim
theorem OpT.struct {t : TypeId} {fs : Array Field} {l : List Nat} {n : Nat} (ht : Tryz.prog.underlying t = some (.struct fs)) (hn : n = l.sum) (h : FitsL 0 (fs.toList.map fun f => (f.offset, f.type)) l) : OpT t n := ⟨fun {H enc W fuel cs y} hy hl => by
  subst hn
  obtain ⟨xs, m, _, rfl, _, hlen, hf⟩ := DataW.trod_struct ht hy
  obtain ⟨rs, qs, e1, e2, e3⟩ := FitsL.go (enc := enc) (W := W) (m := m) (cs := cs) _ l xs 0 h (by simp [hlen]) (by omega) (fun i o t' hi => by
    rw [List.getElem?_map, Option.map_eq_some_iff] at hi
    obtain ⟨f, hf', e⟩ := hi
    cases e
    exact hf i f (by simpa using hf'))
  refine ⟨rs, qs, e1, e2, fun K hK => e3 K ?_⟩
  simp only [Rows.uptoBulk] at hK
  omega⟩
theorem OpT.array {t e : TypeId} {k n N : Nat} (ht : Tryz.prog.underlying t = some (.array k e)) (he : OpT e n) (hc : Tryz.prog.cellsOf e = 3 * n) (hn : N = k * n) : OpT t N := ⟨fun {H enc W fuel cs y} hy hl => by
  subst hn
  obtain ⟨xs, m, _, rfl, _, hlen, hf⟩ := DataW.trod_array ht hy
  have hfit : ∀ j off, FitsL off ((List.range j).map fun i => (off + i * (3 * n), e)) (List.replicate j n) := fun j => by
    induction j with
    | zero => intro off; trivial
    | succ j ih =>
      intro off
      rw [List.range_succ_eq_map, List.map_cons, List.replicate_succ, List.map_map]
      refine ⟨⟨by omega, hc, he⟩, ?_⟩
      have := ih (off + 3 * n)
      have e0 : ((fun i => (off + i * (3 * n), e)) ∘ Nat.succ) = fun i => (off + 3 * n + i * (3 * n), e) := by
        funext i
        simp only [Function.comp, Nat.succ_mul, Prod.mk.injEq, and_true]
        omega
      rw [e0]
      exact this
  obtain ⟨rs, qs, e1, e2, e3⟩ := FitsL.go (enc := enc) (W := W) (m := m) (cs := cs) _ (List.replicate k n) xs 0 (hfit k 0) (by simp [hlen]) (by rw [List.sum_replicate_nat, hl]; omega) (fun i o t' hi => by
    rw [List.getElem?_map, Option.map_eq_some_iff] at hi
    obtain ⟨f, hf', e⟩ := hi
    cases e
    have hi : i < k := by
      have := (List.getElem?_eq_some_iff.1 hf').1
      simpa using this
    rw [List.getElem?_range hi] at hf'
    obtain rfl := Option.some.inj hf'
    have := hf i hi
    rw [hc] at this ⊢
    simpa using this)
  refine ⟨rs, qs, e1, by rw [e2, List.sum_replicate_nat], fun K hK => e3 K ?_⟩
  simp only [Rows.uptoBulk] at hK
  omega⟩
/-- An argument of n Rats. -/
theorem open_rats {t : TypeId} {n : Nat} (ho : OpT t n) {d0 : TypeDesc} (ht : Tryz.prog.underlying t = some d0) (hr : d0.isRow = true) (hc : Tryz.prog.cellsOf t = 3 * n) {H : Type} {enc : TypeId × Value → H} {W : World} {base : Nat} {v : Value} {d : DataW H} {p : List MemPlace} (hv : Value.okWide Tryz.prog W .any base t v) (h : ∃ fuel, DataW.trod enc Tryz.prog W 0 (fun _ => true) true fuel t v.cells.toList = some (d, p)) :
    ∃ (rs : List RP) (qs : List Rat), v = .agg (RP.all rs).toArray ∧ qs.length = n ∧ ∀ K, Rows.uptoBulk d ≤ K → RL W K rs qs := by
  obtain ⟨cs, rfl, hsz⟩ : ∃ cs, v = .agg cs ∧ cs.size = Tryz.prog.cellsOf t := by
    simp only [Value.okWide, ht] at hv
    cases d0 <;> simp [TypeDesc.isRow] at hr <;> (obtain ⟨cs, h1, h2, _⟩ := hv; exact ⟨cs, h1, h2⟩)
  obtain ⟨fuel, hf⟩ := h
  simp only [Value.cells] at hf
  obtain ⟨rs, qs, e1, e2, e3⟩ := ho.go hf (by simpa [hc] using hsz)
  exact ⟨rs, qs, by rw [← e1], e2, e3⟩
theorem opVec : OpT 26 3 := .struct (l := [1, 1, 1]) Tryz.underlying26 rfl ⟨⟨rfl, by kernel_rfl, opRat⟩, ⟨rfl, by kernel_rfl, opRat⟩, ⟨rfl, by kernel_rfl, opRat⟩, trivial⟩
theorem opTri : OpT 28 9 := .struct (l := [3, 3, 3]) Tryz.underlying28 rfl ⟨⟨rfl, by kernel_rfl, opVec⟩, ⟨rfl, by kernel_rfl, opVec⟩, ⟨rfl, by kernel_rfl, opVec⟩, trivial⟩
/-- What a law that was run answers. -/
theorem at_true {f : Nat} {xs : List BV} {args : List Value} {W : World} (h : At Tryz.prog f xs ⟨.inl ⟨some (.inl (.bool true))⟩⟩) (ha : AllIs nob W xs args) :
    Calls Tryz.prog f args.toArray W fun e W' => e = .returned (.bool true) ∧ Below W.heap.size W W' :=
  Calls.mono (h W args ha) fun e W' ⟨v, h1, h2, h3⟩ => ⟨by rw [h1]; have h2 : v = .bool true := h2; rw [h2], h3⟩
end Go.Proofs.YtmoicmjljflcgaaGreat.Pz
