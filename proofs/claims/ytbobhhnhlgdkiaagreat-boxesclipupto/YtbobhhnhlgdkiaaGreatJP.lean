/- Arguments of any type that came in, as the second runs know them; how a law that was run becomes its statement. -/
import Derived.Test.YtbobhhnhlgdkiaaGreatJt
import Derived.Test.YtbobhhnhlgdkiaaGreatJK
import Derived.Deep.Slices
import Derived.Test.YtbobhhnhlgdkiaaGreatJL
namespace Go.Proofs.YtbobhhnhlgdkiaaGreat.Sy
open Go.ChangeShapes Go.WideShapes Go.ChangeAt Go.RowKit
set_option maxRecDepth 100000
open Go Go.Proofs.YtbobhhnhlgdkiaaGreat Go.Proofs.YtbobhhnhlgdkiaaGreat.M Go.Proofs.YtbobhhnhlgdkiaaGreat.Pz

/-- No box, no block that is not told of. -/
structure Open0 (E : Env) : Prop where
  b : ∀ k, E.β k = none
  f : ∀ b, ¬ E.F b
theorem Open0.bare {E : Env} (h : Open0 E) : Open0 E.bare := ⟨h.b, h.f⟩
/-- A type of n cells whose values are told as f a K, where a is as P says and K is how much it holds. -/
structure OpD (t : TypeId) (n : Nat) (α : Type) (P : Nat → α → Prop) (f : α → Nat → List D) : Prop where
  size : Tryz.prog.cellsOf t = n
  go : ∀ {H : Type} {enc : TypeId × Value → H} {W : World} {fuel : Nat} {cs : List Value} {y : DataW H × List MemPlace}, DataW.trod enc Tryz.prog W 0 (fun _ => true) true fuel t cs = some y → cs.length = n →
    ∃ a : α, ∀ K, Rows.uptoBulk y.1 ≤ K → P K a ∧ ∀ E, Open0 E → Cells E W (f a K) cs
theorem Cells.single {E : Env} {u : World} {x : D} {vs : List Value} (h : LfIs E u x vs) : Cells E u [x] vs := Cells.cons_iff.2 ⟨vs, [], by simp, h, Cells.nil⟩
theorem OpD.rat : OpD 24 3 Rat (fun _ _ => True) (fun q K => [.held (.inl (q, K, false))]) := ⟨by kernel_rfl, fun {H enc W fuel cs y} h hl => by
  match cs, hl with
  | [a, b, c], _ =>
    obtain ⟨r, rfl, rfl, rfl, q, k⟩ := open_ratc h
    exact ⟨q, fun K hK => ⟨trivial, fun E _ => Cells.single (LfIs.rat_iff.2 ⟨r, rfl, k K hK, nofun⟩)⟩⟩⟩
theorem OpD.bool {t : TypeId} (ht : Tryz.prog.underlying t = some .bool) (hs : Tryz.prog.cellsOf t = 1) : OpD t 1 Bool (fun _ _ => True) (fun b _ => [.held (.inr (.inl (.bool b)))]) := ⟨hs, fun {H enc W fuel cs y} h hl => by
  obtain ⟨b, rfl, _⟩ := DataW.trod_bool ht h
  exact ⟨b, fun K hK => ⟨trivial, fun E _ => Cells.single ((LfIs.one_iff rfl).2 ⟨_, rfl, rfl, VIs.val_iff.2 rfl⟩)⟩⟩⟩
theorem OpD.int {t : TypeId} (ht : Tryz.prog.underlying t = some (.int .i64)) (hs : Tryz.prog.cellsOf t = 1) : OpD t 1 Int (fun _ z => -9223372036854775808 ≤ z ∧ z ≤ 9223372036854775807) (fun z _ => [.held (.inr (.inl (.int .i64 z)))]) := ⟨hs, fun {H enc W fuel cs y} h hl => by
  obtain ⟨n, rfl, _, h2⟩ := DataW.trod_int ht h
  have := bounds_i64 h2
  exact ⟨n, fun K hK => ⟨by omega, fun E _ => Cells.single ((LfIs.one_iff rfl).2 ⟨_, rfl, rfl, VIs.val_iff.2 rfl⟩)⟩⟩⟩
/-- Parts at their places, one behind the other. -/
structure FitsD (off : Nat) (ps : List (Nat × TypeId)) (n : Nat) (γ : Type) (P : Nat → γ → Prop) (f : γ → Nat → List D) : Prop where
  go : ∀ {H : Type} {enc : TypeId × Value → H} {W : World} {m : Nat} {cs : List Value} (xs : List (DataW H × List MemPlace)), xs.length = ps.length → cs.length = off + n →
    (∀ (i o : Nat) (t : TypeId), ps[i]? = some (o, t) → DataW.trod enc Tryz.prog W 0 (fun _ => true) true m t ((cs.drop o).take (Tryz.prog.cellsOf t)) = xs[i]?) →
    ∃ a : γ, ∀ K, Rows.uptoBulkAll (xs.map (·.1)) ≤ K → P K a ∧ ∀ E, Open0 E → Cells E W (f a K) (cs.drop off)
theorem FitsD.nil {off : Nat} : FitsD off [] 0 Unit (fun _ _ => True) (fun _ _ => []) := ⟨fun {H enc W m cs} xs _ hl _ => ⟨(), fun K _ => ⟨trivial, fun E _ => by rw [List.drop_eq_nil_of_le (by omega)]; exact Cells.nil⟩⟩⟩
theorem FitsD.cons {off n m : Nat} {t : TypeId} {ps : List (Nat × TypeId)} {α γ : Type} {P : Nat → α → Prop} {Q : Nat → γ → Prop} {f : α → Nat → List D} {g : γ → Nat → List D} (h1 : OpD t n α P f) (h2 : FitsD (off + n) ps m γ Q g) :
    FitsD off ((off, t) :: ps) (n + m) (α × γ) (fun K a => P K a.1 ∧ Q K a.2) (fun a K => f a.1 K ++ g a.2 K) := ⟨fun {H enc W k cs} xs hx hl hf => by
  match xs, hx with
  | x :: xs, hx =>
    have h0 := hf 0 off t rfl
    rw [List.getElem?_cons_zero, h1.size] at h0
    obtain ⟨a, ha⟩ := h1.go h0 (by rw [List.length_take, List.length_drop]; omega)
    obtain ⟨c, hc⟩ := h2.go (enc := enc) (W := W) (m := k) (cs := cs) xs (by simpa using hx) (by omega) (fun i o' t' hi => by have := hf (i + 1) o' t' (by simpa using hi); simpa using this)
    refine ⟨(a, c), fun K hK => ?_⟩
    simp only [List.map_cons, Rows.uptoBulkAll] at hK
    obtain ⟨p1, c1⟩ := ha K (by omega)
    obtain ⟨p2, c2⟩ := hc K (by omega)
    refine ⟨⟨p1, p2⟩, fun E hE => Cells.app.2 ⟨_, _, ?_, c1 E hE, c2 E hE⟩⟩
    rw [← List.drop_drop, List.take_append_drop]⟩
theorem OpD.struct {t : TypeId} {fs : Array Field} {n : Nat} {γ : Type} {P : Nat → γ → Prop} {f : γ → Nat → List D} (ht : Tryz.prog.underlying t = some (.struct fs)) (hs : Tryz.prog.cellsOf t = n) (h : FitsD 0 (fs.toList.map fun f => (f.offset, f.type)) n γ P f) : OpD t n γ P f := ⟨hs, fun {H enc W fuel cs y} hy hl => by
  obtain ⟨xs, m, _, rfl, _, hlen, hf⟩ := DataW.trod_struct ht hy
  obtain ⟨a, ha⟩ := h.go (enc := enc) (W := W) (m := m) (cs := cs) xs (by simp [hlen]) (by omega) (fun i o t' hi => by
    rw [List.getElem?_map, Option.map_eq_some_iff] at hi
    obtain ⟨f, hf', e⟩ := hi
    cases e
    exact hf i f (by simpa using hf'))
  refine ⟨a, fun K hK => ?_⟩
  obtain ⟨p, c⟩ := ha K (by simp only [Rows.uptoBulk] at hK; omega)
  exact ⟨p, fun E hE => by have := c E hE; rwa [List.drop_zero] at this⟩⟩
theorem OpD.array {t e : TypeId} {k n w : Nat} {γ : Type} {P : Nat → γ → Prop} {f : γ → Nat → List D} (ht : Tryz.prog.underlying t = some (.array k e)) (hs : Tryz.prog.cellsOf t = n) (hw : Tryz.prog.cellsOf e = w) (h : FitsD 0 ((List.range k).map fun i => (i * w, e)) n γ P f) : OpD t n γ P f := ⟨hs, fun {H enc W fuel cs y} hy hl => by
  subst hw
  obtain ⟨xs, m, _, rfl, _, hlen, hf⟩ := DataW.trod_array ht hy
  obtain ⟨a, ha⟩ := h.go (enc := enc) (W := W) (m := m) (cs := cs) xs (by simp [hlen]) (by omega) (fun i o t' hi => by
    rw [List.getElem?_map, Option.map_eq_some_iff] at hi
    obtain ⟨j, hj, e⟩ := hi
    cases e
    have hi : i < k := by
      have := (List.getElem?_eq_some_iff.1 hj).1
      simpa using this
    rw [List.getElem?_range hi] at hj
    obtain rfl := Option.some.inj hj
    exact hf i hi)
  refine ⟨a, fun K hK => ?_⟩
  obtain ⟨p, c⟩ := ha K (by simp only [Rows.uptoBulk] at hK; omega)
  exact ⟨p, fun E hE => by have := c E hE; rwa [List.drop_zero] at this⟩⟩
theorem cells_range {w : World} {a : Addr} {n : Nat} {cs : List Value} (h : w.cells? 0 a n = some cs) (hs : a.spot = none) : cs.length = n ∧ w.rangeAt a.block a.off cs := by
  obtain ⟨_, hlen, hc⟩ := World.cells?_some h
  refine ⟨hlen, fun j v hj => ?_⟩
  have hj' : j < n := by rw [← hlen]; exact (List.getElem?_eq_some_iff.1 hj).1
  have := hc j hj'
  rw [hj] at this
  rw [← this]
  obtain ⟨b, o, s⟩ := a
  have hs : s = none := hs
  subst hs
  unfold Addr.add
  split
  · rename_i h0; subst h0; rfl
  · rfl
theorem range_app {w : World} {b o : Nat} {xs ys : List Value} (h1 : w.rangeAt b o xs) (h2 : w.rangeAt b (o + xs.length) ys) : w.rangeAt b o (xs ++ ys) := fun j v hj => by
  by_cases h : j < xs.length
  · exact h1 j v (by rwa [List.getElem?_append_left h] at hj)
  · rw [List.getElem?_append_right (by omega)] at hj
    have := h2 _ v hj
    rwa [show o + xs.length + (j - xs.length) = o + j from by omega] at this
theorem els_of {E : Env} {u : World} {n b : Nat} : ∀ (es : List D) (o : Nat) (C : Nat → List Value), (∀ i, i < es.length → ∃ ps, es[i]? = some (.agg ps) ∧ (C i).length = n ∧ Cells E.bare u ps (C i) ∧ u.rangeAt b (o + i * n) (C i)) → ∃ vs, Els E u es vs ∧ u.rangeAt b o vs := by
  intro es
  induction es with
  | nil => exact fun o C _ => ⟨[], Els.nil_iff.2 rfl, fun j v hj => by simp at hj⟩
  | cons x es ih =>
    intro o C h
    obtain ⟨ps, e0, e1, e2, e3⟩ := h 0 (by simp)
    obtain ⟨vs, h1, h2⟩ := ih (o + n) (fun i => C (i + 1)) (fun i hi => by
      obtain ⟨ps, e0, e1, e2, e3⟩ := h (i + 1) (by simpa using hi)
      exact ⟨ps, by simpa using e0, e1, e2, by rwa [show o + n + i * n = o + (i + 1) * n from by rw [Nat.add_mul]; omega]⟩)
    refine ⟨C 0 ++ vs, Els.cons_iff.2 ⟨ps, C 0, vs, by simpa using e0, rfl, e2, h1⟩, range_app (by simpa using e3) (by rw [e1]; exact h2)⟩
theorem bulk_mem {H : Type} {l : List (DataW H)} {x : DataW H} (h : x ∈ l) : Rows.uptoBulk x ≤ Rows.uptoBulkAll l := by
  induction l with
  | nil => cases h
  | cons y l ih =>
    simp only [Rows.uptoBulkAll]
    rcases List.mem_cons.1 h with rfl | h
    · omega
    · have := ih h; omega
theorem OpD.slice {t e : TypeId} {n : Nat} {α : Type} {P : Nat → α → Prop} {f : α → Nat → List D} (ht : Tryz.prog.underlying t = some (.slice e)) (hs : Tryz.prog.cellsOf t = 1) (hn : 0 < n) (he : OpD e n α P f) :
    OpD t 1 (List α) (fun K l => l.length ≤ K ∧ ∀ x ∈ l, P K x) (fun l K => [.slice (l.map fun a => .agg (f a K)) []]) := ⟨hs, fun {H enc W fuel cs y} h hl => by
  rcases Deep.open_slice ht h with ⟨rfl, rfl⟩ | ⟨a, len, cap, m, k, Dt, Pl, rfl, _, hlc, _, hm, rfl, hx⟩
  · exact ⟨[], fun K hK => ⟨⟨Nat.zero_le _, nofun⟩, fun E hE => Cells.single ((LfIs.one_iff rfl).2 ⟨_, rfl, rfl, VIs.slice_iff.2 ⟨none, 0, rfl, Nat.le_refl _, fun h => absurd h (Nat.lt_irrefl _)⟩⟩)⟩⟩
  · have hmm : m = cap := by simpa using hm
    rw [he.size] at hx
    have hsp : 0 < len → a.spot = none ∧ a.block < W.heap.size := fun h0 => by
      obtain ⟨cs', h1, _⟩ := hx 0 (by omega)
      obtain ⟨_, hlen, hc⟩ := World.cells?_some h1
      have := hc 0 hn
      rw [List.getElem?_eq_getElem (by omega)] at this
      have hz : (a.add (0 * n)).add 0 = a := by simp [Addr.add]
      rw [hz] at this
      exact ⟨World.cell?_spot this, block_lt_of_cell this⟩
    obtain ⟨C, hC⟩ : ∃ C : Nat → List Value, ∀ i, i < m → W.cells? 0 (a.add (i * n)) n = some (C i) ∧ DataW.trod enc Tryz.prog W 0 (fun _ => true) true k e (C i) = some (Dt i, Pl i) := Deep.choose_lt hx
    have hA : ∀ i, i < len → ∃ x : Option α, ∃ a : α, x = some a ∧ ∀ K, Rows.uptoBulk (Dt i) ≤ K → P K a ∧ ∀ E, Open0 E → Cells E W (f a K) (C i) := fun i hi => by
      obtain ⟨h1, h2⟩ := hC i (by omega)
      obtain ⟨a, ha⟩ := he.go h2 (World.cells?_some h1).2.1
      exact ⟨some a, a, rfl, ha⟩
    obtain ⟨A, hA⟩ := Deep.choose_lt hA
    obtain ⟨l, hl, hg⟩ : ∃ l : List α, l.length = len ∧ ∀ i, i < len → ∃ a, l[i]? = some a ∧ ∀ K, Rows.uptoBulk (Dt i) ≤ K → P K a ∧ ∀ E, Open0 E → Cells E W (f a K) (C i) := by
      refine ⟨((List.range len).filterMap A), ?_, ?_⟩
      · have : ∀ j, j ≤ len → ((List.range j).filterMap A).length = j := fun j => by
          induction j with
          | zero => intro _; rfl
          | succ j ih =>
            intro hj
            obtain ⟨a, e, _⟩ := hA j (by omega)
            rw [List.range_succ, List.filterMap_append, List.length_append, ih (by omega)]
            simp [e]
        exact this len (Nat.le_refl _)
      · have : ∀ j, j ≤ len → ∀ i, i < j → ((List.range j).filterMap A)[i]? = A i ∧ ((List.range j).filterMap A).length = j := fun j => by
          induction j with
          | zero => intro _ i hi; omega
          | succ j ih =>
            intro hj i hi
            obtain ⟨a, e, _⟩ := hA j (by omega)
            have hlen : ((List.range j).filterMap A).length = j := by
              cases j with
              | zero => rfl
              | succ j => exact (ih (by omega) 0 (by omega)).2
            rw [List.range_succ, List.filterMap_append]
            have e1 : [j].filterMap A = [a] := by simp [e]
            rw [e1]
            refine ⟨?_, by rw [List.length_append, hlen]; rfl⟩
            by_cases hij : i < j
            · rw [List.getElem?_append_left (by omega)]; exact (ih (by omega) i hij).1
            · have : i = j := by omega
              subst this
              rw [List.getElem?_append_right (by omega), hlen, e]; simp
        intro i hi
        obtain ⟨a, e, h⟩ := hA i hi
        exact ⟨a, by rw [(this len (Nat.le_refl _) i hi).1, e], h⟩
    refine ⟨l, fun K hK => ⟨⟨?_, ?_⟩, fun E hE => ?_⟩⟩
    · simp only [Rows.uptoBulk] at hK
      have := length_le ((List.range len).map Dt)
      rw [List.length_map, List.length_range] at this
      omega
    · intro x hx'
      obtain ⟨i, hi⟩ := List.mem_iff_getElem?.1 hx'
      have hi' : i < len := by rw [← hl]; exact (List.getElem?_eq_some_iff.1 hi).1
      obtain ⟨a', e, h⟩ := hg i hi'
      rw [hi] at e; cases e
      refine (h K ?_).1
      simp only [Rows.uptoBulk] at hK
      have := bulk_mem (l := (List.range len).map Dt) (x := Dt i) (List.mem_map.2 ⟨i, List.mem_range.2 hi', rfl⟩)
      omega
    · have hb : ∀ i, i < len → Rows.uptoBulk (Dt i) ≤ K := fun i hi => by
        simp only [Rows.uptoBulk] at hK
        have := bulk_mem (l := (List.range len).map Dt) (x := Dt i) (List.mem_map.2 ⟨i, List.mem_range.2 hi, rfl⟩)
        omega
      refine Cells.single ((LfIs.one_iff rfl).2 ⟨_, rfl, rfl, VIs.slice_iff.2 ⟨some a, cap, by rw [List.length_map, hl], by rw [List.length_map, hl]; exact hlc, fun h0 => ?_⟩⟩)
      rw [List.length_map, hl] at h0
      obtain ⟨hs1, hs2⟩ := hsp h0
      obtain ⟨vs, k1, k2⟩ := els_of (E := E) (u := W) (n := n) (b := a.block) (l.map fun a => .agg (f a K)) a.off C (fun i hi => by
        rw [List.length_map, hl] at hi
        obtain ⟨a', e, h⟩ := hg i hi
        obtain ⟨h1, h2⟩ := hC i (by omega)
        have hab : ∀ j, (a.add j).spot = none ∧ (a.add j).block = a.block ∧ (a.add j).off = a.off + j := fun j => by
          unfold Addr.add; split <;> simp_all
        obtain ⟨r1, r2⟩ := cells_range h1 (hab _).1
        rw [(hab _).2.1, (hab _).2.2] at r2
        exact ⟨_, by rw [List.getElem?_map, e]; rfl, r1, (h K (hb i hi)).2 E.bare hE.bare, r2⟩)
      refine ⟨a.block, a.off, vs, ?_, ⟨hs2, hE.f _, fun k hk => by rw [hE.b] at hk; cases hk⟩, k1, k2⟩
      obtain ⟨b, o, s⟩ := a
      have hs1 : s = none := hs1
      subst hs1
      rfl⟩
/-- An argument whose type is a struct or an array; one of a single cell. -/
theorem open_row {t : TypeId} {n : Nat} {α : Type} {P : Nat → α → Prop} {f : α → Nat → List D} (ho : OpD t n α P f) {d0 : TypeDesc} (ht : Tryz.prog.underlying t = some d0) (hr : d0.isRow = true) {H : Type} {enc : TypeId × Value → H} {W : World} {base : Nat} {v : Value} {d : DataW H} {p : List MemPlace} (hv : Value.okWide Tryz.prog W .any base t v) (h : ∃ fuel, DataW.trod enc Tryz.prog W 0 (fun _ => true) true fuel t v.cells.toList = some (d, p)) :
    ∃ a : α, ∀ K, Rows.uptoBulk d ≤ K → P K a ∧ ∀ E, Open0 E → VIs E W (.agg (f a K)) v := by
  obtain ⟨cs, rfl, hsz⟩ : ∃ cs, v = .agg cs ∧ cs.size = Tryz.prog.cellsOf t := by
    simp only [Value.okWide, ht] at hv
    cases d0 <;> simp [TypeDesc.isRow] at hr <;> (obtain ⟨cs, h1, h2, _⟩ := hv; exact ⟨cs, h1, h2⟩)
  obtain ⟨fuel, hf⟩ := h
  simp only [Value.cells] at hf
  obtain ⟨a, ha⟩ := ho.go hf (by rw [Array.length_toList, hsz, ho.size])
  exact ⟨a, fun K hK => ⟨(ha K hK).1, fun E hE => VIs.agg_iff.2 ⟨_, by rw [Array.toArray_toList], (ha K hK).2 E hE⟩⟩⟩
/-- What a law that was run answers. -/
theorem at_true {f : Nat} {xs : List D} {args : List Value} {W : World} (h : At Tryz.prog f xs ⟨.inl (.held (.inr (.inl (.bool true))))⟩) (ha : AllIs (nob fun _ => False) W xs args) :
    Calls Tryz.prog f args.toArray W fun e W' => e = .returned (.bool true) ∧ Below W.heap.size W W' :=
  Calls.mono (h W args (fun _ => False) nofun ha) fun e W' ⟨v, h1, h2, h3⟩ => ⟨by rw [h1]; have h2 : VIs _ _ _ v := h2; rw [VIs.val_iff.1 h2], h3⟩
theorem open0_nob : Open0 (nob fun _ => False) := ⟨fun _ => rfl, fun _ h => h⟩
end Go.Proofs.YtbobhhnhlgdkiaaGreat.Sy

/- Lists of structs of Rats, xs the second runs know them. -/
namespace Go.Proofs.YtbobhhnhlgdkiaaGreat.Sy
open Go Go.RowKit M Kahn
set_option maxRecDepth 100000

/-- How a list's entries are read: xs so many Rats each. -/
structure Enc (α : Type) where
  n : Nat
  enc : α → List Rat
  dec : List Rat → Option α
  ok : ∀ qs a, dec qs = some a → qs = enc a
  back : ∀ a, dec (enc a) = some a
  len : ∀ a, (enc a).length = n
/-- An entry: numbers of at most K limbs. -/
def eG {α : Type} (e : Enc α) (K : Nat) (a : α) : D := .agg ((e.enc a).map fun q => .held (.inl (q, K, false)))
/-- The numbers of an entry. -/
def ratsH : List D → Option (List Rat × Nat)
  | [] => none
  | .held (.inl (q, K, _)) :: l => match l with
    | [] => some ([q], K)
    | x :: r => match ratsH (x :: r) with
      | some (qs, M) => some (q :: qs, max K M)
      | none => none
  | _ :: _ => none
/-- Such entries. -/
def rowGE {α : Type} (e : Enc α) : List D → Option (List α × Nat)
  | [] => some ([], 1)
  | .agg ps :: l => match ratsH ps, rowGE e l with
    | some (qs, K), some (xs, N) => match e.dec qs with
      | some a => some (a :: xs, max K N)
      | none => none
    | _, _ => none
  | _ => none
def rowG {α : Type} (e : Enc α) : D → Option (List α × Nat)
  | .slice es _ => rowGE e es
  | .held (.inr (.inl (.slice none 0 0))) => some ([], 1)
  | _ => none
section
variable {α : Type} {e : Enc α}
theorem ratsH_le : ∀ {l : List D} {qs : List Rat} {K M : Nat}, ratsH l = some (qs, K) → K ≤ M → LLe1 l (qs.map fun q => .held (.inl (q, M, false))) := by
  intro l
  induction l with
  | nil => intro qs K M h _; simp only [ratsH] at h; cases h
  | cons x l ih =>
    intro qs K M h hM
    unfold ratsH at h
    split at h
    · rename_i heq; cases heq
    · rename_i heq
      cases heq
      split at h
      · cases h
        exact ⟨⟨rfl, hM, nofun⟩, trivial⟩
      · split at h
        · rename_i h1
          cases h
          exact ⟨⟨rfl, by omega, nofun⟩, ih h1 (by omega)⟩
        · cases h
    · cases h
theorem rowGE_le : ∀ {es : List D} {xs : List α} {N K : Nat}, rowGE e es = some (xs, N) → N ≤ K → EsR es (xs.map (eG e K)) := by
  intro es
  induction es with
  | nil => intro xs N K h hk; simp only [rowGE] at h; cases h; trivial
  | cons x l ih =>
    intro xs N K h hk
    unfold rowGE at h
    split at h
    · rename_i heq; cases heq
    · rename_i heq
      cases heq
      split at h
      · rename_i h1 h2
        split at h
        · rename_i a ha
          cases h
          have := e.ok _ _ ha
          subst this
          exact ⟨ratsH_le h1 (by omega), ih h2 (by omega)⟩
        · cases h
      · cases h
    · cases h
theorem rowG_mk {E : Env} {u : World} {b : D} {xs : List α} {K : Nat} {v : Value} (h : rowG e b = some (xs, K)) (hi : VIs E u b v) : VIs E u (.slice (xs.map (eG e K)) []) v := by
  unfold rowG at h
  split at h
  · exact slice_le (.inr (rowGE_le h (Nat.le_refl _))) hi
  · cases h
    have e := VIs.val_iff.1 hi
    exact VIs.slice_iff.2 ⟨none, 0, e, Nat.zero_le _, fun h => absurd h (Nat.lt_irrefl _)⟩
  · cases h
theorem ratsH_map {K : Nat} {c : Bool} : ∀ qs : List Rat, 0 < qs.length → ratsH (qs.map fun q => .held (.inl (q, K, c))) = some (qs, K)
  | [], h => by simp at h
  | [q], _ => rfl
  | q :: r :: qs, _ => by
    have := ratsH_map (K := K) (c := c) (r :: qs) (by simp)
    show (match ratsH ((r :: qs).map fun q => .held (.inl (q, K, c))) with
      | some (qs', M) => some (q :: qs', max K M)
      | none => none) = _
    rw [this]
    simp only [Nat.max_self]
theorem rowG_map {K : Nat} {sp : List D} (h0 : 0 < e.n) (hK : 1 ≤ K) (xs : List α) : ∃ K', 1 ≤ K' ∧ K' ≤ K ∧ rowG e (.slice (xs.map (eG e K)) sp) = some (xs, K') := by
  show ∃ K', _ ∧ _ ∧ rowGE e (xs.map (eG e K)) = some (xs, K')
  induction xs with
  | nil => exact ⟨1, Nat.le_refl _, hK, rfl⟩
  | cons a xs ih =>
    obtain ⟨K', h1, h2, h3⟩ := ih
    refine ⟨max K K', by omega, by omega, ?_⟩
    rw [List.map_cons, eG, rowGE, h3, ratsH_map _ (by rw [e.len]; exact h0)]
    simp only [e.back]
theorem sized_eG {K : Nat} (xs : List α) : sized (3 * e.n) (xs.map (eG e K)) = true := sized_map (f := eG e K) (n := 3 * e.n) (fun a => ⟨_, rfl, by
  have : ∀ qs : List Rat, lsize (qs.map fun q => (.held (.inl (q, K, false)) : D)) = 3 * qs.length := fun qs => by
    induction qs with
    | nil => rfl
    | cons q qs ih => rw [List.map_cons, lsize, ih, dsz, List.length_cons]; omega
  rw [this, e.len]⟩) xs
end
/-- Rats; Vecs; boxes; triangles. -/
def encR : Enc Rat := ⟨1, fun q => [q], fun l => match l with | [q] => some q | _ => none, fun qs a h => by split at h <;> cases h; rfl, fun _ => rfl, fun _ => rfl⟩
def encV : Enc V3 := ⟨3, fun v => [v.1, v.2.1, v.2.2], fun l => match l with | [a, b, c] => some (a, b, c) | _ => none, fun qs a h => by split at h <;> cases h; rfl, fun _ => rfl, fun _ => rfl⟩
abbrev B6 := V3 × V3
def encB : Enc B6 := ⟨6, fun b => [b.1.1, b.1.2.1, b.1.2.2, b.2.1, b.2.2.1, b.2.2.2], fun l => match l with | [a, b, c, d, e, f] => some ((a, b, c), (d, e, f)) | _ => none, fun qs a h => by split at h <;> cases h; rfl, fun _ => rfl, fun _ => rfl⟩
end Go.Proofs.YtbobhhnhlgdkiaaGreat.Sy

/- Loops that count. -/
namespace Go.Proofs.YtbobhhnhlgdkiaaGreat.Sy
open Go Go.RowKit M Kahn
set_option maxRecDepth 100000

theorem LoopsOk.cons {fn : Func} {n : Nat} {s : LSpec} {l : List LSpec} (h : LoopsOk fn n [s]) (k : LoopsOk fn n l) : LoopsOk fn n (s :: l) := fun c hc x hx => by
  rcases List.mem_cons.1 hx with rfl | hx
  · exact h c hc x (List.mem_cons_self ..)
  · exact k c hc x hx
section
variable {S : List Spec} {Lt : List LSpec}
/-- What a round comes to: the next one is as I says, or the loop is left, as out says. -/
def Round (keep : List Nat) (hi i : Nat) (I : Nat → St) (out : Nat → Exit × St) (r : Option (Exit × St × Prop × List Bool)) : Prop :=
  OkBody keep (fun e st2 => match leaves e with
    | false => e = .normal ∧ i < hi ∧ StLe st2 (I (i + 1)) ∧ out i = out (i + 1)
    | true => e = (out i).1 ∧ StLe st2 (out i).2) r
/-- A loop more, that counts from lo to hi. -/
theorem LoopsOk.count {fn : Func} {n : Nat} (hS : AllOk Tryz.prog S) (ho : fnOk fn n = true) (hL : LoopsOk fn n Lt) (id : Nat) (hi : isLoop fn id = true) (keep : List Nat) (lo to : Nat) (I : Nat → St) (hN : ∀ i, (I i).tm.length = n + (fn.ntmps - n)) (out : Nat → Exit × St) (hout : ∀ i, (out i).2.tm.length = n + (fn.ntmps - n)) (h0 : lo ≤ to)
    (body : ∀ b c, fn.body = some b → getBlk (blocksOf b) id = some (.loop c) → ∀ i, lo ≤ i → i ≤ to → ∃ fuel hs, Round keep to i I out (exC tt0 S Lt fuel c (I i) hs)) :
    LoopsOk fn n (lsp id keep (I lo) (out lo) :: Lt) :=
  LoopsOk.loop hS ho hL id hi keep I hN (fun i => lo ≤ i ∧ i ≤ to) (fun i => to - i) out hout (fun b c hb hc i ⟨h1, h2⟩ => by
    obtain ⟨fuel, hs, h⟩ := body b c hb hc i h1 h2
    refine ⟨fuel, hs, ?_⟩
    unfold Round at h
    unfold OkBody at h ⊢
    split at h
    · obtain ⟨hp, h⟩ := h
      refine ⟨hp, ?_⟩
      split at h
      · split at h
        · rename_i hl
          obtain ⟨e1, h3, h4, h5⟩ := h
          exact ⟨fun _ => ⟨e1, i + 1, ⟨by omega, by omega⟩, by omega, h4, h5.symm⟩, fun h => (by rw [hl] at h; cases h)⟩
        · rename_i hl
          exact ⟨fun h => (by rw [hl] at h; cases h), fun _ => h⟩
      · exact h.elim
    · exact h.elim) lo ⟨Nat.le_refl _, h0⟩
/-- As Round; what is known of i is kept. -/
def RoundI (Inv : Nat → Prop) (keep : List Nat) (hi i : Nat) (I : Nat → St) (out : Nat → Exit × St) (r : Option (Exit × St × Prop × List Bool)) : Prop :=
  OkBody keep (fun e st2 => match leaves e with
    | false => e = .normal ∧ i < hi ∧ StLe st2 (I (i + 1)) ∧ out i = out (i + 1) ∧ Inv (i + 1)
    | true => e = (out i).1 ∧ StLe st2 (out i).2) r
end
attribute [go_sem] RoundI Round
end Go.Proofs.YtbobhhnhlgdkiaaGreat.Sy

/- Arguments that came in, by the types that the laws use. -/
namespace Go.Proofs.YtbobhhnhlgdkiaaGreat.Sy
open Go.ChangeShapes Go.WideShapes Go.ChangeAt Go.RowKit
set_option maxRecDepth 100000
open Go Go.Proofs.YtbobhhnhlgdkiaaGreat Go.Proofs.YtbobhhnhlgdkiaaGreat.M Go.Proofs.YtbobhhnhlgdkiaaGreat.Pz

/-- The same, told otherwise. -/
theorem OpD.conv {t : TypeId} {n : Nat} {α β : Type} {P : Nat → α → Prop} {f : α → Nat → List D} (h : OpD t n α P f) (c : α → β) {P' : Nat → β → Prop} {f' : β → Nat → List D} (hP : ∀ K a, P K a → P' K (c a)) (hf : ∀ a K, f a K = f' (c a) K) : OpD t n β P' f' :=
  ⟨h.size, fun {H enc W fuel cs y} hy hl => by
    obtain ⟨a, ha⟩ := h.go hy hl
    exact ⟨c a, fun K hK => ⟨hP K a (ha K hK).1, fun E hE => by rw [← hf]; exact (ha K hK).2 E hE⟩⟩⟩
theorem any_true {α : Type} {P : Nat → α → Prop} : ∀ K a, P K a → True := fun _ _ _ => trivial
theorem opV : OpD 26 9 V3 (fun _ _ => True) (fun v K => [.held (.inl (v.1, K, false)), .held (.inl (v.2.1, K, false)), .held (.inl (v.2.2, K, false))]) :=
  (OpD.struct Tryz.underlying26 (by kernel_rfl) (.cons OpD.rat (.cons OpD.rat (.cons OpD.rat .nil)))).conv (fun a => (a.1, a.2.1, a.2.2.1)) any_true (fun _ _ => rfl)
theorem opB : OpD 28 18 B6 (fun _ _ => True) (fun b K => [.held (.inl (b.1.1, K, false)), .held (.inl (b.1.2.1, K, false)), .held (.inl (b.1.2.2, K, false)), .held (.inl (b.2.1, K, false)), .held (.inl (b.2.2.1, K, false)), .held (.inl (b.2.2.2, K, false))]) :=
  (OpD.struct Tryz.underlying28 (by kernel_rfl) (.cons opV (.cons opV .nil))).conv (fun a => (a.1, a.2.1)) any_true (fun _ _ => rfl)
end Go.Proofs.YtbobhhnhlgdkiaaGreat.Sy
