/- What is known of values: trees of Rats, single cells, rows, slices; what of it lasts. -/
import Derived.Test.YtbobhhnhlgdkiaaGreatJu
import Derived.Test.YtbobhhnhlgdkiaaGreatJp
import Derived.Deep.MidRow
import Derived.Laws.AppendOwn
import GoSem.ClaimWide
namespace Go.Proofs.YtbobhhnhlgdkiaaGreat.Sy
open Go Go.RowKit M Kahn
set_option maxRecDepth 100000

/-- A part: a Rat that is read as q, of at most K limbs (the canonical one); a single cell; the row of box k; a pointer into box k; one to part o of entry i of the row of box k, whose entries have n cells. -/
abbrev PL := (Rat × Nat × Bool) ⊕ Value ⊕ Nat ⊕ (Nat × Nat) ⊕ (Nat × Nat × Nat × Nat)
/-- What is known of a value: .held: as above; .agg: a struct of these parts; .slice: a slice of such structs; .ptr: a pointer to these parts, in no box; .map: nothing. -/
abbrev D := DataW PL
/-- Where the boxes lie; which slices the rows are; whether boxes may be named; which other blocks are not told of. -/
structure Env where
  β : Nat → Option Nat
  γ : Nat → Value
  nm : Bool
  F : Nat → Prop
def Env.bare (E : Env) : Env := ⟨E.β, fun _ => undef, false, E.F⟩
/-- One cell, and no limb. -/
def plain : Value → Bool
  | .int .u32 _ => false
  | .agg _ => false
  | .tuple _ => false
  | _ => true
def dsz : D → Nat
  | .held (.inl (_, _, _)) => 3
  | _ => 1
def lsize : List D → Nat
  | [] => 0
  | x :: l => dsz x + lsize l
/-- A block that is there and is no box. -/
structure Out (E : Env) (u : World) (b : Nat) : Prop where
  lt : b < u.heap.size
  ge : ¬ E.F b
  no : ∀ k, E.β k ≠ some b
def CelF (f : D → List Value → Prop) : List D → List Value → Prop
  | [], vs => vs = []
  | x :: l, vs => ∃ a b, vs = a ++ b ∧ f x a ∧ CelF f l b
def ElsF (f : D → List Value → Prop) : List D → List Value → Prop
  | [], vs => vs = []
  | x :: l, vs => ∃ ps a b, x = .agg ps ∧ vs = a ++ b ∧ CelF f ps a ∧ ElsF f l b
/-- A slice of limbs: these. -/
def lmD (x : Nat) : D := .held (.inl (0, x, false))
/-- What is known of a value: g tells of a struct's parts, b of those that a pointer leads to, el of a slice's. -/
def VF (g b el : List D → List Value → Prop) (E : Env) (u : World) : D → Value → Prop
  | .map _, _ => True
  | .held (.inr (.inl w)), v => v = w
  | .held (.inr (.inr (.inl k))), v => E.nm = true ∧ v = E.γ k ∧ plain (E.γ k) = true
  | .held (.inr (.inr (.inr (.inl (k, o))))), v => E.nm = true ∧ ∃ c, E.β k = some c ∧ v = .pointer (some ⟨c, o, none⟩)
  | .held (.inr (.inr (.inr (.inr (k, i, n, o))))), v => E.nm = true ∧ ∃ c, E.β k = some c ∧ v = .pointer (some ⟨c, i * n + o, none⟩)
  | .ptr (.agg ps), v => ∃ c o vs, v = .pointer (some ⟨c, o, none⟩) ∧ Out E u c ∧ b ps vs ∧ u.rangeAt c o vs
  | .ptr (.slice ls _), v => ∃ xs ao n cap, ls = xs.map lmD ∧ v = .slice ao n cap ∧ Sl u.heap.size u ao n cap xs
  | .slice es _, v => ∃ ao cap, v = .slice ao es.length cap ∧ es.length ≤ cap ∧ (0 < es.length → ∃ c o vs, ao = some ⟨c, o, none⟩ ∧ Out E u c ∧ el es vs ∧ u.rangeAt c o vs)
  | .agg ps, v => ∃ vs, v = .agg vs.toArray ∧ g ps vs
  | _, _ => False
def LF (V : D → Value → Prop) (u : World) : D → List Value → Prop
  | .held (.inl (q, K, c)), vs => ∃ r : RP, vs = r.cells ∧ Qp u r q K ∧ (c = true → Cp u r q K)
  | x, vs => ∃ v, vs = [v] ∧ plain v = true ∧ V x v
def LfN (u : World) : Nat → Env → D → List Value → Prop
  | 0, _ => fun _ _ => False
  | n + 1, E => LF (VF (fun _ _ => False) (CelF (LfN u n E.bare)) (ElsF (LfN u n E.bare)) E u) u
def VN (u : World) (n : Nat) (E : Env) : D → Value → Prop := VF (CelF (LfN u n E)) (CelF (LfN u n E.bare)) (ElsF (LfN u n E.bare)) E u
def LfIs (E : Env) (u : World) (x : D) (vs : List Value) : Prop := ∃ n, LfN u n E x vs
def Cells (E : Env) (u : World) (l : List D) (vs : List Value) : Prop := ∃ n, CelF (LfN u n E) l vs
def Els (E : Env) (u : World) (l : List D) (vs : List Value) : Prop := ∃ n, ElsF (LfN u n E.bare) l vs
def VIs (E : Env) (u : World) (x : D) (v : Value) : Prop := ∃ n, VN u n E x v

section
variable {f g : D → List Value → Prop} {E E' : Env} {u u' : World}
theorem CelF.mono (h : ∀ x vs, f x vs → g x vs) : ∀ {l : List D} {vs : List Value}, CelF f l vs → CelF g l vs
  | [], _, k => k
  | _ :: _, _, ⟨a, b, e, k1, k2⟩ => ⟨a, b, e, h _ _ k1, CelF.mono h k2⟩
theorem ElsF.mono (h : ∀ x vs, f x vs → g x vs) : ∀ {l : List D} {vs : List Value}, ElsF f l vs → ElsF g l vs
  | [], _, k => k
  | _ :: _, _, ⟨ps, a, b, e1, e2, k1, k2⟩ => ⟨ps, a, b, e1, e2, CelF.mono h k1, ElsF.mono h k2⟩
theorem VF.mono {g g' b b' el el' : List D → List Value → Prop} (h1 : ∀ l vs, g l vs → g' l vs) (h2 : ∀ l vs, b l vs → b' l vs) (h3 : ∀ l vs, el l vs → el' l vs) {x : D} {v : Value} (h : VF g b el E u x v) : VF g' b' el' E u x v := by
  unfold VF at h ⊢
  split at h
  · trivial
  · exact h
  · exact h
  · exact h
  · exact h
  · obtain ⟨c, o, vs, e1, e2, e3, e4⟩ := h
    exact ⟨c, o, vs, e1, e2, h2 _ _ e3, e4⟩
  · exact h
  · obtain ⟨ao, cap, e1, e2, e3⟩ := h
    exact ⟨ao, cap, e1, e2, fun h0 => by obtain ⟨c, o, vs, k1, k2, k3, k4⟩ := e3 h0; exact ⟨c, o, vs, k1, k2, h3 _ _ k3, k4⟩⟩
  · obtain ⟨vs, e1, e2⟩ := h
    exact ⟨vs, e1, h1 _ _ e2⟩
  · exact h.elim
theorem LF.mono {V W : D → Value → Prop} (h : ∀ x v, V x v → W x v) {x : D} {vs : List Value} (k : LF V u x vs) : LF W u x vs := by
  unfold LF at k ⊢
  split at k
  · exact k
  · obtain ⟨v, e1, e2, e3⟩ := k
    exact ⟨v, e1, e2, h _ _ e3⟩
theorem LfN.succ : ∀ {n : Nat} {E : Env} {x : D} {vs : List Value}, LfN u n E x vs → LfN u (n + 1) E x vs
  | 0, _, _, _, h => h.elim
  | _ + 1, _, _, _, h => LF.mono (fun _ _ => VF.mono (fun _ _ h => h) (fun _ _ => CelF.mono fun _ _ => LfN.succ) (fun _ _ => ElsF.mono fun _ _ => LfN.succ)) h
theorem LfN.mono {n : Nat} {x : D} {vs : List Value} (h : LfN u n E x vs) : ∀ {m : Nat}, n ≤ m → LfN u m E x vs := by
  intro m hm
  obtain ⟨k, rfl⟩ := Nat.exists_eq_add_of_le hm
  clear hm
  induction k with
  | zero => exact h
  | succ k ih => exact ih.succ
theorem VN.mono {n m : Nat} {x : D} {v : Value} (h : VN u n E x v) (hm : n ≤ m) : VN u m E x v :=
  VF.mono (fun _ _ => CelF.mono fun _ _ k => k.mono hm) (fun _ _ => CelF.mono fun _ _ k => k.mono hm) (fun _ _ => ElsF.mono fun _ _ k => k.mono hm) h

theorem Cells.nil : Cells E u [] [] := ⟨0, rfl⟩
theorem Cells.nil_iff {vs : List Value} : Cells E u [] vs ↔ vs = [] := ⟨fun ⟨_, h⟩ => h, fun h => ⟨0, h⟩⟩
theorem Cells.cons_iff {x : D} {l : List D} {vs : List Value} : Cells E u (x :: l) vs ↔ ∃ a b, vs = a ++ b ∧ LfIs E u x a ∧ Cells E u l b :=
  ⟨fun ⟨n, a, b, e, h1, h2⟩ => ⟨a, b, e, ⟨n, h1⟩, ⟨n, h2⟩⟩, fun ⟨a, b, e, ⟨n, h1⟩, ⟨m, h2⟩⟩ => ⟨max n m, a, b, e, h1.mono (Nat.le_max_left _ _), CelF.mono (fun _ _ h => LfN.mono h (Nat.le_max_right _ _)) h2⟩⟩
theorem Els.nil_iff {vs : List Value} : Els E u [] vs ↔ vs = [] := ⟨fun ⟨_, h⟩ => h, fun h => ⟨0, h⟩⟩
theorem Els.cons_iff {x : D} {l : List D} {vs : List Value} : Els E u (x :: l) vs ↔ ∃ ps a b, x = .agg ps ∧ vs = a ++ b ∧ Cells E.bare u ps a ∧ Els E u l b :=
  ⟨fun ⟨n, ps, a, b, e0, e, h1, h2⟩ => ⟨ps, a, b, e0, e, ⟨n, h1⟩, ⟨n, h2⟩⟩, fun ⟨ps, a, b, e0, e, ⟨n, h1⟩, ⟨m, h2⟩⟩ => ⟨max n m, ps, a, b, e0, e, CelF.mono (fun _ _ h => LfN.mono h (Nat.le_max_left _ _)) h1, ElsF.mono (fun _ _ h => LfN.mono h (Nat.le_max_right _ _)) h2⟩⟩
theorem Cells.app : ∀ {l m : List D} {vs : List Value}, Cells E u (l ++ m) vs ↔ ∃ a b, vs = a ++ b ∧ Cells E u l a ∧ Cells E u m b
  | [], m, vs => ⟨fun h => ⟨[], vs, rfl, Cells.nil, h⟩, fun ⟨a, b, h, h1, h2⟩ => by rw [Cells.nil_iff.1 h1] at h; rw [h]; exact h2⟩
  | x :: l, m, vs => by
    constructor
    · intro h
      obtain ⟨a, b, rfl, h1, h2⟩ := Cells.cons_iff.1 h
      obtain ⟨c, d, rfl, h3, h4⟩ := Cells.app.1 h2
      exact ⟨a ++ c, d, by simp, Cells.cons_iff.2 ⟨a, c, rfl, h1, h3⟩, h4⟩
    · rintro ⟨a, b, rfl, h, h3⟩
      obtain ⟨c, d, rfl, h1, h2⟩ := Cells.cons_iff.1 h
      exact Cells.cons_iff.2 ⟨c, d ++ b, by simp, h1, Cells.app.2 ⟨d, b, rfl, h2, h3⟩⟩
theorem Els.app : ∀ {l m : List D} {vs : List Value}, Els E u (l ++ m) vs ↔ ∃ a b, vs = a ++ b ∧ Els E u l a ∧ Els E u m b
  | [], m, vs => ⟨fun h => ⟨[], vs, rfl, Els.nil_iff.2 rfl, h⟩, fun ⟨a, b, h, h1, h2⟩ => by rw [Els.nil_iff.1 h1] at h; rw [h]; exact h2⟩
  | x :: l, m, vs => by
    constructor
    · intro h
      obtain ⟨ps, a, b, rfl, rfl, h1, h2⟩ := Els.cons_iff.1 h
      obtain ⟨c, d, rfl, h3, h4⟩ := Els.app.1 h2
      exact ⟨a ++ c, d, by simp, Els.cons_iff.2 ⟨ps, a, c, rfl, rfl, h1, h3⟩, h4⟩
    · rintro ⟨a, b, rfl, h, h3⟩
      obtain ⟨ps, c, d, rfl, rfl, h1, h2⟩ := Els.cons_iff.1 h
      exact Els.cons_iff.2 ⟨ps, c, d ++ b, rfl, by simp, h1, Els.app.2 ⟨d, b, rfl, h2, h3⟩⟩
theorem VIs.agg_iff {ps : List D} {v : Value} : VIs E u (.agg ps) v ↔ ∃ vs, v = .agg vs.toArray ∧ Cells E u ps vs :=
  ⟨fun ⟨n, vs, e, h⟩ => ⟨vs, e, n, h⟩, fun ⟨vs, e, n, h⟩ => ⟨n, vs, e, h⟩⟩
theorem VIs.slice_iff {es sp : List D} {v : Value} : VIs E u (.slice es sp) v ↔ ∃ ao cap, v = .slice ao es.length cap ∧ es.length ≤ cap ∧ (0 < es.length → ∃ c o vs, ao = some ⟨c, o, none⟩ ∧ Out E u c ∧ Els E u es vs ∧ u.rangeAt c o vs) := by
  constructor
  · rintro ⟨n, ao, cap, e1, e2, e3⟩
    exact ⟨ao, cap, e1, e2, fun h0 => by obtain ⟨c, o, vs, k1, k2, k3, k4⟩ := e3 h0; exact ⟨c, o, vs, k1, k2, ⟨n, k3⟩, k4⟩⟩
  · rintro ⟨ao, cap, e1, e2, e3⟩
    by_cases h0 : 0 < es.length
    · obtain ⟨c, o, vs, k1, k2, ⟨n, k3⟩, k4⟩ := e3 h0
      exact ⟨n, ao, cap, e1, e2, fun _ => ⟨c, o, vs, k1, k2, k3, k4⟩⟩
    · exact ⟨0, ao, cap, e1, e2, fun h => absurd h h0⟩
theorem VIs.ptr_iff {ps : List D} {v : Value} : VIs E u (.ptr (.agg ps)) v ↔ ∃ c o vs, v = .pointer (some ⟨c, o, none⟩) ∧ Out E u c ∧ Cells E.bare u ps vs ∧ u.rangeAt c o vs :=
  ⟨fun ⟨n, c, o, vs, e1, e2, e3, e4⟩ => ⟨c, o, vs, e1, e2, ⟨n, e3⟩, e4⟩, fun ⟨c, o, vs, e1, e2, ⟨n, e3⟩, e4⟩ => ⟨n, c, o, vs, e1, e2, e3, e4⟩⟩
theorem VIs.val_iff {w v : Value} : VIs E u (.held (.inr (.inl w))) v ↔ v = w := ⟨fun ⟨_, h⟩ => h, fun h => ⟨0, h⟩⟩
theorem VIs.row_iff {k : Nat} {v : Value} : VIs E u (.held (.inr (.inr (.inl k)))) v ↔ E.nm = true ∧ v = E.γ k ∧ plain (E.γ k) = true := ⟨fun ⟨_, h⟩ => h, fun h => ⟨0, h⟩⟩
theorem VIs.box_iff {k o : Nat} {v : Value} : VIs E u (.held (.inr (.inr (.inr (.inl (k, o)))))) v ↔ E.nm = true ∧ ∃ c, E.β k = some c ∧ v = .pointer (some ⟨c, o, none⟩) := ⟨fun ⟨_, h⟩ => h, fun h => ⟨0, h⟩⟩
theorem VIs.ent_iff {k i n o : Nat} {v : Value} : VIs E u (.held (.inr (.inr (.inr (.inr (k, i, n, o)))))) v ↔ E.nm = true ∧ ∃ c, E.β k = some c ∧ v = .pointer (some ⟨c, i * n + o, none⟩) := ⟨fun ⟨_, h⟩ => h, fun h => ⟨0, h⟩⟩
theorem VIs.any {v : Value} : VIs E u (.map []) v := ⟨0, trivial⟩
theorem LfIs.rat_iff {q : Rat} {K : Nat} {c : Bool} {vs : List Value} : LfIs E u (.held (.inl (q, K, c))) vs ↔ ∃ r : RP, vs = r.cells ∧ Qp u r q K ∧ (c = true → Cp u r q K) :=
  ⟨fun ⟨n, h⟩ => by cases n with | zero => exact h.elim | succ n => exact h, fun h => ⟨1, h⟩⟩
/-- A part of one cell. -/
def one : D → Bool
  | .held (.inl (_, _, _)) => false
  | _ => true
theorem LF.one {V : D → Value → Prop} {x : D} {vs : List Value} (hx : Sy.one x = true) : LF V u x vs ↔ ∃ v, vs = [v] ∧ plain v = true ∧ V x v := by
  unfold LF
  split
  · cases hx
  · exact Iff.rfl
theorem LfIs.one_iff {x : D} {vs : List Value} (hx : Sy.one x = true) : LfIs E u x vs ↔ ∃ v, vs = [v] ∧ plain v = true ∧ VIs E u x v := by
  constructor
  · rintro ⟨n, h⟩
    cases n with
    | zero => exact h.elim
    | succ n =>
      obtain ⟨v, e1, e2, e3⟩ := (LF.one hx).1 h
      exact ⟨v, e1, e2, n, VF.mono (fun _ _ h => h.elim) (fun _ _ h => h) (fun _ _ h => h) e3⟩
  · rintro ⟨v, e1, e2, n, h⟩
    refine ⟨n + 1, (LF.one hx).2 ⟨v, e1, e2, ?_⟩⟩
    unfold VN VF at h
    unfold VF
    split at h
    · trivial
    · exact h
    · exact h
    · exact h
    · exact h
    · exact h
    · exact h
    · exact h
    · obtain ⟨vs, rfl, _⟩ := h
      cases e2
    · exact h.elim
theorem LfIs.len {x : D} {vs : List Value} (h : LfIs E u x vs) : vs.length = dsz x := by
  by_cases hx : Sy.one x = true
  · obtain ⟨v, rfl, _, _⟩ := (LfIs.one_iff hx).1 h
    unfold dsz
    split
    · cases hx
    · rfl
  · unfold Sy.one at hx
    split at hx
    · obtain ⟨r, rfl, _⟩ := LfIs.rat_iff.1 h
      rfl
    · exact absurd rfl hx
theorem Cells.len : ∀ {l : List D} {vs : List Value}, Cells E u l vs → vs.length = lsize l
  | [], _, h => by rw [Cells.nil_iff.1 h]; rfl
  | x :: l, _, h => by
    obtain ⟨a, b, rfl, h1, h2⟩ := Cells.cons_iff.1 h
    rw [List.length_append, h1.len, Cells.len h2]; rfl
theorem lsize_app : ∀ (l m : List D), lsize (l ++ m) = lsize l + lsize m
  | [], m => by simp [lsize]
  | x :: l, m => by simp only [List.cons_append, lsize, lsize_app l m]; omega
theorem rcells_plain (r : RP) : ∀ v ∈ r.cells, plain v = true := by
  intro v hv
  simp only [RP.cells, List.mem_cons, List.not_mem_nil, or_false] at hv
  rcases hv with rfl | rfl | rfl <;> rfl
theorem LfIs.plain {x : D} {vs : List Value} (h : LfIs E u x vs) : ∀ v ∈ vs, Sy.plain v = true := by
  by_cases hx : Sy.one x = true
  · obtain ⟨v, rfl, h2, _⟩ := (LfIs.one_iff hx).1 h
    intro w hw; rw [List.mem_singleton] at hw; rw [hw]; exact h2
  · unfold Sy.one at hx
    split at hx
    · obtain ⟨r, rfl, _⟩ := LfIs.rat_iff.1 h
      exact rcells_plain r
    · exact absurd rfl hx
theorem Cells.plain : ∀ {l : List D} {vs : List Value}, Cells E u l vs → ∀ v ∈ vs, Sy.plain v = true
  | [], _, h => by rw [Cells.nil_iff.1 h]; intro v hv; cases hv
  | x :: l, _, h => by
    obtain ⟨a, b, rfl, h1, h2⟩ := Cells.cons_iff.1 h
    intro v hv
    rcases List.mem_append.1 hv with k | k
    · exact h1.plain v k
    · exact Cells.plain h2 v k
theorem Els.plain : ∀ {l : List D} {vs : List Value}, Els E u l vs → ∀ v ∈ vs, Sy.plain v = true
  | [], _, h => by rw [Els.nil_iff.1 h]; intro v hv; cases hv
  | x :: l, _, h => by
    obtain ⟨ps, a, b, _, rfl, h1, h2⟩ := Els.cons_iff.1 h
    intro v hv
    rcases List.mem_append.1 hv with k | k
    · exact h1.plain v k
    · exact Els.plain h2 v k
theorem plain_one {v : Value} (h : plain v = true) : v.oneCell' = true := by
  cases v <;> first | rfl | cases h
theorem plain_cells {v : Value} (h : plain v = true) : v.cells = #[v] := by
  cases v <;> first | rfl | cases h
end

/-- From one world to a later one; but of the boxes X, whose rows are turned, nothing is said. -/
structure Tr (X : Nat → Bool) (E : Env) (u : World) (E' : Env) (u' : World) : Prop where
  nm : E'.nm = E.nm
  out : ∀ b, Out E u b → Out E' u' b ∧ u'.heap[b]? = u.heap[b]?
  qp : ∀ r q K, Qp u r q K → Qp u' r q K
  cp : ∀ r q K, Cp u r q K → Cp u' r q K
  sl : ∀ ao n cap xs, Sl u.heap.size u ao n cap xs → Sl u'.heap.size u' ao n cap xs
  box : ∀ k g, X k = false → E.β k = some g → E'.β k = some g
  row : ∀ k, X k = false → Sy.plain (E.γ k) = true → E'.γ k = E.γ k
def non : Nat → Bool := fun _ => false
/-- No box of X is named. -/
def noX (X : Nat → Bool) : D → Bool
  | .held (.inr (.inr (.inl k))) => !(X k)
  | .held (.inr (.inr (.inr (.inl (k, _))))) => !(X k)
  | .held (.inr (.inr (.inr (.inr (k, _, _, _))))) => !(X k)
  | _ => true
def noXL (X : Nat → Bool) : List D → Bool
  | [] => true
  | x :: l => noX X x && noXL X l
def noXV (X : Nat → Bool) : D → Bool
  | .agg ps => noXL X ps
  | x => noX X x
theorem noX_non (x : D) : noX non x = true := by unfold noX; split <;> rfl
theorem noXL_non : ∀ l : List D, noXL non l = true
  | [] => rfl
  | x :: l => by rw [noXL, noX_non, noXL_non l]; rfl
theorem noXV_non (x : D) : noXV non x = true := by unfold noXV; split <;> first | exact noXL_non _ | exact noX_non _
section
variable {X : Nat → Bool} {E E' : Env} {u u' : World}
theorem range_keep {b o : Nat} {vs : List Value} (h : u.rangeAt b o vs) (hb : u'.heap[b]? = u.heap[b]?) : u'.rangeAt b o vs := fun j v hv => by
  rw [World.cell?_of_block (w := u) (a := ⟨b, o + j, none⟩) hb]; exact h j v hv
theorem VF.tr (t : Tr X E u E' u') {g g' b b' el el' : List D → List Value → Prop} {x : D} {v : Value} (h1 : ∀ l vs, x = .agg l → g l vs → g' l vs) (h2 : ∀ l vs, b l vs → b' l vs) (h3 : ∀ l vs, el l vs → el' l vs) (hx : E.nm = true → noX X x = true)
    (h : VF g b el E u x v) : VF g' b' el' E' u' x v := by
  unfold VF at h ⊢
  split at h
  · trivial
  · exact h
  · obtain ⟨e0, e1, e2⟩ := h
    have hk := hx e0
    simp only [noX, Bool.not_eq_true'] at hk
    have := t.row _ hk e2
    exact ⟨t.nm.trans e0, by rw [this]; exact e1, by rw [this]; exact e2⟩
  · obtain ⟨e0, c, e1, e2⟩ := h
    have hk := hx e0
    simp only [noX, Bool.not_eq_true'] at hk
    exact ⟨t.nm.trans e0, c, t.box _ _ hk e1, e2⟩
  · obtain ⟨e0, c, e1, e2⟩ := h
    have hk := hx e0
    simp only [noX, Bool.not_eq_true'] at hk
    exact ⟨t.nm.trans e0, c, t.box _ _ hk e1, e2⟩
  · obtain ⟨c, o, vs, e1, e2, e3, e4⟩ := h
    exact ⟨c, o, vs, e1, (t.out c e2).1, h2 _ _ e3, range_keep e4 (t.out c e2).2⟩
  · obtain ⟨xs, ao, n, cap, e1, e2, e3⟩ := h
    exact ⟨xs, ao, n, cap, e1, e2, t.sl _ _ _ _ e3⟩
  · obtain ⟨ao, cap, e1, e2, e3⟩ := h
    exact ⟨ao, cap, e1, e2, fun h0 => by obtain ⟨c, o, vs, k1, k2, k3, k4⟩ := e3 h0; exact ⟨c, o, vs, k1, (t.out c k2).1, h3 _ _ k3, range_keep k4 (t.out c k2).2⟩⟩
  · obtain ⟨vs, e1, e2⟩ := h
    exact ⟨vs, e1, h1 _ _ rfl e2⟩
  · exact h.elim
theorem LF.tr (t : Tr X E u E' u') {V W : D → Value → Prop} {x : D} {vs : List Value} (h : ∀ v, V x v → W x v) (k : LF V u x vs) : LF W u' x vs := by
  unfold LF at k ⊢
  split at k
  · obtain ⟨r, e1, e2, e3⟩ := k
    exact ⟨r, e1, t.qp _ _ _ e2, fun hc => t.cp _ _ _ (e3 hc)⟩
  · obtain ⟨v, e1, e2, e3⟩ := k
    exact ⟨v, e1, e2, h _ e3⟩
theorem Tr.bare (t : Tr X E u E' u') : Tr X E.bare u E'.bare u' := ⟨rfl, fun b h => by
    obtain ⟨h1, h2⟩ := t.out b ⟨h.lt, h.ge, h.no⟩
    exact ⟨⟨h1.lt, h1.ge, h1.no⟩, h2⟩, t.qp, t.cp, t.sl, t.box, fun _ _ _ => rfl⟩
theorem LfN.un_tr (h0 : E.nm = false) (t : Tr X E u E' u') : ∀ {n : Nat} {x : D} {vs : List Value}, LfN u n E x vs → LfN u' n E' x vs := by
  intro n
  induction n generalizing E E' with
  | zero => intro x vs h; exact h.elim
  | succ n ih => intro x vs h; exact LF.tr t (fun _ => VF.tr t (fun _ _ _ h => h) (fun _ _ => CelF.mono fun _ _ => ih rfl t.bare) (fun _ _ => ElsF.mono fun _ _ => ih rfl t.bare) (fun h => by rw [h0] at h; cases h)) h
theorem LfN.bare_tr (t : Tr X E u E' u') {n : Nat} {x : D} {vs : List Value} : LfN u n E.bare x vs → LfN u' n E'.bare x vs := LfN.un_tr rfl t.bare
theorem LfN.tr (t : Tr X E u E' u') {n : Nat} {x : D} {vs : List Value} (hx : noX X x = true) (h : LfN u n E x vs) : LfN u' n E' x vs := by
  cases n with
  | zero => exact h.elim
  | succ n => exact LF.tr t (fun _ => VF.tr t (fun _ _ _ h => h) (fun _ _ => CelF.mono fun _ _ => LfN.bare_tr t) (fun _ _ => ElsF.mono fun _ _ => LfN.bare_tr t) (fun _ => hx)) h
theorem LfIs.tr (t : Tr X E u E' u') {x : D} {vs : List Value} (hx : noX X x = true) : LfIs E u x vs → LfIs E' u' x vs := fun ⟨n, h⟩ => ⟨n, h.tr t hx⟩
theorem CelF.tr (t : Tr X E u E' u') {n : Nat} : ∀ {l : List D} {vs : List Value}, noXL X l = true → CelF (LfN u n E) l vs → CelF (LfN u' n E') l vs
  | [], _, _, h => h
  | _ :: _, _, hx, ⟨a, b, e, h1, h2⟩ => by
    rw [noXL, Bool.and_eq_true] at hx
    exact ⟨a, b, e, h1.tr t hx.1, CelF.tr t hx.2 h2⟩
theorem Cells.tr (t : Tr X E u E' u') {l : List D} {vs : List Value} (hx : noXL X l = true) : Cells E u l vs → Cells E' u' l vs := fun ⟨n, h⟩ => ⟨n, CelF.tr t hx h⟩
theorem Cells.bare_tr (t : Tr X E u E' u') {l : List D} {vs : List Value} : Cells E.bare u l vs → Cells E'.bare u' l vs := fun ⟨n, h⟩ => ⟨n, CelF.mono (fun _ _ k => k.bare_tr t) h⟩
theorem Els.tr (t : Tr X E u E' u') {l : List D} {vs : List Value} : Els E u l vs → Els E' u' l vs := fun ⟨n, h⟩ => ⟨n, ElsF.mono (fun _ _ k => k.bare_tr t) h⟩
theorem VIs.tr (t : Tr X E u E' u') {x : D} {v : Value} (hx : noXV X x = true) : VIs E u x v → VIs E' u' x v := fun ⟨n, h⟩ =>
  ⟨n, VF.tr t (fun l _ e h => CelF.tr t (by subst e; exact hx) h) (fun _ _ => CelF.mono fun _ _ k => k.bare_tr t) (fun _ _ => ElsF.mono fun _ _ k => k.bare_tr t) (fun _ => by
    unfold noXV at hx
    split at hx
    · rfl
    · exact hx) h⟩
/-- What is known without naming boxes is known with them. -/
theorem LfN.un_le {F : Env} (h0 : E.nm = false) (ho : ∀ b, Out E u b → Out F u b) : ∀ {n : Nat} {x : D} {vs : List Value}, LfN u n E x vs → LfN u n F x vs := by
  intro n
  induction n generalizing E F with
  | zero => intro x vs h; exact h.elim
  | succ n ih =>
    intro x vs h
    have hb : ∀ b, Out E.bare u b → Out F.bare u b := fun b h => by
      have h1 := ho b ⟨h.lt, h.ge, h.no⟩
      exact ⟨h1.lt, h1.ge, h1.no⟩
    refine LF.mono (fun x v k => ?_) h
    unfold VF at k ⊢
    split at k
    · trivial
    · exact k
    · rw [h0] at k; cases k.1
    · rw [h0] at k; cases k.1
    · rw [h0] at k; cases k.1
    · obtain ⟨c, o, vs, e1, e2, e3, e4⟩ := k
      exact ⟨c, o, vs, e1, ho c e2, CelF.mono (fun _ _ => ih (E := E.bare) (F := F.bare) rfl hb) e3, e4⟩
    · exact k
    · obtain ⟨ao, cap, e1, e2, e3⟩ := k
      exact ⟨ao, cap, e1, e2, fun h0 => by obtain ⟨c, o, vs, k1, k2, k3, k4⟩ := e3 h0; exact ⟨c, o, vs, k1, ho c k2, ElsF.mono (fun _ _ => ih (E := E.bare) (F := F.bare) rfl hb) k3, k4⟩⟩
    · exact k
    · exact k.elim
theorem Cells.named {l : List D} {vs : List Value} : Cells E.bare u l vs → Cells E u l vs := fun ⟨n, h⟩ => ⟨n, CelF.mono (fun _ _ k => LfN.un_le (E := E.bare) (F := E) rfl (fun _ h => ⟨h.lt, h.ge, h.no⟩) k) h⟩
/-- Where no box is named. -/
def all' : Nat → Bool := fun _ => true
theorem LfN.unname {n : Nat} {x : D} {vs : List Value} (hx : noX all' x = true) (h : LfN u n E x vs) : LfN u n E.bare x vs := by
  cases n with
  | zero => exact h.elim
  | succ n =>
    unfold LfN at h ⊢
    have k : LF (fun y v => noX all' y = true → VF (fun _ _ => False) (CelF (LfN u n E.bare.bare)) (ElsF (LfN u n E.bare.bare)) E.bare u y v) u x vs := by
      refine LF.mono (fun y v k hy => ?_) h
      unfold VF at k ⊢
      split at k
      · trivial
      · exact k
      · cases hy
      · cases hy
      · cases hy
      · obtain ⟨c, o, vs, e1, e2, e3⟩ := k
        exact ⟨c, o, vs, e1, ⟨e2.lt, e2.ge, e2.no⟩, e3⟩
      · exact k
      · obtain ⟨ao, cap, e1, e2, e3⟩ := k
        exact ⟨ao, cap, e1, e2, fun h0 => by obtain ⟨c, o, vs, k1, k2, k3⟩ := e3 h0; exact ⟨c, o, vs, k1, ⟨k2.lt, k2.ge, k2.no⟩, k3⟩⟩
      · exact k
      · exact k.elim
    unfold LF at k ⊢
    split at k
    · exact k
    · obtain ⟨v, e1, e2, e3⟩ := k
      exact ⟨v, e1, e2, e3 hx⟩
theorem Cells.unname : ∀ {l : List D} {vs : List Value}, noXL all' l = true → Cells E u l vs → Cells E.bare u l vs
  | [], _, _, h => Cells.nil_iff.2 (Cells.nil_iff.1 h)
  | x :: l, _, hx, h => by
    rw [noXL, Bool.and_eq_true] at hx
    obtain ⟨a, b, rfl, ⟨n, h1⟩, h2⟩ := Cells.cons_iff.1 h
    exact Cells.cons_iff.2 ⟨a, b, rfl, ⟨n, h1.unname hx.1⟩, Cells.unname hx.2 h2⟩
end
/- Cells of a block. -/
theorem bk_range {w : World} {g : Nat} {ty : TypeId} {x y z : List Value} (h : Bk w g ty (x ++ (y ++ z))) : w.rangeAt g x.length y := fun j v hv => h.cell (x.length + j) (by
  have hj : j < y.length := (List.getElem?_eq_some_iff.1 hv).1
  rw [List.getElem?_append_right (by omega), Nat.add_sub_cancel_left, List.getElem?_append_left hj]; exact hv)
theorem bk_there {w : World} {g : Nat} {ty : TypeId} {x y z : List Value} (h : Bk w g ty (x ++ (y ++ z))) : w.there g x.length y.length := fun j hj =>
  ⟨by rw [bk_range h j _ (List.getElem?_eq_getElem hj)]; rfl, h.free _⟩
theorem setCells_fr (g : Nat) : ∀ (vs : List Value) (o : Nat) (w w' : World), Fr g w w' → Fr g w (w'.setCells g o vs)
  | [], _, _, _, h => h
  | v :: r, o, w, _, h => setCells_fr g r (o + 1) w _ (h.set o v)
theorem setCell_bk {w : World} {g : Nat} {ty : TypeId} {vs : List Value} (h : Bk w g ty vs) (i : Nat) (v : Value) : Bk (w.setCell ⟨g, i, none⟩ v) g ty (vs.set i v) := ⟨by
  rw [heap_setCell_same w g i _ _ v h.at_, List.setIfInBounds_toArray]⟩
theorem setCells_bk (g : Nat) (ty : TypeId) : ∀ (ys xs ws zs : List Value) (w : World), Bk w g ty (xs ++ (ws ++ zs)) → ws.length = ys.length → Bk (w.setCells g xs.length ys) g ty (xs ++ (ys ++ zs))
  | [], xs, ws, zs, w, h, hl => by
    have : ws = [] := List.eq_nil_of_length_eq_zero hl
    subst this
    exact h
  | y :: ys, xs, [], zs, w, h, hl => by simp at hl
  | y :: ys, xs, x :: ws, zs, w, h, hl => by
    have h1 := setCell_bk h xs.length y
    have e : (xs ++ (x :: ws ++ zs)).set xs.length y = (xs ++ [y]) ++ (ws ++ zs) := by simp
    rw [e] at h1
    have := setCells_bk g ty ys (xs ++ [y]) ws zs _ h1 (by simpa using hl)
    rw [List.length_append] at this
    simpa [World.setCells] using this
end Go.Proofs.YtbobhhnhlgdkiaaGreat.Sy

/- What is known of the world while a function runs: boxes, rows. -/
namespace Go.Proofs.YtbobhhnhlgdkiaaGreat.Sy
open Go Go.RowKit M Kahn
set_option maxRecDepth 100000

structure AV where
  x : D ⊕ List D
def av1 (b : D) : AV := ⟨.inl b⟩
def AllIs (E : Env) (u : World) : List D → List Value → Prop
  | [], vs => vs = []
  | a :: l, vs => ∃ v r, vs = v :: r ∧ VIs E u a v ∧ AllIs E u l r
def AV.Is (E : Env) (u : World) : AV → Value → Prop
  | ⟨.inl b⟩, x => VIs E u b x
  | ⟨.inr l⟩, x => ∃ vs, x = .tuple vs.toArray ∧ AllIs E u l vs
def noXD (X : Nat → Bool) : List D → Bool
  | [] => true
  | x :: l => noXV X x && noXD X l
def noXA (X : Nat → Bool) : AV → Bool
  | ⟨.inl b⟩ => noXV X b
  | ⟨.inr l⟩ => noXD X l
theorem noXD_non : ∀ l : List D, noXD non l = true
  | [] => rfl
  | x :: l => by rw [noXD, noXV_non, noXD_non l]; rfl
theorem noXA_non : ∀ a : AV, noXA non a = true
  | ⟨.inl b⟩ => noXV_non b
  | ⟨.inr l⟩ => noXD_non l
theorem AllIs.tr {X : Nat → Bool} {E E' : Env} {u u' : World} (t : Tr X E u E' u') : ∀ {l : List D} {vs : List Value}, noXD X l = true → AllIs E u l vs → AllIs E' u' l vs
  | [], _, _, h => h
  | _ :: _, _, hx, ⟨v, r, h, h1, h2⟩ => by
    rw [noXD, Bool.and_eq_true] at hx
    exact ⟨v, r, h, h1.tr t hx.1, AllIs.tr t hx.2 h2⟩
theorem AV.Is.tr {X : Nat → Bool} {E E' : Env} {u u' : World} (t : Tr X E u E' u') : ∀ {a : AV} {x : Value}, noXA X a = true → a.Is E u x → a.Is E' u' x
  | ⟨.inl _⟩, _, hx, h => VIs.tr t hx h
  | ⟨.inr _⟩, _, hx, ⟨vs, h, h'⟩ => ⟨vs, h, h'.tr t hx⟩
theorem AV.Is.go {E E' : Env} {u u' : World} (t : Tr non E u E' u') {a : AV} {x : Value} (h : a.Is E u x) : a.Is E' u' x := h.tr t (noXA_non a)
theorem AllIs.get {E : Env} {u : World} : ∀ {l : List D} {vs : List Value} {i : Nat} {b : D}, AllIs E u l vs → l[i]? = some b → ∃ v, vs[i]? = some v ∧ VIs E u b v
  | [], _, _, _, _, h => by simp at h
  | _ :: _, _, 0, _, ⟨v, r, h, h1, _⟩, hb => by simp at hb; subst hb; exact ⟨v, by rw [h]; rfl, h1⟩
  | _ :: _, _, i + 1, _, ⟨v, r, h, _, h2⟩, hb => by
    obtain ⟨x, h3, h4⟩ := AllIs.get h2 (by simpa using hb)
    exact ⟨x, by rw [h]; simpa using h3, h4⟩
theorem AllIs.len {E : Env} {u : World} : ∀ {l : List D} {vs : List Value}, AllIs E u l vs → vs.length = l.length
  | [], _, h => by rw [h]; rfl
  | _ :: _, _, ⟨v, r, h, _, h2⟩ => by rw [h]; simp [AllIs.len h2]

/-- The boxes: their types, what they hold; those that are rows hold entries, of so many cells. -/
structure Bx where
  ty : TypeId
  l : List D
  row : Option Nat
/-- Such a row lies in block g: its entries' cells are vs. -/
structure RowIs (u : World) (ty : TypeId) (n len : Nat) (v : Value) (g : Nat) (vs : List Value) : Prop where
  ex : ∃ sp cap, Bk u g ty (vs ++ sp) ∧ (vs ++ sp).length = cap * n ∧ vs.length = len * n ∧ len ≤ cap ∧ cap ≤ maxLen ∧ (∀ x ∈ sp, plain x = true) ∧ v = .slice (some ⟨g, 0, none⟩) len cap
/-- Each entry has so many cells. -/
def Wide (n : Nat) (es : List D) : Prop := ∀ x ∈ es, ∃ l, x = .agg l ∧ lsize l = n
def Holds (E : Env) (u : World) (b : Bx) (k g : Nat) : Prop := match b.row with
  | none => ∃ vs, Bk u g b.ty vs ∧ Cells E u b.l vs
  | some n => Wide n b.l ∧ ∃ vs, RowIs u b.ty n b.l.length (E.γ k) g vs ∧ Els E u b.l vs
/-- Where a function begins: the world, the blocks that are not told of, and those (by their boxes' numbers) that it may write. -/
structure Start extends World where
  F : Nat → Prop
  R : Nat → Option Nat
/-- Memory below n is as it was, but for the blocks K; no block is gone. -/
structure BelX (K : Nat → Prop) (n : Nat) (w w' : World) : Prop where
  os : w'.os = w.os
  tape : w'.tape = w.tape
  output : w'.output = w.output
  size : w.heap.size ≤ w'.heap.size
  block : ∀ b, b < n → ¬ K b → w'.heap[b]? = w.heap[b]?
theorem BelX.refl (K : Nat → Prop) (n : Nat) (w : World) : BelX K n w w := ⟨rfl, rfl, rfl, Nat.le_refl _, fun _ _ _ => rfl⟩
theorem BelX.trans {K : Nat → Prop} {n : Nat} {a b c : World} (h : BelX K n a b) (k : BelX K n b c) : BelX K n a c := ⟨k.os.trans h.os, k.tape.trans h.tape, k.output.trans h.output, Nat.le_trans h.size k.size, fun i hi hK => (k.block i hi hK).trans (h.block i hi hK)⟩
theorem BelX.of {K : Nat → Prop} {n : Nat} {a b : World} (h : Below n a b) : BelX K n a b := ⟨h.os, h.tape, h.output, h.size, fun i hi _ => h.block i hi⟩
theorem BelX.on {K : Nat → Prop} {n : Nat} {a b c : World} (h : BelX K n a b) (k : Below n b c) : BelX K n a c := h.trans (.of k)
theorem BelX.below {K : Nat → Prop} {n : Nat} {a b : World} (h : BelX K n a b) (hK : ∀ k, ¬ K k) : Below n a b := ⟨h.os, h.tape, h.output, h.size, fun i hi => h.block i hi (hK i)⟩
/-- The blocks that may be written. -/
def Start.K (w0 : Start) : Nat → Prop := fun g => ∃ k, w0.R k = some g
structure WS (w0 : Start) (bx : List Bx) (E : Env) (u : World) : Prop where
  nm : E.nm = true
  old : ∀ b, E.F b → b < w0.heap.size ∧ ¬ w0.K b
  F : E.F = w0.F
  bel : BelX w0.K w0.heap.size w0.toWorld u
  low : ∀ k g, E.β k = some g → w0.heap.size ≤ g ∨ w0.R k = some g
  inj : ∀ j k g, E.β j = some g → E.β k = some g → j = k
  dom : ∀ k g, E.β k = some g → k < bx.length
  cont : ∀ k b g, bx[k]? = some b → E.β k = some g → Holds E u b k g
  row : ∀ k, plain (E.γ k) = true → ∃ b n, bx[k]? = some b ∧ b.row = some n ∧ (E.β k = none → b.l = [] ∧ E.γ k = .slice none 0 0)
  root : ∀ k g, w0.R k = some g → E.β k = some g ∧ ∃ b, bx[k]? = some b ∧ b.row = none
theorem RowIs.plain {u : World} {ty : TypeId} {n len g : Nat} {v : Value} {vs : List Value} (h : RowIs u ty n len v g vs) (hp : ∀ x ∈ vs, Sy.plain x = true) : ∃ cs, Bk u g ty cs ∧ ∀ x ∈ cs, Sy.plain x = true := by
  obtain ⟨sp, cap, h1, _, _, _, _, h2, _⟩ := h.ex
  exact ⟨_, h1, fun x hx => by rcases List.mem_append.1 hx with k | k; exact hp x k; exact h2 x k⟩
theorem Holds.plain {E : Env} {u : World} {b : Bx} {k g : Nat} (h : Holds E u b k g) : ∃ cs, Bk u g b.ty cs ∧ ∀ x ∈ cs, Sy.plain x = true := by
  unfold Holds at h
  split at h
  · obtain ⟨vs, h1, h2⟩ := h
    exact ⟨vs, h1, h2.plain⟩
  · obtain ⟨_, vs, h1, h2⟩ := h
    exact h1.plain h2.plain
theorem RowIs.keep {u u' : World} {ty : TypeId} {n len g : Nat} {v : Value} {vs : List Value} (h : RowIs u ty n len v g vs) (hb : u'.heap[g]? = u.heap[g]?) : RowIs u' ty n len v g vs := by
  obtain ⟨sp, cap, h1, h2⟩ := h.ex
  exact ⟨sp, cap, h1.keep hb, h2⟩
/-- It lasts, where the box's block does. -/
theorem Holds.tr {X : Nat → Bool} {E E' : Env} {u u' : World} (t : Tr X E u E' u') {b : Bx} {k g : Nat} (hx : X k = false) (hl : b.row = none → noXL X b.l = true) (hb : u'.heap[g]? = u.heap[g]?) (h : Holds E u b k g) : Holds E' u' b k g := by
  unfold Holds at h ⊢
  split at h
  · rename_i hr
    obtain ⟨vs, h1, h2⟩ := h
    exact ⟨vs, h1.keep hb, h2.tr t (hl hr)⟩
  · obtain ⟨h0, vs, h1, h2⟩ := h
    refine ⟨h0, vs, ?_, h2.tr t⟩
    have : E'.γ k = E.γ k := t.row k hx (by obtain ⟨_, _, _, _, _, _, _, _, e⟩ := h1.ex; rw [e]; rfl)
    rw [this]
    exact h1.keep hb
section
variable {w0 : Start} {bx : List Bx} {E : Env} {u u' : World}
theorem WS.lt (h : WS w0 bx E u) {k g : Nat} (hk : E.β k = some g) : g < u.heap.size := by
  obtain ⟨_, hb, _⟩ := (h.cont k _ g (List.getElem?_eq_getElem (h.dom k g hk)) hk).plain
  exact hb.lt
/-- Memory is added to. -/
theorem Tr.later (hb : Below u.heap.size u u') : Tr non E u E u' :=
  ⟨rfl, fun b hb' => ⟨⟨Nat.lt_of_lt_of_le hb'.lt hb.size, hb'.ge, hb'.no⟩, hb.block b hb'.lt⟩, fun _ _ _ h => h.later hb, fun _ _ _ h => h.later hb, fun _ _ _ _ h => (h.below hb).mono hb.size, fun _ _ _ h => h, fun _ _ _ => rfl⟩
theorem WS.later (h : WS w0 bx E u) (hb : Below u.heap.size u u') : WS w0 bx E u' :=
  ⟨h.nm, h.old, h.F, h.bel.on (hb.mono h.bel.size), h.low, h.inj, h.dom, fun k b g h1 h2 => (h.cont k b g h1 h2).tr (Tr.later hb) rfl (fun _ => noXL_non _) (hb.block g (h.lt h2)), h.row, h.root⟩
theorem below_alloc (u : World) (o : Obj) : Below u.heap.size u (u.alloc o) := (Below.refl _ _).alloc (Nat.le_refl _) _
/-- Box k is laid, at that block; if it is a row it is the slice v. -/
def Env.lay (E : Env) (k : Nat) (og : Option Nat) (v : Value) : Env := ⟨fun j => if j = k then og else E.β j, fun j => if j = k then v else E.γ j, E.nm, E.F⟩
theorem lay_b (E : Env) (k : Nat) (og : Option Nat) (v : Value) : (E.lay k og v).β k = og := if_pos rfl
theorem lay_g (E : Env) (k : Nat) (og : Option Nat) (v : Value) : (E.lay k og v).γ k = v := if_pos rfl
theorem lay_nb {E : Env} {k j : Nat} {og : Option Nat} {v : Value} (h : j ≠ k) : (E.lay k og v).β j = E.β j := if_neg h
theorem lay_ng {E : Env} {k j : Nat} {og : Option Nat} {v : Value} (h : j ≠ k) : (E.lay k og v).γ j = E.γ j := if_neg h
theorem lay_self {E : Env} {k : Nat} : E.lay k (E.β k) (E.γ k) = E := by
  unfold Env.lay
  obtain ⟨b, g, m, f⟩ := E
  simp only [Env.mk.injEq, and_true]
  constructor <;> funext j <;> split <;> first | rfl | (rename_i h; rw [h])
/-- The block of box k is new, or it was its own; the others are as they were. -/
structure Laid (E : Env) (u u' : World) (k : Nat) (og : Option Nat) : Prop where
  os : u'.os = u.os
  tape : u'.tape = u.tape
  output : u'.output = u.output
  big : u.heap.size ≤ u'.heap.size
  keep : ∀ b, b < u.heap.size → E.β k ≠ some b → u'.heap[b]? = u.heap[b]?
  new : ∀ g, og = some g → E.β k = some g ∨ u.heap.size ≤ g
theorem sl_laid {k : Nat} {og : Option Nat} {ao : Option Addr} {n cap : Nat} {xs : List Nat} (L : Laid E u u' k og) (hp : ∀ g, E.β k = some g → ∃ ty cs, Bk u g ty cs ∧ ∀ v ∈ cs, Sy.plain v = true) (h : Sl u.heap.size u ao n cap xs) : Sl u'.heap.size u' ao n cap xs := by
  refine ⟨h.len, h.le, h.lim, fun h0 => ?_, h.nilc⟩
  obtain ⟨c, o, e1, e2, e3⟩ := h.there h0
  have hne : E.β k ≠ some c := by
    intro he
    obtain ⟨ty, cs, hb, hp⟩ := hp c he
    have hc := e3 0 h0
    rw [Nat.add_zero, cell_of_row u c o _ _ _ hb.at_] at hc
    have hm := Array.mem_of_getElem? hc
    have := hp _ (by simpa using hm)
    cases this
  refine ⟨c, o, e1, Nat.lt_of_lt_of_le e2 L.big, fun i hi => ?_⟩
  rw [World.cell?_of_block (w := u) (a := ⟨c, o + i, none⟩) (L.keep c e2 hne)]
  exact e3 i hi
theorem Tr.laid {X : Nat → Bool} {k : Nat} {og : Option Nat} {v : Value} (L : Laid E u u' k og) (hp : ∀ g, E.β k = some g → ∃ ty cs, Bk u g ty cs ∧ ∀ v ∈ cs, Sy.plain v = true)
    (hX : X k = true ∨ ((E.β k = none ∨ og = E.β k) ∧ (Sy.plain (E.γ k) = false ∨ E.γ k = v))) : Tr X E u (E.lay k og v) u' := by
  refine ⟨rfl, fun b hb => ⟨⟨Nat.lt_of_lt_of_le hb.lt L.big, hb.ge, fun j hj => ?_⟩, L.keep b hb.lt (hb.no k)⟩, fun r q K h => ?_, fun r q K h => ⟨h.sgn, sl_laid L hp h.num, sl_laid L hp h.den, h.ln, h.ld⟩, fun _ _ _ _ h => sl_laid L hp h, fun j g hj hg => ?_, fun j hj hg => ?_⟩
  · by_cases e : j = k
    · subst e
      rw [lay_b] at hj
      rcases L.new b hj with h | h
      · exact hb.no j h
      · exact absurd hb.lt (Nat.not_lt_of_le h)
    · rw [lay_nb e] at hj; exact hb.no j hj
  · obtain ⟨xs, ys, h1, h2, h3⟩ := h.there
    exact ⟨⟨xs, ys, sl_laid L hp h1, sl_laid L hp h2, h3⟩, h.ln, h.ld⟩
  · by_cases e : j = k
    · subst e
      rw [lay_b]
      rcases hX with h | ⟨h | h, _⟩
      · rw [h] at hj; cases hj
      · rw [h] at hg; cases hg
      · rw [h]; exact hg
    · rw [lay_nb e]; exact hg
  · by_cases e : j = k
    · subst e
      rw [lay_g]
      rcases hX with h | ⟨_, h | h⟩
      · rw [h] at hj; cases hj
      · rw [h] at hg; cases hg
      · exact h.symm
    · rw [lay_ng e]
/-- A box is laid, or stored to, or its row is another one. -/
theorem WS.laid (h : WS w0 bx E u) {X : Nat → Bool} {k : Nat} {og : Option Nat} {v : Value} {b' : Bx} (L : Laid E u u' k og) (t : Tr X E u (E.lay k og v) u') (hX : ∀ j, j ≠ k → X j = false) (hk : k < bx.length) (hc : ∀ g, og = some g → Holds (E.lay k og v) u' b' k g)
    (hm : ∀ j b, j ≠ k → bx[j]? = some b → b.row = none → noXL X b.l = true) (hv : Sy.plain v = true → (∃ n, b'.row = some n) ∧ (og = none → b'.l = [] ∧ v = .slice none 0 0)) (hR : ∀ g, w0.R k = some g → og = some g ∧ b'.row = none) : WS w0 (bx.set k b') (E.lay k og v) u' := by
  have low : ∀ j g, (E.lay k og v).β j = some g → w0.heap.size ≤ g ∨ w0.R j = some g := fun j g hj => by
    by_cases e : j = k
    · subst e
      rw [lay_b] at hj
      rcases L.new g hj with h1 | h1
      · exact h.low j g h1
      · exact .inl (Nat.le_trans h.bel.size h1)
    · rw [lay_nb e] at hj; exact h.low j g hj
  refine ⟨h.nm, h.old, h.F, h.bel.trans ⟨L.os, L.tape, L.output, L.big, fun b hb hK => L.keep b (Nat.lt_of_lt_of_le hb h.bel.size) fun e => (h.low k b e).elim (Nat.not_le_of_lt hb) fun e' => hK ⟨k, e'⟩⟩, low, fun i j g hi hj => ?_, fun j g hj => ?_, fun j b g hb hj => ?_, fun j hj => ?_, fun j g hj => ?_⟩
  · have off : ∀ a c, a = k → c ≠ k → (E.lay k og v).β a = some g → (E.lay k og v).β c = some g → False := fun a c e1 e2 h1 h2 => by
      subst e1
      rw [lay_b] at h1; rw [lay_nb e2] at h2
      rcases L.new g h1 with k1 | k1
      · exact e2 (h.inj c a g h2 k1)
      · exact absurd (h.lt h2) (Nat.not_lt_of_le k1)
    by_cases e1 : i = k <;> by_cases e2 : j = k
    · rw [e1, e2]
    · exact (off i j e1 e2 hi hj).elim
    · exact (off j i e2 e1 hj hi).elim
    · rw [lay_nb e1] at hi; rw [lay_nb e2] at hj; exact h.inj i j g hi hj
  · rw [List.length_set]
    by_cases e : j = k
    · subst e; exact hk
    · rw [lay_nb e] at hj; exact h.dom j g hj
  · by_cases e : j = k
    · subst e
      rw [List.getElem?_set_self hk] at hb
      cases hb
      rw [lay_b] at hj
      exact hc g hj
    · rw [List.getElem?_set_ne (Ne.symm e)] at hb
      rw [lay_nb e] at hj
      exact (h.cont j b g hb hj).tr t (hX j e) (hm j b e hb) (L.keep g (h.lt hj) fun e' => e (h.inj j k g hj e'))
  · by_cases e : j = k
    · subst e
      rw [lay_g] at hj
      obtain ⟨⟨n, h1⟩, h2⟩ := hv hj
      exact ⟨b', n, List.getElem?_set_self hk, h1, fun h3 => by rw [lay_b] at h3; rw [lay_g]; exact h2 h3⟩
    · rw [lay_ng e] at hj
      obtain ⟨b, n, h1, h2, h3⟩ := h.row j hj
      exact ⟨b, n, by rw [List.getElem?_set_ne (Ne.symm e)]; exact h1, h2, fun h4 => by rw [lay_nb e] at h4; rw [lay_ng e]; exact h3 h4⟩
  · by_cases e : j = k
    · subst e
      obtain ⟨r1, r2⟩ := hR g hj
      exact ⟨by rw [lay_b]; exact r1, b', List.getElem?_set_self hk, r2⟩
    · obtain ⟨r1, b, r2, r3⟩ := h.root j g hj
      exact ⟨by rw [lay_nb e]; exact r1, b, by rw [List.getElem?_set_ne (Ne.symm e)]; exact r2, r3⟩
/-- New boxes are thought of, that are not there yet. -/
theorem WS.more (h : WS w0 bx E u) (m : List Bx) : WS w0 (bx ++ m) E u :=
  ⟨h.nm, h.old, h.F, h.bel, h.low, h.inj, fun k g hk => by have := h.dom k g hk; rw [List.length_append]; omega, fun k b g hb hk => h.cont k b g (by rwa [List.getElem?_append_left (h.dom k g hk)] at hb) hk, fun k hk => by
    obtain ⟨b, n, h1, h2⟩ := h.row k hk
    exact ⟨b, n, by rw [List.getElem?_append_left (List.getElem?_eq_some_iff.1 h1).1]; exact h1, h2⟩, fun k g hk => by
    obtain ⟨r1, b, r2, r3⟩ := h.root k g hk
    exact ⟨r1, b, by rw [List.getElem?_append_left (List.getElem?_eq_some_iff.1 r2).1]; exact r2, r3⟩⟩
theorem WS.fresh (h : WS w0 bx E u) {k : Nat} (hk : bx.length ≤ k) : E.β k = none ∧ plain (E.γ k) = false := by
  constructor
  · cases e : E.β k with
    | none => rfl
    | some g => exact absurd (h.dom k g e) (Nat.not_lt_of_le hk)
  · cases e : Sy.plain (E.γ k) with
    | false => rfl
    | true =>
      obtain ⟨b, n, h1, _⟩ := h.row k e
      exact absurd (List.getElem?_eq_some_iff.1 h1).1 (Nat.not_lt_of_le hk)
theorem WS.bk (h : WS w0 bx E u) {k g : Nat} (hk : E.β k = some g) : ∃ ty cs, Bk u g ty cs ∧ ∀ v ∈ cs, Sy.plain v = true := by
  obtain ⟨cs, h1, h2⟩ := (h.cont k _ g (List.getElem?_eq_getElem (h.dom k g hk)) hk).plain
  exact ⟨_, cs, h1, h2⟩
theorem Laid.alloc {k : Nat} (o : Obj) : Laid E u (u.alloc o) k (some u.heap.size) := by
  have lb := below_alloc u o
  exact ⟨lb.os, lb.tape, lb.output, lb.size, fun b hb _ => lb.block b hb, fun g hg => by cases hg; exact .inr (Nat.le_refl _)⟩
theorem Laid.store {k g : Nat} (h : E.β k = some g) (hf : Fr g u u') : Laid E u u' k (some g) :=
  ⟨hf.os, hf.tape, hf.output, by rw [hf.size]; exact Nat.le_refl _, fun b _ hb => hf.block b fun e => hb (by rw [h, e]), fun g' hg => by cases hg; exact .inl h⟩
theorem Tr.store (h : WS w0 bx E u) {k g : Nat} (hk : E.β k = some g) (hf : Fr g u u') : Tr non E u E u' := by
  have := Tr.laid (X := non) (v := E.γ k) (Laid.store hk hf) (fun g hg => h.bk hg) (.inr ⟨.inr hk.symm, .inr rfl⟩)
  rwa [← hk, lay_self] at this
/-- Box k is no root: it is a new one, or a row. -/
theorem WS.noroot (h : WS w0 bx E u) {k : Nat} (hk : bx.length ≤ k ∨ ∃ b n, bx[k]? = some b ∧ b.row = some n) (g : Nat) : w0.R k ≠ some g := fun e => by
  obtain ⟨_, b, r2, r3⟩ := h.root k g e
  rcases hk with hk | ⟨b', n, q1, q2⟩
  · exact absurd (List.getElem?_eq_some_iff.1 r2).1 (Nat.not_lt_of_le hk)
  · rw [r2] at q1; cases q1
    rw [r3] at q2; cases q2
theorem Tr.put (h : WS w0 bx E u) {k g : Nat} (hk : E.β k = some g) (L : Laid E u u' k (some g)) : Tr non E u E u' := by
  have := Tr.laid (X := non) (v := E.γ k) L (fun g hg => h.bk hg) (.inr ⟨.inr hk.symm, .inr rfl⟩)
  rwa [← hk, lay_self] at this
theorem WS.put (h : WS w0 bx E u) {k g : Nat} {b b' : Bx} (hk : E.β k = some g) (hb : bx[k]? = some b) (hr : b'.row = b.row) (L : Laid E u u' k (some g)) (hc : Holds E u' b' k g) : WS w0 (bx.set k b') E u' := by
  have e : E.lay k (some g) (E.γ k) = E := by rw [← hk, lay_self]
  have t : Tr non E u (E.lay k (some g) (E.γ k)) u' := by rw [e]; exact Tr.put h hk L
  have := h.laid (X := non) (b' := b') L t (fun _ _ => rfl) (h.dom k g hk) (fun g' hg => by cases hg; rw [e]; exact hc) (fun _ _ _ _ _ => noXL_non _) (fun hp => by
    obtain ⟨b0, n, h1, h2, h3⟩ := h.row k hp
    rw [hb] at h1; cases h1
    exact ⟨⟨n, by rw [hr, h2]⟩, nofun⟩) (fun g' hg' => by
    obtain ⟨r1, b0, r2, r3⟩ := h.root k g' hg'
    rw [hk] at r1; cases r1
    rw [hb] at r2; cases r2
    exact ⟨rfl, hr.trans r3⟩)
  rwa [e] at this
theorem WS.store (h : WS w0 bx E u) {k g : Nat} {b b' : Bx} (hk : E.β k = some g) (hb : bx[k]? = some b) (hr : b'.row = b.row) (hf : Fr g u u') (hc : Holds E u' b' k g) : WS w0 (bx.set k b') E u' := h.put hk hb hr (Laid.store hk hf) hc
end
end Go.Proofs.YtbobhhnhlgdkiaaGreat.Sy

/- Operations, by what is known of their operands. -/
namespace Go.Proofs.YtbobhhnhlgdkiaaGreat.Sy
open Go Go.RowKit M Kahn
set_option maxRecDepth 100000

/-- What a zero value says of its type. -/
def descOf : Value → Option TypeDesc
  | .bool _ => some .bool
  | .string _ => some .string
  | .int k _ => some (.int k)
  | _ => none
/-- Types: a struct (cells; each field's place, cells, whether it is a struct itself; the zero value), a single cell (its zero value; of a slice what its entries are), an array (how many, of what, its cells, the zero value). -/
structure TI where
  x : (Nat × List (Nat × Nat × Bool) × List D) ⊕ (Value × Option TypeId) ⊕ (Nat × TypeId × Nat × List D)
abbrev TT := List (Nat × TI)
def TT.at : TT → Nat → Option TI
  | [], _ => none
  | (k, x) :: l, t => match Nat.beq k t with
    | true => some x
    | false => TT.at l t
/-- The cells of a struct, or of an array; its zero value. -/
def TT.wide (tt : TT) (t : Nat) : Option (Nat × List D) := match tt.at t with
  | some ⟨.inl (n, _, z)⟩ => some (n, z)
  | some ⟨.inr (.inr (_, _, n, z))⟩ => some (n, z)
  | _ => none
def TT.one (tt : TT) (t : Nat) : Option Value := match tt.at t with
  | some ⟨.inr (.inl (z, _))⟩ => some z
  | _ => none
/-- The cells of an entry. -/
def TT.ent (tt : TT) (t : Nat) : Option Nat := match tt.at t with
  | some ⟨.inl (n, _, _)⟩ => some n
  | some ⟨.inr (.inl _)⟩ => some 1
  | some ⟨.inr (.inr (_, _, n, _))⟩ => some n
  | none => none
/-- The zero value's parts. -/
def TT.zero (tt : TT) (t : Nat) : Option (List D) := match tt.at t with
  | some ⟨.inl (_, _, z)⟩ => some z
  | some ⟨.inr (.inl (z, _))⟩ => some [.held (.inr (.inl z))]
  | some ⟨.inr (.inr (_, _, _, z))⟩ => some z
  | none => none
def TT.desc (tt : TT) (t : Nat) : Option TypeDesc := match tt.one t with
  | some z => descOf z
  | none => none
def TT.elem (tt : TT) (t : Nat) : Option TypeId := match tt.at t with
  | some ⟨.inr (.inl (_, some e))⟩ => some e
  | _ => none
def FieldsOk (P : Program) : List (Nat × Nat × Bool) → List Field → Prop
  | (o, s, r) :: l, f :: fs => (f.offset = o ∧ (P.info? f.type).map (·.size) = some s ∧ s ≠ 0 ∧ ∃ d, P.underlying f.type = some d ∧ d.isRow = r) ∧ FieldsOk P l fs
  | [], [] => True
  | _, _ => False
theorem FieldsOk.get {P : Program} : ∀ {l : List (Nat × Nat × Bool)} {fs : List Field} {i o s : Nat} {r : Bool}, FieldsOk P l fs → l[i]? = some (o, s, r) →
    ∃ f d, fs[i]? = some f ∧ f.offset = o ∧ (P.info? f.type).map (·.size) = some s ∧ s ≠ 0 ∧ P.underlying f.type = some d ∧ d.isRow = r
  | [], _, _, _, _, _, _, h => by simp at h
  | _ :: _, [], _, _, _, _, h, _ => by cases h
  | _ :: _, f :: _, 0, _, _, _, ⟨⟨h1, h2, h3, d, h4, h5⟩, _⟩, h => by
    simp at h; cases h; exact ⟨f, d, rfl, h1, h2, h3, h4, h5⟩
  | _ :: _, _ :: _, i + 1, _, _, _, ⟨_, h2⟩, h => by
    obtain ⟨f, d, h3⟩ := FieldsOk.get h2 (by simpa using h)
    exact ⟨f, d, by simpa using h3⟩
/-- A zero value's cells. -/
structure Zok (size bytes : Nat) (zs : List Value) : Prop where
  pos : 0 < size
  small : bytes ≤ 65536
  len : zs.length = size
  plain : zs.all Sy.plain = true
/-- A bool or an int. -/
def flatZ : Value → Bool
  | .bool _ => true
  | .int _ _ => true
  | _ => false
/-- Fields of one cell, bools and ints, as in the zero value. -/
def FK (P : Program) : Nat → List Field → List Value → Prop
  | o, f :: fs, v :: vs => (f.name ≠ "_" ∧ f.offset = o ∧ ∃ d, descOf v = some d ∧ P.underlying f.type = some d) ∧ FK P (o + 1) fs vs
  | _, [], [] => True
  | _, _, _ => False
/-- A struct of bools and ints alone is held against another one cell by cell. -/
def EqTy (P : Program) (t : TypeId) (fs : Array Field) (zs : List Value) : Prop := zs.all flatZ = true → P.stoodInHeld t = false ∧ P.eqGuardType P.depth t = false ∧ FK P 0 fs.toList zs
def TIok (P : Program) (t : TypeId) : TI → Prop
  | ⟨.inl (size, fields, zero)⟩ => ∃ fs zs bytes, P.underlying t = some (.struct fs) ∧ (P.info? t).map (fun i => (i.size, i.zero, i.bytes)) = some (size, some (.agg (List.toArray zs)), bytes) ∧ Zok size bytes zs ∧ (∀ E u, Cells E u zero zs) ∧ FieldsOk P fields fs.toList ∧ EqTy P t fs zs
  | ⟨.inr (.inl (zero, oe))⟩ => ∃ d bytes, P.underlying t = some d ∧ d.isRow = false ∧ (P.info? t).map (fun i => (i.size, i.zero, i.bytes)) = some (1, some zero, bytes) ∧ bytes ≤ 65536 ∧ plain zero = true ∧ (∀ d, descOf zero = some d → P.underlying t = some d) ∧ ∀ e, oe = some e → P.underlying t = some (.slice e)
  | ⟨.inr (.inr (k, e, size, zero))⟩ => ∃ zs bytes n, P.underlying t = some (.array k e) ∧ (P.info? t).map (fun i => (i.size, i.zero, i.bytes)) = some (size, some (.agg (List.toArray zs)), bytes) ∧ Zok size bytes zs ∧ (∀ E u, Cells E u zero zs) ∧ (P.info? e).map (·.size) = some n
def TTok (P : Program) : TT → Prop
  | [] => True
  | (t, x) :: l => TIok P t x ∧ TTok P l
theorem TTok.get {P : Program} : ∀ {l : TT} {t : Nat} {x : TI}, TTok P l → l.at t = some x → TIok P t x
  | [], _, _, _, h => by cases h
  | (k, y) :: l, t, x, ⟨h1, h2⟩, h => by
    simp only [TT.at] at h
    split at h
    · rename_i e; have := Nat.eq_of_beq_eq_true e; subst this; cases h; exact h1
    · exact TTok.get h2 h

/-- A function's contract: what it answers, by what is known of its arguments, under a condition; and where its first argument is a pointer into a box that it writes: what it answers and what the box holds then, by the place in the box, the box's type, what it held, the other arguments. -/
structure Spec where
  f : Nat
  sem : List D → Option (AV × Prop)
  mem : Nat → TypeId → List D → List D → Option (AV × List D × Prop)
def nomem : Nat → TypeId → List D → List D → Option (AV × List D × Prop) := fun _ _ _ _ => none
/-- No box; nothing is told of the blocks F. -/
def nob (F : Nat → Prop) : Env := ⟨fun _ => none, fun _ => undef, true, F⟩
def MAt (P : Program) (f o : Nat) (ty : TypeId) (l xs : List D) (r : AV) (l' : List D) : Prop := ∀ (w : World) (args vs : List Value) (g : Nat) (F : Nat → Prop), (∀ b, F b → b < w.heap.size) → F g → Bk w g ty vs → Cells (nob F) w l vs → AllIs (nob F) w xs args →
  Calls P f (Value.pointer (some ⟨g, o, none⟩) :: args).toArray w fun e w' => ∃ v vs', e = .returned v ∧ r.Is (nob F) w' v ∧ BelX (fun b => b = g) w.heap.size w w' ∧ Bk w' g ty vs' ∧ Cells (nob F) w' l' vs'
def MemOk (P : Program) (s : Spec) : Prop := ∀ o ty l xs r l' p, s.mem o ty l xs = some (r, l', p) → p → MAt P s.f o ty l xs r l'
def SpecOk (P : Program) (s : Spec) : Prop :=
  (∀ (w : World) (args : Array Value), (callFunc s.f args).run P w = .ok (.enter s.f args) w) ∧
  (∀ (w : World) (xs : List D) (args : List Value) (r : AV) (p : Prop) (F : Nat → Prop), s.sem xs = some (r, p) → p → (∀ b, F b → b < w.heap.size) → AllIs (nob F) w xs args →
    Calls P s.f args.toArray w fun e w' => ∃ v, e = .returned v ∧ r.Is (nob F) w' v ∧ Below w.heap.size w w') ∧ MemOk P s
def find (S : List Spec) (f : Nat) : Option Spec := match S with
  | [] => none
  | s :: l => match Nat.beq s.f f with
    | true => some s
    | false => find l f
theorem find_spec {S : List Spec} {f : Nat} {s : Spec} (h : find S f = some s) : s ∈ S ∧ s.f = f := by
  induction S with
  | nil => cases h
  | cons x l ih =>
    simp only [find] at h
    split at h
    · rename_i e; cases h; exact ⟨List.mem_cons_self .., Nat.eq_of_beq_eq_true e⟩
    · exact ⟨List.mem_cons_of_mem _ (ih h).1, (ih h).2⟩
/-- A row, as a slice that is handed over; no box is handed over. -/
def handed1 (bx : List Bx) : D → Option D
  | .held (.inr (.inr (.inl k))) => match bx[k]? with
    | some b => some (.slice b.l [])
    | none => none
  | .held (.inr (.inr (.inr _))) => none
  | x => some x
def handedP (bx : List Bx) : List D → Option (List D)
  | [] => some []
  | x :: l => match handed1 bx x, handedP bx l with
    | some y, some r => some (y :: r)
    | _, _ => none
def handed (bx : List Bx) : D → Option D
  | .agg ps => match handedP bx ps with
    | some qs => some (.agg qs)
    | none => none
  | x => handed1 bx x
def handedL (bx : List Bx) : List D → Option (List D)
  | [] => some []
  | x :: l => match handed bx x, handedL bx l with
    | some y, some r => some (y :: r)
    | _, _ => none
/-- No memory is told of. -/
def flat1 : D → Bool
  | .held (.inr (.inr _)) => false
  | .ptr _ => false
  | .slice _ _ => false
  | _ => true
def flatL : List D → Bool
  | [] => true
  | x :: l => flat1 x && flatL l
def flatV : D → Bool
  | .agg ps => flatL ps
  | x => flat1 x
def flatD : List D → Bool
  | [] => true
  | x :: l => flatV x && flatD l
def AV.flat : AV → Bool
  | ⟨.inl b⟩ => flatV b
  | ⟨.inr l⟩ => flatD l
def isNil : List Nat → Bool
  | [] => true
  | _ => false

/-- Bools that are told: each undecided one is as the next hint says, under the condition that it is. -/
def tellB : D → List Bool → Option (D × Prop × List Bool)
  | .held (.inr (.inl (.bool b))), h :: hs => some (.held (.inr (.inl (.bool h))), b = h, hs)
  | .held (.inr (.inl (.bool _))), [] => none
  | a, hs => some (a, True, hs)
def tellL : List D → List Bool → Option (List D × Prop × List Bool)
  | [], hs => some ([], True, hs)
  | a :: l, hs => match tellB a hs with
    | none => none
    | some (a', p, hs') => match tellL l hs' with
      | none => none
      | some (l', p', hs'') => some (a' :: l', p ∧ p', hs'')
def tell : AV → List Bool → Option (AV × Prop × List Bool)
  | ⟨.inl b⟩, hs => match tellB b hs with
    | none => none
    | some (b', p, hs') => some (⟨.inl b'⟩, p, hs')
  | ⟨.inr l⟩, hs => match tellL l hs with
    | none => none
    | some (l', p, hs') => some (⟨.inr l'⟩, p, hs')
theorem tellB_spec {E : Env} {u : World} {a a' : D} {x : Value} {hs hs' : List Bool} {p : Prop} (h : tellB a hs = some (a', p, hs')) (hp : p) (hi : VIs E u a x) : VIs E u a' x := by
  unfold tellB at h
  split at h
  · cases h; cases hp; exact hi
  · cases h
  · cases h; exact hi
theorem tellL_spec {E : Env} {u : World} : ∀ {l l' : List D} {vs : List Value} {hs hs' : List Bool} {p : Prop}, tellL l hs = some (l', p, hs') → p → AllIs E u l vs → AllIs E u l' vs
  | [], _, _, _, _, _, h, _, hi => by cases h; exact hi
  | a :: l, _, _, _, _, _, h, hp, ⟨v, r, e, h1, h2⟩ => by
    simp only [tellL] at h
    split at h
    · cases h
    · rename_i ha
      split at h
      · cases h
      · rename_i hl
        cases h
        exact ⟨v, r, e, tellB_spec ha hp.1 h1, tellL_spec hl hp.2 h2⟩
theorem tell_spec {E : Env} {u : World} {a a' : AV} {x : Value} {hs hs' : List Bool} {p : Prop} (h : tell a hs = some (a', p, hs')) (hp : p) (hi : a.Is E u x) : a'.Is E u x := by
  unfold tell at h
  split at h
  · split at h
    · cases h
    · rename_i hb; cases h; exact tellB_spec hb hp hi
  · split at h
    · cases h
    · rename_i hb
      cases h
      obtain ⟨vs, e, h'⟩ := hi
      exact ⟨vs, e, tellL_spec hb hp h'⟩

/-- The first parts, n cells of them, and the rest. -/
def cut : List D → Nat → Option (List D × List D)
  | l, 0 => some ([], l)
  | [], _ + 1 => none
  | x :: l, n + 1 => match Nat.ble (dsz x) (n + 1) with
    | true => match cut l (n + 1 - dsz x) with
      | some (a, b) => some (x :: a, b)
      | none => none
    | false => none
theorem cut_spec : ∀ {l : List D} {n : Nat} {a b : List D}, cut l n = some (a, b) → l = a ++ b ∧ lsize a = n
  | l, 0, a, b, h => by
    have : cut l 0 = some ([], l) := by cases l <;> rfl
    rw [this] at h; cases h; exact ⟨rfl, rfl⟩
  | [], n + 1, a, b, h => by cases h
  | x :: l, n + 1, a, b, h => by
    simp only [cut] at h
    split at h
    · rename_i hle
      split at h
      · rename_i a' b' hc
        cases h
        obtain ⟨h1, h2⟩ := cut_spec hc
        have := Nat.le_of_ble_eq_true hle
        exact ⟨by rw [h1]; rfl, by simp only [lsize]; omega⟩
      · cases h
    · cases h
/-- n cells from the place o on; what stands ahead of them, and behind. -/
def mid (l : List D) (o n : Nat) : Option (List D × List D × List D) := match cut l o with
  | some (a, r) => match cut r n with
    | some (m, b) => some (a, m, b)
    | none => none
  | none => none
theorem mid_spec {l : List D} {o n : Nat} {a m b : List D} (h : mid l o n = some (a, m, b)) : l = a ++ (m ++ b) ∧ lsize a = o ∧ lsize m = n := by
  unfold mid at h
  split at h
  · rename_i a' r hc
    split at h
    · rename_i m' b' hd
      cases h
      obtain ⟨h1, h2⟩ := cut_spec hc
      obtain ⟨h3, h4⟩ := cut_spec hd
      exact ⟨by rw [h1, h3], h2, h4⟩
    · cases h
  · cases h
theorem Cells.mid {E : Env} {u : World} {l : List D} {o n : Nat} {a m b : List D} {vs : List Value} (h : Cells E u l vs) (hm : Sy.mid l o n = some (a, m, b)) : ∃ x y z, vs = x ++ (y ++ z) ∧ x.length = o ∧ y.length = n ∧ Cells E u a x ∧ Cells E u m y ∧ Cells E u b z := by
  obtain ⟨e, h1, h2⟩ := mid_spec hm
  rw [e] at h
  obtain ⟨x, r, rfl, c1, c2⟩ := Cells.app.1 h
  obtain ⟨y, z, rfl, c3, c4⟩ := Cells.app.1 c2
  exact ⟨x, y, z, rfl, by rw [c1.len, h1], by rw [c3.len, h2], c1, c3, c4⟩
/-- One cell that is known to hold no limb. -/
def cellD : D → Bool
  | .held (.inl _) => false
  | .held (.inr (.inl v)) => plain v
  | .held _ => true
  | .slice _ _ => true
  | .ptr (.agg _) => true
  | .ptr (.slice _ _) => true
  | _ => false
/-- The parts that are laid into a struct. -/
def lay (n : Nat) : D → Option (List D)
  | .agg l => match Nat.beq (lsize l) n with
    | true => some l
    | false => none
  | x => match cellD x, Nat.beq n 1 with
    | true, true => some [x]
    | _, _ => none
def args (rd : Operand → AV) : List Operand → Option (List D)
  | [] => some []
  | x :: l => match rd x, args rd l with
    | ⟨.inl b⟩, some r => some (b :: r)
    | _, _ => none
def fillA (rd : Operand → AV) (fs : Nat → Option (Nat × Nat)) : List (Nat × Operand) → List D → Option (List D)
  | [], l => some l
  | (i, x) :: r, l => match fs i with
    | none => none
    | some (o, s) => match rd x with
      | ⟨.inr _⟩ => none
      | ⟨.inl b⟩ => match lay s b with
        | none => none
        | some m => match mid l o s with
          | none => none
          | some (a, _, c) => fillA rd fs r (a ++ (m ++ c))
/-- The entries of a slice that is written out; boxes are not named in them. -/
def rowA (rd : Operand → AV) (n : Nat) : Nat → List (Nat × Operand) → Option (List D)
  | _, [] => some []
  | k, (i, x) :: r => match Nat.beq i k, rd x with
    | true, ⟨.inl b⟩ => match lay n b, rowA rd n (k + 1) r with
      | some m, some ls => match noXL all' m with
        | true => some (.agg m :: ls)
        | false => none
      | _, _ => none
    | _, _ => none
def cmpI : BinOp → Int → Int → Option Bool
  | .eql, a, b => some (a == b)
  | .neq, a, b => some (a != b)
  | .lss, a, b => some (decide (a < b))
  | .leq, a, b => some (decide (a ≤ b))
  | .gtr, a, b => some (decide (a > b))
  | .geq, a, b => some (decide (a ≥ b))
  | _, _, _ => none
def eqB : BinOp → Bool → Bool → Option Bool
  | .eql, true, true => some true
  | .eql, true, false => some false
  | .eql, false, true => some false
  | .eql, false, false => some true
  | .neq, true, true => some false
  | .neq, true, false => some true
  | .neq, false, true => some true
  | .neq, false, false => some false
  | _, _, _ => none
/-- Each entry has so many cells. -/
def sized (n : Nat) : List D → Bool
  | [] => true
  | .agg l :: r => Nat.beq (lsize l) n && sized n r
  | _ :: _ => false
theorem sized_spec {n : Nat} : ∀ {es : List D}, sized n es = true → Wide n es
  | [], _, x, h => by cases h
  | .agg l :: r, h, x, hx => by
    simp only [sized, Bool.and_eq_true] at h
    rcases List.mem_cons.1 hx with rfl | hx
    · exact ⟨l, rfl, Nat.eq_of_beq_eq_true h.1⟩
    · exact sized_spec h.2 x hx
def rdO (tm : Nat → AV) : Operand → AV
  | .tmp t => tm t
  | .const v => ⟨.inl (.held (.inr (.inl v)))⟩
  | _ => ⟨.inl (.map [])⟩
/-- What an operation does: it yields a value; it lays a box; it stores to a box, which holds these parts then; it makes another row of that of box k. -/
structure Eff where
  x : AV ⊕ Bx ⊕ (Nat × List D) ⊕ (Nat × Bx)
/-- Where a pointer leads to: a box, an entry of a row, parts in no box. -/
def partOf (bx : List Bx) (n : Nat) : D → Option (List D)
  | .held (.inr (.inr (.inr (.inl (k, o))))) => match bx[k]? with
    | some ⟨_, l, none⟩ => match mid l o n with
      | some (_, m, _) => some m
      | none => none
    | _ => none
  | .held (.inr (.inr (.inr (.inr (k, i, w, o))))) => match bx[k]? with
    | some ⟨_, es, some w'⟩ => match Nat.beq w w', es[i]? with
      | true, some (.agg l) => match mid l o n with
        | some (_, m, _) => some m
        | none => none
      | _, _ => none
    | _ => none
  | .ptr (.agg l) => match mid l 0 n with
    | some (_, m, _) => some m
    | none => none
  | _ => none
def putAt (bx : List Bx) (n : Nat) (m : List D) : D → Option (Nat × List D)
  | .held (.inr (.inr (.inr (.inl (k, o))))) => match bx[k]? with
    | some ⟨_, l, none⟩ => match mid l o n with
      | some (p, _, q) => some (k, p ++ (m ++ q))
      | none => none
    | _ => none
  | .held (.inr (.inr (.inr (.inr (k, i, w, o))))) => match bx[k]? with
    | some ⟨_, es, some w'⟩ => match Nat.beq w w', es[i]?, noXL all' m with
      | true, some (.agg l), true => match mid l o n with
        | some (p, _, q) => some (k, es.set i (.agg (p ++ (m ++ q))))
        | none => none
      | _, _, _ => none
    | _ => none
  | _ => none
/-- A slice's entries. -/
def entsOf (bx : List Bx) : D → Option (List D)
  | .slice es _ => some es
  | .held (.inr (.inr (.inl k))) => match bx[k]? with
    | some ⟨_, es, some _⟩ => some es
    | _ => none
  | .held (.inr (.inl (.slice none 0 0))) => some []
  | _ => none
def arithI : BinOp → Int → Int → Option (Int × Prop)
  | .add, a, b => some (a + b, IntKind.i64.wrap (a + b) = a + b)
  | .sub, a, b => some (a - b, IntKind.i64.wrap (a - b) = a - b)
  | .mul, a, b => some (a * b, IntKind.i64.wrap (a * b) = a * b)
  | _, _, _ => none
/-- The boxes that are looked into. -/
def boxOf1 : D → List Nat
  | .held (.inr (.inr (.inl k))) => [k]
  | .held (.inr (.inr (.inr (.inl (k, _))))) => [k]
  | .held (.inr (.inr (.inr (.inr (k, _))))) => [k]
  | _ => []
def boxOfL : List D → List Nat
  | [] => []
  | x :: l => boxOf1 x ++ boxOfL l
def boxOf : D → List Nat
  | .agg ps => boxOfL ps
  | x => boxOf1 x
def boxesOf (rd : Operand → AV) : List Operand → List Nat
  | [] => []
  | x :: l => (match rd x with
    | ⟨.inl b⟩ => boxOf b
    | _ => []) ++ boxesOf rd l
/-- What is built in. -/
def evB (tt : TT) (rd : Operand → AV) (bx : List Bx) (hs : List Bool) : Builtin → List Operand → List TypeId → Option (Eff × Prop × List Bool)
  | .len, [x], [t] => match tt.elem t, rd x with
    | some _, ⟨.inl b⟩ => match entsOf bx b with
      | some es => some (⟨.inl ⟨.inl (.held (.inr (.inl (.int .i64 (es.length : Int)))))⟩⟩, es.length ≤ 1099511627776, hs)
      | none => none
    | _, _ => none
  | .append, [x, y], [t, t'] => match Nat.beq t t', tt.elem t, rd x, rd y with
    | true, some e, ⟨.inl a⟩, ⟨.inl b⟩ => match tt.ent e, entsOf bx b, a with
      | some n, some ms, .held (.inr (.inr (.inl k))) => match bx[k]? with
        | some ⟨ty, es, some n'⟩ => match Nat.beq n n' && Nat.beq ty e && sized n ms with
          | true => some (⟨.inr (.inr (.inr (k, ⟨e, es ++ ms, some n⟩)))⟩, es.length + ms.length ≤ 1073741824, hs)
          | false => none
        | _ => none
      | some n, some ms, .held (.inr (.inl (.slice none 0 0))) => match sized n ms with
        | true => some (⟨.inr (.inr (.inr (bx.length, ⟨e, ms, some n⟩)))⟩, ms.length ≤ 1073741824, hs)
        | false => none
      | _, _, _ => none
    | _, _, _, _ => none
  | _, _, _ => none
/-- One operation: what it does, under which condition; the hints that are left. -/
def ev1 (tt : TT) (S : List Spec) (rd : Operand → AV) (bx : List Bx) (hs : List Bool) : Op → Option (Eff × Prop × List Bool)
  | .move x => some (⟨.inl (rd x)⟩, True, hs)
  | .assign x => some (⟨.inl (rd x)⟩, True, hs)
  | .pick c a b => match rd c with
    | ⟨.inl (.held (.inr (.inl (.bool true))))⟩ => some (⟨.inl (rd a)⟩, True, hs)
    | ⟨.inl (.held (.inr (.inl (.bool false))))⟩ => some (⟨.inl (rd b)⟩, True, hs)
    | _ => none
  | .alloc t => match tt.zero t with
    | some z => some (⟨.inr (.inl ⟨t, z, none⟩)⟩, True, hs)
    | none => none
  | .box t x => match rd x with
    | ⟨.inl (.agg l)⟩ => some (⟨.inr (.inl ⟨t, l, none⟩)⟩, True, hs)
    | ⟨.inl b⟩ => match cellD b with
      | true => some (⟨.inr (.inl ⟨t, [b], none⟩)⟩, True, hs)
      | false => none
    | _ => none
  | .load t a => match tt.wide t, tt.one t, rd a with
    | some (n, _), _, ⟨.inl b⟩ => match partOf bx n b with
      | some m => some (⟨.inl ⟨.inl (.agg m)⟩⟩, True, hs)
      | none => none
    | none, some _, ⟨.inl b⟩ => match partOf bx 1 b with
      | some [y] => match one y with
        | true => some (⟨.inl ⟨.inl y⟩⟩, True, hs)
        | false => none
      | _ => none
    | _, _, _ => none
  | .store t a x => match tt.ent t, rd a, rd x with
    | some n, ⟨.inl b⟩, ⟨.inl y⟩ => match lay n y with
      | some m => match putAt bx n m b with
        | some (k, l) => some (⟨.inr (.inr (.inl (k, l)))⟩, True, hs)
        | none => none
      | none => none
    | _, _, _ => none
  | .fieldAddr s x i => match tt.at s, rd x with
    | some ⟨.inl (_, fs, _)⟩, ⟨.inl (.held (.inr (.inr (.inr (.inl (k, o))))))⟩ => match fs[i]? with
      | some (off, _, _) => some (⟨.inl ⟨.inl (.held (.inr (.inr (.inr (.inl (k, o + off))))))⟩⟩, True, hs)
      | none => none
    | some ⟨.inl (_, fs, _)⟩, ⟨.inl (.held (.inr (.inr (.inr (.inr (k, j, w, o))))))⟩ => match fs[i]? with
      | some (off, _, _) => some (⟨.inl ⟨.inl (.held (.inr (.inr (.inr (.inr (k, j, w, o + off))))))⟩⟩, True, hs)
      | none => none
    | some ⟨.inl (_, fs, _)⟩, ⟨.inl (.ptr (.agg l))⟩ => match fs[i]? with
      | some (off, _, _) => match cut l off with
        | some (_, r) => some (⟨.inl ⟨.inl (.ptr (.agg r))⟩⟩, True, hs)
        | none => none
      | none => none
    | _, _ => none
  | .field s x i => match tt.at s, rd x with
    | some ⟨.inl (_, fs, _)⟩, ⟨.inl (.agg l)⟩ => match fs[i]? with
      | some (off, n, true) => match mid l off n with
        | some (_, m, _) => some (⟨.inl ⟨.inl (.agg m)⟩⟩, True, hs)
        | none => none
      | some (off, _, false) => match mid l off 1 with
        | some (_, [y], _) => match one y with
          | true => some (⟨.inl ⟨.inl y⟩⟩, True, hs)
          | false => none
        | _ => none
      | none => none
    | _, _ => none
  | .build t ps => match tt.at t with
    | some ⟨.inl (_, fs, z)⟩ => match fillA rd (fun i => (fs[i]?).map fun p => (p.1, p.2.1)) ps.toList z with
      | some l => some (⟨.inl ⟨.inl (.agg l)⟩⟩, True, hs)
      | none => none
    | some ⟨.inr (.inr (_, e, _, z))⟩ => match tt.ent e with
      | some n => match fillA rd (fun i => some (i * n, n)) ps.toList z with
        | some l => some (⟨.inl ⟨.inl (.agg l)⟩⟩, True, hs)
        | none => none
      | none => none
    | _ => none
  | .buildSlice t len ps => match tt.elem t with
    | some e => match tt.ent e with
      | some n => match rowA rd n 0 ps.toList with
        | some ls => match Nat.beq ls.length len, Nat.ble (len * n) 16777216 with
          | true, true => some (⟨.inr (.inl ⟨e, ls, some n⟩)⟩, True, hs)
          | _, _ => none
        | none => none
      | none => none
    | none => none
  | .makeSlice t l c => match tt.elem t, rd l, rd c with
    | some e, ⟨.inl (.held (.inr (.inl (.int .i64 z))))⟩, ⟨.inl (.held (.inr (.inl (.int .i64 z'))))⟩ => match tt.ent e, tt.zero e with
      | some n, some m => match noXL all' m with
        | true => some (⟨.inr (.inl ⟨e, List.replicate z.toNat (.agg m), some n⟩)⟩, z = z' ∧ 0 ≤ z ∧ z ≤ 1073741824, hs)
        | false => none
      | _, _ => none
    | _, _, _ => none
  | .extract x i => match rd x with
    | ⟨.inr l⟩ => match l[i]? with
      | some b => some (⟨.inl ⟨.inl b⟩⟩, True, hs)
      | none => none
    | _ => none
  | .binOp op t x y _ => match rd x, rd y with
    | ⟨.inl (.held (.inr (.inl (.int .i64 a))))⟩, ⟨.inl (.held (.inr (.inl (.int .i64 b))))⟩ => match cmpI op a b with
      | some c => match tell ⟨.inl (.held (.inr (.inl (.bool c))))⟩ hs with
        | some (r, p, hs') => some (⟨.inl r⟩, p, hs')
        | none => none
      | none => match arithI op a b with
        | some (c, p) => some (⟨.inl ⟨.inl (.held (.inr (.inl (.int .i64 c))))⟩⟩, p, hs)
        | none => none
    | ⟨.inl (.held (.inr (.inl (.bool a))))⟩, ⟨.inl (.held (.inr (.inl (.bool b))))⟩ => match tt.one t, eqB op a b with
      | some (.bool false), some c => some (⟨.inl ⟨.inl (.held (.inr (.inl (.bool c))))⟩⟩, True, hs)
      | _, _ => none
    | _, _ => none
  | .indexAddr t x i => match tt.at t, rd x, rd i with
    | some ⟨.inr (.inl (_, some e))⟩, ⟨.inl (.slice es _)⟩, ⟨.inl (.held (.inr (.inl (.int .i64 z))))⟩ => match tt.ent e, es[z.toNat]? with
      | some n, some (.agg l) => match sized n es with
        | true => some (⟨.inl ⟨.inl (.ptr (.agg l))⟩⟩, 0 ≤ z, hs)
        | false => none
      | _, _ => none
    | some ⟨.inr (.inl (_, some e))⟩, ⟨.inl (.held (.inr (.inr (.inl k))))⟩, ⟨.inl (.held (.inr (.inl (.int .i64 z))))⟩ => match tt.ent e, bx[k]? with
      | some n, some ⟨_, es, some n'⟩ => match Nat.beq n n' with
        | true => some (⟨.inl ⟨.inl (.held (.inr (.inr (.inr (.inr (k, z.toNat, n, 0))))))⟩⟩, 0 ≤ z ∧ z < es.length, hs)
        | false => none
      | _, _ => none
    | some ⟨.inr (.inr (m, e, _, _))⟩, ⟨.inl (.held (.inr (.inr (.inr (.inl (k, o))))))⟩, ⟨.inl (.held (.inr (.inl (.int .i64 z))))⟩ => match tt.ent e with
      | some n => some (⟨.inl ⟨.inl (.held (.inr (.inr (.inr (.inl (k, o + z.toNat * n))))))⟩⟩, 0 ≤ z ∧ z < m, hs)
      | none => none
    | _, _, _ => none
  | .index t x i => match tt.at t, rd x, rd i with
    | some ⟨.inr (.inr (m, e, _, _))⟩, ⟨.inl (.agg l)⟩, ⟨.inl (.held (.inr (.inl (.int .i64 z))))⟩ => match tt.wide e, tt.one e with
      | some (n, _), _ => match mid l (z.toNat * n) n with
        | some (_, y, _) => some (⟨.inl ⟨.inl (.agg y)⟩⟩, 0 ≤ z ∧ z < m, hs)
        | none => none
      | none, some _ => match mid l z.toNat 1 with
        | some (_, [y], _) => match one y with
          | true => some (⟨.inl ⟨.inl y⟩⟩, 0 ≤ z ∧ z < m, hs)
          | false => none
        | _ => none
      | _, _ => none
    | _, _, _ => none
  | .unOp .not _ x => match rd x with
    | ⟨.inl (.held (.inr (.inl (.bool b))))⟩ => some (⟨.inl ⟨.inl (.held (.inr (.inl (.bool (!b)))))⟩⟩, True, hs)
    | _ => none
  | .call ⟨.value (.func f), xs, _⟩ => match find S f, args rd xs.toList with
    | some s, some bs => match handedL bx bs with
      | some cs => match s.sem cs with
        | some (r, p) => match noXA all' r, AV.flat r || isNil (boxesOf rd xs.toList), tell r hs with
          | true, true, some (r', p', hs') => some (⟨.inl r'⟩, p ∧ p', hs')
          | _, _, _ => none
        | none => none
      | none => none
    | _, _ => none
  | .call ⟨.builtin b, xs, ts⟩ => evB tt rd bx hs b xs.toList ts.toList
  | _ => none
/-- A byte of a text. -/
def bget (s : ByteArray) (i : Nat) : Nat := match s[i]? with
  | some b => b.toNat
  | none => 0
def sameK : IntKind → IntKind → Bool
  | .i64, .i64 => true
  | .u8, .u8 => true
  | .u32, .u32 => true
  | .u64, .u64 => true
  | .i32, .i32 => true
  | _, _ => false
def arithK (k : IntKind) : BinOp → Int → Int → Option (Int × Prop)
  | .add, a, b => some (a + b, k.wrap (a + b) = a + b)
  | .sub, a, b => some (a - b, k.wrap (a - b) = a - b)
  | .mul, a, b => some (a * b, k.wrap (a * b) = a * b)
  | .quo, a, b => some (a.tdiv b, b ≠ 0 ∧ k.wrap (a.tdiv b) = a.tdiv b)
  | .rem, a, b => some (a.tmod b, b ≠ 0)
  | _, _, _ => none
/-- Of two ints. -/
def bin2 (k k' : IntKind) (a b : Int) (hs : List Bool) (op : BinOp) : Option (AV × Prop × List Bool) := match op with
  | .shl => some (⟨.inl (.held (.inr (.inl (.int k (a * 2 ^ b.toNat)))))⟩, (0 ≤ b ∧ b ≤ k.bits) ∧ k.wrap (a * 2 ^ b.toNat) = a * 2 ^ b.toNat, hs)
  | .shr => some (⟨.inl (.held (.inr (.inl (.int k (a.fdiv (2 ^ b.toNat))))))⟩, 0 ≤ b ∧ b ≤ k.bits, hs)
  | _ => match sameK k k' with
    | false => none
    | true => match cmpI op a b with
      | some c => tell ⟨.inl (.held (.inr (.inl (.bool c))))⟩ hs
      | none => match arithK k op a b with
        | some (c, p) => some (⟨.inl (.held (.inr (.inl (.int k c))))⟩, p, hs)
        | none => none
/-- Of two texts. -/
def str2 (a b : ByteArray) (hs : List Bool) (op : BinOp) : Option (AV × Prop × List Bool) := match op with
  | .add => some (⟨.inl (.held (.inr (.inl (.string (a ++ b)))))⟩, a.size + b.size ≤ 1099511627776, hs)
  | .eql => tell ⟨.inl (.held (.inr (.inl (.bool (decide (a = b))))))⟩ hs
  | .neq => tell ⟨.inl (.held (.inr (.inl (.bool (decide (a ≠ b))))))⟩ hs
  | _ => none
/-- Structs of bools and ints: are they the same? -/
def eqA : List D → List D → List D → Option Bool
  | [], [], [] => some true
  | .held (.inr (.inl (.bool _))) :: z, .held (.inr (.inl (.bool a))) :: l, .held (.inr (.inl (.bool b))) :: m => match eqA z l m with
    | some r => some ((a == b) && r)
    | none => none
  | .held (.inr (.inl (.int k _))) :: z, .held (.inr (.inl (.int k' a))) :: l, .held (.inr (.inl (.int k'' b))) :: m => match sameK k k', sameK k k'', eqA z l m with
    | true, true, some r => some ((a == b) && r)
    | _, _, _ => none
  | _, _, _ => none
def agg2 (tt : TT) (t : Nat) (l m : List D) (hs : List Bool) (op : BinOp) : Option (AV × Prop × List Bool) := match tt.at t with
  | some ⟨.inl (_, _, z)⟩ => match eqA z l m, op with
    | some r, .eql => tell ⟨.inl (.held (.inr (.inl (.bool r))))⟩ hs
    | some r, .neq => tell ⟨.inl (.held (.inr (.inl (.bool (!r)))))⟩ hs
    | _, _ => none
  | _ => none
/-- A bound of what is cut out. -/
def bnd (rd : Operand → AV) (d : Int) : Option Operand → Option Int
  | none => some d
  | some x => match rd x with
    | ⟨.inl (.held (.inr (.inl (.int .i64 z))))⟩ => some z
    | _ => none
/-- Operations that yield a value and touch no box: of ints of any kind, of texts, of slices that are cut. -/
def ev2 (tt : TT) (rd : Operand → AV) (hs : List Bool) : Op → Option (AV × Prop × List Bool)
  | .binOp op t x y _ => match rd x, rd y with
    | ⟨.inl (.held (.inr (.inl (.int k a))))⟩, ⟨.inl (.held (.inr (.inl (.int k' b))))⟩ => bin2 k k' a b hs op
    | ⟨.inl (.held (.inr (.inl (.string a))))⟩, ⟨.inl (.held (.inr (.inl (.string b))))⟩ => str2 a b hs op
    | ⟨.inl (.agg l)⟩, ⟨.inl (.agg m)⟩ => agg2 tt t l m hs op
    | _, _ => none
  | .unOp .neg _ x => match rd x with
    | ⟨.inl (.held (.inr (.inl (.int k a))))⟩ => some (⟨.inl (.held (.inr (.inl (.int k (0 - a)))))⟩, k.wrap (0 - a) = 0 - a, hs)
    | _ => none
  | .convert s d x => match tt.desc s, tt.desc d, rd x with
    | some _, some (.int k), ⟨.inl (.held (.inr (.inl (.int _ a))))⟩ => some (⟨.inl (.held (.inr (.inl (.int k a))))⟩, k.wrap a = a, hs)
    | _, _, _ => none
  | .index t x i => match tt.desc t, rd x, rd i with
    | some .string, ⟨.inl (.held (.inr (.inl (.string s))))⟩, ⟨.inl (.held (.inr (.inl (.int .i64 z))))⟩ => some (⟨.inl (.held (.inr (.inl (.int .u8 (bget s z.toNat)))))⟩, 0 ≤ z ∧ z < s.size, hs)
    | _, _, _ => none
  | .slice t x l h none => match rd x with
    | ⟨.inl (.held (.inr (.inl (.string s))))⟩ => match tt.desc t, bnd rd 0 l, bnd rd s.size h with
      | some .string, some a, some b => some (⟨.inl (.held (.inr (.inl (.string (s.extract a.toNat b.toNat)))))⟩, 0 ≤ a ∧ a ≤ b ∧ b ≤ s.size, hs)
      | _, _, _ => none
    | ⟨.inl (.slice es _)⟩ => match tt.elem t, bnd rd 0 l, bnd rd es.length h with
      | some e, some a, some b => match tt.ent e with
        | some n => match sized n es with
          | true => some (⟨.inl (.slice ((es.take b.toNat).drop a.toNat) [])⟩, 0 ≤ a ∧ a ≤ b ∧ b ≤ es.length, hs)
          | false => none
        | none => none
      | _, _, _ => none
    | _ => none
  | .nilCheck x => match rd x with
    | ⟨.inl (.held (.inr (.inr (.inr (.inl (k, o))))))⟩ => some (⟨.inl (.held (.inr (.inr (.inr (.inl (k, o))))))⟩, True, hs)
    | _ => none
  | .call ⟨.builtin .len, xs, ts⟩ => match xs.toList, ts.toList with
    | [x], [t] => match rd x with
      | ⟨.inl (.held (.inr (.inl (.string s))))⟩ => match tt.desc t with
        | some .string => some (⟨.inl (.held (.inr (.inl (.int .i64 s.size))))⟩, s.size ≤ 1099511627776, hs)
        | _ => none
      | ⟨.inl (.ptr (.slice ls _))⟩ => match tt.elem t with
        | some _ => some (⟨.inl (.held (.inr (.inl (.int .i64 ls.length))))⟩, ls.length ≤ 1099511627776, hs)
        | none => none
      | _ => none
    | _, _ => none
  | _ => none
def ev (tt : TT) (S : List Spec) (rd : Operand → AV) (bx : List Bx) (hs : List Bool) (op : Op) : Option (Eff × Prop × List Bool) := match ev1 tt S rd bx hs op with
  | some r => some r
  | none => match ev2 tt rd hs op with
    | some (a, p, hs') => some (⟨.inl a⟩, p, hs')
    | none => none
def touch (rd : Operand → AV) : Op → List Nat
  | .load _ a => boxesOf rd [a]
  | .store _ a _ => boxesOf rd [a]
  | .call c => boxesOf rd c.args.toList
  | _ => []
/-- The operands that an operation reads. -/
def reads : Op → List Operand
  | .move x => [x]
  | .assign x => [x]
  | .pick c a b => [c, a, b]
  | .box _ x => [x]
  | .load _ a => [a]
  | .store _ a x => [a, x]
  | .fieldAddr _ x _ => [x]
  | .field _ x _ => [x]
  | .build _ ps => ps.toList.map (·.2)
  | .buildSlice _ _ ps => ps.toList.map (·.2)
  | .makeSlice _ l c => [l, c]
  | .extract x _ => [x]
  | .binOp _ _ x y _ => [x, y]
  | .indexAddr _ x i => [x, i]
  | .index _ x i => [x, i]
  | .unOp _ _ x => [x]
  | .nilCheck x => [x]
  | .convert _ _ x => [x]
  | .slice _ x l h _ => x :: (l.toList ++ h.toList)
  | .call c => c.args.toList
  | _ => []
end Go.Proofs.YtbobhhnhlgdkiaaGreat.Sy

/- Each operation does what 'ev' says of it. -/
namespace Go.Proofs.YtbobhhnhlgdkiaaGreat.Sy
open Go Go.RowKit M Kahn
set_option maxRecDepth 100000

def EffR (E : Env) (bx : List Bx) (u : World) : Eff → Value → World → Prop
  | ⟨.inl a⟩, v, u' => Below u.heap.size u u' ∧ a.Is E u' v
  | ⟨.inr (.inl b)⟩, v, u' => ∃ cs, u' = u.alloc (.cells (List.toArray cs) b.ty) ∧ match b.row with
    | none => v = .pointer (some ⟨u.heap.size, 0, none⟩) ∧ Cells E u b.l cs
    | some n => v = .slice (some ⟨u.heap.size, 0, none⟩) b.l.length b.l.length ∧ Els E u b.l cs ∧ Wide n b.l ∧ b.l.length ≤ maxLen
  | ⟨.inr (.inr (.inl (k, l)))⟩, _, u' => ∃ g b, E.β k = some g ∧ bx[k]? = some b ∧ Fr g u u' ∧ match b.row with
    | none => ∃ ws, Bk u' g b.ty ws ∧ Cells E u l ws
    | some n => Wide n l ∧ ∃ ws, RowIs u' b.ty n l.length (E.γ k) g ws ∧ Els E u l ws
  | ⟨.inr (.inr (.inr (k, b)))⟩, v, u' => (k = bx.length ∨ ∃ b0 n0, bx[k]? = some b0 ∧ b0.row = some n0) ∧ ∃ og n, Laid E u u' k og ∧ b.row = some n ∧ plain v = true ∧ Wide n b.l ∧ (∀ g, og = some g → ∃ ws, RowIs u' b.ty n b.l.length v g ws ∧ Els E u b.l ws) ∧ (og = none → b.l = [] ∧ v = .slice none 0 0)

section
variable {P : Program} {o : Oper} {ρ : Operand → Value} {u u' : World} {R : Value → World → Prop}
theorem goesV {x : Value} (h : (execOp ρ o).run P u = .ok (.value x) u') (hR : R x u') : Goes P o ρ u R := by
  unfold Goes; rw [h]; exact hR
theorem goesS (h : (execOp ρ o).run P u = .ok .skip u') (hR : R undef u') : Goes P o ρ u R := by
  unfold Goes; rw [h]; exact hR
theorem goesR {E : Env} {bx : List Bx} {a : AV} {x : Value} (h : (execOp ρ o).run P u = .ok (.value x) u) (hR : a.Is E u x) : Goes P o ρ u (EffR E bx u (⟨.inl a⟩)) :=
  goesV h ⟨Below.refl _ _, hR⟩

/- Runs of instructions. -/
theorem info_of {t : TypeId} {n b : Nat} {z : Option Value} (h : (P.info? t).map (fun i => (i.size, i.zero, i.bytes)) = some (n, z, b)) : ∃ i, P.info? t = some i ∧ i.size = n ∧ i.zero = z ∧ i.bytes = b := by
  cases hi : P.info? t with
  | none => simp [hi] at h
  | some i => simp [hi] at h; exact ⟨i, rfl, h.1, h.2.1, h.2.2⟩
theorem info_size {t : TypeId} {n b : Nat} {z : Option Value} (h : (P.info? t).map (fun i => (i.size, i.zero, i.bytes)) = some (n, z, b)) : (P.info? t).map (·.size) = some n := by
  obtain ⟨i, h1, h2, _⟩ := info_of h
  simp [h1, h2]
theorem run_sizeOf' {t : TypeId} {n : Nat} (h : (P.info? t).map (·.size) = some n) (w : World) : (sizeOf t).run P w = .ok n w := by
  cases hi : P.info? t with
  | none => simp [hi] at h
  | some i => simp [hi] at h; simp [sizeOf, typeInfo, hi, h]
theorem run_zero {t : TypeId} {n b : Nat} {z : Value} (h : (P.info? t).map (fun i => (i.size, i.zero, i.bytes)) = some (n, some z, b)) (w : World) : (zeroValue t).run P w = .ok z w := by
  obtain ⟨i, h1, _, h3, _⟩ := info_of h
  simp [zeroValue, typeInfo, h1, h3]
theorem run_isAgg {t : TypeId} {d : TypeDesc} (h : P.underlying t = some d) (w : World) : (isAgg t).run P w = .ok d.isRow w := by
  unfold isAgg
  rw [Sem.run_bind, run_underlying h w]
  cases d <;> simp [TypeDesc.isRow]
theorem run_new (ty : TypeId) (cs : Array Value) (w : World) : (newRow ty cs).run P w = .ok ⟨w.heap.size, 0, none⟩ (w.alloc (.cells cs ty)) := by
  unfold newRow
  go_simp
theorem run_loadOne {t : TypeId} {d : TypeDesc} {b k : Nat} {v : Value} {w : World} (h : P.underlying t = some d) (hd : d.isRow = false) (hc : w.cell? ⟨b, k, none⟩ = some v) : (Instr.loadAt t (.pointer (some ⟨b, k, none⟩))).run P w = .ok v w := by
  simp [Instr.loadAt, Instr.sureAddr, loadVar, run_isAgg h, hd, run_load, hc]
theorem wide_ok {tt : TT} (hT : TTok P tt) {t : TypeId} {n : Nat} {z : List D} (h : tt.wide t = some (n, z)) : ∃ d zs b, P.underlying t = some d ∧ d.isRow = true ∧ (P.info? t).map (fun i => (i.size, i.zero, i.bytes)) = some (n, some (.agg (List.toArray zs)), b) ∧ Zok n b zs ∧ ∀ E u, Cells E u z zs := by
  unfold TT.wide at h
  split at h
  · rename_i e; cases h
    obtain ⟨fs, zs, b, h1, h2, h3, h4, _⟩ := hT.get e
    exact ⟨_, zs, b, h1, rfl, h2, h3, h4⟩
  · rename_i e; cases h
    obtain ⟨zs, b, n', h1, h2, h3, h4, _⟩ := hT.get e
    exact ⟨_, zs, b, h1, rfl, h2, h3, h4⟩
  · cases h
theorem one_ok {tt : TT} (hT : TTok P tt) {t : TypeId} {z : Value} (h : tt.one t = some z) : ∃ d b, P.underlying t = some d ∧ d.isRow = false ∧ (P.info? t).map (fun i => (i.size, i.zero, i.bytes)) = some (1, some z, b) ∧ b ≤ 65536 ∧ plain z = true ∧ (∀ d, descOf z = some d → P.underlying t = some d) := by
  unfold TT.one at h
  split at h
  · rename_i e; cases h
    obtain ⟨d, b, h1, h2, h3, h4, h5, h6, _⟩ := hT.get e
    exact ⟨d, b, h1, h2, h3, h4, h5, h6⟩
  · cases h
/-- Of any type that is told: its cells, its zero value's cells. -/
structure EntOk (P : Program) (tt : TT) (t : TypeId) (n : Nat) : Prop where
  ex : ∃ d z b zs l, P.underlying t = some d ∧ (P.info? t).map (fun i => (i.size, i.zero, i.bytes)) = some (n, some z, b) ∧ z.cells = List.toArray zs ∧ Zok n b zs ∧ tt.zero t = some l ∧ ∀ E u, Cells E u l zs
theorem ent_ok {tt : TT} (hT : TTok P tt) {t : TypeId} {n : Nat} (h : tt.ent t = some n) : EntOk P tt t n := by
  unfold TT.ent at h
  split at h
  · rename_i e; cases h
    obtain ⟨fs, zs, b, h1, h2, h3, h4, _⟩ := hT.get e
    exact ⟨_, _, b, zs, _, h1, h2, rfl, h3, by unfold TT.zero; rw [e], h4⟩
  · rename_i e; cases h
    obtain ⟨d, b, h1, h2, h3, h4, h5, _⟩ := hT.get e
    refine ⟨d, _, b, [_], _, h1, h3, plain_cells h5, ⟨Nat.one_pos, h4, rfl, by simp [h5]⟩, by unfold TT.zero; rw [e], fun E u => Cells.cons_iff.2 ⟨_, [], rfl, (LfIs.one_iff rfl).2 ⟨_, rfl, h5, VIs.val_iff.2 rfl⟩, Cells.nil⟩⟩
  · rename_i e; cases h
    obtain ⟨zs, b, n', h1, h2, h3, h4, _⟩ := hT.get e
    exact ⟨_, _, b, zs, _, h1, h2, rfl, h3, by unfold TT.zero; rw [e], h4⟩
  · cases h
theorem desc_ok {tt : TT} (hT : TTok P tt) {t : TypeId} {d : TypeDesc} (h : tt.desc t = some d) : P.underlying t = some d := by
  unfold TT.desc at h
  split at h
  · rename_i e
    obtain ⟨_, _, _, _, _, _, _, h6⟩ := one_ok hT e
    exact h6 _ h
  · cases h
theorem elem_ok {tt : TT} (hT : TTok P tt) {t e : TypeId} (h : tt.elem t = some e) : P.underlying t = some (.slice e) := by
  unfold TT.elem at h
  split at h
  · rename_i k; cases h
    obtain ⟨d, b, _, _, _, _, _, _, h7⟩ := hT.get k
    exact h7 _ rfl
  · cases h

/- Where pointers lead to. -/
theorem els_len {E : Env} {n : Nat} : ∀ {es : List D} {vs : List Value}, Wide n es → Els E u es vs → vs.length = es.length * n
  | [], vs, _, h => by rw [Els.nil_iff.1 h]; simp
  | x :: es, vs, hw, h => by
    obtain ⟨ps, a, b, rfl, rfl, h1, h2⟩ := Els.cons_iff.1 h
    obtain ⟨l, e, hl⟩ := hw _ (List.mem_cons_self ..)
    cases e
    rw [List.length_append, h1.len, hl, els_len (fun x hx => hw x (List.mem_cons_of_mem _ hx)) h2, List.length_cons, Nat.add_mul]
    omega
theorem els_get {E : Env} {n : Nat} : ∀ {es : List D} {i : Nat} {l : List D} {vs : List Value}, Wide n es → Els E u es vs → es[i]? = some (DataW.agg l) → ∃ x y z, vs = x ++ (y ++ z) ∧ x.length = i * n ∧ y.length = n ∧ Cells E.bare u l y ∧
    ∀ l' y', lsize l' = n → Cells E.bare u l' y' → Els E u (es.set i (.agg l')) (x ++ (y' ++ z))
  | [], i, l, vs, _, h, hi => by simp at hi
  | x :: es, 0, l, vs, hw, h, hi => by
    obtain ⟨ps, a, b, rfl, rfl, h1, h2⟩ := Els.cons_iff.1 h
    obtain ⟨l', e, hl⟩ := hw _ (List.mem_cons_self ..)
    simp at hi; subst hi; cases e
    exact ⟨[], a, b, rfl, by simp, by rw [h1.len, hl], h1, fun l' y' _ hc => Els.cons_iff.2 ⟨l', y', b, rfl, rfl, hc, h2⟩⟩
  | x :: es, i + 1, l, vs, hw, h, hi => by
    obtain ⟨ps, a, b, rfl, rfl, h1, h2⟩ := Els.cons_iff.1 h
    obtain ⟨l', e, hl⟩ := hw _ (List.mem_cons_self ..)
    cases e
    obtain ⟨x1, y1, z1, rfl, k1, k2, k3, k4⟩ := els_get (fun x hx => hw x (List.mem_cons_of_mem _ hx)) h2 (by simpa using hi)
    exact ⟨a ++ x1, y1, z1, by simp, by rw [List.length_append, k1, h1.len, hl, Nat.add_mul]; omega, k2, k3, fun l' y' e hc => by
      rw [List.set_cons_succ, List.append_assoc]
      exact Els.cons_iff.2 ⟨_, a, _, rfl, rfl, h1, k4 l' y' e hc⟩⟩
theorem wide_set {n i : Nat} {es l : List D} (h : Wide n es) (hl : lsize l = n) : Wide n (es.set i (.agg l)) := fun x hx => by
  rcases List.mem_or_eq_of_mem_set hx with h' | rfl
  · exact h x h'
  · exact ⟨l, rfl, hl⟩
end
end Go.Proofs.YtbobhhnhlgdkiaaGreat.Sy
