/- A region that draws its order: by one invariant over what has come up, the values, the world. -/
import Derived.Test.YtbobhhnhlgdkiaaGreatJe
import Derived.Test.YtbobhhnhlgdkiaaGreatJq
namespace Go.Proofs.YtbobhhnhlgdkiaaGreat.Kahn
open Go
set_option maxRecDepth 100000

def Upd {α : Type} (f : Nat → α) (i : Nat) (x : α) : Nat → α := fun k => if k = i then x else f k
theorem Upd.same {α : Type} (f : Nat → α) (i : Nat) (x : α) : Upd f i x i = x := by unfold Upd; rw [if_pos rfl]
theorem Upd.ne {α : Type} {f : Nat → α} {i k : Nat} {x : α} (h : k ≠ i) : Upd f i x k = f k := by unfold Upd; rw [if_neg h]

section
variable {P : Program} {ops : Array Oper} {J : (Nat → Bool) → (Nat → Value) → World → Prop} {a0 : Act} {n N0 : Nat} {tab : List Reads}

/-- What is owed of operation i: it goes, and the invariant holds with it. -/
def OwedJ (P : Program) (J : (Nat → Bool) → (Nat → Value) → World → Prop) (a0 : Act) (i : Nat) (o : Oper) (r : Reads) : Prop :=
  ∀ (L : Nat → Bool) (vs : Nat → Value) (ρ : Operand → Value) (u : World), J L vs u → L i = false → (∀ v, ρ (.const v) = v) → (∀ f, ρ (.func f) = .func (.func f) #[] #[]) →
    (∀ p ∈ r.1, L p.1 = true ∧ ρ (.tmp p.2) = vs p.1) → (∀ t ∈ r.2, ρ (.tmp t) = a0.eval (.tmp t)) → Goes P o ρ u fun v u' => J (Upd L i true) (Upd vs i v) u'

structure InvJ (ops : Array Oper) (a0 : Act) (n : Nat) (listed : Array Bool) (vs : Nat → Value) (a : Act) : Prop where
  defers : a.defers = a0.defers
  size : a.tmps.size = a0.tmps.size
  own : ∀ k o d, ops[k]? = some o → o.dst = some d → k < n → listed.getD k false = true → a.tmps.getD d undef = vs k
  other : ∀ t, (∀ k o, ops[k]? = some o → k < n → listed.getD k false = true → o.dst ≠ some t) → a.tmps.getD t undef = a0.tmps.getD t undef

structure TabJ (ops : Array Oper) (n N0 : Nat) (i : Nat) (o : Oper) (r : Reads) : Prop where
  dst : ∀ d, o.dst = some d → d < N0 ∧ ∀ j oj, j < n → j ≠ i → ops[j]? = some oj → oj.dst ≠ some d
  deps : ∀ p ∈ r.1, p.1 < n ∧ (∃ e ∈ o.after, Region.binds .any e = true ∧ e.on = p.1) ∧ ∃ oj, ops[p.1]? = some oj ∧ oj.dst = some p.2
  orig : ∀ t ∈ r.2, ∀ j oj, j < n → ops[j]? = some oj → oj.dst = some t → ∃ e ∈ oj.after, Region.binds .any e = true ∧ e.on = i
  guard : o.guard = none
  lex : ∀ e ∈ o.after, Region.binds .any e = true → e.on < i

theorem getD_set_upd {listed : Array Bool} {i : Nat} (hls : i < listed.size) : (fun k => (listed.setIfInBounds i true).getD k false) = Upd (fun k => listed.getD k false) i true := by
  funext k
  by_cases h : k = i
  · subst h
    rw [Upd.same]
    simp [hls]
  · rw [Upd.ne h, getD_set_ne false (Ne.symm h)]

theorem InvJ.set {listed : Array Bool} {a : Act} {i : Nat} {o : Oper} {r : Reads} {vs : Nat → Value} {v : Value} (inv : InvJ ops a0 n listed vs a) (hN : a0.tmps.size = N0) (ho : ops[i]? = some o) (tb : TabJ ops n N0 i o r) (hin : i < n) (hls : i < listed.size) (hiu : listed.getD i false = false) :
    InvJ ops a0 n (listed.setIfInBounds i true) (Upd vs i v) (a.put o.dst v) := by
  refine ⟨?_, by rw [put_size]; exact inv.size, ?_, ?_⟩
  · cases hd : o.dst with
    | none => exact inv.defers
    | some d => exact inv.defers
  · intro k ok d hok hd hk hl
    by_cases hki : k = i
    · subst hki
      rw [ho] at hok
      cases hok
      rw [hd, put_get_eq _ _ (by rw [inv.size, hN]; exact (tb.dst _ hd).1), Upd.same]
    · rw [getD_set_ne false (Ne.symm hki)] at hl
      have hne : o.dst ≠ some d := fun he => (tb.dst d he).2 k ok hk hki hok hd
      rw [put_get_ne _ _ hne, Upd.ne hki]
      exact inv.own k ok d hok hd hk hl
  · intro t ht
    have hti : o.dst ≠ some t := ht i o ho hin (by simp [hls])
    rw [put_get_ne _ _ hti]
    exact inv.other t fun k ok hok hk hl => ht k ok hok hk (getD_set_true hl)

def AllOwedJ (P : Program) (J : (Nat → Bool) → (Nat → Value) → World → Prop) (a0 : Act) : Nat → List Oper → List Reads → Prop
  | k, o :: l, r :: t => OwedJ P J a0 k o r ∧ AllOwedJ P J a0 (k + 1) l t
  | _, _, _ => True
theorem AllOwedJ.get {P : Program} {J : (Nat → Bool) → (Nat → Value) → World → Prop} {a0 : Act} : ∀ (l : List Oper) (t : List Reads) (k i : Nat) (o : Oper) (r : Reads), AllOwedJ P J a0 k l t → l[i]? = some o → t[i]? = some r → OwedJ P J a0 (k + i) o r
  | [], _, _, i, _, _, _, ho, _ => by simp at ho
  | _ :: _, [], _, i, _, _, _, _, hr => by simp at hr
  | o' :: l, r' :: t, k, 0, o, r, h, ho, hr => by
    simp at ho hr
    subst ho hr
    exact h.1
  | o' :: l, r' :: t, k, i + 1, o, r, h, ho, hr => by
    have := AllOwedJ.get l t (k + 1) i o r h.2 (by simpa using ho) (by simpa using hr)
    rwa [show k + 1 + i = k + (i + 1) from by omega] at this

end
end Go.Proofs.YtbobhhnhlgdkiaaGreat.Kahn

/- For regions by an invariant: constants; blocks of one's own; rows of Rats, lists of Vecs. -/
namespace Go.Proofs.YtbobhhnhlgdkiaaGreat
open Go.RowKit M Kahn
set_option maxRecDepth 100000

/-- The operations that have a constant value. -/
def Know (cs : List (Option Value)) (L : Nat → Bool) (vs : Nat → Value) : Prop := ∀ k v, cs[k]? = some (some v) → L k = true → vs k = v
section
variable {cs : List (Option Value)} {L : Nat → Bool} {vs : Nat → Value} {i : Nat} {v : Value}
theorem Know.start (cs : List (Option Value)) (vs : Nat → Value) : Know cs (fun _ => false) vs := fun _ _ _ h => by cases h
theorem Know.pure (h : Know cs L vs) (hi : cs[i]? = some (some v)) : Know cs (Upd L i true) (Upd vs i v) := by
  intro k x hk hl
  by_cases e : k = i
  · subst e
    rw [Upd.same]
    rw [hi] at hk
    cases hk
    rfl
  · rw [Upd.ne e] at hl ⊢
    exact h k x hk hl
theorem Know.other (h : Know cs L vs) (hi : cs[i]? = some none) : Know cs (Upd L i true) (Upd vs i v) := by
  intro k x hk hl
  by_cases e : k = i
  · subst e
    rw [hi] at hk
    cases hk
  · rw [Upd.ne e] at hl ⊢
    exact h k x hk hl
end
/-- A block of one's own, at B or behind it, with these contents, once b. -/
def Own1 (pt : Nat → Value) (B : Nat) (bl : Obj) (b : Bool) (v : Value) (u : World) : Prop := b = true → ∃ g, v = pt g ∧ B ≤ g ∧ u.heap[g]? = some bl
def Apart (b1 : Bool) (v1 : Value) (b2 : Bool) (v2 : Value) : Prop := b1 = true → b2 = true → v1 ≠ v2
theorem Apart.symm {b1 b2 : Bool} {v1 v2 : Value} (h : Apart b1 v1 b2 v2) : Apart b2 v2 b1 v1 := fun h1 h2 e => h h2 h1 e.symm
theorem Apart.no1 {v1 v2 : Value} {b : Bool} : Apart false v1 b v2 := fun h => by cases h
theorem Apart.no2 {v1 v2 : Value} {b : Bool} : Apart b v1 false v2 := fun _ h => by cases h
section
variable {pt : Nat → Value} {B : Nat} {bl : Obj} {b : Bool} {v : Value} {u u' : World}
theorem Own1.no : Own1 pt B bl false v u := fun h => by cases h
theorem Own1.later (h : Own1 pt B bl b v u) (hb : Below u.heap.size u u') : Own1 pt B bl b v u' := fun hb1 => by
  obtain ⟨g, e1, e2, e3⟩ := h hb1
  exact ⟨g, e1, e2, by rw [hb.block g (Array.getElem?_eq_some_iff.1 e3).1]; exact e3⟩
theorem Own1.keep {g : Nat} (h : Own1 pt B bl b v u) (hf : Fr g u u') (ha : b = true → v ≠ pt g) : Own1 pt B bl b v u' := fun hb1 => by
  obtain ⟨k, e1, e2, e3⟩ := h hb1
  have hne : k ≠ g := fun e => ha hb1 (by rw [e1, e])
  exact ⟨k, e1, e2, by rw [hf.block k hne]; exact e3⟩
end

/-- A row of Rats. -/
structure Rw (u : World) (g : Nat) (rs : List RP) : Prop where
  at_ : u.heap[g]? = some (.cells (RP.all rs).toArray 24 (0, 0))
theorem RP.all_set : ∀ (rs : List RP) (k : Nat) (r : RP), (((RP.all rs).set (k * 3) (.bool r.s)).set (k * 3 + 1) (.slice r.no r.nn r.nc)).set (k * 3 + 2) (.slice r.eo r.en r.ec) = RP.all (rs.set k r)
  | [], k, r => rfl
  | r' :: rs, 0, r => rfl
  | r' :: rs, k + 1, r => by
    have ih := RP.all_set rs k r
    rw [show (k + 1) * 3 = k * 3 + 1 + 1 + 1 from by omega]
    show _ = r'.cells ++ RP.all (rs.set k r)
    rw [← ih]
    rfl
section
variable {u u' : World} {g k : Nat} {rs : List RP}
theorem Rw.lt (h : Rw u g rs) : g < u.heap.size := (Array.getElem?_eq_some_iff.1 h.at_).1
theorem Rw.keep (h : Rw u g rs) (hb : u'.heap[g]? = u.heap[g]?) : Rw u' g rs := ⟨by rw [hb]; exact h.at_⟩
theorem Rw.later (h : Rw u g rs) (hb : Below u.heap.size u u') : Rw u' g rs := h.keep (hb.block g h.lt)
theorem Rw.cell (h : Rw u g rs) (i : Nat) : u.cell? ⟨g, i, none⟩ = (RP.all rs)[i]? := by
  rw [cell_of_row u g i _ _ _ h.at_]
  simp
theorem Rw.free (h : Rw u g rs) (i : Nat) : u.frozen? ⟨g, i, none⟩ = false := frozen_of_row u g i _ _ h.at_
theorem Rw.there (h : Rw u g rs) {r : RP} (hr : rs[k]? = some r) : u.cell? ⟨g, k * 3, none⟩ = some (.bool r.s) ∧ u.cell? ⟨g, k * 3 + 1, none⟩ = some (.slice r.no r.nn r.nc) ∧ u.cell? ⟨g, k * 3 + 2, none⟩ = some (.slice r.eo r.en r.ec) := by
  obtain ⟨a1, a2, a3⟩ := RP.all_get rs k r hr
  exact ⟨by rw [h.cell, a1], by rw [h.cell, a2], by rw [h.cell, a3]⟩
/-- A Rat is stored. -/
def putR (u : World) (g i : Nat) (r : RP) : World := ((u.setCell ⟨g, i, none⟩ (.bool r.s)).setCell ⟨g, i + 1, none⟩ (.slice r.no r.nn r.nc)).setCell ⟨g, i + 2, none⟩ (.slice r.eo r.en r.ec)
theorem putR.fr (u : World) (g i : Nat) (r : RP) : Fr g u (putR u g i r) := (((Fr.refl g u).set i (.bool r.s)).set (i + 1) (.slice r.no r.nn r.nc)).set (i + 2) (.slice r.eo r.en r.ec)
theorem Rw.put (h : Rw u g rs) (k : Nat) (r : RP) : Rw (putR u g (k * 3) r) g (rs.set k r) := ⟨by
  have a0 := heap_setCell_same u g (k * 3) _ _ (.bool r.s) h.at_
  have a1 := heap_setCell_same _ g (k * 3 + 1) _ _ (.slice r.no r.nn r.nc) a0
  have a2 := heap_setCell_same _ g (k * 3 + 2) _ _ (.slice r.eo r.en r.ec) a1
  simp only [List.setIfInBounds_toArray, RP.all_set] at a2
  exact a2⟩
end
/-- The parts of a Vec; a list of Vecs. -/
structure TP where
  x : RP
  y : RP
  z : RP
def TP.cells (t : TP) : List Value := [.bool t.x.s, .slice t.x.no t.x.nn t.x.nc, .slice t.x.eo t.x.en t.x.ec, .bool t.y.s, .slice t.y.no t.y.nn t.y.nc, .slice t.y.eo t.y.en t.y.ec, .bool t.z.s, .slice t.z.no t.z.nn t.z.nc, .slice t.z.eo t.z.en t.z.ec]
def TP.all : List TP → List Value
  | [] => []
  | t :: l => t.cells ++ TP.all l
theorem TP.all_get : ∀ (ts : List TP) (k : Nat) (t : TP), ts[k]? = some t → ∀ j, j < 9 → (TP.all ts)[k * 9 + j]? = t.cells[j]?
  | [], k, t, h => by simp at h
  | t' :: ts, 0, t, h => fun j hj => by
    simp at h
    subst h
    show (t'.cells ++ TP.all ts)[0 * 9 + j]? = _
    rw [Nat.zero_mul, Nat.zero_add, List.getElem?_append_left hj]
  | t' :: ts, k + 1, t, h => fun j hj => by
    have := TP.all_get ts k t (by simpa using h) j hj
    rw [show (k + 1) * 9 + j = 9 + (k * 9 + j) from by omega, ← this]
    show (t'.cells ++ TP.all ts)[9 + (k * 9 + j)]? = _
    rw [List.getElem?_append_right (by show t'.cells.length ≤ _; simp [TP.cells])]
    congr 1
    simp [TP.cells]
/-- A slice of Vecs that are read as these. -/
def VW (ps qs rs : List Rat) (K : Nat) : Value → World → Prop := fun v u =>
  ∃ ao cap ts, v = .slice ao ps.length cap ∧ ps.length ≤ cap ∧ RL u K (ts.map TP.x) ps ∧ RL u K (ts.map TP.y) qs ∧ RL u K (ts.map TP.z) rs ∧ (0 < ps.length → ∃ b o, ao = some ⟨b, o, none⟩ ∧ b < u.heap.size ∧ ∀ i v, (TP.all ts)[i]? = some v → u.cell? ⟨b, o + i, none⟩ = some v)
theorem VW.lasts (ps qs rs : List Rat) (K : Nat) : Lasts (VW ps qs rs K) := by
  rintro v u u' hb ⟨ao, cap, ts, h1, h2, h3, h4, h5, h6⟩
  refine ⟨ao, cap, ts, h1, h2, h3.later hb, h4.later hb, h5.later hb, fun h0 => ?_⟩
  obtain ⟨b, o, e1, e2, e3⟩ := h6 h0
  exact ⟨b, o, e1, Nat.lt_of_lt_of_le e2 hb.size, fun i v hv => by rw [hb.cell (p := ⟨b, o + i, none⟩) e2]; exact e3 i v hv⟩
theorem VW.nil (K : Nat) (u : World) : VW [] [] [] K (.slice none 0 0) u := ⟨none, 0, [], rfl, Nat.le_refl _, trivial, trivial, trivial, fun h => absurd h (Nat.lt_irrefl _)⟩
theorem VW.made {u : World} {K : Nat} (ts : List TP) (ps qs rs : List Rat) (h1 : RL u K (ts.map TP.x) ps) (h2 : RL u K (ts.map TP.y) qs) (h3 : RL u K (ts.map TP.z) rs) (cs : Array Value) (hc : cs = (TP.all ts).toArray) (n : Nat) (hn : ts.length = n) :
    VW ps qs rs K (.slice (some ⟨u.heap.size, 0, none⟩) n n) (u.alloc (.cells cs 26)) := by
  subst hc hn
  have bl : Below u.heap.size u (u.alloc (.cells (TP.all ts).toArray 26)) := (Below.refl _ _).alloc (Nat.le_refl _) _
  have hl : ts.length = ps.length := by have := h1.len; rwa [List.length_map] at this
  refine ⟨some ⟨u.heap.size, 0, none⟩, ts.length, ts, by rw [hl], by rw [hl]; exact Nat.le_refl _, h1.later bl, h2.later bl, h3.later bl, fun _ => ⟨u.heap.size, 0, rfl, by simp, fun i v hv => ?_⟩⟩
  rw [Nat.zero_add, cell_of_row _ u.heap.size i _ _ _ (heap_alloc_new _ _)]
  simpa using hv
end Go.Proofs.YtbobhhnhlgdkiaaGreat
