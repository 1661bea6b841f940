/- A region that draws its order, calls functions that make memory, and stores into a block that it made: each operation by itself. -/
import Derived.Test.YtbobhhnhlgdkiaaGreatJ8
import Derived.Test.YtbobhhnhlgdkiaaGreatBT8
namespace Go.Proofs.YtbobhhnhlgdkiaaGreat.Kahn
open Go

/-- The slot that an operation's word is about: its own one; of a store, the first one that it reads. -/
def slotOf (o : Oper) (r : Reads) : Option Tmp := match o.dst with
  | some d => some d
  | none => r.1.head?.map (·.2)
def wordOf (o : Oper) (r : Reads) (ρ : Operand → Value) (v : Value) : Value := match o.dst with
  | some _ => v
  | none => match r.1 with
    | p :: _ => ρ (.tmp p.2)
    | [] => v
def tabS (ops : Array Oper) (n N0 : Nat) (tab : List Reads) : Bool :=
  (List.range n).all fun i => match ops[i]?, tab[i]? with
    | some o, some r =>
      (match o.dst with
        | some d => decide (d < N0) && (List.range n).all fun j => j == i || (match ops[j]? with | some oj => oj.dst != some d | none => true)
        | none => !r.1.isEmpty) &&
      (r.1.all fun p => decide (p.1 < n) && Region.waitsFor .any ops i p.1 && (match ops[p.1]? with | some oj => oj.dst == some p.2 | none => false)) &&
      (r.2.all fun t => (List.range n).all fun j => match ops[j]? with | some oj => oj.dst != some t || Region.waitsFor .any ops j i | none => true) &&
      (match o.guard with
        | some (g, _) => decide (g < n) && Region.waitsFor .any ops i g && (match ops[g]? with | some og => og.dst.isSome | none => false)
        | none => true) &&
      (o.after.all fun e => !Region.binds .any e || decide (e.on < i))
    | _, _ => false
section
variable {P : Program} {ops : Array Oper} {C : World → Prop} {Gr : Nat → World → World → Prop} {Ψ : Nat → Value → World → Prop} {a0 : Act} {n N0 : Nat} {tab : List Reads}

structure RunsS (P : Program) (C : World → Prop) (Gr : Nat → World → World → Prop) (Ψ : Nat → Value → World → Prop) (a0 : Act) (i : Nat) (o : Oper) (r : Reads) : Prop where
  guard : ∀ g b, o.guard = some (g, b) → ∀ v u, Ψ g v u → v = .bool b
  go : ∀ (ρ : Operand → Value) (u : World), C u → (∀ v, ρ (.const v) = v) → (∀ f, ρ (.func f) = .func (.func f) #[] #[]) → (∀ p ∈ r.1, Ψ p.1 (ρ (.tmp p.2)) u) → (∀ t ∈ r.2, ρ (.tmp t) = a0.eval (.tmp t)) →
    Goes P o ρ u fun v u' => C u' ∧ Gr i u u' ∧ Ψ i (wordOf o r ρ v) u'
def OwedS (P : Program) (C : World → Prop) (Gr : Nat → World → World → Prop) (Ψ : Nat → Value → World → Prop) (a0 : Act) (i : Nat) (o : Oper) (r : Reads) : Prop :=
  RunsS P C Gr Ψ a0 i o r ∨ (Skips C Ψ i o ∧ o.dst ≠ none)

structure InvS (ops : Array Oper) (tab : List Reads) (C : World → Prop) (Ψ : Nat → Value → World → Prop) (a0 : Act) (n : Nat) (listed : Array Bool) (a : Act) (u : World) : Prop where
  defers : a.defers = a0.defers
  size : a.tmps.size = a0.tmps.size
  own : ∀ k o r t, ops[k]? = some o → tab[k]? = some r → slotOf o r = some t → k < n → listed.getD k false = true → Ψ k (a.tmps.getD t undef) u
  other : ∀ t, (∀ k o, ops[k]? = some o → k < n → listed.getD k false = true → o.dst ≠ some t) → a.tmps.getD t undef = a0.tmps.getD t undef
  cls : C u

structure TabS (ops : Array Oper) (n N0 : Nat) (i : Nat) (o : Oper) (r : Reads) : Prop where
  dst : ∀ d, o.dst = some d → d < N0 ∧ ∀ j oj, j < n → j ≠ i → ops[j]? = some oj → oj.dst ≠ some d
  word : o.dst = none → ∃ p l, r.1 = p :: l
  deps : ∀ p ∈ r.1, p.1 < n ∧ (∃ e ∈ o.after, Region.binds .any e = true ∧ e.on = p.1) ∧ ∃ oj, ops[p.1]? = some oj ∧ oj.dst = some p.2
  orig : ∀ t ∈ r.2, ∀ j oj, j < n → ops[j]? = some oj → oj.dst = some t → ∃ e ∈ oj.after, Region.binds .any e = true ∧ e.on = i
  guard : ∀ g b, o.guard = some (g, b) → g < n ∧ (∃ e ∈ o.after, Region.binds .any e = true ∧ e.on = g) ∧ ∃ og d, ops[g]? = some og ∧ og.dst = some d
  lex : ∀ e ∈ o.after, Region.binds .any e = true → e.on < i

theorem tabS_spec (h : tabS ops n N0 tab = true) {i : Nat} (hi : i < n) : ∃ o r, ops[i]? = some o ∧ tab[i]? = some r ∧ TabS ops n N0 i o r := by
  have h1 := List.all_eq_true.1 h i (List.mem_range.2 hi)
  cases ho : ops[i]? with
  | none => simp [ho] at h1
  | some o =>
    cases hr : tab[i]? with
    | none => simp [ho, hr] at h1
    | some r =>
      simp only [ho, hr, Bool.and_eq_true] at h1
      obtain ⟨⟨⟨⟨h1, h2⟩, h3⟩, h4⟩, h5⟩ := h1
      refine ⟨o, r, rfl, rfl, ?_, ?_, ?_, ?_, ?_, ?_⟩
      · intro d hd
        simp only [hd, Bool.and_eq_true, decide_eq_true_eq] at h1
        refine ⟨h1.1, fun j oj hj hji hoj he => ?_⟩
        have := List.all_eq_true.1 h1.2 j (List.mem_range.2 hj)
        simp [hoj, he, hji] at this
      · intro hd
        simp only [hd] at h1
        cases hr1 : r.1 with
        | nil => simp [hr1] at h1
        | cons p l => exact ⟨p, l, rfl⟩
      · intro p hp
        have := List.all_eq_true.1 h2 p hp
        simp only [Bool.and_eq_true, decide_eq_true_eq] at this
        obtain ⟨⟨k1, k2⟩, k3⟩ := this
        refine ⟨k1, waits_of ho k2, ?_⟩
        cases hoj : ops[p.1]? with
        | none => simp [hoj] at k3
        | some oj => exact ⟨oj, rfl, by simpa [hoj] using k3⟩
      · intro t ht j oj hj hoj hd
        have := List.all_eq_true.1 (List.all_eq_true.1 h3 t ht) j (List.mem_range.2 hj)
        simp only [hoj, hd, Bool.or_eq_true] at this
        rcases this with k | k
        · simp at k
        · exact waits_of hoj k
      · intro g b hg
        simp only [hg, Bool.and_eq_true, decide_eq_true_eq] at h4
        refine ⟨h4.1.1, waits_of ho h4.1.2, ?_⟩
        cases hog : ops[g]? with
        | none => simp [hog] at h4
        | some og =>
          cases hd : og.dst with
          | none => simp [hog, hd] at h4
          | some d => exact ⟨og, d, rfl, hd⟩
      · intro e he hb
        have := Array.all_eq_true'.1 h5 e he
        simpa [hb] using this

/-- The slot of a listed operation is not turned by one that is not. -/
theorem slot_apart {listed : Array Bool} {i k : Nat} {o ok : Oper} {r rk : Reads} {t d : Tmp} (hh : HeadInv .any ops n listed) (tb : TabS ops n N0 i o r) (hiu : listed.getD i false = false) (hd : o.dst = some d)
    (hok : ops[k]? = some ok) (tk : TabS ops n N0 k ok rk) (hk : k < n) (hki : k ≠ i) (hl : listed.getD k false = true) (hs : slotOf ok rk = some t) : d ≠ t := by
  intro he
  subst he
  obtain ⟨_, hdist⟩ := tb.dst d hd
  unfold slotOf at hs
  cases hdk : ok.dst with
  | some dk =>
    simp only [hdk, Option.some.injEq] at hs
    exact hdist k ok hk hki hok (by rw [hdk, hs])
  | none =>
    simp only [hdk] at hs
    obtain ⟨p, l, hr⟩ := tk.word hdk
    simp only [hr, List.head?_cons, Option.map_some, Option.some.injEq] at hs
    obtain ⟨hp1, ⟨e, he, hb, hon⟩, oj, hoj, hdj⟩ := tk.deps p (by rw [hr]; exact List.mem_cons_self ..)
    have hpi : p.1 = i := by
      by_cases h : p.1 = i
      · exact h
      · exact absurd (by rw [hdj, hs]) (hdist p.1 oj hp1 h hoj)
    have := hh.closed k ok hok hl e he hb
    rw [hon, hpi, hiu] at this
    cases this

theorem InvS.set {listed : Array Bool} {a : Act} {u u' : World} {i : Nat} {o : Oper} {r : Reads} {v : Value} (inv : InvS ops tab C Ψ a0 n listed a u) (hh : HeadInv .any ops n listed) (htab : tabS ops n N0 tab = true) (hN : a0.tmps.size = N0) (ho : ops[i]? = some o) (hr : tab[i]? = some r) (tb : TabS ops n N0 i o r) (hin : i < n) (hls : i < listed.size) (hiu : listed.getD i false = false)
    (hst : ∀ k v, k ≠ i → Ψ k v u → Ψ k v u') (hc : C u') (hv : Ψ i (wordOf o r a.eval v) u') : InvS ops tab C Ψ a0 n (listed.setIfInBounds i true) (a.put o.dst v) u' := by
  refine ⟨?_, by rw [put_size]; exact inv.size, ?_, ?_, hc⟩
  · cases hd : o.dst with
    | none => exact inv.defers
    | some d => exact inv.defers
  · intro k ok rk t hok hrk hs hk hl
    by_cases hki : k = i
    · subst hki
      rw [ho] at hok
      cases hok
      rw [hr] at hrk
      cases hrk
      unfold slotOf at hs
      unfold wordOf at hv
      cases hd : o.dst with
      | some d =>
        simp only [hd, Option.some.injEq] at hs hv
        subst hs
        rw [put_get_eq _ _ (by rw [inv.size, hN]; exact (tb.dst _ hd).1)]
        exact hv
      | none =>
        obtain ⟨p, l, hr1⟩ := tb.word hd
        simp only [hd, hr1, List.head?_cons, Option.map_some, Option.some.injEq] at hs hv
        subst hs
        exact hv
    · rw [getD_set_ne false (Ne.symm hki)] at hl
      obtain ⟨ok', rk', hok', hrk', tk⟩ := tabS_spec htab hk
      rw [hok] at hok'
      cases hok'
      rw [hrk] at hrk'
      cases hrk'
      have hne : o.dst ≠ some t := fun hd => slot_apart hh tb hiu hd hok tk hk hki hl hs rfl
      rw [put_get_ne _ _ hne]
      exact hst k _ hki (inv.own k ok rk t hok hrk hs hk hl)
  · intro t ht
    have hti : o.dst ≠ some t := ht i o ho hin (by simp [hls])
    rw [put_get_ne _ _ hti]
    exact inv.other t fun k ok hok hk hl => ht k ok hok hk (getD_set_true hl)

def AllOwedS (P : Program) (C : World → Prop) (Gr : Nat → World → World → Prop) (Ψ : Nat → Value → World → Prop) (a0 : Act) : Nat → List Oper → List Reads → Prop
  | k, o :: l, r :: t => OwedS P C Gr Ψ a0 k o r ∧ AllOwedS P C Gr Ψ a0 (k + 1) l t
  | _, _, _ => True
theorem AllOwedS.get {P : Program} {C : World → Prop} {Gr : Nat → World → World → Prop} {Ψ : Nat → Value → World → Prop} {a0 : Act} : ∀ (l : List Oper) (t : List Reads) (k i : Nat) (o : Oper) (r : Reads), AllOwedS P C Gr Ψ a0 k l t → l[i]? = some o → t[i]? = some r → OwedS P C Gr Ψ a0 (k + i) o r
  | [], _, _, i, _, _, _, ho, _ => by simp at ho
  | _ :: _, [], _, i, _, _, _, _, hr => by simp at hr
  | o' :: l, r' :: t, k, 0, o, r, h, ho, hr => by
    simp at ho hr
    subst ho hr
    exact h.1
  | o' :: l, r' :: t, k, i + 1, o, r, h, ho, hr => by
    have := AllOwedS.get l t (k + 1) i o r h.2 (by simpa using ho) (by simpa using hr)
    rwa [show k + 1 + i = k + (i + 1) from by omega] at this

end
end Go.Proofs.YtbobhhnhlgdkiaaGreat.Kahn

/- More of what is known of a value: a Rat beside a bool; a Rat's own block, just made. -/
namespace Go.Proofs.YtbobhhnhlgdkiaaGreat
open Go.RowKit M Kahn
set_option maxRecDepth 100000

/-- The canonical Rat of q, beside a bool. -/
def VD (q : Rat) (K : Nat) (b : Bool) : Value → World → Prop := fun v u => ∃ s no nn nc eo en ec, v = .tuple #[.agg #[.bool s, .slice no nn nc, .slice eo en ec], .bool b] ∧ Cq u s no nn nc eo en ec q K
theorem VD.lasts (q : Rat) (K : Nat) (b : Bool) : Lasts (VD q K b) := fun _ _ _ hb ⟨s, no, nn, nc, eo, en, ec, h1, h2⟩ => ⟨s, no, nn, nc, eo, en, ec, h1, h2.later hb⟩
/-- A block for a Rat, at B or behind it, with nothing in it. -/
def VP (B : Nat) : Value → World → Prop := fun v u => ∃ g, v = .pointer (some ⟨g, 0, none⟩) ∧ B ≤ g ∧ Rb u g (.bool false) (.slice none 0 0) (.slice none 0 0)
theorem VP.lasts (B : Nat) : Lasts (VP B) := fun _ _ _ hb ⟨g, h1, h2, h3⟩ => ⟨g, h1, h2, h3.later hb⟩

/-- Block g holds some Rat. -/
def Ras (u : World) (g : Nat) : Prop := ∃ s no nn nc eo en ec, Rb u g (.bool s) (.slice no nn nc) (.slice eo en ec)
theorem Ras.later {u u' : World} {g : Nat} (h : Ras u g) (hb : Below u.heap.size u u') : Ras u' g := by
  obtain ⟨s, no, nn, nc, eo, en, ec, h⟩ := h
  exact ⟨s, no, nn, nc, eo, en, ec, h.later hb⟩
/-- A Rat has been stored into a block that held one, at B or behind it. -/
def Stores (B : Nat) (u u' : World) : Prop := ∃ g, B ≤ g ∧ Ras u g ∧ Fr g u u' ∧ Ras u' g
/-- It lasts a store. -/
def LastsS (φ : Value → World → Prop) : Prop := ∀ B v u u', Stores B u u' → φ v u → φ v u'
theorem RL.store {u v : World} {g K : Nat} {t : Bool} {a1 a2 : Option Addr} {n1 c1 n2 c2 : Nat} (hb : Rb u g (.bool t) (.slice a1 n1 c1) (.slice a2 n2 c2)) (hw : Fr g u v) : ∀ {rs : List RP} {qs : List Rat}, RL u K rs qs → RL v K rs qs
  | [], [], _ => trivial
  | _ :: _, _ :: _, h => ⟨h.1.store hb hw, RL.store hb hw h.2⟩
  | [], _ :: _, h => h.elim
  | _ :: _, [], h => h.elim
/-- A block for a Rat, at B or behind it, with some Rat in it. -/
def VA (B : Nat) : Value → World → Prop := fun v u => ∃ g, v = .pointer (some ⟨g, 0, none⟩) ∧ B ≤ g ∧ Ras u g
theorem VA.lasts (B : Nat) : Lasts (VA B) := fun _ _ _ hb ⟨g, h1, h2, h3⟩ => ⟨g, h1, h2, h3.later hb⟩
/-- A block, at B or behind it, with the canonical Rat of q in it. -/
def VS (q : Rat) (K B : Nat) : Value → World → Prop := fun v u => ∃ g, v = .pointer (some ⟨g, 0, none⟩) ∧ B ≤ g ∧ ∃ s no nn nc eo en ec, Rb u g (.bool s) (.slice no nn nc) (.slice eo en ec) ∧ Cq u s no nn nc eo en ec q K
theorem VS.lasts (q : Rat) (K B : Nat) : Lasts (VS q K B) := fun _ _ _ hb ⟨g, h1, h2, s, no, nn, nc, eo, en, ec, h3, h4⟩ => ⟨g, h1, h2, s, no, nn, nc, eo, en, ec, h3.later hb, h4.later hb⟩

def LstS (m : Nat) : Nat → List (Value → World → Prop) → Prop
  | _, [] => True
  | k, φ :: l => (k ≠ m → LastsS φ) ∧ LstS m (k + 1) l
theorem LstS.get {m : Nat} : ∀ {l : List (Value → World → Prop)} {k : Nat}, LstS m k l → ∀ i φ, l[i]? = some φ → k + i ≠ m → LastsS φ
  | [], _, _, i, φ, h, _ => by simp at h
  | _ :: _, k, hl, 0, φ, h, hm => by
    simp at h
    subst h
    exact hl.1 hm
  | _ :: l, k, hl, i + 1, φ, h, hm => LstS.get (k := k + 1) hl.2 i φ (by simpa using h) (by omega)
end Go.Proofs.YtbobhhnhlgdkiaaGreat
