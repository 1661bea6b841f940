/- A region that draws its order, whose operations may call functions that make memory: each operation by itself, out of what is known of the values that it reads; whatever the order is. -/
import Derived.StillTail
import Derived.KernelRfl
import Derived.Test.YtbobhhnhlgdkiaaGreatJ7
namespace Go.Proofs.YtbobhhnhlgdkiaaGreat.Kahn
open Go

section
variable {P : Program} {ops : Array Oper}

/-- With the operands ρ, in the world u, the operation yields a value, in a world, of which R holds. -/
def Goes (P : Program) (o : Oper) (ρ : Operand → Value) (u : World) (R : Value → World → Prop) : Prop :=
  match (execOp ρ o).run P u with
  | .ok (.value v) u' => R v u'
  | .ok .skip u' => R undef u'
  | .ok (.enter f args) u' => Calls P f args u' fun e u'' => ∃ v, e = .returned v ∧ R v u''
  | _ => False

theorem Goes.wp {o : Oper} {a : Act} {u : World} {R : Value → World → Prop} {K : Act → World → Prop} {Q : Exit → Act → World → Prop} (h : Goes P o a.eval u R) (hK : ∀ v u', R v u' → K (a.put o.dst v) u') : o.wp P a u K Q := by
  unfold Goes at h
  unfold Oper.wp
  generalize (execOp a.eval o).run P u = r at *
  cases r with
  | ok m u' =>
    cases m <;> simp only [Oper.upon] at h ⊢
    case value v => exact hK _ _ h
    case skip => exact hK _ _ h
    case enter f args =>
      refine Calls.mono h ?_
      rintro e u'' ⟨v, rfl, hv⟩
      exact hK _ _ hv
  | halt x u' => exact absurd h (by simp)

/-- How many of the first n operations have not come up. -/
def cnt (listed : Array Bool) : Nat → Nat
  | 0 => 0
  | n + 1 => cnt listed n + (if listed.getD n false then 0 else 1)
theorem cnt_set_ge {listed : Array Bool} {i : Nat} : ∀ n, n ≤ i → cnt (listed.setIfInBounds i true) n = cnt listed n
  | 0, _ => rfl
  | n + 1, h => by
    simp only [cnt]
    rw [cnt_set_ge n (by omega), getD_set_ne false (by omega)]
theorem cnt_set {listed : Array Bool} {i : Nat} (hu : listed.getD i false = false) (hs : i < listed.size) : ∀ n, i < n → cnt (listed.setIfInBounds i true) n + 1 = cnt listed n
  | 0, h => by omega
  | n + 1, h => by
    simp only [cnt]
    by_cases hin : i = n
    · subst hin
      rw [cnt_set_ge i (Nat.le_refl _), hu]
      have : (listed.setIfInBounds i true).getD i false = true := by simp [hs]
      rw [this]
      simp
    · have := cnt_set hu hs n (by omega)
      rw [getD_set_ne false hin]
      omega
theorem cnt_zero {listed : Array Bool} : ∀ n, cnt listed n = 0 → ∀ k, k < n → listed.getD k false = true
  | 0, _, k, hk => by omega
  | n + 1, h, k, hk => by
    simp only [cnt] at h
    by_cases hkn : k = n
    · subst hkn
      by_cases hl : listed.getD k false = true
      · exact hl
      · simp only [hl] at h; simp at h
    · exact cnt_zero n (by omega) k (by omega)
theorem cnt_pos {listed : Array Bool} : ∀ n, 0 < cnt listed n → ∃ k, k < n ∧ listed.getD k false = false ∧ ∀ j, j < k → listed.getD j false = true
  | 0, h => by simp [cnt] at h
  | n + 1, h => by
    by_cases h0 : 0 < cnt listed n
    · obtain ⟨k, h1, h2, h3⟩ := cnt_pos n h0
      exact ⟨k, by omega, h2, h3⟩
    · simp only [cnt] at h
      refine ⟨n, by omega, ?_, cnt_zero n (by omega)⟩
      cases hl : listed.getD n false with
      | false => rfl
      | true => simp [hl] at h; omega
theorem cnt_start (m : Nat) : ∀ n, cnt (Array.replicate m false) n = n
  | 0 => rfl
  | n + 1 => by simp only [cnt]; rw [cnt_start m n, getD_replicate_false]; simp

/-- The values of some operations, each laid into its slot. -/
def puts (vs : Nat → Value) : List Oper → Nat → Act → Act
  | [], _, a => a
  | o :: l, k, a => puts vs l (k + 1) (a.put o.dst (vs k))
theorem puts_defers (vs : Nat → Value) : ∀ (l : List Oper) (k : Nat) (a : Act), (puts vs l k a).defers = a.defers
  | [], _, _ => rfl
  | o :: l, k, a => by
    unfold puts
    rw [puts_defers vs l]
    cases h : o.dst <;> rfl
theorem put_size (a : Act) (d : Option Tmp) (v : Value) : (a.put d v).tmps.size = a.tmps.size := by
  cases d with
  | none => rfl
  | some d => simp [Act.put]
theorem puts_size (vs : Nat → Value) : ∀ (l : List Oper) (k : Nat) (a : Act), (puts vs l k a).tmps.size = a.tmps.size
  | [], _, _ => rfl
  | o :: l, k, a => by unfold puts; rw [puts_size vs l, put_size]
theorem put_get_ne (a : Act) {d : Option Tmp} {t : Tmp} (v : Value) (h : d ≠ some t) : (a.put d v).tmps.getD t undef = a.tmps.getD t undef := by
  cases d with
  | none => rfl
  | some d =>
    have : d ≠ t := fun e => h (by rw [e])
    simp [Act.put, Array.getElem?_setIfInBounds_ne this]
theorem put_get_eq (a : Act) {t : Tmp} (v : Value) (h : t < a.tmps.size) : (a.put (some t) v).tmps.getD t undef = v := by
  simp [Act.put, h]
theorem puts_other (vs : Nat → Value) {t : Tmp} : ∀ (l : List Oper) (k : Nat) (a : Act), (∀ o ∈ l, o.dst ≠ some t) → (puts vs l k a).tmps.getD t undef = a.tmps.getD t undef
  | [], _, _, _ => rfl
  | o :: l, k, a, h => by
    unfold puts
    rw [puts_other vs l _ _ (fun o' ho' => h o' (List.mem_cons_of_mem _ ho')), put_get_ne _ _ (h o (List.mem_cons_self ..))]
theorem puts_own (vs : Nat → Value) {d : Tmp} : ∀ (l : List Oper) (k : Nat) (a : Act) (i : Nat) (o : Oper), l[i]? = some o → o.dst = some d → d < a.tmps.size →
    (∀ j o', l[j]? = some o' → j ≠ i → o'.dst ≠ some d) → (puts vs l k a).tmps.getD d undef = vs (k + i)
  | [], _, _, i, o, h, _, _, _ => by simp at h
  | o' :: l, k, a, 0, o, h, hd, hs, hu => by
    simp at h
    subst h
    unfold puts
    rw [puts_other vs l _ _ (fun x hx => by
      obtain ⟨j, hj⟩ := List.getElem?_of_mem hx
      exact hu (j + 1) x (by simpa using hj) (by omega)), hd, put_get_eq _ _ hs, Nat.add_zero]
  | o' :: l, k, a, i + 1, o, h, hd, hs, hu => by
    unfold puts
    rw [puts_own vs l (k + 1) _ i o (by simpa using h) hd (by rw [put_size]; exact hs) (fun j x hj hji => hu (j + 1) x (by simpa using hj) (by omega))]
    congr 1
    omega
end
end Go.Proofs.YtbobhhnhlgdkiaaGreat.Kahn

/- The theorem over such a region. -/
namespace Go.Proofs.YtbobhhnhlgdkiaaGreat.Kahn
open Go

theorem Goes.pure {P : Program} {o : Oper} {ρ : Operand → Value} {u : World} {R : Value → World → Prop} (x : Value) (h : Goes P o ρ u fun v u' => v = x ∧ u' = u) (hR : R x u) : Goes P o ρ u R := by
  unfold Goes at *
  generalize (execOp ρ o).run P u = r at *
  cases r with
  | ok m u' =>
    cases m <;> simp only at h ⊢
    case value v => obtain ⟨rfl, rfl⟩ := h; exact hR
    case skip => obtain ⟨h1, rfl⟩ := h; rw [h1]; exact hR
    case enter f args =>
      refine Calls.mono h ?_
      rintro e u'' ⟨v, rfl, rfl, rfl⟩
      exact ⟨_, rfl, hR⟩
  | halt x u' => exact absurd h (by simp)
theorem Goes.call {P : Program} {o : Oper} {ρ : Operand → Value} {u : World} {R : Value → World → Prop} (f : FuncId) (args : Array Value) (h : (execOp ρ o).run P u = .ok (.enter f args) u) (hc : Calls P f args u fun e u'' => ∃ v, e = .returned v ∧ R v u'') : Goes P o ρ u R := by
  unfold Goes
  rw [h]
  exact hc
/-- What an operation reads: the operations that it waits for, with their slots; the slots that are still as they were. -/
abbrev Reads := List (Nat × Tmp) × List Tmp

/-- The Bool over a region: the first n operations have slots of their own; the table tells what each reads; the others come behind them, one after the other. -/
def tabB (ops : Array Oper) (n N0 : Nat) (tab : List Reads) : Bool :=
  (List.range n).all fun i => match ops[i]?, tab[i]? with
    | some o, some r =>
      (match o.dst with
        | some d => decide (d < N0) && (List.range n).all fun j => j == i || (match ops[j]? with | some oj => oj.dst != some d | none => true)
        | none => false) &&
      (r.1.all fun p => decide (p.1 < n) && Region.waitsFor .any ops i p.1 && (match ops[p.1]? with | some oj => oj.dst == some p.2 | none => false)) &&
      (r.2.all fun t => (List.range n).all fun j => match ops[j]? with | some oj => oj.dst != some t || Region.waitsFor .any ops j i | none => true) &&
      (match o.guard with
        | some (g, _) => decide (g < n) && Region.waitsFor .any ops i g
        | none => true) &&
      (o.after.all fun e => !Region.binds .any e || decide (e.on < i))
    | _, _ => false
def regionB (ops : Array Oper) (n N0 : Nat) (tab : List Reads) : Bool :=
  decide (n < ops.size) && Region.sinkB .any ops n && Region.chainB .any ops n && Region.seqB .any ops (ops.size - n) n (Array.replicate n true ++ Array.replicate (ops.size - n) false) && tabB ops n N0 tab

section
variable {P : Program} {ops : Array Oper} {C : World → Prop} {Gr : World → World → Prop} {Ψ : Nat → Value → World → Prop} {a0 : Act} {n N0 : Nat} {tab : List Reads}

/-- What is owed of operation i: that its guard lets it by, and that it goes; or that its guard does not. -/
structure Runs (P : Program) (C : World → Prop) (Gr : World → World → Prop) (Ψ : Nat → Value → World → Prop) (a0 : Act) (i : Nat) (o : Oper) (r : Reads) : Prop where
  guard : ∀ g b, o.guard = some (g, b) → ∀ v u, Ψ g v u → v = .bool b
  go : ∀ (ρ : Operand → Value) (u : World), C u → (∀ v, ρ (.const v) = v) → (∀ f, ρ (.func f) = .func (.func f) #[] #[]) → (∀ p ∈ r.1, Ψ p.1 (ρ (.tmp p.2)) u) → (∀ t ∈ r.2, ρ (.tmp t) = a0.eval (.tmp t)) →
    Goes P o ρ u fun v u' => C u' ∧ Gr u u' ∧ Ψ i v u'
def Skips (C : World → Prop) (Ψ : Nat → Value → World → Prop) (i : Nat) (o : Oper) : Prop :=
  ∃ g b, o.guard = some (g, b) ∧ (∀ v u, Ψ g v u → v ≠ .bool b) ∧ ∀ u, C u → Ψ i undef u
def Owed (P : Program) (C : World → Prop) (Gr : World → World → Prop) (Ψ : Nat → Value → World → Prop) (a0 : Act) (i : Nat) (o : Oper) (r : Reads) : Prop :=
  Runs P C Gr Ψ a0 i o r ∨ Skips C Ψ i o

structure Inv (ops : Array Oper) (C : World → Prop) (Ψ : Nat → Value → World → Prop) (a0 : Act) (n : Nat) (listed : Array Bool) (a : Act) (u : World) : Prop where
  defers : a.defers = a0.defers
  size : a.tmps.size = a0.tmps.size
  own : ∀ k o d, ops[k]? = some o → o.dst = some d → k < n → listed.getD k false = true → Ψ k (a.tmps.getD d undef) u
  other : ∀ t, (∀ k o, ops[k]? = some o → k < n → listed.getD k false = true → o.dst ≠ some t) → a.tmps.getD t undef = a0.tmps.getD t undef
  cls : C u

/-- The Bool, read. -/
structure Tab (ops : Array Oper) (n N0 : Nat) (i : Nat) (o : Oper) (r : Reads) : Prop where
  dst : ∃ d, o.dst = some d ∧ d < N0 ∧ ∀ j oj, j < n → j ≠ i → ops[j]? = some oj → oj.dst ≠ some d
  deps : ∀ p ∈ r.1, p.1 < n ∧ (∃ e ∈ o.after, Region.binds .any e = true ∧ e.on = p.1) ∧ ∃ oj, ops[p.1]? = some oj ∧ oj.dst = some p.2
  orig : ∀ t ∈ r.2, ∀ j oj, j < n → ops[j]? = some oj → oj.dst = some t → ∃ e ∈ oj.after, Region.binds .any e = true ∧ e.on = i
  guard : ∀ g b, o.guard = some (g, b) → g < n ∧ ∃ e ∈ o.after, Region.binds .any e = true ∧ e.on = g
  lex : ∀ e ∈ o.after, Region.binds .any e = true → e.on < i

theorem waits_of {i j : Nat} {o : Oper} (ho : ops[i]? = some o) (h : Region.waitsFor .any ops i j = true) : ∃ e ∈ o.after, Region.binds .any e = true ∧ e.on = j := by
  obtain ⟨oj, hoj, e, he, hb, hon⟩ := Region.waitsFor_spec h
  rw [ho] at hoj
  cases hoj
  exact ⟨e, he, hb, hon⟩

theorem tab_spec (h : tabB ops n N0 tab = true) {i : Nat} (hi : i < n) : ∃ o r, ops[i]? = some o ∧ tab[i]? = some r ∧ Tab ops n N0 i o r := by
  have h1 := List.all_eq_true.1 h i (List.mem_range.2 hi)
  cases ho : ops[i]? with
  | none => simp [ho] at h1
  | some o =>
    cases hr : tab[i]? with
    | none => simp [ho, hr] at h1
    | some r =>
      simp only [ho, hr, Bool.and_eq_true] at h1
      obtain ⟨⟨⟨⟨h1, h2⟩, h3⟩, h4⟩, h5⟩ := h1
      refine ⟨o, r, rfl, rfl, ?_, ?_, ?_, ?_, ?_⟩
      · cases hd : o.dst with
        | none => simp [hd] at h1
        | some d =>
          simp only [hd, Bool.and_eq_true, decide_eq_true_eq] at h1
          refine ⟨d, rfl, h1.1, fun j oj hj hji hoj he => ?_⟩
          have := List.all_eq_true.1 h1.2 j (List.mem_range.2 hj)
          simp [hoj, he, hji] at this
      · intro p hp
        have := List.all_eq_true.1 h2 p hp
        simp only [Bool.and_eq_true, decide_eq_true_eq] at this
        obtain ⟨⟨k1, k2⟩, k3⟩ := this
        refine ⟨k1, waits_of ho k2, ?_⟩
        cases hoj : ops[p.1]? with
        | none => simp [hoj] at k3
        | some oj => exact ⟨oj, rfl, by simpa [hoj] using k3⟩
      · intro t ht j oj hj hoj hd
        have := List.all_eq_true.1 (List.all_eq_true.1 h3 t ht) j (List.mem_range.2 hj)
        simp only [hoj, hd, Bool.or_eq_true] at this
        rcases this with k | k
        · simp at k
        · exact waits_of hoj k
      · intro g b hg
        simp only [hg, Bool.and_eq_true, decide_eq_true_eq] at h4
        exact ⟨h4.1, waits_of ho h4.2⟩
      · intro e he hb
        have := Array.all_eq_true'.1 h5 e he
        simpa [hb] using this

theorem getD_some {a : Act} {d : Tmp} (h : d < a.tmps.size) : a.tmps[d]? = some (a.tmps.getD d undef) := by simp [h]

theorem Inv.set {listed : Array Bool} {a : Act} {u u' : World} {i : Nat} {o : Oper} {r : Reads} {v : Value} (inv : Inv ops C Ψ a0 n listed a u) (hN : a0.tmps.size = N0) (ho : ops[i]? = some o) (tb : Tab ops n N0 i o r) (hin : i < n) (hls : i < listed.size)
    (hst : ∀ k v, Ψ k v u → Ψ k v u') (hc : C u') (hv : Ψ i v u') : Inv ops C Ψ a0 n (listed.setIfInBounds i true) (a.put o.dst v) u' := by
  obtain ⟨d, hd, hdl, hdist⟩ := tb.dst
  refine ⟨?_, by rw [put_size]; exact inv.size, ?_, ?_, hc⟩
  · rw [hd]; exact inv.defers
  · intro k ok dk hok hdk hk hl
    by_cases hki : k = i
    · subst hki
      rw [ho] at hok
      cases hok
      rw [hd] at hdk
      cases hdk
      rw [hd, put_get_eq _ _ (by rw [inv.size, hN]; exact hdl)]
      exact hv
    · rw [getD_set_ne false (Ne.symm hki)] at hl
      have hne : o.dst ≠ some dk := by
        rw [hd]
        intro he
        cases he
        exact hdist k ok hk hki hok hdk
      rw [put_get_ne _ _ hne]
      exact hst k _ (inv.own k ok dk hok hdk hk hl)
  · intro t ht
    have hti : o.dst ≠ some t := ht i o ho hin (by simp [hls])
    rw [put_get_ne _ _ hti]
    exact inv.other t fun k ok hok hk hl => ht k ok hok hk (getD_set_true hl)

theorem kahn_go {Q : Exit → Act → World → Prop} (hs : Region.sinkB .any ops n = true) (hc : Region.chainB .any ops n = true) (hn : n < ops.size) (hN : a0.tmps.size = N0) (htab : tabB ops n N0 tab = true)
    (hst : ∀ k v u u', C u → Gr u u' → Ψ k v u → Ψ k v u') (howed : ∀ i o r, i < n → ops[i]? = some o → tab[i]? = some r → Owed P C Gr Ψ a0 i o r) (g : Nat)
    (hfin : ∀ listed a u, HeadInv .any ops n listed → (∀ k, k < n → listed.getD k false = true) → Inv ops C Ψ a0 n listed a u → wpAny P .any ops Q g listed a u) :
    ∀ (f : Nat) (listed : Array Bool) (a : Act) (u : World), cnt listed n = f → HeadInv .any ops n listed → Inv ops C Ψ a0 n listed a u → wpAny P .any ops Q (f + g) listed a u := by
  intro f
  induction f with
  | zero =>
    intro listed a u hf hh inv
    rw [Nat.zero_add]
    exact hfin listed a u hh (cnt_zero n hf) inv
  | succ f ih =>
    intro listed a u hf hh inv
    rw [show f + 1 + g = (f + g) + 1 from by omega]
    obtain ⟨k, hkn, hku, hkl⟩ := cnt_pos n (show 0 < cnt listed n by omega)
    have hrk : k ∈ Region.ready .any ops listed := by
      obtain ⟨o, r, ho, _, tb⟩ := tab_spec htab hkn
      rw [mem_ready]
      exact ⟨getD_in (by rw [hh.size]; omega) hku, o, ho, fun e he hb => hkl _ (tb.lex e he hb)⟩
    refine ⟨fun h0 => (by rw [h0] at hrk; cases hrk), fun i hi => ?_⟩
    have hin : i < n := by
      rcases Nat.lt_or_ge i n with h | h
      · exact h
      · exact absurd hi (tail_waits hs hc hn hh _ k rfl hkn (getD_in (by rw [hh.size]; omega) hku) i h)
    obtain ⟨o, r, ho, hr, tb⟩ := tab_spec htab hin
    obtain ⟨hiu, o', ho', hall⟩ := mem_ready.1 hi
    rw [ho] at ho'
    cases ho'
    have hls : i < listed.size := by rw [hh.size]; omega
    have hcnt := cnt_set (getD_both hiu) hls n hin
    have next : ∀ v u', C u' → (∀ k v, Ψ k v u → Ψ k v u') → Ψ i v u' → wpAny P .any ops Q (f + g) (listed.setIfInBounds i true) (a.put o.dst v) u' := fun v u' h1 h2 h3 =>
      ih _ _ _ (by omega) (hh.set hi hin) (inv.set hN ho tb hin hls h2 h1 h3)
    have gval : ∀ gi b, o.guard = some (gi, b) → ∃ og d, ops[gi]? = some og ∧ og.dst = some d ∧ d < a.tmps.size ∧ Ψ gi (a.tmps.getD d undef) u := by
      intro gi b hg
      obtain ⟨h1, e, he, hb, hon⟩ := tb.guard gi b hg
      obtain ⟨og, _, hog, _, tg⟩ := tab_spec htab h1
      obtain ⟨d, hd, hdl, _⟩ := tg.dst
      have hl := hall e he hb
      rw [hon] at hl
      exact ⟨og, d, hog, hd, by rw [inv.size, hN]; exact hdl, inv.own gi og d hog hd h1 hl⟩
    unfold wpOp
    simp only [ho]
    rcases howed i o r hin ho hr with hrun | ⟨gi, b, hg, hnot, hund⟩
    · have hw : Region.wanted o (yielded ops a.tmps) = true := by
        unfold Region.wanted
        cases hg : o.guard with
        | none => rfl
        | some p =>
          obtain ⟨gi, b⟩ := p
          obtain ⟨og, d, hog, hd, hdl, hΨ⟩ := gval gi b hg
          have hv := hrun.guard gi b hg _ _ hΨ
          have : yielded ops a.tmps gi = some b := by
            unfold yielded
            simp only [hog, Option.bind_some, hd]
            rw [getD_some hdl, hv]
          simp [this]
      rw [if_pos hw]
      refine .inl (Goes.wp (hrun.go a.eval u inv.cls (fun _ => rfl) (fun _ => rfl) ?_ ?_) fun v u' ⟨h1, h2, h3⟩ => next v u' h1 (fun k v hk => hst k v u u' inv.cls h2 hk) h3)
      · intro p hp
        obtain ⟨h1, ⟨e, he, hb, hon⟩, oj, hoj, hd⟩ := tb.deps p hp
        have hl := hall e he hb
        rw [hon] at hl
        exact inv.own p.1 oj p.2 hoj hd h1 hl
      · intro t ht
        show a.tmps.getD t undef = a0.tmps.getD t undef
        refine inv.other t fun j oj hoj hj hl hd => ?_
        obtain ⟨e, he, hb, hon⟩ := tb.orig t ht j oj hj hoj hd
        have := hh.closed j oj hoj hl e he hb
        rw [hon, getD_both hiu] at this
        cases this
    · have hw : Region.wanted o (yielded ops a.tmps) = false := by
        unfold Region.wanted
        obtain ⟨og, d, hog, hd, hdl, hΨ⟩ := gval gi b hg
        have hv := hnot _ _ hΨ
        have : yielded ops a.tmps gi ≠ some b := by
          unfold yielded
          simp only [hog, Option.bind_some, hd]
          rw [getD_some hdl]
          generalize a.tmps.getD d undef = x at *
          cases x <;> simp_all
        simp [hg, this]
      rw [hw]
      exact next undef u inv.cls (fun _ _ h => h) (hund u inv.cls)

theorem puts_is {l : List Oper} {listed : Array Bool} {a : Act} {u : World} (hl : ops = l.toArray) (hN : a0.tmps.size = N0) (htab : tabB ops n N0 tab = true) (hn : n < ops.size) (hall : ∀ k, k < n → listed.getD k false = true) (inv : Inv ops C Ψ a0 n listed a u) :
    ∃ vs : Nat → Value, a = puts vs (l.take n) 0 a0 ∧ ∀ k, k < n → Ψ k (vs k) u := by
  subst hl
  have hln : n < l.length := by simpa using hn
  have hget : ∀ k, k < n → (l.take n)[k]? = l.toArray[k]? := fun k hk => by simp [hk]
  refine ⟨fun k => match l.toArray[k]? with | some o => (match o.dst with | some d => a.tmps.getD d undef | none => undef) | none => undef, ?_, ?_⟩
  · have hsz : a.tmps.size = (puts (fun k => match l.toArray[k]? with | some o => (match o.dst with | some d => a.tmps.getD d undef | none => undef) | none => undef) (l.take n) 0 a0).tmps.size := by
      rw [puts_size]; exact inv.size
    have ht : a.tmps = (puts (fun k => match l.toArray[k]? with | some o => (match o.dst with | some d => a.tmps.getD d undef | none => undef) | none => undef) (l.take n) 0 a0).tmps := by
      apply Array.ext hsz
      intro t h1 h2
      have e1 : a.tmps[t] = a.tmps.getD t undef := by simp [h1]
      have e2 : ∀ b : Act, ∀ h : t < b.tmps.size, b.tmps[t] = b.tmps.getD t undef := fun b h => by simp [h]
      rw [e1, e2 _ h2]
      by_cases hex : ∃ k o, k < n ∧ l.toArray[k]? = some o ∧ o.dst = some t
      · obtain ⟨k, o, hk, ho, hd⟩ := hex
        obtain ⟨o', _, ho', _, tb⟩ := tab_spec htab hk
        rw [ho] at ho'
        cases ho'
        obtain ⟨d, hd', hdl, hdist⟩ := tb.dst
        rw [hd] at hd'
        cases hd'
        rw [puts_own _ (l.take n) 0 a0 k o (by rw [hget k hk]; exact ho) hd (by rw [hN]; exact hdl) (fun j oj hj hjk => by
          have hjn : j < n := by
            by_cases h : j < n
            · exact h
            · rw [List.getElem?_eq_none (by simp; omega)] at hj; cases hj
          exact hdist j oj hjn hjk (by rw [← hget j hjn]; exact hj))]
        rw [Nat.zero_add, ho]
        simp only [hd]
      · rw [puts_other _ (l.take n) 0 a0 (fun o ho hd => hex (by
          obtain ⟨k, hk⟩ := List.getElem?_of_mem ho
          have hkn : k < n := by
            by_cases h : k < n
            · exact h
            · rw [List.getElem?_eq_none (by simp; omega)] at hk; cases hk
          exact ⟨k, o, hkn, by rw [← hget k hkn]; exact hk, hd⟩))]
        exact inv.other t fun k o ho hk _ hd => hex ⟨k, o, hk, ho, hd⟩
    have hdf := inv.defers
    rw [← puts_defers (fun k => match l.toArray[k]? with | some o => (match o.dst with | some d => a.tmps.getD d undef | none => undef) | none => undef) (l.take n) 0 a0] at hdf
    generalize puts _ (l.take n) 0 a0 = b at ht hdf
    cases a
    cases b
    simp_all
  · intro k hk
    obtain ⟨o, _, ho, _, tb⟩ := tab_spec htab hk
    obtain ⟨d, hd, _, _⟩ := tb.dst
    simp only [ho, hd]
    exact inv.own k o d ho hd hk (hall k hk)

/-- All that is owed, one by one. -/
def AllOwed (P : Program) (C : World → Prop) (Gr : World → World → Prop) (Ψ : Nat → Value → World → Prop) (a0 : Act) : Nat → List Oper → List Reads → Prop
  | k, o :: l, r :: t => Owed P C Gr Ψ a0 k o r ∧ AllOwed P C Gr Ψ a0 (k + 1) l t
  | _, _, _ => True
theorem AllOwed.get {P : Program} {C : World → Prop} {Gr : World → World → Prop} {Ψ : Nat → Value → World → Prop} {a0 : Act} : ∀ (l : List Oper) (t : List Reads) (k i : Nat) (o : Oper) (r : Reads), AllOwed P C Gr Ψ a0 k l t → l[i]? = some o → t[i]? = some r → Owed P C Gr Ψ a0 (k + i) o r
  | [], _, _, i, _, _, _, ho, _ => by simp at ho
  | _ :: _, [], _, i, _, _, _, _, hr => by simp at hr
  | o' :: l, r' :: t, k, 0, o, r, h, ho, hr => by
    simp at ho hr
    subst ho hr
    exact h.1
  | o' :: l, r' :: t, k, i + 1, o, r, h, ho, hr => by
    have := AllOwed.get l t (k + 1) i o r h.2 (by simpa using ho) (by simpa using hr)
    rwa [show k + 1 + i = k + (i + 1) from by omega] at this

/-- **Each operation by itself.** -/
theorem wp_region_kahn {id : Nat} {Q : Exit → Act → World → Prop} {w : World} {l : List Oper} (n N0 : Nat) (tab : List Reads) (C : World → Prop) (Gr : World → World → Prop) (Ψ : Nat → Value → World → Prop)
    (hm : P.follows .mixedOrders = true) (hN : a0.tmps.size = N0) (hB : regionB l.toArray n N0 tab = true) (hC : C { w with drawn := w.drawn + 1 })
    (hst : ∀ k v u u', C u → Gr u u' → Ψ k v u → Ψ k v u') (howed : AllOwed P C Gr Ψ a0 0 l tab)
    (hfin : ∀ (vs : Nat → Value) (u : World), C u → (∀ k, k < n → Ψ k (vs k) u) → wpList P l.toArray Q (l.drop n) (puts vs (l.take n) 0 a0) u) : (Code.region id l.toArray true).wp P Q a0 w := by
  simp only [regionB, Bool.and_eq_true, decide_eq_true_eq] at hB
  obtain ⟨⟨⟨⟨hn, hs⟩, hc⟩, hseq⟩, htab⟩ := hB
  have hln : n < l.length := by simpa using hn
  have hdl : (l.drop n).length = l.toArray.size - n := by simp
  have inv0 : HeadInv .any l.toArray n (Array.replicate l.toArray.size false) :=
    ⟨by simp, fun j oj _ hl => (by rw [getD_replicate_false] at hl; cases hl), fun t _ ht => getD_in (by simpa using ht) (getD_replicate_false _ _)⟩
  have i0 : Inv l.toArray C Ψ a0 n (Array.replicate l.toArray.size false) a0 { w with drawn := w.drawn + 1 } :=
    ⟨rfl, rfl, fun k o d _ _ _ hl => (by rw [getD_replicate_false] at hl; cases hl), fun t _ => rfl, hC⟩
  refine wp_region_any hm ?_
  have H := kahn_go (P := P) (Q := Q) (Gr := Gr) hs hc hn hN htab hst (fun i o r hi ho hr => by have := AllOwed.get l tab 0 i o r howed (by simpa using ho) hr; rwa [Nat.zero_add] at this) (l.toArray.size - n) (fun listed a u hh hall inv => by
    obtain ⟨vs, ha, hvs⟩ := puts_is rfl hN htab hn hall inv
    have hlist : listed = Array.replicate n true ++ Array.replicate (l.toArray.size - n) false := by
      apply Array.ext
      · rw [hh.size]; simp; omega
      · intro t h1 h2
        have e1 : listed[t] = listed.getD t false := by simp [h1]
        have e3 : listed[t] = listed.getD t true := by simp [h1]
        by_cases htn : t < n
        · rw [e1, hall t htn]
          simp [htn]
        · rw [e3, hh.tail t (by omega) (by rw [← hh.size]; exact h1)]
          simp [Array.getElem_append, htn]
    have := wpAny_of_seq (P := P) (ops := l.toArray) (md := .any) (Q' := Q) (l.drop n) n listed a u (fun j => by simp [List.getElem?_drop]) (by rw [hdl, hlist]; exact hseq) (by rw [ha]; exact hfin vs u inv.cls hvs)
    rwa [hdl] at this) n (Array.replicate l.toArray.size false) a0 { w with drawn := w.drawn + 1 } (cnt_start _ n) inv0 i0
  rw [show n + (l.toArray.size - n) = l.toArray.size from by omega] at H
  exact H
end
end Go.Proofs.YtbobhhnhlgdkiaaGreat.Kahn

/- What is known of a value, as far as it lasts. -/
namespace Go.Proofs.YtbobhhnhlgdkiaaGreat
open Go.RowKit M Kahn
set_option maxRecDepth 100000

/-- Just this value. -/
def VV (x : Value) : Value → World → Prop := fun v _ => v = x
/-- A row of limbs of A. -/
def VN (A K : Nat) : Value → World → Prop := fun v u => ∃ ao n c, v = .slice ao n c ∧ Sl u.heap.size u ao n c (toL A) ∧ n ≤ K
/-- A Rat that is read as q. -/
def VR (q : Rat) (K : Nat) : Value → World → Prop := fun v u => ∃ s no nn nc eo en ec, v = .agg #[.bool s, .slice no nn nc, .slice eo en ec] ∧ Qn u s no nn nc eo en ec q K
/-- The canonical Rat of q. -/
def VC (q : Rat) (K : Nat) : Value → World → Prop := fun v u => ∃ s no nn nc eo en ec, v = .agg #[.bool s, .slice no nn nc, .slice eo en ec] ∧ Cq u s no nn nc eo en ec q K

/-- A bool that tells whether A. -/
def VB (A : Prop) : Value → World → Prop := fun v _ => ∃ r : Bool, v = .bool r ∧ Hid (r = true ↔ A)

/-- It lasts. -/
def Lasts (φ : Value → World → Prop) : Prop := ∀ v u u', Below u.heap.size u u' → φ v u → φ v u'
theorem VV.lasts (x : Value) : Lasts (VV x) := fun _ _ _ _ h => h
theorem VB.lasts (A : Prop) : Lasts (VB A) := fun _ _ _ _ h => h
theorem VN.lasts (A K : Nat) : Lasts (VN A K) := fun _ _ _ hb ⟨ao, n, c, h1, h2, h3⟩ => ⟨ao, n, c, h1, h2.later hb, h3⟩
theorem VR.lasts (q : Rat) (K : Nat) : Lasts (VR q K) := fun _ _ _ hb ⟨s, no, nn, nc, eo, en, ec, h1, h2⟩ => ⟨s, no, nn, nc, eo, en, ec, h1, h2.later hb⟩
theorem VC.lasts (q : Rat) (K : Nat) : Lasts (VC q K) := fun _ _ _ hb ⟨s, no, nn, nc, eo, en, ec, h1, h2⟩ => ⟨s, no, nn, nc, eo, en, ec, h1, h2.later hb⟩
theorem VC.read {q : Rat} {K : Nat} {v : Value} {u : World} (h : VC q K v u) : VR q K v u := by
  obtain ⟨s, no, nn, nc, eo, en, ec, h1, h2⟩ := h
  exact ⟨s, no, nn, nc, eo, en, ec, h1, h2.rd⟩

/-- A list of such, by number. -/
def Sp (l : List (Value → World → Prop)) : Nat → Value → World → Prop := fun k => l.getD k fun _ _ => True
def Lst : List (Value → World → Prop) → Prop
  | [] => True
  | φ :: l => Lasts φ ∧ Lst l
theorem Lst.mem : ∀ {l : List (Value → World → Prop)}, Lst l → ∀ φ ∈ l, Lasts φ
  | [], _, φ, h => by cases h
  | ψ :: l, hl, φ, h => by
    rcases List.mem_cons.1 h with rfl | h
    · exact hl.1
    · exact hl.2.mem φ h
theorem Sp.lasts {l : List (Value → World → Prop)} (hl : Lst l) : ∀ k v u u', Below u.heap.size u u' → Sp l k v u → Sp l k v u' := by
  have h := hl.mem
  intro k v u u' hb hs
  unfold Sp at *
  rw [List.getD_eq_getElem?_getD] at *
  cases hk : l[k]? with
  | none => trivial
  | some φ =>
    rw [hk] at hs
    exact h φ (List.mem_of_getElem? hk) v u u' hb hs
end Go.Proofs.YtbobhhnhlgdkiaaGreat
