/- A region that draws its order, calls functions that make memory, and stores into a block that it made: each operation by itself. -/
import Derived.Test.YtmbemidacilakaaA8
import Derived.Test.YtmbemidacilakaaBT8
namespace Go.Proofs.Ytmbemidacilakaa.Kahn
open Go

/-- The slot that an operation's word is about: its own one; of a store, the first one that it reads. -/
def slotOf (o : Oper) (r : Reads) : Option Tmp := match o.dst with
  | some d => some d
  | none => r.1.head?.map (·.2)
def wordOf (o : Oper) (r : Reads) (ρ : Operand → Value) (v : Value) : Value := match o.dst with
  | some _ => v
  | none => match r.1 with
    | p :: _ => ρ (.tmp p.2)
    | [] => v
/-- Of a store: the operation that made the slot. -/
def wordDep (ops : Array Oper) (tab : List Reads) (k : Nat) : Option Nat := match ops[k]?, tab[k]? with
  | some o, some r => (match o.dst with
    | some _ => none
    | none => r.1.head?.map (·.1))
  | _, _ => none

def tabS (ops : Array Oper) (n N0 : Nat) (tab : List Reads) : Bool :=
  (List.range n).all fun i => match ops[i]?, tab[i]? with
    | some o, some r =>
      (match o.dst with
        | some d => decide (d < N0) && (List.range n).all fun j => j == i || (match ops[j]? with | some oj => oj.dst != some d | none => true)
        | none => !r.1.isEmpty) &&
      (r.1.all fun p => decide (p.1 < n) && Region.waitsFor .any ops i p.1 && (match ops[p.1]? with | some oj => oj.dst == some p.2 | none => false)) &&
      (r.2.all fun t => (List.range n).all fun j => match ops[j]? with | some oj => oj.dst != some t || Region.waitsFor .any ops j i | none => true) &&
      (match o.guard with
        | some (g, _) => decide (g < n) && Region.waitsFor .any ops i g && (match ops[g]? with | some og => og.dst.isSome | none => false)
        | none => true) &&
      (o.after.all fun e => !Region.binds .any e || decide (e.on < i))
    | _, _ => false
def regionS (ops : Array Oper) (n N0 : Nat) (tab : List Reads) : Bool :=
  decide (n < ops.size) && Region.sinkB .any ops n && Region.chainB .any ops n && Region.seqB .any ops (ops.size - n) n (Array.replicate n true ++ Array.replicate (ops.size - n) false) && tabS ops n N0 tab

section
variable {P : Program} {ops : Array Oper} {C : World → Prop} {Gr : Nat → World → World → Prop} {Ψ : Nat → Value → World → Prop} {a0 : Act} {n N0 : Nat} {tab : List Reads}

structure RunsS (P : Program) (C : World → Prop) (Gr : Nat → World → World → Prop) (Ψ : Nat → Value → World → Prop) (a0 : Act) (i : Nat) (o : Oper) (r : Reads) : Prop where
  guard : ∀ g b, o.guard = some (g, b) → ∀ v u, Ψ g v u → v = .bool b
  go : ∀ (ρ : Operand → Value) (u : World), C u → (∀ v, ρ (.const v) = v) → (∀ f, ρ (.func f) = .func (.func f) #[] #[]) → (∀ p ∈ r.1, Ψ p.1 (ρ (.tmp p.2)) u) → (∀ t ∈ r.2, ρ (.tmp t) = a0.eval (.tmp t)) →
    Goes P o ρ u fun v u' => C u' ∧ Gr i u u' ∧ Ψ i (wordOf o r ρ v) u'
def OwedS (P : Program) (C : World → Prop) (Gr : Nat → World → World → Prop) (Ψ : Nat → Value → World → Prop) (a0 : Act) (i : Nat) (o : Oper) (r : Reads) : Prop :=
  RunsS P C Gr Ψ a0 i o r ∨ (Skips C Ψ i o ∧ o.dst ≠ none)

structure InvS (ops : Array Oper) (tab : List Reads) (C : World → Prop) (Ψ : Nat → Value → World → Prop) (a0 : Act) (n : Nat) (listed : Array Bool) (a : Act) (u : World) : Prop where
  defers : a.defers = a0.defers
  size : a.tmps.size = a0.tmps.size
  own : ∀ k o r t, ops[k]? = some o → tab[k]? = some r → slotOf o r = some t → k < n → listed.getD k false = true → Ψ k (a.tmps.getD t undef) u
  other : ∀ t, (∀ k o, ops[k]? = some o → k < n → listed.getD k false = true → o.dst ≠ some t) → a.tmps.getD t undef = a0.tmps.getD t undef
  cls : C u

structure TabS (ops : Array Oper) (n N0 : Nat) (i : Nat) (o : Oper) (r : Reads) : Prop where
  dst : ∀ d, o.dst = some d → d < N0 ∧ ∀ j oj, j < n → j ≠ i → ops[j]? = some oj → oj.dst ≠ some d
  word : o.dst = none → ∃ p l, r.1 = p :: l
  deps : ∀ p ∈ r.1, p.1 < n ∧ (∃ e ∈ o.after, Region.binds .any e = true ∧ e.on = p.1) ∧ ∃ oj, ops[p.1]? = some oj ∧ oj.dst = some p.2
  orig : ∀ t ∈ r.2, ∀ j oj, j < n → ops[j]? = some oj → oj.dst = some t → ∃ e ∈ oj.after, Region.binds .any e = true ∧ e.on = i
  guard : ∀ g b, o.guard = some (g, b) → g < n ∧ (∃ e ∈ o.after, Region.binds .any e = true ∧ e.on = g) ∧ ∃ og d, ops[g]? = some og ∧ og.dst = some d
  lex : ∀ e ∈ o.after, Region.binds .any e = true → e.on < i

theorem tabS_spec (h : tabS ops n N0 tab = true) {i : Nat} (hi : i < n) : ∃ o r, ops[i]? = some o ∧ tab[i]? = some r ∧ TabS ops n N0 i o r := by
  have h1 := List.all_eq_true.1 h i (List.mem_range.2 hi)
  cases ho : ops[i]? with
  | none => simp [ho] at h1
  | some o =>
    cases hr : tab[i]? with
    | none => simp [ho, hr] at h1
    | some r =>
      simp only [ho, hr, Bool.and_eq_true] at h1
      obtain ⟨⟨⟨⟨h1, h2⟩, h3⟩, h4⟩, h5⟩ := h1
      refine ⟨o, r, rfl, rfl, ?_, ?_, ?_, ?_, ?_, ?_⟩
      · intro d hd
        simp only [hd, Bool.and_eq_true, decide_eq_true_eq] at h1
        refine ⟨h1.1, fun j oj hj hji hoj he => ?_⟩
        have := List.all_eq_true.1 h1.2 j (List.mem_range.2 hj)
        simp [hoj, he, hji] at this
      · intro hd
        simp only [hd] at h1
        cases hr1 : r.1 with
        | nil => simp [hr1] at h1
        | cons p l => exact ⟨p, l, rfl⟩
      · intro p hp
        have := List.all_eq_true.1 h2 p hp
        simp only [Bool.and_eq_true, decide_eq_true_eq] at this
        obtain ⟨⟨k1, k2⟩, k3⟩ := this
        refine ⟨k1, waits_of ho k2, ?_⟩
        cases hoj : ops[p.1]? with
        | none => simp [hoj] at k3
        | some oj => exact ⟨oj, rfl, by simpa [hoj] using k3⟩
      · intro t ht j oj hj hoj hd
        have := List.all_eq_true.1 (List.all_eq_true.1 h3 t ht) j (List.mem_range.2 hj)
        simp only [hoj, hd, Bool.or_eq_true] at this
        rcases this with k | k
        · simp at k
        · exact waits_of hoj k
      · intro g b hg
        simp only [hg, Bool.and_eq_true, decide_eq_true_eq] at h4
        refine ⟨h4.1.1, waits_of ho h4.1.2, ?_⟩
        cases hog : ops[g]? with
        | none => simp [hog] at h4
        | some og =>
          cases hd : og.dst with
          | none => simp [hog, hd] at h4
          | some d => exact ⟨og, d, rfl, hd⟩
      · intro e he hb
        have := Array.all_eq_true'.1 h5 e he
        simpa [hb] using this

/-- The slot of a listed operation is not turned by one that is not. -/
theorem slot_apart {listed : Array Bool} {i k : Nat} {o ok : Oper} {r rk : Reads} {t d : Tmp} (hh : HeadInv .any ops n listed) (tb : TabS ops n N0 i o r) (hiu : listed.getD i false = false) (hd : o.dst = some d)
    (hok : ops[k]? = some ok) (tk : TabS ops n N0 k ok rk) (hk : k < n) (hki : k ≠ i) (hl : listed.getD k false = true) (hs : slotOf ok rk = some t) : d ≠ t := by
  intro he
  subst he
  obtain ⟨_, hdist⟩ := tb.dst d hd
  unfold slotOf at hs
  cases hdk : ok.dst with
  | some dk =>
    simp only [hdk, Option.some.injEq] at hs
    exact hdist k ok hk hki hok (by rw [hdk, hs])
  | none =>
    simp only [hdk] at hs
    obtain ⟨p, l, hr⟩ := tk.word hdk
    simp only [hr, List.head?_cons, Option.map_some, Option.some.injEq] at hs
    obtain ⟨hp1, ⟨e, he, hb, hon⟩, oj, hoj, hdj⟩ := tk.deps p (by rw [hr]; exact List.mem_cons_self ..)
    have hpi : p.1 = i := by
      by_cases h : p.1 = i
      · exact h
      · exact absurd (by rw [hdj, hs]) (hdist p.1 oj hp1 h hoj)
    have := hh.closed k ok hok hl e he hb
    rw [hon, hpi, hiu] at this
    cases this

theorem InvS.set {listed : Array Bool} {a : Act} {u u' : World} {i : Nat} {o : Oper} {r : Reads} {v : Value} (inv : InvS ops tab C Ψ a0 n listed a u) (hh : HeadInv .any ops n listed) (htab : tabS ops n N0 tab = true) (hN : a0.tmps.size = N0) (ho : ops[i]? = some o) (hr : tab[i]? = some r) (tb : TabS ops n N0 i o r) (hin : i < n) (hls : i < listed.size) (hiu : listed.getD i false = false)
    (hst : ∀ k v, k ≠ i → Ψ k v u → Ψ k v u') (hc : C u') (hv : Ψ i (wordOf o r a.eval v) u') : InvS ops tab C Ψ a0 n (listed.setIfInBounds i true) (a.put o.dst v) u' := by
  refine ⟨?_, by rw [put_size]; exact inv.size, ?_, ?_, hc⟩
  · cases hd : o.dst with
    | none => exact inv.defers
    | some d => exact inv.defers
  · intro k ok rk t hok hrk hs hk hl
    by_cases hki : k = i
    · subst hki
      rw [ho] at hok
      cases hok
      rw [hr] at hrk
      cases hrk
      unfold slotOf at hs
      unfold wordOf at hv
      cases hd : o.dst with
      | some d =>
        simp only [hd, Option.some.injEq] at hs hv
        subst hs
        rw [put_get_eq _ _ (by rw [inv.size, hN]; exact (tb.dst _ hd).1)]
        exact hv
      | none =>
        obtain ⟨p, l, hr1⟩ := tb.word hd
        simp only [hd, hr1, List.head?_cons, Option.map_some, Option.some.injEq] at hs hv
        subst hs
        exact hv
    · rw [getD_set_ne false (Ne.symm hki)] at hl
      obtain ⟨ok', rk', hok', hrk', tk⟩ := tabS_spec htab hk
      rw [hok] at hok'
      cases hok'
      rw [hrk] at hrk'
      cases hrk'
      have hne : o.dst ≠ some t := fun hd => slot_apart hh tb hiu hd hok tk hk hki hl hs rfl
      rw [put_get_ne _ _ hne]
      exact hst k _ hki (inv.own k ok rk t hok hrk hs hk hl)
  · intro t ht
    have hti : o.dst ≠ some t := ht i o ho hin (by simp [hls])
    rw [put_get_ne _ _ hti]
    exact inv.other t fun k ok hok hk hl => ht k ok hok hk (getD_set_true hl)

theorem kahnS_go {Q : Exit → Act → World → Prop} (hs : Region.sinkB .any ops n = true) (hc : Region.chainB .any ops n = true) (hn : n < ops.size) (hN : a0.tmps.size = N0) (htab : tabS ops n N0 tab = true)
    (hst : ∀ i k v u u', k ≠ i → C u → Gr i u u' → Ψ k v u → Ψ k v u') (hund : ∀ i k v u, k ≠ i → C u → Ψ k v u → Ψ k v u) (howed : ∀ i o r, i < n → ops[i]? = some o → tab[i]? = some r → OwedS P C Gr Ψ a0 i o r) (g : Nat)
    (hfin : ∀ listed a u, HeadInv .any ops n listed → (∀ k, k < n → listed.getD k false = true) → InvS ops tab C Ψ a0 n listed a u → wpAny P .any ops Q g listed a u) :
    ∀ (f : Nat) (listed : Array Bool) (a : Act) (u : World), cnt listed n = f → HeadInv .any ops n listed → InvS ops tab C Ψ a0 n listed a u → wpAny P .any ops Q (f + g) listed a u := by
  intro f
  induction f with
  | zero =>
    intro listed a u hf hh inv
    rw [Nat.zero_add]
    exact hfin listed a u hh (cnt_zero n hf) inv
  | succ f ih =>
    intro listed a u hf hh inv
    rw [show f + 1 + g = (f + g) + 1 from by omega]
    obtain ⟨k, hkn, hku, hkl⟩ := cnt_pos n (show 0 < cnt listed n by omega)
    have hrk : k ∈ Region.ready .any ops listed := by
      obtain ⟨o, r, ho, _, tb⟩ := tabS_spec htab hkn
      rw [mem_ready]
      exact ⟨getD_in (by rw [hh.size]; omega) hku, o, ho, fun e he hb => hkl _ (tb.lex e he hb)⟩
    refine ⟨fun h0 => (by rw [h0] at hrk; cases hrk), fun i hi => ?_⟩
    have hin : i < n := by
      rcases Nat.lt_or_ge i n with h | h
      · exact h
      · exact absurd hi (tail_waits hs hc hn hh _ k rfl hkn (getD_in (by rw [hh.size]; omega) hku) i h)
    obtain ⟨o, r, ho, hr, tb⟩ := tabS_spec htab hin
    obtain ⟨hiu, o', ho', hall⟩ := mem_ready.1 hi
    rw [ho] at ho'
    cases ho'
    have hls : i < listed.size := by rw [hh.size]; omega
    have hcnt := cnt_set (getD_both hiu) hls n hin
    have next : ∀ v u', C u' → (∀ k v, k ≠ i → Ψ k v u → Ψ k v u') → Ψ i (wordOf o r a.eval v) u' → wpAny P .any ops Q (f + g) (listed.setIfInBounds i true) (a.put o.dst v) u' := fun v u' h1 h2 h3 =>
      ih _ _ _ (by omega) (hh.set hi hin) (inv.set hh htab hN ho hr tb hin hls (getD_both hiu) h2 h1 h3)
    have gval : ∀ gi b, o.guard = some (gi, b) → ∃ og d, ops[gi]? = some og ∧ og.dst = some d ∧ d < a.tmps.size ∧ Ψ gi (a.tmps.getD d undef) u := by
      intro gi b hg
      obtain ⟨h1, ⟨e, he, hb, hon⟩, og, d, hog, hd⟩ := tb.guard gi b hg
      obtain ⟨og', rg, hog', hrg, tg⟩ := tabS_spec htab h1
      rw [hog] at hog'
      cases hog'
      have hl := hall e he hb
      rw [hon] at hl
      exact ⟨og, d, hog, hd, by rw [inv.size, hN]; exact (tg.dst d hd).1, inv.own gi og rg d hog hrg (by unfold slotOf; simp [hd]) h1 hl⟩
    unfold wpOp
    simp only [ho]
    rcases howed i o r hin ho hr with hrun | ⟨⟨gi, b, hg, hnot, hund'⟩, hdn⟩
    · have hw : Region.wanted o (yielded ops a.tmps) = true := by
        unfold Region.wanted
        cases hg : o.guard with
        | none => rfl
        | some p =>
          obtain ⟨gi, b⟩ := p
          obtain ⟨og, d, hog, hd, hdl, hΨ⟩ := gval gi b hg
          have hv := hrun.guard gi b hg _ _ hΨ
          have : yielded ops a.tmps gi = some b := by
            unfold yielded
            simp only [hog, Option.bind_some, hd]
            rw [getD_some hdl, hv]
          simp [this]
      rw [if_pos hw]
      refine .inl (Goes.wp (hrun.go a.eval u inv.cls (fun _ => rfl) (fun _ => rfl) ?_ ?_) fun v u' ⟨h1, h2, h3⟩ => next v u' h1 (fun k v hki hk => hst i k v u u' hki inv.cls h2 hk) h3)
      · intro p hp
        obtain ⟨h1, ⟨e, he, hb, hon⟩, oj, hoj, hd⟩ := tb.deps p hp
        obtain ⟨oj', rj, hoj', hrj, _⟩ := tabS_spec htab h1
        rw [hoj] at hoj'
        cases hoj'
        have hl := hall e he hb
        rw [hon] at hl
        exact inv.own p.1 oj rj p.2 hoj hrj (by unfold slotOf; simp [hd]) h1 hl
      · intro t ht
        show a.tmps.getD t undef = a0.tmps.getD t undef
        refine inv.other t fun j oj hoj hj hl hd => ?_
        obtain ⟨e, he, hb, hon⟩ := tb.orig t ht j oj hj hoj hd
        have := hh.closed j oj hoj hl e he hb
        rw [hon, getD_both hiu] at this
        cases this
    · have hw : Region.wanted o (yielded ops a.tmps) = false := by
        unfold Region.wanted
        obtain ⟨og, d, hog, hd, hdl, hΨ⟩ := gval gi b hg
        have hv := hnot _ _ hΨ
        have : yielded ops a.tmps gi ≠ some b := by
          unfold yielded
          simp only [hog, Option.bind_some, hd]
          rw [getD_some hdl]
          generalize a.tmps.getD d undef = x at *
          cases x <;> simp_all
        simp [hg, this]
      rw [hw]
      refine next undef u inv.cls (fun k v hki h => hund i k v u hki inv.cls h) ?_
      unfold wordOf
      cases hd : o.dst with
      | none => exact absurd hd hdn
      | some d => exact hund' u inv.cls

theorem putsS_is {l : List Oper} {listed : Array Bool} {a : Act} {u : World} (hl : ops = l.toArray) (hN : a0.tmps.size = N0) (htab : tabS ops n N0 tab = true) (hn : n < ops.size) (hall : ∀ k, k < n → listed.getD k false = true) (inv : InvS ops tab C Ψ a0 n listed a u) :
    ∃ vs : Nat → Value, a = puts vs (l.take n) 0 a0 ∧ (∀ k, k < n → Ψ k (vs k) u) ∧ ∀ k p, k < n → wordDep ops tab k = some p → vs k = vs p := by
  subst hl
  have hln : n < l.length := by simpa using hn
  have hget : ∀ k, k < n → (l.take n)[k]? = l.toArray[k]? := fun k hk => by simp [hk]
  obtain ⟨vs, hvs⟩ : ∃ vs : Nat → Value, ∀ k o r t, l.toArray[k]? = some o → tab[k]? = some r → slotOf o r = some t → vs k = a.tmps.getD t undef :=
    ⟨fun k => match l.toArray[k]?, tab[k]? with | some o, some r => (match slotOf o r with | some t => a.tmps.getD t undef | none => undef) | _, _ => undef, fun k o r t h1 h2 h3 => by simp only [h1, h2, h3]⟩
  have hdst : ∀ k o d, k < n → l.toArray[k]? = some o → o.dst = some d → vs k = a.tmps.getD d undef := fun k o d hk ho hd => by
    obtain ⟨o', r, ho', hr, _⟩ := tabS_spec htab hk
    exact hvs k o r d ho hr (by unfold slotOf; simp [hd])
  refine ⟨vs, ?_, ?_, ?_⟩
  · have hsz : a.tmps.size = (puts vs (l.take n) 0 a0).tmps.size := by
      rw [puts_size]; exact inv.size
    have ht : a.tmps = (puts vs (l.take n) 0 a0).tmps := by
      apply Array.ext hsz
      intro t h1 h2
      have e1 : a.tmps[t] = a.tmps.getD t undef := by simp [h1]
      have e2 : ∀ b : Act, ∀ h : t < b.tmps.size, b.tmps[t] = b.tmps.getD t undef := fun b h => by simp [h]
      rw [e1, e2 _ h2]
      by_cases hex : ∃ k o, k < n ∧ l.toArray[k]? = some o ∧ o.dst = some t
      · obtain ⟨k, o, hk, ho, hd⟩ := hex
        obtain ⟨o', _, ho', _, tb⟩ := tabS_spec htab hk
        rw [ho] at ho'
        cases ho'
        obtain ⟨hdl, hdist⟩ := tb.dst t hd
        rw [puts_own _ (l.take n) 0 a0 k o (by rw [hget k hk]; exact ho) hd (by rw [hN]; exact hdl) (fun j oj hj hjk => by
          have hjn : j < n := by
            by_cases h : j < n
            · exact h
            · rw [List.getElem?_eq_none (by simp; omega)] at hj; cases hj
          exact hdist j oj hjn hjk (by rw [← hget j hjn]; exact hj))]
        rw [Nat.zero_add]
        exact (hdst k o t hk ho hd).symm
      · rw [puts_other _ (l.take n) 0 a0 (fun o ho hd => hex (by
          obtain ⟨k, hk⟩ := List.getElem?_of_mem ho
          have hkn : k < n := by
            by_cases h : k < n
            · exact h
            · rw [List.getElem?_eq_none (by simp; omega)] at hk; cases hk
          exact ⟨k, o, hkn, by rw [← hget k hkn]; exact hk, hd⟩))]
        exact inv.other t fun k o ho hk _ hd => hex ⟨k, o, hk, ho, hd⟩
    have hdf := inv.defers
    rw [← puts_defers vs (l.take n) 0 a0] at hdf
    generalize puts _ (l.take n) 0 a0 = b at ht hdf
    cases a
    cases b
    simp_all
  · intro k hk
    obtain ⟨o, r, ho, hr, tb⟩ := tabS_spec htab hk
    have hs : ∃ t, slotOf o r = some t := by
      unfold slotOf
      cases hd : o.dst with
      | some d => exact ⟨d, rfl⟩
      | none =>
        obtain ⟨p, l', hr1⟩ := tb.word hd
        exact ⟨p.2, by simp [hr1]⟩
    obtain ⟨t, hs⟩ := hs
    rw [hvs k o r t ho hr hs]
    exact inv.own k o r t ho hr hs hk (hall k hk)
  · intro k p hk hw
    obtain ⟨o, r, ho, hr, tb⟩ := tabS_spec htab hk
    unfold wordDep at hw
    simp only [ho, hr] at hw
    cases hd : o.dst with
    | some d => simp [hd] at hw
    | none =>
      obtain ⟨p', l', hr1⟩ := tb.word hd
      simp only [hd, hr1, List.head?_cons, Option.map_some, Option.some.injEq] at hw
      obtain ⟨h1, _, oj, hoj, hdj⟩ := tb.deps p' (by rw [hr1]; exact List.mem_cons_self ..)
      rw [hvs k o r p'.2 ho hr (by unfold slotOf; simp [hd, hr1]), ← hw, hdst p'.1 oj p'.2 h1 hoj hdj]

def AllOwedS (P : Program) (C : World → Prop) (Gr : Nat → World → World → Prop) (Ψ : Nat → Value → World → Prop) (a0 : Act) : Nat → List Oper → List Reads → Prop
  | k, o :: l, r :: t => OwedS P C Gr Ψ a0 k o r ∧ AllOwedS P C Gr Ψ a0 (k + 1) l t
  | _, _, _ => True
theorem AllOwedS.get {P : Program} {C : World → Prop} {Gr : Nat → World → World → Prop} {Ψ : Nat → Value → World → Prop} {a0 : Act} : ∀ (l : List Oper) (t : List Reads) (k i : Nat) (o : Oper) (r : Reads), AllOwedS P C Gr Ψ a0 k l t → l[i]? = some o → t[i]? = some r → OwedS P C Gr Ψ a0 (k + i) o r
  | [], _, _, i, _, _, _, ho, _ => by simp at ho
  | _ :: _, [], _, i, _, _, _, _, hr => by simp at hr
  | o' :: l, r' :: t, k, 0, o, r, h, ho, hr => by
    simp at ho hr
    subst ho hr
    exact h.1
  | o' :: l, r' :: t, k, i + 1, o, r, h, ho, hr => by
    have := AllOwedS.get l t (k + 1) i o r h.2 (by simpa using ho) (by simpa using hr)
    rwa [show k + 1 + i = k + (i + 1) from by omega] at this

/-- **Each operation by itself, stores among them.** -/
theorem wp_region_stores {id : Nat} {Q : Exit → Act → World → Prop} {w : World} {l : List Oper} (n N0 : Nat) (tab : List Reads) (C : World → Prop) (Gr : Nat → World → World → Prop) (Ψ : Nat → Value → World → Prop)
    (hm : P.follows .mixedOrders = true) (hN : a0.tmps.size = N0) (hB : regionS l.toArray n N0 tab = true) (hC : C { w with drawn := w.drawn + 1 })
    (hst : ∀ i k v u u', k ≠ i → C u → Gr i u u' → Ψ k v u → Ψ k v u') (howed : AllOwedS P C Gr Ψ a0 0 l tab)
    (hfin : ∀ (vs : Nat → Value) (u : World), C u → (∀ k, k < n → Ψ k (vs k) u) → (∀ k p, k < n → wordDep l.toArray tab k = some p → vs k = vs p) → wpList P l.toArray Q (l.drop n) (puts vs (l.take n) 0 a0) u) : (Code.region id l.toArray true).wp P Q a0 w := by
  simp only [regionS, Bool.and_eq_true, decide_eq_true_eq] at hB
  obtain ⟨⟨⟨⟨hn, hs⟩, hc⟩, hseq⟩, htab⟩ := hB
  have hln : n < l.length := by simpa using hn
  have hdl : (l.drop n).length = l.toArray.size - n := by simp
  have inv0 : HeadInv .any l.toArray n (Array.replicate l.toArray.size false) :=
    ⟨by simp, fun j oj _ hl => (by rw [getD_replicate_false] at hl; cases hl), fun t _ ht => getD_in (by simpa using ht) (getD_replicate_false _ _)⟩
  have i0 : InvS l.toArray tab C Ψ a0 n (Array.replicate l.toArray.size false) a0 { w with drawn := w.drawn + 1 } :=
    ⟨rfl, rfl, fun k o r d _ _ _ _ hl => (by rw [getD_replicate_false] at hl; cases hl), fun t _ => rfl, hC⟩
  refine wp_region_any hm ?_
  have H := kahnS_go (P := P) (Q := Q) (Gr := Gr) hs hc hn hN htab hst (fun _ _ _ _ _ _ h => h) (fun i o r hi ho hr => by have := AllOwedS.get l tab 0 i o r howed (by simpa using ho) hr; rwa [Nat.zero_add] at this) (l.toArray.size - n) (fun listed a u hh hall inv => by
    obtain ⟨vs, ha, hvs, hwd⟩ := putsS_is rfl hN htab hn hall inv
    have hlist : listed = Array.replicate n true ++ Array.replicate (l.toArray.size - n) false := by
      apply Array.ext
      · rw [hh.size]; simp; omega
      · intro t h1 h2
        have e1 : listed[t] = listed.getD t false := by simp [h1]
        have e3 : listed[t] = listed.getD t true := by simp [h1]
        by_cases htn : t < n
        · rw [e1, hall t htn]
          simp [htn]
        · rw [e3, hh.tail t (by omega) (by rw [← hh.size]; exact h1)]
          simp [Array.getElem_append, htn]
    have := wpAny_of_seq (P := P) (ops := l.toArray) (md := .any) (Q' := Q) (l.drop n) n listed a u (fun j => by simp [List.getElem?_drop]) (by rw [hdl, hlist]; exact hseq) (by rw [ha]; exact hfin vs u inv.cls hvs hwd)
    rwa [hdl] at this) n (Array.replicate l.toArray.size false) a0 { w with drawn := w.drawn + 1 } (cnt_start _ n) inv0 i0
  rw [show n + (l.toArray.size - n) = l.toArray.size from by omega] at H
  exact H
end
end Go.Proofs.Ytmbemidacilakaa.Kahn

/- More of what is known of a value: a Rat beside a bool; a Rat's own block, just made. -/
namespace Go.Proofs.Ytmbemidacilakaa
open Go.RowKit M Kahn
set_option maxRecDepth 100000

/-- The canonical Rat of q, beside a bool. -/
def VD (q : Rat) (K : Nat) (b : Bool) : Value → World → Prop := fun v u => ∃ s no nn nc eo en ec, v = .tuple #[.agg #[.bool s, .slice no nn nc, .slice eo en ec], .bool b] ∧ Cq u s no nn nc eo en ec q K
theorem VD.lasts (q : Rat) (K : Nat) (b : Bool) : Lasts (VD q K b) := fun _ _ _ hb ⟨s, no, nn, nc, eo, en, ec, h1, h2⟩ => ⟨s, no, nn, nc, eo, en, ec, h1, h2.later hb⟩
/-- A block for a Rat, at B or behind it, with nothing in it. -/
def VP (B : Nat) : Value → World → Prop := fun v u => ∃ g, v = .pointer (some ⟨g, 0, none⟩) ∧ B ≤ g ∧ Rb u g (.bool false) (.slice none 0 0) (.slice none 0 0)
theorem VP.lasts (B : Nat) : Lasts (VP B) := fun _ _ _ hb ⟨g, h1, h2, h3⟩ => ⟨g, h1, h2, h3.later hb⟩

/-- Block g holds some Rat. -/
def Ras (u : World) (g : Nat) : Prop := ∃ s no nn nc eo en ec, Rb u g (.bool s) (.slice no nn nc) (.slice eo en ec)
theorem Ras.later {u u' : World} {g : Nat} (h : Ras u g) (hb : Below u.heap.size u u') : Ras u' g := by
  obtain ⟨s, no, nn, nc, eo, en, ec, h⟩ := h
  exact ⟨s, no, nn, nc, eo, en, ec, h.later hb⟩
/-- A Rat has been stored into a block that held one, at B or behind it. -/
def Stores (B : Nat) (u u' : World) : Prop := ∃ g, B ≤ g ∧ Ras u g ∧ Fr g u u' ∧ Ras u' g
/-- It lasts a store. -/
def LastsS (φ : Value → World → Prop) : Prop := ∀ B v u u', Stores B u u' → φ v u → φ v u'
theorem VV.lastsS (x : Value) : LastsS (VV x) := fun _ _ _ _ _ h => h
theorem VB.lastsS (A : Prop) : LastsS (VB A) := fun _ _ _ _ _ h => h
theorem VN.lastsS (A K : Nat) : LastsS (VN A K) := fun _ _ _ _ ⟨_, _, ⟨_, _, _, _, _, _, _, hb⟩, hf, _⟩ ⟨ao, n, c, h1, h2, h3⟩ => ⟨ao, n, c, h1, h2.store hb hf, h3⟩
theorem VR.lastsS (q : Rat) (K : Nat) : LastsS (VR q K) := fun _ _ _ _ ⟨_, _, ⟨_, _, _, _, _, _, _, hb⟩, hf, _⟩ ⟨s, no, nn, nc, eo, en, ec, h1, h2⟩ => ⟨s, no, nn, nc, eo, en, ec, h1, h2.store hb hf⟩
theorem VC.lastsS (q : Rat) (K : Nat) : LastsS (VC q K) := fun _ _ _ _ ⟨_, _, ⟨_, _, _, _, _, _, _, hb⟩, hf, _⟩ ⟨s, no, nn, nc, eo, en, ec, h1, h2⟩ => ⟨s, no, nn, nc, eo, en, ec, h1, h2.store hb hf⟩
theorem VD.lastsS (q : Rat) (K : Nat) (b : Bool) : LastsS (VD q K b) := fun _ _ _ _ ⟨_, _, ⟨_, _, _, _, _, _, _, hb⟩, hf, _⟩ ⟨s, no, nn, nc, eo, en, ec, h1, h2⟩ => ⟨s, no, nn, nc, eo, en, ec, h1, h2.store hb hf⟩
theorem RL.store {u v : World} {g K : Nat} {t : Bool} {a1 a2 : Option Addr} {n1 c1 n2 c2 : Nat} (hb : Rb u g (.bool t) (.slice a1 n1 c1) (.slice a2 n2 c2)) (hw : Fr g u v) : ∀ {rs : List RP} {qs : List Rat}, RL u K rs qs → RL v K rs qs
  | [], [], _ => trivial
  | _ :: _, _ :: _, h => ⟨h.1.store hb hw, RL.store hb hw h.2⟩
  | [], _ :: _, h => h.elim
  | _ :: _, [], h => h.elim
/-- A list of two Rats or more lies in no Rat's own block. -/
theorem VL.lastsS (qs : List Rat) (K : Nat) (h2 : 2 ≤ qs.length) : LastsS (VL qs K) := by
  rintro B v u u' ⟨g, _, ⟨s, a1, n1, c1, a2, n2, c2, hb⟩, hf, _⟩ ⟨ao, cap, rs, e1, e2, e3, e4⟩
  refine ⟨ao, cap, rs, e1, e2, e3.store hb hf, fun h0 => ?_⟩
  obtain ⟨b, o, f1, f2, f3⟩ := e4 h0
  refine ⟨b, o, f1, by rw [hf.size]; exact f2, fun i v hv => ?_⟩
  have hne : b ≠ g := by
    intro he
    subst he
    obtain ⟨r, r1, _⟩ := e3.get 1 (by omega)
    obtain ⟨_, _, a3⟩ := RP.all_get rs 1 r r1
    have hc := f3 _ _ a3
    rw [cell_of_row u b _ _ _ _ hb.at_] at hc
    rw [Array.getElem?_eq_none (by simp)] at hc
    cases hc
  rw [World.cell?_of_block (w := u) (a := ⟨b, o + i, none⟩) (hf.block b hne)]
  exact f3 i v hv
/-- A block for a Rat, at B or behind it, with some Rat in it. -/
def VA (B : Nat) : Value → World → Prop := fun v u => ∃ g, v = .pointer (some ⟨g, 0, none⟩) ∧ B ≤ g ∧ Ras u g
theorem VA.lasts (B : Nat) : Lasts (VA B) := fun _ _ _ hb ⟨g, h1, h2, h3⟩ => ⟨g, h1, h2, h3.later hb⟩
theorem VA.lastsS (B : Nat) : LastsS (VA B) := by
  rintro B' v u u' ⟨g', _, _, hf, h3⟩ ⟨g, e1, e2, s, no, nn, nc, eo, en, ec, e3⟩
  refine ⟨g, e1, e2, ?_⟩
  by_cases he : g = g'
  · subst he; exact h3
  · exact ⟨s, no, nn, nc, eo, en, ec, e3.keep (hf.block g he)⟩
/-- A block, at B or behind it, with the canonical Rat of q in it. -/
def VS (q : Rat) (K B : Nat) : Value → World → Prop := fun v u => ∃ g, v = .pointer (some ⟨g, 0, none⟩) ∧ B ≤ g ∧ ∃ s no nn nc eo en ec, Rb u g (.bool s) (.slice no nn nc) (.slice eo en ec) ∧ Cq u s no nn nc eo en ec q K
theorem VS.lasts (q : Rat) (K B : Nat) : Lasts (VS q K B) := fun _ _ _ hb ⟨g, h1, h2, s, no, nn, nc, eo, en, ec, h3, h4⟩ => ⟨g, h1, h2, s, no, nn, nc, eo, en, ec, h3.later hb, h4.later hb⟩

/-- Operation m stores; the others make memory, or none. -/
def Grs (B m i : Nat) (u u' : World) : Prop := match Nat.beq i m with
  | true => Stores B u u'
  | false => Below u.heap.size u u'
def LstS (m : Nat) : Nat → List (Value → World → Prop) → Prop
  | _, [] => True
  | k, φ :: l => (k ≠ m → LastsS φ) ∧ LstS m (k + 1) l
theorem LstS.get {m : Nat} : ∀ {l : List (Value → World → Prop)} {k : Nat}, LstS m k l → ∀ i φ, l[i]? = some φ → k + i ≠ m → LastsS φ
  | [], _, _, i, φ, h, _ => by simp at h
  | _ :: _, k, hl, 0, φ, h, hm => by
    simp at h
    subst h
    exact hl.1 hm
  | _ :: l, k, hl, i + 1, φ, h, hm => LstS.get (k := k + 1) hl.2 i φ (by simpa using h) (by omega)
theorem Sp.lastsS {l : List (Value → World → Prop)} {B m : Nat} (hl : Lst l) (hs : LstS m 0 l) : ∀ i k v u u', k ≠ i → Grs B m i u u' → Sp l k v u → Sp l k v u' := by
  intro i k v u u' hki hg h
  unfold Grs at hg
  cases hb : Nat.beq i m with
  | false =>
    rw [hb] at hg
    exact Sp.lasts hl k v u u' hg h
  | true =>
    rw [hb] at hg
    have him : i = m := Nat.eq_of_beq_eq_true hb
    unfold Sp at *
    rw [List.getD_eq_getElem?_getD] at *
    cases hk : l[k]? with
    | none => trivial
    | some φ =>
      rw [hk] at h
      exact hs.get k φ hk (by omega) B v u u' hg h

/-- Three Rats that came in, in blocks of their own. -/
theorem boxes3 (w : World) (a b c a' b' c' a2 b2 c2 : Value) : ∃ w0, w0 = ((w.alloc (.cells #[a, b, c] 24)).alloc (.cells #[a', b', c'] 24)).alloc (.cells #[a2, b2, c2] 24) ∧
    Rb w0 w.heap.size a b c ∧ Rb w0 (w.heap.size + 1) a' b' c' ∧ Rb w0 (w.heap.size + 2) a2 b2 c2 ∧ Below w.heap.size w w0 ∧ w0.heap.size = w.heap.size + 1 + 1 + 1 := by
  obtain ⟨w1, h1, r1, r2, b1⟩ := box2 w a b c a' b' c'
  have hs : w1.heap.size = w.heap.size + 2 := by rw [h1]; simp
  have bl : Below w1.heap.size w1 (w1.alloc (.cells #[a2, b2, c2] 24)) := (Below.refl _ _).alloc (Nat.le_refl _) _
  have hz : (w1.alloc (.cells #[a2, b2, c2] 24)).heap.size = w1.heap.size + 1 := by simp
  rw [← h1]
  exact ⟨_, rfl, r1.later bl, r2.later bl, ⟨by rw [← hs]; exact heap_alloc_new _ _⟩, b1.trans (bl.mono b1.size), by rw [hz, hs]⟩

/- A field of a Rat that is a value. -/
theorem field_den (u : World) (s : Bool) (no : Option Addr) (nn nc : Nat) (eo : Option Addr) (en ec : Nat) : Sem.run Try.prog (Instr.field 24 (.agg #[.bool s, .slice no nn nc, .slice eo en ec]) 2) u = .ok (.slice eo en ec) u := by
  unfold Instr.field
  go_simp
  rfl
theorem field_num (u : World) (s : Bool) (no : Option Addr) (nn nc : Nat) (eo : Option Addr) (en ec : Nat) : Sem.run Try.prog (Instr.field 24 (.agg #[.bool s, .slice no nn nc, .slice eo en ec]) 1) u = .ok (.slice no nn nc) u := by
  unfold Instr.field
  go_simp
  rfl
theorem field_sgn (u : World) (s : Bool) (no : Option Addr) (nn nc : Nat) (eo : Option Addr) (en ec : Nat) : Sem.run Try.prog (Instr.field 24 (.agg #[.bool s, .slice no nn nc, .slice eo en ec]) 0) u = .ok (.bool s) u := by
  unfold Instr.field
  go_simp
  rfl
end Go.Proofs.Ytmbemidacilakaa
