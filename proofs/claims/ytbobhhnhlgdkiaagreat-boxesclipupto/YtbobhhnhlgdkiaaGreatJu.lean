/- A region that draws its order, by one invariant; with guards. -/
import Derived.Test.YtbobhhnhlgdkiaaGreatJr
namespace Go.Proofs.YtbobhhnhlgdkiaaGreat.Kahn
open Go
set_option maxRecDepth 100000

def tabG (ops : Array Oper) (n N0 : Nat) (tab : List Reads) : Bool :=
  (List.range n).all fun i => match ops[i]?, tab[i]? with
    | some o, some r =>
      (match o.dst with
        | some d => decide (d < N0) && (List.range n).all fun j => j == i || (match ops[j]? with | some oj => oj.dst != some d | none => true)
        | none => true) &&
      (r.1.all fun p => decide (p.1 < n) && Region.waitsFor .any ops i p.1 && (match ops[p.1]? with | some oj => oj.dst == some p.2 | none => false)) &&
      (r.2.all fun t => (List.range n).all fun j => match ops[j]? with | some oj => oj.dst != some t || Region.waitsFor .any ops j i | none => true) &&
      (match o.guard with
        | some (g, _) => decide (g < n) && Region.waitsFor .any ops i g && (match ops[g]? with | some og => og.dst.isSome | none => false)
        | none => true) &&
      (o.after.all fun e => !Region.binds .any e || decide (e.on < i))
    | _, _ => false
def regionG (ops : Array Oper) (n N0 : Nat) (tab : List Reads) : Bool :=
  decide (n < ops.size) && Region.sinkB .any ops n && Region.chainB .any ops n && Region.seqB .any ops (ops.size - n) n (Array.replicate n true ++ Array.replicate (ops.size - n) false) && tabG ops n N0 tab

section
variable {P : Program} {ops : Array Oper} {J : (Nat → Bool) → (Nat → Value) → World → Prop} {a0 : Act} {n N0 : Nat} {tab : List Reads}

/-- What is owed of operation i: it goes, and the invariant holds with it. -/
def OwedG (P : Program) (J : (Nat → Bool) → (Nat → Value) → World → Prop) (a0 : Act) (i : Nat) (o : Oper) (r : Reads) : Prop :=
  ∀ (L : Nat → Bool) (vs : Nat → Value) (ρ : Operand → Value) (u : World), J L vs u → L i = false → (∀ v, ρ (.const v) = v) → (∀ f, ρ (.func f) = .func (.func f) #[] #[]) →
    (∀ p ∈ r.1, L p.1 = true ∧ ρ (.tmp p.2) = vs p.1) → (∀ t ∈ r.2, ρ (.tmp t) = a0.eval (.tmp t)) → match o.guard with
      | none => Goes P o ρ u fun v u' => J (Upd L i true) (Upd vs i v) u'
      | some (g, b) => L g = true → (vs g = .bool b → Goes P o ρ u fun v u' => J (Upd L i true) (Upd vs i v) u') ∧ (vs g ≠ .bool b → J (Upd L i true) (Upd vs i undef) u)

structure InvG (ops : Array Oper) (a0 : Act) (n : Nat) (listed : Array Bool) (vs : Nat → Value) (a : Act) : Prop where
  defers : a.defers = a0.defers
  size : a.tmps.size = a0.tmps.size
  own : ∀ k o d, ops[k]? = some o → o.dst = some d → k < n → listed.getD k false = true → a.tmps.getD d undef = vs k
  other : ∀ t, (∀ k o, ops[k]? = some o → k < n → listed.getD k false = true → o.dst ≠ some t) → a.tmps.getD t undef = a0.tmps.getD t undef

structure TabG (ops : Array Oper) (n N0 : Nat) (i : Nat) (o : Oper) (r : Reads) : Prop where
  dst : ∀ d, o.dst = some d → d < N0 ∧ ∀ j oj, j < n → j ≠ i → ops[j]? = some oj → oj.dst ≠ some d
  deps : ∀ p ∈ r.1, p.1 < n ∧ (∃ e ∈ o.after, Region.binds .any e = true ∧ e.on = p.1) ∧ ∃ oj, ops[p.1]? = some oj ∧ oj.dst = some p.2
  orig : ∀ t ∈ r.2, ∀ j oj, j < n → ops[j]? = some oj → oj.dst = some t → ∃ e ∈ oj.after, Region.binds .any e = true ∧ e.on = i
  guard : ∀ g b, o.guard = some (g, b) → g < n ∧ (∃ e ∈ o.after, Region.binds .any e = true ∧ e.on = g) ∧ ∃ og d, ops[g]? = some og ∧ og.dst = some d
  lex : ∀ e ∈ o.after, Region.binds .any e = true → e.on < i

theorem tabG_spec (h : tabG ops n N0 tab = true) {i : Nat} (hi : i < n) : ∃ o r, ops[i]? = some o ∧ tab[i]? = some r ∧ TabG ops n N0 i o r := by
  have h1 := List.all_eq_true.1 h i (List.mem_range.2 hi)
  cases ho : ops[i]? with
  | none => simp [ho] at h1
  | some o =>
    cases hr : tab[i]? with
    | none => simp [ho, hr] at h1
    | some r =>
      simp only [ho, hr, Bool.and_eq_true] at h1
      obtain ⟨⟨⟨⟨h1, h2⟩, h3⟩, h4⟩, h5⟩ := h1
      refine ⟨o, r, rfl, rfl, ?_, ?_, ?_, ?_, ?_⟩
      · intro d hd
        simp only [hd, Bool.and_eq_true, decide_eq_true_eq] at h1
        refine ⟨h1.1, fun j oj hj hji hoj he => ?_⟩
        have := List.all_eq_true.1 h1.2 j (List.mem_range.2 hj)
        simp [hoj, he, hji] at this
      · intro p hp
        have := List.all_eq_true.1 h2 p hp
        simp only [Bool.and_eq_true, decide_eq_true_eq] at this
        obtain ⟨⟨k1, k2⟩, k3⟩ := this
        refine ⟨k1, waits_of ho k2, ?_⟩
        cases hoj : ops[p.1]? with
        | none => simp [hoj] at k3
        | some oj => exact ⟨oj, rfl, by simpa [hoj] using k3⟩
      · intro t ht j oj hj hoj hd
        have := List.all_eq_true.1 (List.all_eq_true.1 h3 t ht) j (List.mem_range.2 hj)
        simp only [hoj, hd, Bool.or_eq_true] at this
        rcases this with k | k
        · simp at k
        · exact waits_of hoj k
      · intro g b hg
        simp only [hg, Bool.and_eq_true, decide_eq_true_eq] at h4
        obtain ⟨⟨k1, k2⟩, k3⟩ := h4
        refine ⟨k1, waits_of ho k2, ?_⟩
        cases hog : ops[g]? with
        | none => simp [hog] at k3
        | some og =>
          simp only [hog] at k3
          obtain ⟨d, hd⟩ := Option.isSome_iff_exists.1 k3
          exact ⟨og, d, rfl, hd⟩
      · intro e he hb
        have := Array.all_eq_true'.1 h5 e he
        simpa [hb] using this

theorem InvG.set {listed : Array Bool} {a : Act} {i : Nat} {o : Oper} {r : Reads} {vs : Nat → Value} {v : Value} (inv : InvG ops a0 n listed vs a) (hN : a0.tmps.size = N0) (ho : ops[i]? = some o) (tb : TabG ops n N0 i o r) (hin : i < n) (hls : i < listed.size) (hiu : listed.getD i false = false) :
    InvG ops a0 n (listed.setIfInBounds i true) (Upd vs i v) (a.put o.dst v) := by
  refine ⟨?_, by rw [put_size]; exact inv.size, ?_, ?_⟩
  · cases hd : o.dst with
    | none => exact inv.defers
    | some d => exact inv.defers
  · intro k ok d hok hd hk hl
    by_cases hki : k = i
    · subst hki
      rw [ho] at hok
      cases hok
      rw [hd, put_get_eq _ _ (by rw [inv.size, hN]; exact (tb.dst _ hd).1), Upd.same]
    · rw [getD_set_ne false (Ne.symm hki)] at hl
      have hne : o.dst ≠ some d := fun he => (tb.dst d he).2 k ok hk hki hok hd
      rw [put_get_ne _ _ hne, Upd.ne hki]
      exact inv.own k ok d hok hd hk hl
  · intro t ht
    have hti : o.dst ≠ some t := ht i o ho hin (by simp [hls])
    rw [put_get_ne _ _ hti]
    exact inv.other t fun k ok hok hk hl => ht k ok hok hk (getD_set_true hl)

theorem kahnG_go {Q : Exit → Act → World → Prop} (hs : Region.sinkB .any ops n = true) (hc : Region.chainB .any ops n = true) (hn : n < ops.size) (hN : a0.tmps.size = N0) (htab : tabG ops n N0 tab = true)
    (howed : ∀ i o r, i < n → ops[i]? = some o → tab[i]? = some r → OwedG P J a0 i o r) (g : Nat)
    (hfin : ∀ listed vs a u, HeadInv .any ops n listed → (∀ k, k < n → listed.getD k false = true) → InvG ops a0 n listed vs a → J (fun k => listed.getD k false) vs u → wpAny P .any ops Q g listed a u) :
    ∀ (f : Nat) (listed : Array Bool) (vs : Nat → Value) (a : Act) (u : World), cnt listed n = f → HeadInv .any ops n listed → InvG ops a0 n listed vs a → J (fun k => listed.getD k false) vs u → wpAny P .any ops Q (f + g) listed a u := by
  intro f
  induction f with
  | zero =>
    intro listed vs a u hf hh inv hJ
    rw [Nat.zero_add]
    exact hfin listed vs a u hh (cnt_zero n hf) inv hJ
  | succ f ih =>
    intro listed vs a u hf hh inv hJ
    rw [show f + 1 + g = (f + g) + 1 from by omega]
    obtain ⟨k, hkn, hku, hkl⟩ := cnt_pos n (show 0 < cnt listed n by omega)
    have hrk : k ∈ Region.ready .any ops listed := by
      obtain ⟨o, r, ho, _, tb⟩ := tabG_spec htab hkn
      rw [mem_ready]
      exact ⟨getD_in (by rw [hh.size]; omega) hku, o, ho, fun e he hb => hkl _ (tb.lex e he hb)⟩
    refine ⟨fun h0 => (by rw [h0] at hrk; cases hrk), fun i hi => ?_⟩
    have hin : i < n := by
      rcases Nat.lt_or_ge i n with h | h
      · exact h
      · exact absurd hi (tail_waits hs hc hn hh _ k rfl hkn (getD_in (by rw [hh.size]; omega) hku) i h)
    obtain ⟨o, r, ho, hr, tb⟩ := tabG_spec htab hin
    obtain ⟨hiu, o', ho', hall⟩ := mem_ready.1 hi
    rw [ho] at ho'
    cases ho'
    have hls : i < listed.size := by rw [hh.size]; omega
    have hcnt := cnt_set (getD_both hiu) hls n hin
    unfold wpOp
    simp only [ho]
    have next : ∀ v u', J (Upd (fun k => listed.getD k false) i true) (Upd vs i v) u' → wpAny P .any ops Q (f + g) (listed.setIfInBounds i true) (a.put o.dst v) u' := fun v u' hJ' => by
      refine ih _ (Upd vs i v) _ _ (by omega) (hh.set hi hin) (inv.set hN ho tb hin hls (getD_both hiu)) ?_
      rw [getD_set_upd hls]
      exact hJ'
    have owed := howed i o r hin ho hr (fun k => listed.getD k false) vs a.eval u hJ (getD_both hiu) (fun _ => rfl) (fun _ => rfl) (fun p hp => by
      obtain ⟨h1, ⟨e, he, hb, hon⟩, oj, hoj, hd⟩ := tb.deps p hp
      have hl := hall e he hb
      rw [hon] at hl
      exact ⟨hl, inv.own p.1 oj p.2 hoj hd h1 hl⟩) (fun t ht => by
      show a.tmps.getD t undef = a0.tmps.getD t undef
      refine inv.other t fun j oj hoj hj hl hd => ?_
      obtain ⟨e, he, hb, hon⟩ := tb.orig t ht j oj hj hoj hd
      have := hh.closed j oj hoj hl e he hb
      rw [hon, getD_both hiu] at this
      cases this)
    cases hg : o.guard with
    | none =>
      rw [hg] at owed
      have hw : Region.wanted o (yielded ops a.tmps) = true := by
        unfold Region.wanted
        rw [hg]
      rw [if_pos hw]
      exact .inl (Goes.wp owed next)
    | some p =>
      obtain ⟨gi, b⟩ := p
      rw [hg] at owed
      obtain ⟨h1, ⟨e, he, hb, hon⟩, og, d, hog, hd⟩ := tb.guard gi b hg
      have hl := hall e he hb
      rw [hon] at hl
      obtain ⟨ow1, ow2⟩ := owed hl
      have hval := inv.own gi og d hog hd h1 hl
      have hdl : d < a.tmps.size := by
        obtain ⟨o2, _, ho2, _, tg⟩ := tabG_spec htab h1
        rw [hog] at ho2
        cases ho2
        rw [inv.size, hN]
        exact (tg.dst d hd).1
      have hy : yielded ops a.tmps gi = some b ↔ vs gi = .bool b := by
        unfold yielded
        simp only [hog, Option.bind_some, hd]
        rw [getD_some hdl, hval]
        cases vs gi <;> simp
      by_cases hv : vs gi = .bool b
      · have hw : Region.wanted o (yielded ops a.tmps) = true := by
          unfold Region.wanted
          rw [hg]
          simp [hy.2 hv]
        rw [if_pos hw]
        exact .inl (Goes.wp (ow1 hv) next)
      · have hw : Region.wanted o (yielded ops a.tmps) = false := by
          unfold Region.wanted
          rw [hg]
          have : yielded ops a.tmps gi ≠ some b := fun h => hv (hy.1 h)
          simp [this]
        rw [hw]
        exact next undef u (ow2 hv)

theorem putsG_is {l : List Oper} {listed : Array Bool} {vs : Nat → Value} {a : Act} (hl : ops = l.toArray) (hN : a0.tmps.size = N0) (htab : tabG ops n N0 tab = true) (hn : n < ops.size) (hall : ∀ k, k < n → listed.getD k false = true) (inv : InvG ops a0 n listed vs a) :
    a = puts vs (l.take n) 0 a0 := by
  subst hl
  have hln : n < l.length := by simpa using hn
  have hget : ∀ k, k < n → (l.take n)[k]? = l.toArray[k]? := fun k hk => by simp [hk]
  have hsz : a.tmps.size = (puts vs (l.take n) 0 a0).tmps.size := by
    rw [puts_size]; exact inv.size
  have ht : a.tmps = (puts vs (l.take n) 0 a0).tmps := by
    apply Array.ext hsz
    intro t h1 h2
    have e1 : a.tmps[t] = a.tmps.getD t undef := by simp [h1]
    have e2 : ∀ b : Act, ∀ h : t < b.tmps.size, b.tmps[t] = b.tmps.getD t undef := fun b h => by simp [h]
    rw [e1, e2 _ h2]
    by_cases hex : ∃ k o, k < n ∧ l.toArray[k]? = some o ∧ o.dst = some t
    · obtain ⟨k, o, hk, ho, hd⟩ := hex
      obtain ⟨o', _, ho', _, tb⟩ := tabG_spec htab hk
      rw [ho] at ho'
      cases ho'
      obtain ⟨hdl, hdist⟩ := tb.dst t hd
      rw [puts_own _ (l.take n) 0 a0 k o (by rw [hget k hk]; exact ho) hd (by rw [hN]; exact hdl) (fun j oj hj hjk => by
        have hjn : j < n := by
          by_cases h : j < n
          · exact h
          · rw [List.getElem?_eq_none (by simp; omega)] at hj; cases hj
        exact hdist j oj hjn hjk (by rw [← hget j hjn]; exact hj))]
      rw [Nat.zero_add]
      exact inv.own k o t ho hd hk (hall k hk)
    · rw [puts_other _ (l.take n) 0 a0 (fun o ho hd => hex (by
        obtain ⟨k, hk⟩ := List.getElem?_of_mem ho
        have hkn : k < n := by
          by_cases h : k < n
          · exact h
          · rw [List.getElem?_eq_none (by simp; omega)] at hk; cases hk
        exact ⟨k, o, hkn, by rw [← hget k hkn]; exact hk, hd⟩))]
      exact inv.other t fun k o ho hk _ hd => hex ⟨k, o, hk, ho, hd⟩
  have hdf := inv.defers
  rw [← puts_defers vs (l.take n) 0 a0] at hdf
  generalize puts _ (l.take n) 0 a0 = b at ht hdf
  cases a
  cases b
  simp_all

/-- **A region that draws its order, by an invariant.** -/
theorem wp_region_gd {id : Nat} {Q : Exit → Act → World → Prop} {w : World} {l : List Oper} (n N0 : Nat) (tab : List Reads) (J : (Nat → Bool) → (Nat → Value) → World → Prop)
    (hm : P.follows .mixedOrders = true) (hN : a0.tmps.size = N0) (hB : regionG l.toArray n N0 tab = true) (hJ : ∀ vs, J (fun _ => false) vs { w with drawn := w.drawn + 1 })
    (howed : ∀ i o r, i < n → l[i]? = some o → tab[i]? = some r → OwedG P J a0 i o r)
    (hfin : ∀ (L : Nat → Bool) (vs : Nat → Value) (u : World), (∀ k, k < n → L k = true) → J L vs u → wpList P l.toArray Q (l.drop n) (puts vs (l.take n) 0 a0) u) : (Code.region id l.toArray true).wp P Q a0 w := by
  simp only [regionG, Bool.and_eq_true, decide_eq_true_eq] at hB
  obtain ⟨⟨⟨⟨hn, hs⟩, hc⟩, hseq⟩, htab⟩ := hB
  have hln : n < l.length := by simpa using hn
  have hdl : (l.drop n).length = l.toArray.size - n := by simp
  have inv0 : HeadInv .any l.toArray n (Array.replicate l.toArray.size false) :=
    ⟨by simp, fun j oj _ hl => (by rw [getD_replicate_false] at hl; cases hl), fun t _ ht => getD_in (by simpa using ht) (getD_replicate_false _ _)⟩
  have i0 : InvG l.toArray a0 n (Array.replicate l.toArray.size false) (fun _ => undef) a0 :=
    ⟨rfl, rfl, fun k o d _ _ _ hl => (by rw [getD_replicate_false] at hl; cases hl), fun t _ => rfl⟩
  have j0 : J (fun k => (Array.replicate l.toArray.size false).getD k false) (fun _ => undef) { w with drawn := w.drawn + 1 } := by
    have : (fun k => (Array.replicate l.toArray.size false).getD k false) = fun _ => false := by funext k; exact getD_replicate_false _ _
    rw [this]
    exact hJ _
  refine wp_region_any hm ?_
  have H := kahnG_go (P := P) (Q := Q) (J := J) hs hc hn hN htab (fun i o r hi ho hr => howed i o r hi (by simpa using ho) hr) (l.toArray.size - n) (fun listed vs a u hh hall inv hj => by
    have ha := putsG_is rfl hN htab hn hall inv
    have hlist : listed = Array.replicate n true ++ Array.replicate (l.toArray.size - n) false := by
      apply Array.ext
      · rw [hh.size]; simp; omega
      · intro t h1 h2
        have e1 : listed[t] = listed.getD t false := by simp [h1]
        have e3 : listed[t] = listed.getD t true := by simp [h1]
        by_cases htn : t < n
        · rw [e1, hall t htn]
          simp [htn]
        · rw [e3, hh.tail t (by omega) (by rw [← hh.size]; exact h1)]
          simp [Array.getElem_append, htn]
    have := wpAny_of_seq (P := P) (ops := l.toArray) (md := .any) (Q' := Q) (l.drop n) n listed a u (fun j => by simp [List.getElem?_drop]) (by rw [hdl, hlist]; exact hseq) (by rw [ha]; exact hfin _ vs u hall hj)
    rwa [hdl] at this) n (Array.replicate l.toArray.size false) (fun _ => undef) a0 { w with drawn := w.drawn + 1 } (cnt_start _ n) inv0 i0 j0
  rw [show n + (l.toArray.size - n) = l.toArray.size from by omega] at H
  exact H
end
end Go.Proofs.YtbobhhnhlgdkiaaGreat.Kahn

/- Blocks of any cells. -/
namespace Go.Proofs.YtbobhhnhlgdkiaaGreat
open Go.RowKit M Kahn
set_option maxRecDepth 100000

/-- Block g holds these cells, of a variable of this type. -/
structure Bk (w : World) (g : Nat) (ty : TypeId) (vs : List Value) : Prop where
  at_ : w.heap[g]? = some (.cells vs.toArray ty (0, 0))
section
variable {w w' : World} {g : Nat} {ty : TypeId} {vs : List Value}
theorem Bk.lt (h : Bk w g ty vs) : g < w.heap.size := (Array.getElem?_eq_some_iff.1 h.at_).1
theorem Bk.cell (h : Bk w g ty vs) (i : Nat) {v : Value} (hv : vs[i]? = some v) : w.cell? ⟨g, i, none⟩ = some v := by
  rw [cell_of_row w g i _ _ _ h.at_]
  simpa using hv
theorem Bk.free (h : Bk w g ty vs) (i : Nat) : w.frozen? ⟨g, i, none⟩ = false := frozen_of_row w g i _ _ h.at_
theorem Bk.keep (h : Bk w g ty vs) (hb : w'.heap[g]? = w.heap[g]?) : Bk w' g ty vs := ⟨by rw [hb]; exact h.at_⟩
theorem Bk.later (h : Bk w g ty vs) (hb : Below w.heap.size w w') : Bk w' g ty vs := h.keep (hb.block g h.lt)
theorem Bk.alloc (w : World) (ty : TypeId) (vs : List Value) : Bk (w.alloc (.cells vs.toArray ty)) w.heap.size ty vs := ⟨heap_alloc_new _ _⟩
end
/-- A pointer to a block. -/
def ptr (g : Nat) : Value := .pointer (some ⟨g, 0, none⟩)
end Go.Proofs.YtbobhhnhlgdkiaaGreat
