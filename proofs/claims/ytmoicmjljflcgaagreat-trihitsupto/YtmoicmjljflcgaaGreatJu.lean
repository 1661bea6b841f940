/- A region that draws its order, by one invariant; with guards. -/
import Derived.Test.YtmoicmjljflcgaaGreatJr
import Derived.Test.YtmoicmjljflcgaaGreatJp
import Derived.Deep.MidRow
import Derived.Laws.Small
namespace Go.Proofs.YtmoicmjljflcgaaGreat.Kahn
open Go
set_option maxRecDepth 100000

def tabG (ops : Array Oper) (n N0 : Nat) (tab : List Reads) : Bool :=
  (List.range n).all fun i => match ops[i]?, tab[i]? with
    | some o, some r =>
      (match o.dst with
        | some d => decide (d < N0) && (List.range n).all fun j => j == i || (match ops[j]? with | some oj => oj.dst != some d | none => true)
        | none => true) &&
      (r.1.all fun p => decide (p.1 < n) && Region.waitsFor .any ops i p.1 && (match ops[p.1]? with | some oj => oj.dst == some p.2 | none => false)) &&
      (r.2.all fun t => (List.range n).all fun j => match ops[j]? with | some oj => oj.dst != some t || Region.waitsFor .any ops j i | none => true) &&
      (match o.guard with
        | some (g, _) => decide (g < n) && Region.waitsFor .any ops i g && (match ops[g]? with | some og => og.dst.isSome | none => false)
        | none => true) &&
      (o.after.all fun e => !Region.binds .any e || decide (e.on < i))
    | _, _ => false
def regionG (ops : Array Oper) (n N0 : Nat) (tab : List Reads) : Bool :=
  decide (n < ops.size) && Region.sinkB .any ops n && Region.chainB .any ops n && Region.seqB .any ops (ops.size - n) n (Array.replicate n true ++ Array.replicate (ops.size - n) false) && tabG ops n N0 tab

section
variable {P : Program} {ops : Array Oper} {J : (Nat → Bool) → (Nat → Value) → World → Prop} {a0 : Act} {n N0 : Nat} {tab : List Reads}

/-- What is owed of operation i: it goes, and the invariant holds with it. -/
def OwedG (P : Program) (J : (Nat → Bool) → (Nat → Value) → World → Prop) (a0 : Act) (i : Nat) (o : Oper) (r : Reads) : Prop :=
  ∀ (L : Nat → Bool) (vs : Nat → Value) (ρ : Operand → Value) (u : World), J L vs u → L i = false → (∀ v, ρ (.const v) = v) → (∀ f, ρ (.func f) = .func (.func f) #[] #[]) →
    (∀ p ∈ r.1, L p.1 = true ∧ ρ (.tmp p.2) = vs p.1) → (∀ t ∈ r.2, ρ (.tmp t) = a0.eval (.tmp t)) → match o.guard with
      | none => Goes P o ρ u fun v u' => J (Upd L i true) (Upd vs i v) u'
      | some (g, b) => L g = true → (vs g = .bool b → Goes P o ρ u fun v u' => J (Upd L i true) (Upd vs i v) u') ∧ (vs g ≠ .bool b → J (Upd L i true) (Upd vs i undef) u)

structure InvG (ops : Array Oper) (a0 : Act) (n : Nat) (listed : Array Bool) (vs : Nat → Value) (a : Act) : Prop where
  defers : a.defers = a0.defers
  size : a.tmps.size = a0.tmps.size
  own : ∀ k o d, ops[k]? = some o → o.dst = some d → k < n → listed.getD k false = true → a.tmps.getD d undef = vs k
  other : ∀ t, (∀ k o, ops[k]? = some o → k < n → listed.getD k false = true → o.dst ≠ some t) → a.tmps.getD t undef = a0.tmps.getD t undef

structure TabG (ops : Array Oper) (n N0 : Nat) (i : Nat) (o : Oper) (r : Reads) : Prop where
  dst : ∀ d, o.dst = some d → d < N0 ∧ ∀ j oj, j < n → j ≠ i → ops[j]? = some oj → oj.dst ≠ some d
  deps : ∀ p ∈ r.1, p.1 < n ∧ (∃ e ∈ o.after, Region.binds .any e = true ∧ e.on = p.1) ∧ ∃ oj, ops[p.1]? = some oj ∧ oj.dst = some p.2
  orig : ∀ t ∈ r.2, ∀ j oj, j < n → ops[j]? = some oj → oj.dst = some t → ∃ e ∈ oj.after, Region.binds .any e = true ∧ e.on = i
  guard : ∀ g b, o.guard = some (g, b) → g < n ∧ (∃ e ∈ o.after, Region.binds .any e = true ∧ e.on = g) ∧ ∃ og d, ops[g]? = some og ∧ og.dst = some d
  lex : ∀ e ∈ o.after, Region.binds .any e = true → e.on < i

theorem tabG_spec (h : tabG ops n N0 tab = true) {i : Nat} (hi : i < n) : ∃ o r, ops[i]? = some o ∧ tab[i]? = some r ∧ TabG ops n N0 i o r := by
  have h1 := List.all_eq_true.1 h i (List.mem_range.2 hi)
  cases ho : ops[i]? with
  | none => simp [ho] at h1
  | some o =>
    cases hr : tab[i]? with
    | none => simp [ho, hr] at h1
    | some r =>
      simp only [ho, hr, Bool.and_eq_true] at h1
      obtain ⟨⟨⟨⟨h1, h2⟩, h3⟩, h4⟩, h5⟩ := h1
      refine ⟨o, r, rfl, rfl, ?_, ?_, ?_, ?_, ?_⟩
      · intro d hd
        simp only [hd, Bool.and_eq_true, decide_eq_true_eq] at h1
        refine ⟨h1.1, fun j oj hj hji hoj he => ?_⟩
        have := List.all_eq_true.1 h1.2 j (List.mem_range.2 hj)
        simp [hoj, he, hji] at this
      · intro p hp
        have := List.all_eq_true.1 h2 p hp
        simp only [Bool.and_eq_true, decide_eq_true_eq] at this
        obtain ⟨⟨k1, k2⟩, k3⟩ := this
        refine ⟨k1, waits_of ho k2, ?_⟩
        cases hoj : ops[p.1]? with
        | none => simp [hoj] at k3
        | some oj => exact ⟨oj, rfl, by simpa [hoj] using k3⟩
      · intro t ht j oj hj hoj hd
        have := List.all_eq_true.1 (List.all_eq_true.1 h3 t ht) j (List.mem_range.2 hj)
        simp only [hoj, hd, Bool.or_eq_true] at this
        rcases this with k | k
        · simp at k
        · exact waits_of hoj k
      · intro g b hg
        simp only [hg, Bool.and_eq_true, decide_eq_true_eq] at h4
        obtain ⟨⟨k1, k2⟩, k3⟩ := h4
        refine ⟨k1, waits_of ho k2, ?_⟩
        cases hog : ops[g]? with
        | none => simp [hog] at k3
        | some og =>
          simp only [hog] at k3
          obtain ⟨d, hd⟩ := Option.isSome_iff_exists.1 k3
          exact ⟨og, d, rfl, hd⟩
      · intro e he hb
        have := Array.all_eq_true'.1 h5 e he
        simpa [hb] using this

theorem InvG.set {listed : Array Bool} {a : Act} {i : Nat} {o : Oper} {r : Reads} {vs : Nat → Value} {v : Value} (inv : InvG ops a0 n listed vs a) (hN : a0.tmps.size = N0) (ho : ops[i]? = some o) (tb : TabG ops n N0 i o r) (hin : i < n) (hls : i < listed.size) (hiu : listed.getD i false = false) :
    InvG ops a0 n (listed.setIfInBounds i true) (Upd vs i v) (a.put o.dst v) := by
  refine ⟨?_, by rw [put_size]; exact inv.size, ?_, ?_⟩
  · cases hd : o.dst with
    | none => exact inv.defers
    | some d => exact inv.defers
  · intro k ok d hok hd hk hl
    by_cases hki : k = i
    · subst hki
      rw [ho] at hok
      cases hok
      rw [hd, put_get_eq _ _ (by rw [inv.size, hN]; exact (tb.dst _ hd).1), Upd.same]
    · rw [getD_set_ne false (Ne.symm hki)] at hl
      have hne : o.dst ≠ some d := fun he => (tb.dst d he).2 k ok hk hki hok hd
      rw [put_get_ne _ _ hne, Upd.ne hki]
      exact inv.own k ok d hok hd hk hl
  · intro t ht
    have hti : o.dst ≠ some t := ht i o ho hin (by simp [hls])
    rw [put_get_ne _ _ hti]
    exact inv.other t fun k ok hok hk hl => ht k ok hok hk (getD_set_true hl)

theorem kahnG_go {Q : Exit → Act → World → Prop} (hs : Region.sinkB .any ops n = true) (hc : Region.chainB .any ops n = true) (hn : n < ops.size) (hN : a0.tmps.size = N0) (htab : tabG ops n N0 tab = true)
    (howed : ∀ i o r, i < n → ops[i]? = some o → tab[i]? = some r → OwedG P J a0 i o r) (g : Nat)
    (hfin : ∀ listed vs a u, HeadInv .any ops n listed → (∀ k, k < n → listed.getD k false = true) → InvG ops a0 n listed vs a → J (fun k => listed.getD k false) vs u → wpAny P .any ops Q g listed a u) :
    ∀ (f : Nat) (listed : Array Bool) (vs : Nat → Value) (a : Act) (u : World), cnt listed n = f → HeadInv .any ops n listed → InvG ops a0 n listed vs a → J (fun k => listed.getD k false) vs u → wpAny P .any ops Q (f + g) listed a u := by
  intro f
  induction f with
  | zero =>
    intro listed vs a u hf hh inv hJ
    rw [Nat.zero_add]
    exact hfin listed vs a u hh (cnt_zero n hf) inv hJ
  | succ f ih =>
    intro listed vs a u hf hh inv hJ
    rw [show f + 1 + g = (f + g) + 1 from by omega]
    obtain ⟨k, hkn, hku, hkl⟩ := cnt_pos n (show 0 < cnt listed n by omega)
    have hrk : k ∈ Region.ready .any ops listed := by
      obtain ⟨o, r, ho, _, tb⟩ := tabG_spec htab hkn
      rw [mem_ready]
      exact ⟨getD_in (by rw [hh.size]; omega) hku, o, ho, fun e he hb => hkl _ (tb.lex e he hb)⟩
    refine ⟨fun h0 => (by rw [h0] at hrk; cases hrk), fun i hi => ?_⟩
    have hin : i < n := by
      rcases Nat.lt_or_ge i n with h | h
      · exact h
      · exact absurd hi (tail_waits hs hc hn hh _ k rfl hkn (getD_in (by rw [hh.size]; omega) hku) i h)
    obtain ⟨o, r, ho, hr, tb⟩ := tabG_spec htab hin
    obtain ⟨hiu, o', ho', hall⟩ := mem_ready.1 hi
    rw [ho] at ho'
    cases ho'
    have hls : i < listed.size := by rw [hh.size]; omega
    have hcnt := cnt_set (getD_both hiu) hls n hin
    unfold wpOp
    simp only [ho]
    have next : ∀ v u', J (Upd (fun k => listed.getD k false) i true) (Upd vs i v) u' → wpAny P .any ops Q (f + g) (listed.setIfInBounds i true) (a.put o.dst v) u' := fun v u' hJ' => by
      refine ih _ (Upd vs i v) _ _ (by omega) (hh.set hi hin) (inv.set hN ho tb hin hls (getD_both hiu)) ?_
      rw [getD_set_upd hls]
      exact hJ'
    have owed := howed i o r hin ho hr (fun k => listed.getD k false) vs a.eval u hJ (getD_both hiu) (fun _ => rfl) (fun _ => rfl) (fun p hp => by
      obtain ⟨h1, ⟨e, he, hb, hon⟩, oj, hoj, hd⟩ := tb.deps p hp
      have hl := hall e he hb
      rw [hon] at hl
      exact ⟨hl, inv.own p.1 oj p.2 hoj hd h1 hl⟩) (fun t ht => by
      show a.tmps.getD t undef = a0.tmps.getD t undef
      refine inv.other t fun j oj hoj hj hl hd => ?_
      obtain ⟨e, he, hb, hon⟩ := tb.orig t ht j oj hj hoj hd
      have := hh.closed j oj hoj hl e he hb
      rw [hon, getD_both hiu] at this
      cases this)
    cases hg : o.guard with
    | none =>
      rw [hg] at owed
      have hw : Region.wanted o (yielded ops a.tmps) = true := by
        unfold Region.wanted
        rw [hg]
      rw [if_pos hw]
      exact .inl (Goes.wp owed next)
    | some p =>
      obtain ⟨gi, b⟩ := p
      rw [hg] at owed
      obtain ⟨h1, ⟨e, he, hb, hon⟩, og, d, hog, hd⟩ := tb.guard gi b hg
      have hl := hall e he hb
      rw [hon] at hl
      obtain ⟨ow1, ow2⟩ := owed hl
      have hval := inv.own gi og d hog hd h1 hl
      have hdl : d < a.tmps.size := by
        obtain ⟨o2, _, ho2, _, tg⟩ := tabG_spec htab h1
        rw [hog] at ho2
        cases ho2
        rw [inv.size, hN]
        exact (tg.dst d hd).1
      have hy : yielded ops a.tmps gi = some b ↔ vs gi = .bool b := by
        unfold yielded
        simp only [hog, Option.bind_some, hd]
        rw [getD_some hdl, hval]
        cases vs gi <;> simp
      by_cases hv : vs gi = .bool b
      · have hw : Region.wanted o (yielded ops a.tmps) = true := by
          unfold Region.wanted
          rw [hg]
          simp [hy.2 hv]
        rw [if_pos hw]
        exact .inl (Goes.wp (ow1 hv) next)
      · have hw : Region.wanted o (yielded ops a.tmps) = false := by
          unfold Region.wanted
          rw [hg]
          have : yielded ops a.tmps gi ≠ some b := fun h => hv (hy.1 h)
          simp [this]
        rw [hw]
        exact next undef u (ow2 hv)

theorem putsG_is {l : List Oper} {listed : Array Bool} {vs : Nat → Value} {a : Act} (hl : ops = l.toArray) (hN : a0.tmps.size = N0) (htab : tabG ops n N0 tab = true) (hn : n < ops.size) (hall : ∀ k, k < n → listed.getD k false = true) (inv : InvG ops a0 n listed vs a) :
    a = puts vs (l.take n) 0 a0 := by
  subst hl
  have hln : n < l.length := by simpa using hn
  have hget : ∀ k, k < n → (l.take n)[k]? = l.toArray[k]? := fun k hk => by simp [hk]
  have hsz : a.tmps.size = (puts vs (l.take n) 0 a0).tmps.size := by
    rw [puts_size]; exact inv.size
  have ht : a.tmps = (puts vs (l.take n) 0 a0).tmps := by
    apply Array.ext hsz
    intro t h1 h2
    have e1 : a.tmps[t] = a.tmps.getD t undef := by simp [h1]
    have e2 : ∀ b : Act, ∀ h : t < b.tmps.size, b.tmps[t] = b.tmps.getD t undef := fun b h => by simp [h]
    rw [e1, e2 _ h2]
    by_cases hex : ∃ k o, k < n ∧ l.toArray[k]? = some o ∧ o.dst = some t
    · obtain ⟨k, o, hk, ho, hd⟩ := hex
      obtain ⟨o', _, ho', _, tb⟩ := tabG_spec htab hk
      rw [ho] at ho'
      cases ho'
      obtain ⟨hdl, hdist⟩ := tb.dst t hd
      rw [puts_own _ (l.take n) 0 a0 k o (by rw [hget k hk]; exact ho) hd (by rw [hN]; exact hdl) (fun j oj hj hjk => by
        have hjn : j < n := by
          by_cases h : j < n
          · exact h
          · rw [List.getElem?_eq_none (by simp; omega)] at hj; cases hj
        exact hdist j oj hjn hjk (by rw [← hget j hjn]; exact hj))]
      rw [Nat.zero_add]
      exact inv.own k o t ho hd hk (hall k hk)
    · rw [puts_other _ (l.take n) 0 a0 (fun o ho hd => hex (by
        obtain ⟨k, hk⟩ := List.getElem?_of_mem ho
        have hkn : k < n := by
          by_cases h : k < n
          · exact h
          · rw [List.getElem?_eq_none (by simp; omega)] at hk; cases hk
        exact ⟨k, o, hkn, by rw [← hget k hkn]; exact hk, hd⟩))]
      exact inv.other t fun k o ho hk _ hd => hex ⟨k, o, hk, ho, hd⟩
  have hdf := inv.defers
  rw [← puts_defers vs (l.take n) 0 a0] at hdf
  generalize puts _ (l.take n) 0 a0 = b at ht hdf
  cases a
  cases b
  simp_all

/-- **A region that draws its order, by an invariant.** -/
theorem wp_region_gd {id : Nat} {Q : Exit → Act → World → Prop} {w : World} {l : List Oper} (n N0 : Nat) (tab : List Reads) (J : (Nat → Bool) → (Nat → Value) → World → Prop)
    (hm : P.follows .mixedOrders = true) (hN : a0.tmps.size = N0) (hB : regionG l.toArray n N0 tab = true) (hJ : ∀ vs, J (fun _ => false) vs { w with drawn := w.drawn + 1 })
    (howed : ∀ i o r, i < n → l[i]? = some o → tab[i]? = some r → OwedG P J a0 i o r)
    (hfin : ∀ (L : Nat → Bool) (vs : Nat → Value) (u : World), (∀ k, k < n → L k = true) → J L vs u → wpList P l.toArray Q (l.drop n) (puts vs (l.take n) 0 a0) u) : (Code.region id l.toArray true).wp P Q a0 w := by
  simp only [regionG, Bool.and_eq_true, decide_eq_true_eq] at hB
  obtain ⟨⟨⟨⟨hn, hs⟩, hc⟩, hseq⟩, htab⟩ := hB
  have hln : n < l.length := by simpa using hn
  have hdl : (l.drop n).length = l.toArray.size - n := by simp
  have inv0 : HeadInv .any l.toArray n (Array.replicate l.toArray.size false) :=
    ⟨by simp, fun j oj _ hl => (by rw [getD_replicate_false] at hl; cases hl), fun t _ ht => getD_in (by simpa using ht) (getD_replicate_false _ _)⟩
  have i0 : InvG l.toArray a0 n (Array.replicate l.toArray.size false) (fun _ => undef) a0 :=
    ⟨rfl, rfl, fun k o d _ _ _ hl => (by rw [getD_replicate_false] at hl; cases hl), fun t _ => rfl⟩
  have j0 : J (fun k => (Array.replicate l.toArray.size false).getD k false) (fun _ => undef) { w with drawn := w.drawn + 1 } := by
    have : (fun k => (Array.replicate l.toArray.size false).getD k false) = fun _ => false := by funext k; exact getD_replicate_false _ _
    rw [this]
    exact hJ _
  refine wp_region_any hm ?_
  have H := kahnG_go (P := P) (Q := Q) (J := J) hs hc hn hN htab (fun i o r hi ho hr => howed i o r hi (by simpa using ho) hr) (l.toArray.size - n) (fun listed vs a u hh hall inv hj => by
    have ha := putsG_is rfl hN htab hn hall inv
    have hlist : listed = Array.replicate n true ++ Array.replicate (l.toArray.size - n) false := by
      apply Array.ext
      · rw [hh.size]; simp; omega
      · intro t h1 h2
        have e1 : listed[t] = listed.getD t false := by simp [h1]
        have e3 : listed[t] = listed.getD t true := by simp [h1]
        by_cases htn : t < n
        · rw [e1, hall t htn]
          simp [htn]
        · rw [e3, hh.tail t (by omega) (by rw [← hh.size]; exact h1)]
          simp [Array.getElem_append, htn]
    have := wpAny_of_seq (P := P) (ops := l.toArray) (md := .any) (Q' := Q) (l.drop n) n listed a u (fun j => by simp [List.getElem?_drop]) (by rw [hdl, hlist]; exact hseq) (by rw [ha]; exact hfin _ vs u hall hj)
    rwa [hdl] at this) n (Array.replicate l.toArray.size false) (fun _ => undef) a0 { w with drawn := w.drawn + 1 } (cnt_start _ n) inv0 i0 j0
  rw [show n + (l.toArray.size - n) = l.toArray.size from by omega] at H
  exact H
end
end Go.Proofs.YtmoicmjljflcgaaGreat.Kahn

/- Blocks of any cells. -/
namespace Go.Proofs.YtmoicmjljflcgaaGreat
open Go.RowKit M Kahn
set_option maxRecDepth 100000

/-- Block g holds these cells, of a variable of this type. -/
structure Bk (w : World) (g : Nat) (ty : TypeId) (vs : List Value) : Prop where
  at_ : w.heap[g]? = some (.cells vs.toArray ty (0, 0))
section
variable {w w' : World} {g : Nat} {ty : TypeId} {vs : List Value}
theorem Bk.lt (h : Bk w g ty vs) : g < w.heap.size := (Array.getElem?_eq_some_iff.1 h.at_).1
theorem Bk.cell (h : Bk w g ty vs) (i : Nat) {v : Value} (hv : vs[i]? = some v) : w.cell? ⟨g, i, none⟩ = some v := by
  rw [cell_of_row w g i _ _ _ h.at_]
  simpa using hv
theorem Bk.free (h : Bk w g ty vs) (i : Nat) : w.frozen? ⟨g, i, none⟩ = false := frozen_of_row w g i _ _ h.at_
theorem Bk.keep (h : Bk w g ty vs) (hb : w'.heap[g]? = w.heap[g]?) : Bk w' g ty vs := ⟨by rw [hb]; exact h.at_⟩
theorem Bk.later (h : Bk w g ty vs) (hb : Below w.heap.size w w') : Bk w' g ty vs := h.keep (hb.block g h.lt)
theorem Bk.alloc (w : World) (ty : TypeId) (vs : List Value) : Bk (w.alloc (.cells vs.toArray ty)) w.heap.size ty vs := ⟨heap_alloc_new _ _⟩
end
/-- A pointer to a block. -/
def ptr (g : Nat) : Value := .pointer (some ⟨g, 0, none⟩)
end Go.Proofs.YtmoicmjljflcgaaGreat

/- Values that are made of Rats and single cells: what is known of them; what lasts. -/
namespace Go.Proofs.YtmoicmjljflcgaaGreat.Sym
open Go Go.RowKit M Kahn
set_option maxRecDepth 100000

/-- A part of a value: a Rat that is read as q, of at most K limbs (the canonical one); a single cell. -/
structure Lf where
  x : (Rat × Nat × Bool) ⊕ Value
def Lf.size : Lf → Nat
  | ⟨.inl (_, _, _)⟩ => 3
  | ⟨.inr _⟩ => 1
def lsize : List Lf → Nat
  | [] => 0
  | x :: l => x.size + lsize l
/-- One cell, and no limb. -/
def plain : Value → Bool
  | .int .u32 _ => false
  | .agg _ => false
  | .tuple _ => false
  | _ => true
def LfIs (u : World) : Lf → List Value → Prop
  | ⟨.inl (q, K, true)⟩, vs => ∃ r : RP, vs = r.cells ∧ Cp u r q K
  | ⟨.inl (q, K, false)⟩, vs => ∃ r : RP, vs = r.cells ∧ Qp u r q K
  | ⟨.inr v⟩, vs => vs = [v] ∧ plain v = true
def Cells (u : World) : List Lf → List Value → Prop
  | [], vs => vs = []
  | x :: l, vs => ∃ a b, vs = a ++ b ∧ LfIs u x a ∧ Cells u l b

theorem LfIs.len {u : World} : ∀ {x : Lf} {vs : List Value}, LfIs u x vs → vs.length = x.size
  | ⟨.inl (_, _, true)⟩, _, ⟨_, h, _⟩ => by rw [h]; rfl
  | ⟨.inl (_, _, false)⟩, _, ⟨_, h, _⟩ => by rw [h]; rfl
  | ⟨.inr _⟩, _, ⟨h, _⟩ => by rw [h]; rfl
theorem Cells.len {u : World} : ∀ {l : List Lf} {vs : List Value}, Cells u l vs → vs.length = lsize l
  | [], _, h => by rw [h]; rfl
  | x :: l, _, ⟨a, b, h, h1, h2⟩ => by rw [h, List.length_append, h1.len, Cells.len h2]; rfl
theorem lsize_app : ∀ (l m : List Lf), lsize (l ++ m) = lsize l + lsize m
  | [], m => by simp [lsize]
  | x :: l, m => by simp only [List.cons_append, lsize, lsize_app l m]; omega
theorem Cells.app {u : World} : ∀ {l m : List Lf} {vs : List Value}, Cells u (l ++ m) vs ↔ ∃ a b, vs = a ++ b ∧ Cells u l a ∧ Cells u m b
  | [], m, vs => ⟨fun h => ⟨[], vs, rfl, rfl, h⟩, fun ⟨a, b, h, h1, h2⟩ => by cases h1; rw [h]; exact h2⟩
  | x :: l, m, vs => by
    constructor
    · rintro ⟨a, b, rfl, h1, h2⟩
      obtain ⟨c, d, rfl, h3, h4⟩ := Cells.app.1 h2
      exact ⟨a ++ c, d, by simp, ⟨a, c, rfl, h1, h3⟩, h4⟩
    · rintro ⟨a, b, rfl, ⟨c, d, rfl, h1, h2⟩, h3⟩
      exact ⟨c, d ++ b, by simp, h1, Cells.app.2 ⟨d, b, rfl, h2, h3⟩⟩
theorem rcells_plain (r : RP) : ∀ v ∈ r.cells, plain v = true := by
  intro v hv
  simp only [RP.cells, List.mem_cons, List.not_mem_nil, or_false] at hv
  rcases hv with rfl | rfl | rfl <;> rfl
theorem LfIs.plain {u : World} : ∀ {x : Lf} {vs : List Value}, LfIs u x vs → ∀ v ∈ vs, plain v = true
  | ⟨.inl (_, _, true)⟩, _, ⟨r, h, _⟩ => by rw [h]; exact rcells_plain r
  | ⟨.inl (_, _, false)⟩, _, ⟨r, h, _⟩ => by rw [h]; exact rcells_plain r
  | ⟨.inr _⟩, _, ⟨h, h'⟩ => by rw [h]; intro v hv; rw [List.mem_singleton] at hv; rw [hv]; exact h'
theorem Cells.plain {u : World} : ∀ {l : List Lf} {vs : List Value}, Cells u l vs → ∀ v ∈ vs, plain v = true
  | [], _, h => by rw [h]; intro v hv; cases hv
  | x :: l, _, ⟨a, b, h, h1, h2⟩ => by
    rw [h]; intro v hv
    rcases List.mem_append.1 hv with h | h
    · exact h1.plain v h
    · exact Cells.plain h2 v h
theorem plain_one {v : Value} (h : plain v = true) : v.oneCell' = true := by
  cases v <;> first | rfl | cases h
theorem plain_cells {v : Value} (h : plain v = true) : v.cells = #[v] := by
  cases v <;> first | rfl | cases h

/- What lasts: where memory is only added to; where a block without limbs is stored to. -/
theorem LfIs.later {u u' : World} (hb : Below u.heap.size u u') : ∀ {x : Lf} {vs : List Value}, LfIs u x vs → LfIs u' x vs
  | ⟨.inl (_, _, true)⟩, _, ⟨r, h, h'⟩ => ⟨r, h, h'.later hb⟩
  | ⟨.inl (_, _, false)⟩, _, ⟨r, h, h'⟩ => ⟨r, h, h'.later hb⟩
  | ⟨.inr _⟩, _, h => h
theorem Cells.later {u u' : World} (hb : Below u.heap.size u u') : ∀ {l : List Lf} {vs : List Value}, Cells u l vs → Cells u' l vs
  | [], _, h => h
  | _ :: _, _, ⟨a, b, h, h1, h2⟩ => ⟨a, b, h, h1.later hb, Cells.later hb h2⟩
theorem sl_store {w w' : World} {g : Nat} {ty : TypeId} {cs : List Value} {ao : Option Addr} {n cap : Nat} {xs : List Nat} (h : Sl w.heap.size w ao n cap xs) (hb : Bk w g ty cs) (hp : ∀ v ∈ cs, plain v = true) (hf : Fr g w w') : Sl w'.heap.size w' ao n cap xs := by
  refine ⟨h.len, h.le, h.lim, fun h0 => ?_, h.nilc⟩
  obtain ⟨k, o, e1, e2, e3⟩ := h.there h0
  have hne : k ≠ g := by
    intro he
    subst he
    have hc := e3 0 h0
    rw [Nat.add_zero, cell_of_row w k o _ _ _ hb.at_] at hc
    have hm := Array.mem_of_getElem? hc
    have := hp _ (by simpa using hm)
    cases this
  refine ⟨k, o, e1, by rw [hf.size]; exact e2, fun i hi => ?_⟩
  rw [World.cell?_of_block (w := w) (a := ⟨k, o + i, none⟩) (hf.block k hne)]
  exact e3 i hi
theorem LfIs.store {u u' : World} {g : Nat} {ty : TypeId} {cs : List Value} (hb : Bk u g ty cs) (hp : ∀ v ∈ cs, Sym.plain v = true) (hf : Fr g u u') : ∀ {x : Lf} {vs : List Value}, LfIs u x vs → LfIs u' x vs
  | ⟨.inl (_, _, true)⟩, _, ⟨r, h, h'⟩ => ⟨r, h, ⟨h'.sgn, sl_store h'.num hb hp hf, sl_store h'.den hb hp hf, h'.ln, h'.ld⟩⟩
  | ⟨.inl (_, _, false)⟩, _, ⟨r, h, h'⟩ => by
    obtain ⟨xs, ys, h1, h2, h3⟩ := h'.there
    exact ⟨r, h, ⟨⟨xs, ys, sl_store h1 hb hp hf, sl_store h2 hb hp hf, h3⟩, h'.ln, h'.ld⟩⟩
  | ⟨.inr _⟩, _, h => h
theorem Cells.store {u u' : World} {g : Nat} {ty : TypeId} {cs : List Value} (hb : Bk u g ty cs) (hp : ∀ v ∈ cs, Sym.plain v = true) (hf : Fr g u u') : ∀ {l : List Lf} {vs : List Value}, Cells u l vs → Cells u' l vs
  | [], _, h => h
  | _ :: _, _, ⟨a, b, h, h1, h2⟩ => ⟨a, b, h, h1.store hb hp hf, Cells.store hb hp hf h2⟩

/-- The first parts, n cells of them, and the rest. -/
def cut : List Lf → Nat → Option (List Lf × List Lf)
  | l, 0 => some ([], l)
  | [], _ + 1 => none
  | x :: l, n + 1 => match Nat.ble x.size (n + 1) with
    | true => match cut l (n + 1 - x.size) with
      | some (a, b) => some (x :: a, b)
      | none => none
    | false => none
theorem cut_spec : ∀ {l : List Lf} {n : Nat} {a b : List Lf}, cut l n = some (a, b) → l = a ++ b ∧ lsize a = n
  | l, 0, a, b, h => by
    have : cut l 0 = some ([], l) := by cases l <;> rfl
    rw [this] at h; cases h; exact ⟨rfl, rfl⟩
  | [], n + 1, a, b, h => by cases h
  | x :: l, n + 1, a, b, h => by
    simp only [cut] at h
    split at h
    · rename_i hle
      split at h
      · rename_i a' b' hc
        cases h
        obtain ⟨h1, h2⟩ := cut_spec hc
        have := Nat.le_of_ble_eq_true hle
        exact ⟨by rw [h1]; rfl, by simp only [lsize]; omega⟩
      · cases h
    · cases h
/-- n cells from the place o on; what stands ahead of them, and behind. -/
def mid (l : List Lf) (o n : Nat) : Option (List Lf × List Lf × List Lf) := match cut l o with
  | some (a, r) => match cut r n with
    | some (m, b) => some (a, m, b)
    | none => none
  | none => none
theorem mid_spec {l : List Lf} {o n : Nat} {a m b : List Lf} (h : mid l o n = some (a, m, b)) : l = a ++ (m ++ b) ∧ lsize a = o ∧ lsize m = n := by
  unfold mid at h
  split at h
  · rename_i a' r hc
    split at h
    · rename_i m' b' hd
      cases h
      obtain ⟨h1, h2⟩ := cut_spec hc
      obtain ⟨h3, h4⟩ := cut_spec hd
      exact ⟨by rw [h1, h3], h2, h4⟩
    · cases h
  · cases h
theorem Cells.mid {u : World} {l : List Lf} {o n : Nat} {a m b : List Lf} {vs : List Value} (h : Cells u l vs) (hm : Sym.mid l o n = some (a, m, b)) : ∃ x y z, vs = x ++ (y ++ z) ∧ x.length = o ∧ y.length = n ∧ Cells u a x ∧ Cells u m y ∧ Cells u b z := by
  obtain ⟨e, h1, h2⟩ := mid_spec hm
  rw [e] at h
  obtain ⟨x, r, rfl, c1, c2⟩ := Cells.app.1 h
  obtain ⟨y, z, rfl, c3, c4⟩ := Cells.app.1 c2
  exact ⟨x, y, z, rfl, by rw [c1.len, h1], by rw [c3.len, h2], c1, c3, c4⟩

/- Cells of a block. -/
theorem bk_range {w : World} {g : Nat} {ty : TypeId} {x y z : List Value} (h : Bk w g ty (x ++ (y ++ z))) : w.rangeAt g x.length y := fun j v hv => h.cell (x.length + j) (by
  have hj : j < y.length := (List.getElem?_eq_some_iff.1 hv).1
  rw [List.getElem?_append_right (by omega), Nat.add_sub_cancel_left, List.getElem?_append_left hj]; exact hv)
theorem bk_there {w : World} {g : Nat} {ty : TypeId} {x y z : List Value} (h : Bk w g ty (x ++ (y ++ z))) : w.there g x.length y.length := fun j hj =>
  ⟨by rw [bk_range h j _ (List.getElem?_eq_getElem hj)]; rfl, h.free _⟩
theorem setCells_fr (g : Nat) : ∀ (vs : List Value) (o : Nat) (w w' : World), Fr g w w' → Fr g w (w'.setCells g o vs)
  | [], _, _, _, h => h
  | v :: r, o, w, _, h => setCells_fr g r (o + 1) w _ (h.set o v)
theorem setCell_bk {w : World} {g : Nat} {ty : TypeId} {vs : List Value} (h : Bk w g ty vs) (i : Nat) (v : Value) : Bk (w.setCell ⟨g, i, none⟩ v) g ty (vs.set i v) := ⟨by
  rw [heap_setCell_same w g i _ _ v h.at_, List.setIfInBounds_toArray]⟩
theorem setCells_bk (g : Nat) (ty : TypeId) : ∀ (ys xs ws zs : List Value) (w : World), Bk w g ty (xs ++ (ws ++ zs)) → ws.length = ys.length → Bk (w.setCells g xs.length ys) g ty (xs ++ (ys ++ zs))
  | [], xs, ws, zs, w, h, hl => by
    have : ws = [] := List.eq_nil_of_length_eq_zero hl
    subst this
    exact h
  | y :: ys, xs, [], zs, w, h, hl => by simp at hl
  | y :: ys, xs, x :: ws, zs, w, h, hl => by
    have h1 := setCell_bk h xs.length y
    have e : (xs ++ (x :: ws ++ zs)).set xs.length y = (xs ++ [y]) ++ (ws ++ zs) := by simp
    rw [e] at h1
    have := setCells_bk g ty ys (xs ++ [y]) ws zs _ h1 (by simpa using hl)
    rw [List.length_append] at this
    simpa [World.setCells] using this
end Go.Proofs.YtmoicmjljflcgaaGreat.Sym

/- What is known of values and of the world while a function runs. -/
namespace Go.Proofs.YtmoicmjljflcgaaGreat.Sym
open Go Go.RowKit M Kahn
set_option maxRecDepth 100000

/-- What is known of a value: nothing; which one it is; a struct of these parts; a pointer into box b; a pointer to such parts, in no box; a slice of such structs. -/
structure BV where
  x : Option (Value ⊕ List Lf ⊕ (Nat × Nat) ⊕ List Lf ⊕ List (List Lf))
structure AV where
  x : BV ⊕ List BV
def av1 (b : BV) : AV := ⟨.inl b⟩
/-- A block that is there and is no box. -/
def Out (β : Nat → Option Nat) (u : World) (b : Nat) : Prop := b < u.heap.size ∧ ∀ k, β k ≠ some b
def BV.Is (β : Nat → Option Nat) (u : World) : BV → Value → Prop
  | ⟨none⟩, _ => True
  | ⟨some (.inl v)⟩, x => x = v
  | ⟨some (.inr (.inl l))⟩, x => ∃ vs, x = .agg vs.toArray ∧ Cells u l vs
  | ⟨some (.inr (.inr (.inl (b, off))))⟩, x => ∃ g, β b = some g ∧ x = .pointer (some ⟨g, off, none⟩)
  | ⟨some (.inr (.inr (.inr (.inl l))))⟩, x => ∃ b o vs, x = .pointer (some ⟨b, o, none⟩) ∧ Out β u b ∧ Cells u l vs ∧ u.rangeAt b o vs
  | ⟨some (.inr (.inr (.inr (.inr ls))))⟩, x => ∃ ao cap, x = .slice ao ls.length cap ∧ ls.length ≤ cap ∧ (0 < ls.length → ∃ b o vs, ao = some ⟨b, o, none⟩ ∧ Out β u b ∧ Cells u ls.flatten vs ∧ u.rangeAt b o vs)
def AllIs (β : Nat → Option Nat) (u : World) : List BV → List Value → Prop
  | [], vs => vs = []
  | a :: l, vs => ∃ v r, vs = v :: r ∧ a.Is β u v ∧ AllIs β u l r
def AV.Is (β : Nat → Option Nat) (u : World) : AV → Value → Prop
  | ⟨.inl b⟩, x => b.Is β u x
  | ⟨.inr l⟩, x => ∃ vs, x = .tuple vs.toArray ∧ AllIs β u l vs

/-- From one world to a later one. -/
structure Tr (β : Nat → Option Nat) (u : World) (β' : Nat → Option Nat) (u' : World) : Prop where
  box : ∀ k g, β k = some g → β' k = some g
  out : ∀ b, Out β u b → Out β' u' b ∧ u'.heap[b]? = u.heap[b]?
  cells : ∀ l vs, Cells u l vs → Cells u' l vs
theorem Tr.refl (β : Nat → Option Nat) (u : World) : Tr β u β u := ⟨fun _ _ h => h, fun _ h => ⟨h, rfl⟩, fun _ _ h => h⟩
theorem range_keep {u u' : World} {b o : Nat} {vs : List Value} (h : u.rangeAt b o vs) (hb : u'.heap[b]? = u.heap[b]?) : u'.rangeAt b o vs := fun j v hv => by
  rw [World.cell?_of_block (w := u) (a := ⟨b, o + j, none⟩) hb]; exact h j v hv
theorem BV.Is.tr {β β' : Nat → Option Nat} {u u' : World} (t : Tr β u β' u') : ∀ {a : BV} {x : Value}, a.Is β u x → a.Is β' u' x
  | ⟨none⟩, _, h => h
  | ⟨some (.inl _)⟩, _, h => h
  | ⟨some (.inr (.inl _))⟩, _, ⟨vs, h, h'⟩ => ⟨vs, h, t.cells _ _ h'⟩
  | ⟨some (.inr (.inr (.inl (_, _))))⟩, _, ⟨g, h, h'⟩ => ⟨g, t.box _ _ h, h'⟩
  | ⟨some (.inr (.inr (.inr (.inl _))))⟩, _, ⟨b, o, vs, h1, h2, h3, h4⟩ => ⟨b, o, vs, h1, (t.out b h2).1, t.cells _ _ h3, range_keep h4 (t.out b h2).2⟩
  | ⟨some (.inr (.inr (.inr (.inr _))))⟩, _, ⟨ao, cap, h1, h2, h3⟩ => ⟨ao, cap, h1, h2, fun h0 => by
      obtain ⟨b, o, vs, e1, e2, e3, e4⟩ := h3 h0
      exact ⟨b, o, vs, e1, (t.out b e2).1, t.cells _ _ e3, range_keep e4 (t.out b e2).2⟩⟩
theorem AllIs.tr {β β' : Nat → Option Nat} {u u' : World} (t : Tr β u β' u') : ∀ {l : List BV} {vs : List Value}, AllIs β u l vs → AllIs β' u' l vs
  | [], _, h => h
  | _ :: _, _, ⟨v, r, h, h1, h2⟩ => ⟨v, r, h, h1.tr t, AllIs.tr t h2⟩
theorem AV.Is.tr {β β' : Nat → Option Nat} {u u' : World} (t : Tr β u β' u') : ∀ {a : AV} {x : Value}, a.Is β u x → a.Is β' u' x
  | ⟨.inl _⟩, _, h => BV.Is.tr t h
  | ⟨.inr _⟩, _, ⟨vs, h, h'⟩ => ⟨vs, h, h'.tr t⟩
theorem AllIs.get {β : Nat → Option Nat} {u : World} : ∀ {l : List BV} {vs : List Value} {i : Nat} {b : BV}, AllIs β u l vs → l[i]? = some b → ∃ v, vs[i]? = some v ∧ b.Is β u v
  | [], _, _, _, _, h => by simp at h
  | _ :: _, _, 0, _, ⟨v, r, h, h1, _⟩, hb => by simp at hb; subst hb; exact ⟨v, by rw [h]; rfl, h1⟩
  | _ :: _, _, i + 1, _, ⟨v, r, h, _, h2⟩, hb => by
    obtain ⟨x, h3, h4⟩ := AllIs.get h2 (by simpa using hb)
    exact ⟨x, by rw [h]; simpa using h3, h4⟩
theorem AllIs.len {β : Nat → Option Nat} {u : World} : ∀ {l : List BV} {vs : List Value}, AllIs β u l vs → vs.length = l.length
  | [], _, h => by rw [h]; rfl
  | _ :: _, _, ⟨v, r, h, _, h2⟩ => by rw [h]; simp [AllIs.len h2]

/-- The boxes: their types, and what they hold. -/
structure Bx where
  ty : TypeId
  l : List Lf
/-- What holds of the world: memory that was there is as it was; the boxes lie in blocks of their own, each with what it holds. -/
structure WS (w0 : World) (bx : List Bx) (β : Nat → Option Nat) (u : World) : Prop where
  bel : Below w0.heap.size w0 u
  low : ∀ k g, β k = some g → w0.heap.size ≤ g
  inj : ∀ j k g, β j = some g → β k = some g → j = k
  dom : ∀ k g, β k = some g → k < bx.length
  cont : ∀ k b g, bx[k]? = some b → β k = some g → ∃ vs, Bk u g b.ty vs ∧ Cells u b.l vs
variable {w0 : World} {bx : List Bx} {β : Nat → Option Nat} {u u' : World}
theorem WS.there (h : WS w0 bx β u) {k g : Nat} (hk : β k = some g) : g < u.heap.size := by
  obtain ⟨vs, hb, _⟩ := h.cont k _ g (List.getElem?_eq_getElem (h.dom k g hk)) hk
  exact hb.lt
/-- Memory is added to. -/
theorem Tr.later (hb : Below u.heap.size u u') : Tr β u β u' :=
  ⟨fun _ _ h => h, fun b hb' => ⟨⟨Nat.lt_of_lt_of_le hb'.1 hb.size, hb'.2⟩, hb.block b hb'.1⟩, fun _ _ h => h.later hb⟩
theorem WS.later (h : WS w0 bx β u) (hb : Below u.heap.size u u') : WS w0 bx β u' :=
  ⟨h.bel.trans (hb.mono h.bel.size), h.low, h.inj, h.dom, fun k b g h1 h2 => by
    obtain ⟨vs, h3, h4⟩ := h.cont k b g h1 h2
    exact ⟨vs, h3.later hb, h4.later hb⟩⟩
/-- A box is laid. -/
def bset (β : Nat → Option Nat) (k g : Nat) : Nat → Option Nat := fun j => if j = k then some g else β j
theorem bset_same (β : Nat → Option Nat) (k g : Nat) : bset β k g k = some g := by unfold bset; rw [if_pos rfl]
theorem bset_ne {β : Nat → Option Nat} {k g j : Nat} (h : j ≠ k) : bset β k g j = β j := by unfold bset; rw [if_neg h]
theorem below_alloc (u : World) (o : Obj) : Below u.heap.size u (u.alloc o) := (Below.refl _ _).alloc (Nat.le_refl _) _
theorem Tr.alloc {k : Nat} (hk : β k = none) (o : Obj) : Tr β u (bset β k u.heap.size) (u.alloc o) := by
  refine ⟨fun j g hj => by rw [bset_ne (fun e => by rw [e, hk] at hj; cases hj)]; exact hj, fun b hb => ⟨⟨Nat.lt_of_lt_of_le hb.1 (below_alloc u o).size, fun j hj => ?_⟩, (below_alloc u o).block b hb.1⟩, fun _ _ h => h.later (below_alloc u o)⟩
  by_cases e : j = k
  · subst e; rw [bset_same] at hj; cases hj; exact Nat.lt_irrefl _ hb.1
  · rw [bset_ne e] at hj; exact hb.2 j hj
theorem WS.alloc (h : WS w0 bx β u) {k : Nat} {b : Bx} {vs : List Value} (hk : β k = none) (hb : bx[k]? = some b) (hc : Cells u b.l vs) : WS w0 bx (bset β k u.heap.size) (u.alloc (.cells vs.toArray b.ty)) := by
  have lb := below_alloc u (.cells vs.toArray b.ty)
  refine ⟨h.bel.trans (lb.mono h.bel.size), fun j g hj => ?_, fun i j g hi hj => ?_, fun j g hj => ?_, fun j b' g hb' hj => ?_⟩
  · by_cases e : j = k
    · subst e; rw [bset_same] at hj; cases hj; exact h.bel.size
    · rw [bset_ne e] at hj; exact h.low j g hj
  · by_cases e1 : i = k <;> by_cases e2 : j = k
    · rw [e1, e2]
    · subst e1; rw [bset_same] at hi; rw [bset_ne e2] at hj; cases hi; exact absurd (h.there hj) (Nat.lt_irrefl _)
    · subst e2; rw [bset_same] at hj; rw [bset_ne e1] at hi; cases hj; exact absurd (h.there hi) (Nat.lt_irrefl _)
    · rw [bset_ne e1] at hi; rw [bset_ne e2] at hj; exact h.inj i j g hi hj
  · by_cases e : j = k
    · subst e; exact (List.getElem?_eq_some_iff.1 hb).1
    · rw [bset_ne e] at hj; exact h.dom j g hj
  · by_cases e : j = k
    · subst e; rw [bset_same] at hj; cases hj; rw [hb] at hb'; cases hb'
      exact ⟨vs, Bk.alloc u b.ty vs, hc.later lb⟩
    · rw [bset_ne e] at hj
      obtain ⟨ws, h3, h4⟩ := h.cont j b' g hb' hj
      exact ⟨ws, h3.later lb, h4.later lb⟩
/-- A box is stored to. -/
theorem WS.tr_store (h : WS w0 bx β u) {k g : Nat} {b : Bx} (hk : β k = some g) (hb : bx[k]? = some b) (hf : Fr g u u') : Tr β u β u' := by
  obtain ⟨vs, h1, h2⟩ := h.cont k b g hb hk
  exact ⟨fun _ _ h => h, fun b' hb' => ⟨⟨by rw [hf.size]; exact hb'.1, hb'.2⟩, hf.block b' (fun e => hb'.2 k (by rw [e]; exact hk))⟩, fun _ _ hc => hc.store h1 h2.plain hf⟩
theorem WS.store (h : WS w0 bx β u) {k g : Nat} {b : Bx} {l' : List Lf} {ws : List Value} (hk : β k = some g) (hb : bx[k]? = some b) (hf : Fr g u u') (hn : Bk u' g b.ty ws) (hc : Cells u l' ws) : WS w0 (bx.set k ⟨b.ty, l'⟩) β u' := by
  have t := h.tr_store hk hb hf
  refine ⟨h.bel.trans (hf.below (h.low k g hk)), h.low, h.inj, fun j g' hj => by rw [List.length_set]; exact h.dom j g' hj, fun j b' g' hb' hj => ?_⟩
  by_cases e : j = k
  · subst e
    rw [hk] at hj; cases hj
    rw [List.getElem?_set_self (h.dom j g hk)] at hb'
    cases hb'
    exact ⟨ws, hn, t.cells _ _ hc⟩
  · rw [List.getElem?_set_ne (Ne.symm e)] at hb'
    obtain ⟨vs, h3, h4⟩ := h.cont j b' g' hb' hj
    exact ⟨vs, h3.keep (hf.block g' (fun e' => e (h.inj j k g' hj (by rw [e']; exact hk)))), t.cells _ _ h4⟩
/-- New boxes are thought of, that are not there yet. -/
theorem WS.more (h : WS w0 bx β u) (m : List Bx) : WS w0 (bx ++ m) β u :=
  ⟨h.bel, h.low, h.inj, fun k g hk => by have := h.dom k g hk; rw [List.length_append]; omega, fun k b g hb hk => h.cont k b g (by rwa [List.getElem?_append_left (h.dom k g hk)] at hb) hk⟩
end Go.Proofs.YtmoicmjljflcgaaGreat.Sym

/- Operations, by what is known of their operands. -/
namespace Go.Proofs.YtmoicmjljflcgaaGreat.Sym
open Go Go.RowKit M Kahn
set_option maxRecDepth 100000

/-- Types: a struct (cells; each field's place, cells, whether it is a struct itself; the zero value), a single cell, a slice, an array (how many, of what). -/
structure TI where
  x : (Nat × List (Nat × Nat × Bool) × List Lf) ⊕ Value ⊕ TypeId ⊕ (Nat × TypeId)
abbrev TT := List (Nat × TI)
def TT.at : TT → Nat → Option TI
  | [], _ => none
  | (k, x) :: l, t => match Nat.beq k t with
    | true => some x
    | false => TT.at l t
def FieldsOk (P : Program) : List (Nat × Nat × Bool) → List Field → Prop
  | (o, s, r) :: l, f :: fs => (f.offset = o ∧ (P.info? f.type).map (·.size) = some s ∧ s ≠ 0 ∧ ∃ d, P.underlying f.type = some d ∧ d.isRow = r) ∧ FieldsOk P l fs
  | [], [] => True
  | _, _ => False
theorem FieldsOk.get {P : Program} : ∀ {l : List (Nat × Nat × Bool)} {fs : List Field} {i o s : Nat} {r : Bool}, FieldsOk P l fs → l[i]? = some (o, s, r) →
    ∃ f d, fs[i]? = some f ∧ f.offset = o ∧ (P.info? f.type).map (·.size) = some s ∧ s ≠ 0 ∧ P.underlying f.type = some d ∧ d.isRow = r
  | [], _, _, _, _, _, _, h => by simp at h
  | _ :: _, [], _, _, _, _, h, _ => by cases h
  | _ :: _, f :: _, 0, _, _, _, ⟨⟨h1, h2, h3, d, h4, h5⟩, _⟩, h => by
    simp at h; cases h; exact ⟨f, d, rfl, h1, h2, h3, h4, h5⟩
  | _ :: _, _ :: _, i + 1, _, _, _, ⟨_, h2⟩, h => by
    obtain ⟨f, d, h3⟩ := FieldsOk.get h2 (by simpa using h)
    exact ⟨f, d, by simpa using h3⟩
def TIok (P : Program) (t : TypeId) : TI → Prop
  | ⟨.inl (size, fields, zero)⟩ => ∃ fs zs, P.underlying t = some (.struct fs) ∧ (P.info? t).map (fun i => (i.size, i.zero)) = some (size, some (.agg (List.toArray zs))) ∧ (∀ u, Cells u zero zs) ∧ FieldsOk P fields fs.toList
  | ⟨.inr (.inl zero)⟩ => ∃ d, P.underlying t = some d ∧ d.isRow = false ∧ (P.info? t).map (fun i => (i.size, i.zero)) = some (1, some zero) ∧ plain zero = true ∧ (zero = .bool false → P.underlying t = some .bool)
  | ⟨.inr (.inr (.inl e))⟩ => P.underlying t = some (.slice e)
  | ⟨.inr (.inr (.inr (k, e)))⟩ => P.underlying t = some (.array k e)
def TTok (P : Program) : TT → Prop
  | [] => True
  | (t, x) :: l => TIok P t x ∧ TTok P l
theorem TTok.get {P : Program} : ∀ {l : TT} {t : Nat} {x : TI}, TTok P l → l.at t = some x → TIok P t x
  | [], _, _, _, h => by cases h
  | (k, y) :: l, t, x, ⟨h1, h2⟩, h => by
    simp only [TT.at] at h
    split at h
    · rename_i e; have := Nat.eq_of_beq_eq_true e; subst this; cases h; exact h1
    · exact TTok.get h2 h

/-- A function's contract: what it answers, by what is known of its arguments, under a condition. -/
structure Spec where
  f : Nat
  sem : List BV → Option (AV × Prop)
def nob : Nat → Option Nat := fun _ => none
def SpecOk (P : Program) (s : Spec) : Prop :=
  (∀ (w : World) (args : Array Value), (callFunc s.f args).run P w = .ok (.enter s.f args) w) ∧
  ∀ (w : World) (xs : List BV) (args : List Value) (r : AV) (p : Prop), s.sem xs = some (r, p) → p → AllIs nob w xs args →
    Calls P s.f args.toArray w fun e w' => ∃ v, e = .returned v ∧ r.Is nob w' v ∧ Below w.heap.size w w'
def find (S : List Spec) (f : Nat) : Option Spec := match S with
  | [] => none
  | s :: l => match Nat.beq s.f f with
    | true => some s
    | false => find l f
theorem find_spec {S : List Spec} {f : Nat} {s : Spec} (h : find S f = some s) : s ∈ S ∧ s.f = f := by
  induction S with
  | nil => cases h
  | cons x l ih =>
    simp only [find] at h
    split at h
    · rename_i e; cases h; exact ⟨List.mem_cons_self .., Nat.eq_of_beq_eq_true e⟩
    · exact ⟨List.mem_cons_of_mem _ (ih h).1, (ih h).2⟩
/-- No pointer into a box is handed over; no pointer, no slice comes back. -/
def BV.into : BV → Bool
  | ⟨some (.inr (.inr (.inl (_, _))))⟩ => false
  | _ => true
def BV.free : BV → Bool
  | ⟨none⟩ => true
  | ⟨some (.inl _)⟩ => true
  | ⟨some (.inr (.inl _))⟩ => true
  | _ => false
def AV.free : AV → Bool
  | ⟨.inl b⟩ => b.free
  | ⟨.inr l⟩ => l.all BV.free
theorem BV.Is.into {β : Nat → Option Nat} {u : World} : ∀ {a : BV} {x : Value}, a.into = true → a.Is β u x → a.Is nob u x
  | ⟨none⟩, _, _, h => h
  | ⟨some (.inl _)⟩, _, _, h => h
  | ⟨some (.inr (.inl _))⟩, _, _, h => h
  | ⟨some (.inr (.inr (.inl (_, _))))⟩, _, h, _ => by cases h
  | ⟨some (.inr (.inr (.inr (.inl _))))⟩, _, _, ⟨b, o, vs, h1, h2, h3⟩ => ⟨b, o, vs, h1, ⟨h2.1, fun _ h => by cases h⟩, h3⟩
  | ⟨some (.inr (.inr (.inr (.inr _))))⟩, _, _, ⟨ao, cap, h1, h2, h3⟩ => ⟨ao, cap, h1, h2, fun h0 => by
      obtain ⟨b, o, vs, e1, e2, e3⟩ := h3 h0
      exact ⟨b, o, vs, e1, ⟨e2.1, fun _ h => by cases h⟩, e3⟩⟩
theorem AllIs.into {β : Nat → Option Nat} {u : World} : ∀ {l : List BV} {vs : List Value}, l.all BV.into = true → AllIs β u l vs → AllIs nob u l vs
  | [], _, _, h => h
  | _ :: _, _, h, ⟨v, r, e, h1, h2⟩ => by
    rw [List.all_cons, Bool.and_eq_true] at h
    exact ⟨v, r, e, h1.into h.1, AllIs.into h.2 h2⟩
theorem BV.Is.free {β : Nat → Option Nat} {u : World} : ∀ {a : BV} {x : Value}, a.free = true → a.Is nob u x → a.Is β u x
  | ⟨none⟩, _, _, h => h
  | ⟨some (.inl _)⟩, _, _, h => h
  | ⟨some (.inr (.inl _))⟩, _, _, h => h
  | ⟨some (.inr (.inr (.inl (_, _))))⟩, _, h, _ => by cases h
  | ⟨some (.inr (.inr (.inr (.inl _))))⟩, _, h, _ => by cases h
  | ⟨some (.inr (.inr (.inr (.inr _))))⟩, _, h, _ => by cases h
theorem AllIs.free {β : Nat → Option Nat} {u : World} : ∀ {l : List BV} {vs : List Value}, l.all BV.free = true → AllIs nob u l vs → AllIs β u l vs
  | [], _, _, h => h
  | _ :: _, _, h, ⟨v, r, e, h1, h2⟩ => by
    rw [List.all_cons, Bool.and_eq_true] at h
    exact ⟨v, r, e, h1.free h.1, AllIs.free h.2 h2⟩
theorem AV.Is.free {β : Nat → Option Nat} {u : World} : ∀ {a : AV} {x : Value}, a.free = true → a.Is nob u x → a.Is β u x
  | ⟨.inl _⟩, _, h, h' => BV.Is.free h h'
  | ⟨.inr _⟩, _, h, ⟨vs, e, h'⟩ => ⟨vs, e, h'.free h⟩

/-- Bools that are told: each undecided one is as the next hint says, under the condition that it is. -/
def tellB : BV → List Bool → Option (BV × Prop × List Bool)
  | ⟨some (.inl (.bool b))⟩, h :: hs => some (⟨some (.inl (.bool h))⟩, b = h, hs)
  | ⟨some (.inl (.bool _))⟩, [] => none
  | a, hs => some (a, True, hs)
def tellL : List BV → List Bool → Option (List BV × Prop × List Bool)
  | [], hs => some ([], True, hs)
  | a :: l, hs => match tellB a hs with
    | none => none
    | some (a', p, hs') => match tellL l hs' with
      | none => none
      | some (l', p', hs'') => some (a' :: l', p ∧ p', hs'')
def tell : AV → List Bool → Option (AV × Prop × List Bool)
  | ⟨.inl b⟩, hs => match tellB b hs with
    | none => none
    | some (b', p, hs') => some (⟨.inl b'⟩, p, hs')
  | ⟨.inr l⟩, hs => match tellL l hs with
    | none => none
    | some (l', p, hs') => some (⟨.inr l'⟩, p, hs')
theorem tellB_spec {β : Nat → Option Nat} {u : World} {a a' : BV} {x : Value} {hs hs' : List Bool} {p : Prop} (h : tellB a hs = some (a', p, hs')) (hp : p) (hi : a.Is β u x) : a'.Is β u x := by
  unfold tellB at h
  split at h
  · cases h; cases hp; exact hi
  · cases h
  · cases h; exact hi
theorem tellL_spec {β : Nat → Option Nat} {u : World} : ∀ {l l' : List BV} {vs : List Value} {hs hs' : List Bool} {p : Prop}, tellL l hs = some (l', p, hs') → p → AllIs β u l vs → AllIs β u l' vs
  | [], _, _, _, _, _, h, _, hi => by cases h; exact hi
  | a :: l, _, _, _, _, _, h, hp, ⟨v, r, e, h1, h2⟩ => by
    simp only [tellL] at h
    split at h
    · cases h
    · rename_i ha
      split at h
      · cases h
      · rename_i hl
        cases h
        exact ⟨v, r, e, tellB_spec ha hp.1 h1, tellL_spec hl hp.2 h2⟩
theorem tell_spec {β : Nat → Option Nat} {u : World} {a a' : AV} {x : Value} {hs hs' : List Bool} {p : Prop} (h : tell a hs = some (a', p, hs')) (hp : p) (hi : a.Is β u x) : a'.Is β u x := by
  unfold tell at h
  split at h
  · split at h
    · cases h
    · rename_i hb; cases h; exact tellB_spec hb hp hi
  · split at h
    · cases h
    · rename_i hb
      cases h
      obtain ⟨vs, e, h'⟩ := hi
      exact ⟨vs, e, tellL_spec hb hp h'⟩

/-- What an operation does: it yields a value; it lays a box; it stores to a box, which holds these parts then. -/
structure Eff where
  x : AV ⊕ (TypeId × List Lf) ⊕ (Nat × List Lf)
/-- The parts that are laid into a struct. -/
def lay (n : Nat) : BV → Option (List Lf)
  | ⟨some (.inr (.inl l))⟩ => match Nat.beq (lsize l) n with
    | true => some l
    | false => none
  | ⟨some (.inl v)⟩ => match plain v, Nat.beq n 1 with
    | true, true => some [⟨.inr v⟩]
    | _, _ => none
  | _ => none
def fillA (rd : Operand → AV) (fs : List (Nat × Nat × Bool)) : List (Nat × Operand) → List Lf → Option (List Lf)
  | [], l => some l
  | (i, x) :: r, l => match fs[i]? with
    | none => none
    | some (o, s, _) => match rd x with
      | ⟨.inr _⟩ => none
      | ⟨.inl b⟩ => match lay s b with
        | none => none
        | some m => match mid l o s with
          | none => none
          | some (a, _, c) => fillA rd fs r (a ++ (m ++ c))
def rowA (rd : Operand → AV) (n : Nat) : Nat → List (Nat × Operand) → Option (List (List Lf))
  | _, [] => some []
  | k, (i, x) :: r => match Nat.beq i k, rd x with
    | true, ⟨.inl b⟩ => match lay n b, rowA rd n (k + 1) r with
      | some m, some ls => some (m :: ls)
      | _, _ => none
    | _, _ => none
def cmpI : BinOp → Int → Int → Option Bool
  | .eql, a, b => some (a == b)
  | .neq, a, b => some (a != b)
  | .lss, a, b => some (decide (a < b))
  | .leq, a, b => some (decide (a ≤ b))
  | .gtr, a, b => some (decide (a > b))
  | .geq, a, b => some (decide (a ≥ b))
  | _, _, _ => none
def eqB : BinOp → Bool → Bool → Option Bool
  | .eql, true, true => some true
  | .eql, true, false => some false
  | .eql, false, true => some false
  | .eql, false, false => some true
  | .neq, true, true => some false
  | .neq, true, false => some true
  | .neq, false, true => some true
  | .neq, false, false => some false
  | _, _, _ => none
def sized (n : Nat) : List (List Lf) → Bool
  | [] => true
  | l :: r => Nat.beq (lsize l) n && sized n r
def args (rd : Operand → AV) : List Operand → Option (List BV)
  | [] => some []
  | x :: l => match rd x, args rd l with
    | ⟨.inl b⟩, some r => some (b :: r)
    | _, _ => none
def rdO (tm : Nat → AV) : Operand → AV
  | .tmp t => tm t
  | .const v => ⟨.inl (⟨some (.inl v)⟩)⟩
  | _ => ⟨.inl ⟨none⟩⟩
/-- One operation: what it does, under which condition; the hints that are left. -/
def ev (tt : TT) (S : List Spec) (rd : Operand → AV) (bx : List Bx) (hs : List Bool) : Op → Option (Eff × Prop × List Bool)
  | .move x => some (⟨.inl (rd x)⟩, True, hs)
  | .assign x => some (⟨.inl (rd x)⟩, True, hs)
  | .pick c a b => match rd c with
    | ⟨.inl (⟨some (.inl (.bool true))⟩)⟩ => some (⟨.inl (rd a)⟩, True, hs)
    | ⟨.inl (⟨some (.inl (.bool false))⟩)⟩ => some (⟨.inl (rd b)⟩, True, hs)
    | _ => none
  | .alloc t => match tt.at t with
    | some (⟨.inl (_, _, z)⟩) => some (⟨.inr (.inl (t, z))⟩, True, hs)
    | some (⟨.inr (.inl z)⟩) => some (⟨.inr (.inl (t, [⟨.inr z⟩]))⟩, True, hs)
    | _ => none
  | .box t x => match rd x with
    | ⟨.inl (⟨some (.inr (.inl l))⟩)⟩ => some (⟨.inr (.inl (t, l))⟩, True, hs)
    | ⟨.inl (⟨some (.inl v)⟩)⟩ => match plain v with
      | true => some (⟨.inr (.inl (t, [⟨.inr v⟩]))⟩, True, hs)
      | false => none
    | _ => none
  | .load t a => match tt.at t, rd a with
    | some (⟨.inl (n, _, _)⟩), ⟨.inl (⟨some (.inr (.inr (.inl (b, o))))⟩)⟩ => match bx[b]? with
      | some x => match mid x.l o n with
        | some (_, m, _) => some (⟨.inl (⟨.inl (⟨some (.inr (.inl m))⟩)⟩)⟩, True, hs)
        | none => none
      | none => none
    | some (⟨.inr (.inl _)⟩), ⟨.inl (⟨some (.inr (.inr (.inl (b, o))))⟩)⟩ => match bx[b]? with
      | some x => match mid x.l o 1 with
        | some (_, [⟨.inr v⟩], _) => some (⟨.inl (⟨.inl (⟨some (.inl v)⟩)⟩)⟩, True, hs)
        | _ => none
      | none => none
    | some (⟨.inl (n, _, _)⟩), ⟨.inl (⟨some (.inr (.inr (.inr (.inl l))))⟩)⟩ => match mid l 0 n with
      | some (_, m, _) => some (⟨.inl (⟨.inl (⟨some (.inr (.inl m))⟩)⟩)⟩, True, hs)
      | none => none
    | some (⟨.inr (.inl _)⟩), ⟨.inl (⟨some (.inr (.inr (.inr (.inl l))))⟩)⟩ => match mid l 0 1 with
      | some (_, [⟨.inr v⟩], _) => some (⟨.inl (⟨.inl (⟨some (.inl v)⟩)⟩)⟩, True, hs)
      | _ => none
    | _, _ => none
  | .store t a x => match tt.at t, rd a, rd x with
    | some (⟨.inl (n, _, _)⟩), ⟨.inl (⟨some (.inr (.inr (.inl (b, o))))⟩)⟩, ⟨.inl (⟨some (.inr (.inl m))⟩)⟩ => match Nat.beq (lsize m) n, bx[b]? with
      | true, some y => match mid y.l o n with
        | some (p, _, q) => some (⟨.inr (.inr (b, (p ++ (m ++ q))))⟩, True, hs)
        | none => none
      | _, _ => none
    | some (⟨.inr (.inl _)⟩), ⟨.inl (⟨some (.inr (.inr (.inl (b, o))))⟩)⟩, ⟨.inl (⟨some (.inl v)⟩)⟩ => match plain v, bx[b]? with
      | true, some y => match mid y.l o 1 with
        | some (p, _, q) => some (⟨.inr (.inr (b, (p ++ ([⟨.inr v⟩] ++ q))))⟩, True, hs)
        | none => none
      | _, _ => none
    | _, _, _ => none
  | .fieldAddr s x i => match tt.at s, rd x with
    | some (⟨.inl (_, fs, _)⟩), ⟨.inl (⟨some (.inr (.inr (.inl (b, o))))⟩)⟩ => match fs[i]? with
      | some (off, _, _) => some (⟨.inl (⟨.inl (⟨some (.inr (.inr (.inl (b, (o + off)))))⟩)⟩)⟩, True, hs)
      | none => none
    | some (⟨.inl (_, fs, _)⟩), ⟨.inl (⟨some (.inr (.inr (.inr (.inl l))))⟩)⟩ => match fs[i]? with
      | some (off, _, _) => match cut l off with
        | some (_, r) => some (⟨.inl (⟨.inl (⟨some (.inr (.inr (.inr (.inl r))))⟩)⟩)⟩, True, hs)
        | none => none
      | none => none
    | _, _ => none
  | .field s x i => match tt.at s, rd x with
    | some (⟨.inl (_, fs, _)⟩), ⟨.inl (⟨some (.inr (.inl l))⟩)⟩ => match fs[i]? with
      | some (off, n, true) => match mid l off n with
        | some (_, m, _) => some (⟨.inl (⟨.inl (⟨some (.inr (.inl m))⟩)⟩)⟩, True, hs)
        | none => none
      | some (off, _, false) => match mid l off 1 with
        | some (_, [⟨.inr v⟩], _) => some (⟨.inl (⟨.inl (⟨some (.inl v)⟩)⟩)⟩, True, hs)
        | _ => none
      | none => none
    | _, _ => none
  | .build t ps => match tt.at t with
    | some (⟨.inl (_, fs, z)⟩) => match fillA rd fs ps.toList z with
      | some l => some (⟨.inl (⟨.inl (⟨some (.inr (.inl l))⟩)⟩)⟩, True, hs)
      | none => none
    | _ => none
  | .buildSlice t len ps => match tt.at t with
    | some (⟨.inr (.inr (.inl e))⟩) => match tt.at e with
      | some (⟨.inl (n, _, _)⟩) => match rowA rd n 0 ps.toList with
        | some ls => match Nat.beq ls.length len, Nat.ble (len * n) 16777216, Nat.ble 1 (len * n) with
          | true, true, true => some (⟨.inl (⟨.inl (⟨some (.inr (.inr (.inr (.inr ls))))⟩)⟩)⟩, True, hs)
          | _, _, _ => none
        | none => none
      | _ => none
    | _ => none
  | .extract x i => match rd x with
    | ⟨.inr l⟩ => match l[i]? with
      | some b => some (⟨.inl (⟨.inl b⟩)⟩, True, hs)
      | none => none
    | _ => none
  | .binOp op t x y _ => match rd x, rd y with
    | ⟨.inl (⟨some (.inl (.int .i64 a))⟩)⟩, ⟨.inl (⟨some (.inl (.int .i64 b))⟩)⟩ => match cmpI op a b with
      | some c => match tell (⟨.inl (⟨some (.inl (.bool c))⟩)⟩) hs with
        | some (r, p, hs') => some (⟨.inl r⟩, p, hs')
        | none => none
      | none => match op with
        | .add => some (⟨.inl (⟨.inl (⟨some (.inl (.int .i64 (a + b)))⟩)⟩)⟩, IntKind.i64.wrap (a + b) = a + b, hs)
        | .sub => some (⟨.inl (⟨.inl (⟨some (.inl (.int .i64 (a - b)))⟩)⟩)⟩, IntKind.i64.wrap (a - b) = a - b, hs)
        | _ => none
    | ⟨.inl ⟨some (.inl (.bool a))⟩⟩, ⟨.inl ⟨some (.inl (.bool b))⟩⟩ => match tt.at t, eqB op a b with
      | some ⟨.inr (.inl (.bool false))⟩, some c => some (⟨.inl ⟨.inl ⟨some (.inl (.bool c))⟩⟩⟩, True, hs)
      | _, _ => none
    | _, _ => none
  | .indexAddr t x i => match tt.at t, rd x, rd i with
    | some ⟨.inr (.inr (.inl e))⟩, ⟨.inl ⟨some (.inr (.inr (.inr (.inr ls))))⟩⟩, ⟨.inl ⟨some (.inl (.int .i64 z))⟩⟩ => match tt.at e, ls[z.toNat]? with
      | some ⟨.inl (n, _, _)⟩, some l => match sized n ls with
        | true => some (⟨.inl ⟨.inl ⟨some (.inr (.inr (.inr (.inl l))))⟩⟩⟩, 0 ≤ z, hs)
        | false => none
      | _, _ => none
    | some ⟨.inr (.inr (.inr (k, e)))⟩, ⟨.inl ⟨some (.inr (.inr (.inl (b, o))))⟩⟩, ⟨.inl ⟨some (.inl (.int .i64 z))⟩⟩ => match tt.at e with
      | some ⟨.inl (n, _, _)⟩ => some (⟨.inl ⟨.inl ⟨some (.inr (.inr (.inl (b, o + z.toNat * n))))⟩⟩⟩, 0 ≤ z ∧ z < k, hs)
      | some ⟨.inr (.inl _)⟩ => some (⟨.inl ⟨.inl ⟨some (.inr (.inr (.inl (b, o + z.toNat))))⟩⟩⟩, 0 ≤ z ∧ z < k, hs)
      | _ => none
    | _, _, _ => none
  | .index t x i => match tt.at t, rd x, rd i with
    | some ⟨.inr (.inr (.inr (k, e)))⟩, ⟨.inl ⟨some (.inr (.inl l))⟩⟩, ⟨.inl ⟨some (.inl (.int .i64 z))⟩⟩ => match tt.at e with
      | some ⟨.inl (n, _, _)⟩ => match mid l (z.toNat * n) n with
        | some (_, m, _) => some (⟨.inl ⟨.inl ⟨some (.inr (.inl m))⟩⟩⟩, 0 ≤ z ∧ z < k, hs)
        | none => none
      | some ⟨.inr (.inl _)⟩ => match mid l z.toNat 1 with
        | some (_, [⟨.inr v⟩], _) => some (⟨.inl ⟨.inl ⟨some (.inl v)⟩⟩⟩, 0 ≤ z ∧ z < k, hs)
        | _ => none
      | _ => none
    | _, _, _ => none
  | .unOp .not _ x => match rd x with
    | ⟨.inl (⟨some (.inl (.bool b))⟩)⟩ => some (⟨.inl (⟨.inl (⟨some (.inl (.bool (!b)))⟩)⟩)⟩, True, hs)
    | _ => none
  | .call ⟨.value (.func f), xs, _⟩ => match find S f, args rd xs.toList with
    | some s, some bs => match bs.all BV.into, s.sem bs with
      | true, some (r, p) => match r.free, tell r hs with
        | true, some (r', p', hs') => some (⟨.inl r'⟩, p ∧ p', hs')
        | _, _ => none
      | _, _ => none
    | _, _ => none
  | _ => none
/-- The box that an operation loads from, or stores to. -/
def touch (rd : Operand → AV) : Op → Option Nat
  | .load _ a => match rd a with
    | ⟨.inl (⟨some (.inr (.inr (.inl (b, _))))⟩)⟩ => some b
    | _ => none
  | .store _ a _ => match rd a with
    | ⟨.inl (⟨some (.inr (.inr (.inl (b, _))))⟩)⟩ => some b
    | _ => none
  | _ => none
/-- The operands that an operation reads. -/
def reads : Op → List Operand
  | .move x => [x]
  | .assign x => [x]
  | .pick c a b => [c, a, b]
  | .box _ x => [x]
  | .load _ a => [a]
  | .store _ a x => [a, x]
  | .fieldAddr _ x _ => [x]
  | .field _ x _ => [x]
  | .build _ ps => ps.toList.map (·.2)
  | .buildSlice _ _ ps => ps.toList.map (·.2)
  | .extract x _ => [x]
  | .binOp _ _ x y _ => [x, y]
  | .indexAddr _ x i => [x, i]
  | .index _ x i => [x, i]
  | .unOp _ _ x => [x]
  | .call c => c.args.toList
  | _ => []
end Go.Proofs.YtmoicmjljflcgaaGreat.Sym

/- Each operation does what 'ev' says of it. -/
namespace Go.Proofs.YtmoicmjljflcgaaGreat.Sym
open Go Go.RowKit M Kahn
set_option maxRecDepth 100000

def EffR (β : Nat → Option Nat) (bx : List Bx) (u : World) : Eff → Value → World → Prop
  | ⟨.inl a⟩, v, u' => Below u.heap.size u u' ∧ a.Is β u' v
  | ⟨.inr (.inl (ty, l))⟩, v, u' => ∃ vs, v = .pointer (some ⟨u.heap.size, 0, none⟩) ∧ u' = u.alloc (.cells (List.toArray vs) ty) ∧ Cells u l vs
  | ⟨.inr (.inr (b, l))⟩, _, u' => ∃ g x ws, β b = some g ∧ bx[b]? = some x ∧ Fr g u u' ∧ Bk u' g x.ty ws ∧ Cells u l ws

section
variable {P : Program} {o : Oper} {ρ : Operand → Value} {u u' : World} {R : Value → World → Prop}
theorem goesV {x : Value} (h : (execOp ρ o).run P u = .ok (.value x) u') (hR : R x u') : Goes P o ρ u R := by
  unfold Goes; rw [h]; exact hR
theorem goesS (h : (execOp ρ o).run P u = .ok .skip u') (hR : R undef u') : Goes P o ρ u R := by
  unfold Goes; rw [h]; exact hR
theorem goesR {β : Nat → Option Nat} {bx : List Bx} {a : AV} {x : Value} (h : (execOp ρ o).run P u = .ok (.value x) u) (hR : a.Is β u x) : Goes P o ρ u (EffR β bx u (⟨.inl a⟩)) :=
  goesV h ⟨Below.refl _ _, hR⟩

/- Runs of instructions. -/
theorem info_of {t : TypeId} {n : Nat} {z : Option Value} (h : (P.info? t).map (fun i => (i.size, i.zero)) = some (n, z)) : ∃ i, P.info? t = some i ∧ i.size = n ∧ i.zero = z := by
  cases hi : P.info? t with
  | none => simp [hi] at h
  | some i => simp [hi] at h; exact ⟨i, rfl, h.1, h.2⟩
theorem info_size {t : TypeId} {n : Nat} {z : Option Value} (h : (P.info? t).map (fun i => (i.size, i.zero)) = some (n, z)) : (P.info? t).map (·.size) = some n := by
  obtain ⟨i, h1, h2, _⟩ := info_of h
  simp [h1, h2]
theorem run_sizeOf' {t : TypeId} {n : Nat} (h : (P.info? t).map (·.size) = some n) (w : World) : (sizeOf t).run P w = .ok n w := by
  cases hi : P.info? t with
  | none => simp [hi] at h
  | some i => simp [hi] at h; simp [sizeOf, typeInfo, hi, h]
theorem run_zero {t : TypeId} {n : Nat} {z : Value} (h : (P.info? t).map (fun i => (i.size, i.zero)) = some (n, some z)) (w : World) : (zeroValue t).run P w = .ok z w := by
  obtain ⟨i, h1, _, h3⟩ := info_of h
  simp [zeroValue, typeInfo, h1, h3]
theorem run_isAgg {t : TypeId} {d : TypeDesc} (h : P.underlying t = some d) (w : World) : (isAgg t).run P w = .ok d.isRow w := by
  unfold isAgg
  rw [Sem.run_bind, run_underlying h w]
  cases d <;> simp [TypeDesc.isRow]
theorem run_new (ty : TypeId) (cs : Array Value) (w : World) : (newRow ty cs).run P w = .ok ⟨w.heap.size, 0, none⟩ (w.alloc (.cells cs ty)) := by
  unfold newRow
  go_simp
theorem run_loadOne {t : TypeId} {d : TypeDesc} {b k : Nat} {v : Value} {w : World} (h : P.underlying t = some d) (hd : d.isRow = false) (hc : w.cell? ⟨b, k, none⟩ = some v) : (Instr.loadAt t (.pointer (some ⟨b, k, none⟩))).run P w = .ok v w := by
  simp [Instr.loadAt, Instr.sureAddr, loadVar, run_isAgg h, hd, run_load, hc]
theorem run_storeOne {t : TypeId} {b k : Nat} {v : Value} {w : World} (ht : w.there b k 1) (hi : (P.info? t).map (·.size) = some 1) (hv : plain v = true) : (Instr.storeAt t (.pointer (some ⟨b, k, none⟩)) v).run P w = .ok () (w.setCells b k [v]) := by
  have := run_storeCells_cells (P := P) b k [v] 0 w (fun j hj => by simpa using (ht j (by simpa using hj)).1) (fun j hj => by simpa using (ht j (by simpa using hj)).2) (fun x hx => by rw [List.mem_singleton] at hx; rw [hx]; exact plain_one hv)
  simp only [Nat.add_zero] at this
  simp [Instr.storeAt, Instr.sureAddr, storeVar, run_sizeOf' hi, plain_cells hv, this]

/- The loads. -/
theorem go_load_agg {β : Nat → Option Nat} {bx : List Bx} {t : TypeId} {a : Operand} {fs : Array Field} {n off : Nat} {l p m q : List Lf} {g : Nat} {ty : TypeId} {vs : List Value} (ho : o.op = .load t a) (hu : P.underlying t = some (.struct fs)) (hi : (P.info? t).map (·.size) = some n)
    (ha : ρ a = .pointer (some ⟨g, off, none⟩)) (hb : Bk u g ty vs) (hc : Cells u l vs) (hm : mid l off n = some (p, m, q)) : Goes P o ρ u (EffR β bx u (⟨.inl (⟨.inl (⟨some (.inr (.inl m))⟩)⟩)⟩)) := by
  obtain ⟨x, y, z, rfl, h1, h2, h3, h4, h5⟩ := hc.mid hm
  have hr := bk_range hb
  rw [h1] at hr
  refine goesR (x := .agg y.toArray) ?_ ⟨y, rfl, h4⟩
  unfold execOp
  simp only [ho, ha, Sem.run_bind, run_loadAt_mid u g off t y _ hr hu rfl (by rw [hi, h2]), Result.andThen_ok, Sem.run_pure]
theorem go_load_one {β : Nat → Option Nat} {bx : List Bx} {t : TypeId} {a : Operand} {d : TypeDesc} {off : Nat} {l p q : List Lf} {v : Value} {g : Nat} {ty : TypeId} {vs : List Value} (ho : o.op = .load t a) (hu : P.underlying t = some d) (hd : d.isRow = false)
    (ha : ρ a = .pointer (some ⟨g, off, none⟩)) (hb : Bk u g ty vs) (hc : Cells u l vs) (hm : mid l off 1 = some (p, [⟨.inr v⟩], q)) : Goes P o ρ u (EffR β bx u (⟨.inl (⟨.inl (⟨some (.inl v)⟩)⟩)⟩)) := by
  obtain ⟨x, y, z, rfl, h1, h2, h3, h4, h5⟩ := hc.mid hm
  obtain ⟨y1, y2, rfl, ⟨rfl, _⟩, rfl⟩ := h4
  have hr := bk_range hb 0 v rfl
  rw [h1, Nat.add_zero] at hr
  refine goesR (x := v) ?_ rfl
  unfold execOp
  simp only [ho, ha, Sem.run_bind, run_loadOne hu hd hr, Result.andThen_ok, Sem.run_pure]
theorem go_load_elem {β : Nat → Option Nat} {bx : List Bx} {t : TypeId} {a : Operand} {fs : Array Field} {n : Nat} {l p m q : List Lf} (ho : o.op = .load t a) (hu : P.underlying t = some (.struct fs)) (hi : (P.info? t).map (·.size) = some n)
    (ha : BV.Is β u ⟨some (.inr (.inr (.inr (.inl l))))⟩ (ρ a)) (hm : mid l 0 n = some (p, m, q)) : Goes P o ρ u (EffR β bx u (⟨.inl (⟨.inl (⟨some (.inr (.inl m))⟩)⟩)⟩)) := by
  obtain ⟨g, off, vs, e, _, hc, hr⟩ := ha
  obtain ⟨x, y, z, rfl, h1, h2, h3, h4, h5⟩ := hc.mid hm
  obtain rfl : x = [] := List.eq_nil_of_length_eq_zero h1
  have hr' : u.rangeAt g off y := fun j v hv => hr j v (by
    have hj : j < y.length := (List.getElem?_eq_some_iff.1 hv).1
    rw [List.nil_append, List.getElem?_append_left hj]; exact hv)
  refine goesR (x := .agg y.toArray) ?_ ⟨y, rfl, h4⟩
  unfold execOp
  simp only [ho, e, Sem.run_bind, run_loadAt_mid u g off t y _ hr' hu rfl (by rw [hi, h2]), Result.andThen_ok, Sem.run_pure]
theorem go_load_elem1 {β : Nat → Option Nat} {bx : List Bx} {t : TypeId} {a : Operand} {d : TypeDesc} {l p q : List Lf} {v : Value} (ho : o.op = .load t a) (hu : P.underlying t = some d) (hd : d.isRow = false)
    (ha : BV.Is β u ⟨some (.inr (.inr (.inr (.inl l))))⟩ (ρ a)) (hm : mid l 0 1 = some (p, [⟨.inr v⟩], q)) : Goes P o ρ u (EffR β bx u (⟨.inl (⟨.inl (⟨some (.inl v)⟩)⟩)⟩)) := by
  obtain ⟨g, off, vs, e, _, hc, hr⟩ := ha
  obtain ⟨x, y, z, rfl, h1, h2, h3, h4, h5⟩ := hc.mid hm
  obtain rfl : x = [] := List.eq_nil_of_length_eq_zero h1
  obtain ⟨y1, y2, rfl, ⟨rfl, _⟩, rfl⟩ := h4
  have hr' := hr 0 v rfl
  rw [Nat.add_zero] at hr'
  refine goesR (x := v) ?_ rfl
  unfold execOp
  simp only [ho, e, Sem.run_bind, run_loadOne hu hd hr', Result.andThen_ok, Sem.run_pure]

/- The stores. -/
theorem go_store {β : Nat → Option Nat} {bx : List Bx} {t : TypeId} {a x : Operand} {n b off g : Nat} {y : Bx} {p m' m q : List Lf} {vs ws : List Value} (ho : o.op = .store t a x)
    (ha : ρ a = .pointer (some ⟨g, off, none⟩)) (hg : β b = some g) (hy : bx[b]? = some y) (hb : Bk u g y.ty vs) (hc : Cells u y.l vs) (hm : mid y.l off n = some (p, m', q)) (hw : Cells u m ws) (hl : ws.length = n)
    (hrun : u.there g off n → (Instr.storeAt t (.pointer (some ⟨g, off, none⟩)) (ρ x)).run P u = .ok () (u.setCells g off ws)) : Goes P o ρ u (EffR β bx u (⟨.inr (.inr (b, (p ++ (m ++ q))))⟩)) := by
  obtain ⟨x1, y1, z1, rfl, h1, h2, h3, h4, h5⟩ := hc.mid hm
  have ht := bk_there hb
  rw [h1, h2] at ht
  refine goesS (u' := u.setCells g off ws) ?_ ⟨g, y, x1 ++ (ws ++ z1), hg, hy, setCells_fr g ws off u u (Fr.refl _ _), ?_, Cells.app.2 ⟨_, _, rfl, h3, Cells.app.2 ⟨_, _, rfl, hw, h5⟩⟩⟩
  · unfold execOp
    simp only [ho, ha, Sem.run_bind, hrun ht, Result.andThen_ok, Sem.run_pure]
  · rw [← h1]
    exact setCells_bk g y.ty ws x1 y1 z1 u hb (by omega)

/- Building. -/
theorem lay_spec {β : Nat → Option Nat} {n : Nat} {b : BV} {m : List Lf} {v : Value} (h : lay n b = some m) (hi : b.Is β u v) : Cells u m v.cells.toList ∧ v.cells.size = n := by
  unfold lay at h
  split at h
  · split at h
    · rename_i e
      cases h
      obtain ⟨vs, rfl, hc⟩ := hi
      exact ⟨hc, by have := hc.len; have := Nat.eq_of_beq_eq_true e; simp only [Value.cells, List.size_toArray]; omega⟩
    · cases h
  · split at h
    · rename_i e1 e2
      cases h
      have hv : v = _ := hi
      subst hv
      rw [plain_cells e1]
      exact ⟨⟨_, [], rfl, ⟨rfl, e1⟩, rfl⟩, (Nat.eq_of_beq_eq_true e2).symm⟩
    · cases h
  · cases h
theorem fold_list : ∀ (ws : List Value) (k off : Nat) (x y z : List Value), x.length = off + k → y.length = ws.length →
    (ws.zipIdx k).foldl (fun (cs : Array Value) (p : Value × Nat) => cs.setIfInBounds (off + p.2) p.1) (x ++ (y ++ z)).toArray = (x ++ (ws ++ z)).toArray
  | [], k, off, x, y, z, _, hy => by
    obtain rfl : y = [] := List.eq_nil_of_length_eq_zero hy
    rfl
  | w :: ws, k, off, x, [], z, _, hy => by simp at hy
  | w :: ws, k, off, x, y1 :: y, z, hx, hy => by
    rw [List.zipIdx_cons, List.foldl_cons]
    have e : (x ++ (y1 :: y ++ z)).toArray.setIfInBounds (off + k) w = ((x ++ [w]) ++ (y ++ z)).toArray := by
      rw [List.setIfInBounds_toArray, ← hx]
      simp
    rw [e, fold_list ws (k + 1) off (x ++ [w]) y z (by rw [List.length_append, hx]; simp; omega) (by simpa using hy)]
    simp
theorem fold_arr (v : Array Value) (off : Nat) (x y z : List Value) (hx : x.length = off) (hy : y.length = v.size) :
    v.zipIdx.foldl (fun cs (p : Value × Nat) => cs.setIfInBounds (off + p.2) p.1) (x ++ (y ++ z)).toArray = (x ++ (v.toList ++ z)).toArray := by
  rw [← Array.foldl_toList, Array.toList_zipIdx]
  exact fold_list v.toList 0 off x y z (by omega) (by simpa using hy)
theorem fillA_spec {β : Nat → Option Nat} {rd : Operand → AV} {fs : List (Nat × Nat × Bool)} {pl : Nat → Option (Nat × Nat)} (hp : ∀ i o s r, fs[i]? = some (o, s, r) → pl i = some (o, s)) :
    ∀ {ps : List (Nat × Operand)} {l l' : List Lf} {vs : List Value}, fillA rd fs ps l = some l' → (∀ x ∈ ps.map (·.2), (rd x).Is β u (ρ x)) → Cells u l vs →
      ∃ ws, Instr.fill pl vs.toArray (ps.map fun (i, x) => (i, ρ x)) = some ws.toArray ∧ Cells u l' ws
  | [], l, l', vs, h, _, hc => by
    simp only [fillA] at h; cases h
    exact ⟨vs, rfl, hc⟩
  | (i, x) :: r, l, l', vs, h, hr, hc => by
    simp only [fillA] at h
    split at h
    · cases h
    · rename_i off s rw_ hf
      split at h
      · cases h
      · rename_i b hb
        split at h
        · cases h
        · rename_i m hm
          split at h
          · cases h
          · rename_i a m' c hmid
            have hx := hr x (by simp)
            rw [hb] at hx
            obtain ⟨h1, h2⟩ := lay_spec hm hx
            obtain ⟨x1, y1, z1, rfl, k1, k2, k3, k4, k5⟩ := hc.mid hmid
            obtain ⟨ws, e, hw⟩ := fillA_spec hp h (fun y hy => hr y (by simp only [List.map_cons, List.mem_cons]; exact .inr hy)) (Cells.app.2 ⟨_, _, rfl, k3, Cells.app.2 ⟨_, _, rfl, h1, k5⟩⟩)
            refine ⟨ws, ?_, hw⟩
            simp only [List.map_cons, Instr.fill, hp i off s rw_ hf]
            rw [if_neg (by simp; omega), fold_arr _ off x1 y1 z1 k1 (by omega)]
            exact e
theorem rowA_spec {β : Nat → Option Nat} {rd : Operand → AV} {n : Nat} :
    ∀ {ps : List (Nat × Operand)} {k : Nat} {ls : List (List Lf)} {pre rest : List Value}, rowA rd n k ps = some ls → (∀ x ∈ ps.map (·.2), (rd x).Is β u (ρ x)) → pre.length = k * n → rest.length = ls.length * n →
      ∃ ws, Instr.fill (fun i => some (i * n, n)) (pre ++ rest).toArray (ps.map fun (i, x) => (i, ρ x)) = some (pre ++ ws).toArray ∧ Cells u ls.flatten ws
  | [], k, ls, pre, rest, h, _, _, hl => by
    simp only [rowA] at h; cases h
    obtain rfl : rest = [] := List.eq_nil_of_length_eq_zero (by simpa using hl)
    exact ⟨[], rfl, rfl⟩
  | (i, x) :: r, k, ls, pre, rest, h, hr, hp, hl => by
    simp only [rowA] at h
    split at h
    · rename_i b hik hb
      split at h
      · rename_i m ls' hm hls
        cases h
        have hik := Nat.eq_of_beq_eq_true hik
        subst hik
        have hx := hr x (by simp)
        rw [hb] at hx
        obtain ⟨h1, h2⟩ := lay_spec hm hx
        simp only [List.length_cons, Nat.add_mul, Nat.one_mul] at hl
        obtain ⟨y, z, rfl, hy⟩ : ∃ y z, rest = y ++ z ∧ y.length = n := ⟨rest.take n, rest.drop n, (List.take_append_drop n rest).symm, by rw [List.length_take]; omega⟩
        rw [List.length_append] at hl
        obtain ⟨ws, e, hw⟩ := rowA_spec (pre := pre ++ (ρ x).cells.toList) (rest := z) hls (fun y hy => hr y (by simp only [List.map_cons, List.mem_cons]; exact .inr hy)) (by rw [List.length_append, hp, Nat.add_mul, Nat.one_mul]; simp; omega) (by omega)
        refine ⟨(ρ x).cells.toList ++ ws, ?_, ?_⟩
        · simp only [List.map_cons, Instr.fill]
          rw [if_neg (by simp; omega), fold_arr _ (i * n) pre y z hp (by omega), ← List.append_assoc, e, List.append_assoc]
        · rw [List.flatten_cons]
          exact Cells.app.2 ⟨_, _, rfl, h1, hw⟩
      · cases h
    · cases h
end
end Go.Proofs.YtmoicmjljflcgaaGreat.Sym

/- Each operation does what 'ev' says of it: all of them. -/
namespace Go.Proofs.YtmoicmjljflcgaaGreat.Sym
open Go Go.RowKit M Kahn
set_option maxRecDepth 100000

section
variable {P : Program} {o : Oper} {ρ : Operand → Value} {u u' : World} {R : Value → World → Prop} {β : Nat → Option Nat} {bx : List Bx}
theorem go_new {t : TypeId} {l : List Lf} {vs : List Value} (hc : Cells u l vs) (h : (execOp ρ o).run P u = .ok (.value (.pointer (some ⟨u.heap.size, 0, none⟩))) (u.alloc (.cells vs.toArray t))) : Goes P o ρ u (EffR β bx u (⟨.inr (.inl (t, l))⟩)) :=
  goesV h ⟨vs, rfl, rfl, hc⟩
theorem go_alloc {t : TypeId} {n : Nat} {z : Value} {l : List Lf} (ho : o.op = .alloc t) (hi : (P.info? t).map (fun i => (i.size, i.zero)) = some (n, some z)) (hc : Cells u l z.cells.toList) : Goes P o ρ u (EffR β bx u (⟨.inr (.inl (t, l))⟩)) := by
  refine go_new hc ?_
  unfold execOp
  simp only [ho, Instr.alloc, newVar, Sem.run_bind, run_zero hi, Result.andThen_ok, run_new, Sem.run_pure]
theorem go_box {t : TypeId} {x : Operand} {l : List Lf} (ho : o.op = .box t x) (hc : Cells u l (ρ x).cells.toList) : Goes P o ρ u (EffR β bx u (⟨.inr (.inl (t, l))⟩)) := by
  refine go_new hc ?_
  unfold execOp
  simp only [ho, Instr.box, newVar, Sem.run_bind, Result.andThen_ok, run_new, Sem.run_pure]
theorem run_fieldAt {s : TypeId} {fs : Array Field} {i b k n : Nat} {f : Field} {w : World} (hu : P.underlying s = some (.struct fs)) (hf : fs[i]? = some f) (hs : (P.info? f.type).map (·.size) = some n) (hn : n ≠ 0) :
    (Instr.fieldAt s (.pointer (some ⟨b, k, none⟩)) i).run P w = .ok (.pointer (some ⟨b, k + f.offset, none⟩)) w := by
  simp only [Instr.fieldAt, Instr.sureAddr, Sem.run_bind, run_underlying hu, Result.andThen_ok, hf, Sem.run_pure, fieldPlace, run_sizeOf' hs]
  rw [if_neg hn]
  simp only [Sem.run_pure, Result.andThen_ok, Addr.add_mid]
theorem run_field {s : TypeId} {fs : Array Field} {i n : Nat} {f : Field} {d : TypeDesc} {w : World} {x y z : List Value} (hu : P.underlying s = some (.struct fs)) (hf : fs[i]? = some f) (hs : (P.info? f.type).map (·.size) = some n) (hd : P.underlying f.type = some d) (hr : d.isRow = true) (hx : x.length = f.offset) (hy : y.length = n) :
    (Instr.field s (.agg (x ++ (y ++ z)).toArray) i).run P w = .ok (.agg y.toArray) w := by
  simp only [Instr.field, asAgg, part, Sem.run_bind, run_underlying hu, Result.andThen_ok, hf, Sem.run_pure, run_isAgg hd, hr, if_true, run_sizeOf' hs]
  congr 2
  rw [← hx, ← hy]
  apply Array.ext'
  simp
theorem run_field1 {s : TypeId} {fs : Array Field} {i : Nat} {f : Field} {d : TypeDesc} {w : World} {x z : List Value} {v : Value} (hu : P.underlying s = some (.struct fs)) (hf : fs[i]? = some f) (hd : P.underlying f.type = some d) (hr : d.isRow = false) (hx : x.length = f.offset) :
    (Instr.field s (.agg (x ++ ([v] ++ z)).toArray) i).run P w = .ok v w := by
  simp only [Instr.field, asAgg, part, Sem.run_bind, run_underlying hu, Result.andThen_ok, hf, Sem.run_pure, run_isAgg hd, hr]
  rw [← hx]
  simp
theorem mapM_places {fs : Array Field} {w : World} (g : Field → Nat) (h : ∀ f ∈ fs.toList, (P.info? f.type).map (·.size) = some (g f)) :
    (fs.mapM fun f => do pure (f.offset, ← sizeOf f.type) : Sem (Array (Nat × Nat))).run P w = .ok (fs.map fun f => (f.offset, g f)) w := by
  obtain ⟨l⟩ := fs
  rw [List.mapM_toArray]
  have : ∀ l : List Field, (∀ f ∈ l, (P.info? f.type).map (·.size) = some (g f)) → (l.mapM (fun f => do pure (f.offset, ← sizeOf f.type)) : Sem (List (Nat × Nat))).run P w = .ok (l.map fun f => (f.offset, g f)) w := by
    intro l
    induction l with
    | nil => intro _; simp
    | cons f l ih =>
      intro h
      simp only [List.mapM_cons, Sem.run_bind, run_sizeOf' (h f (List.mem_cons_self ..)), Result.andThen_ok, Sem.run_pure, ih (fun f hf => h f (List.mem_cons_of_mem _ hf)), List.map_cons]
  simp only [Sem.run_map, this l h]
  simp
theorem FieldsOk.places : ∀ {l : List (Nat × Nat × Bool)} {fs : List Field}, FieldsOk P l fs → ∃ g : Field → Nat, (∀ f ∈ fs, (P.info? f.type).map (·.size) = some (g f)) ∧ ∀ (i o s : Nat) (r : Bool), l[i]? = some (o, s, r) → (fs.map fun f => (f.offset, g f))[i]? = some (o, s)
  | l, fs, h => by
    refine ⟨fun f => ((P.info? f.type).map (·.size)).getD 0, ?_, ?_⟩
    · induction fs generalizing l with
      | nil => intro f hf; cases hf
      | cons f fs ih =>
        cases l with
        | nil => cases h
        | cons x l =>
          obtain ⟨o, s, r⟩ := x
          obtain ⟨⟨_, h1, _⟩, h2⟩ := h
          intro f' hf'
          rcases List.mem_cons.1 hf' with rfl | hf'
          · simp [h1]
          · exact ih _ h2 f' hf'
    · intro i o s r hi
      obtain ⟨f, d, h1, h2, h3, _⟩ := h.get hi
      simp [h1, h2, h3]
theorem go_build {rd : Operand → AV} {t : TypeId} {ps : Array (Nat × Operand)} {fs : Array Field} {zs : List Value} {n : Nat} {fl : List (Nat × Nat × Bool)} {z l : List Lf} (ho : o.op = .build t ps) (hu : P.underlying t = some (.struct fs)) (hi : (P.info? t).map (fun i => (i.size, i.zero)) = some (n, some (.agg zs.toArray)))
    (hz : Cells u z zs) (hf : FieldsOk P fl fs.toList) (hl : fillA rd fl ps.toList z = some l) (hr : ∀ x ∈ ps.toList.map (·.2), (rd x).Is β u (ρ x)) : Goes P o ρ u (EffR β bx u (⟨.inl (⟨.inl (⟨some (.inr (.inl l))⟩)⟩)⟩)) := by
  obtain ⟨g, h1, h2⟩ := hf.places
  obtain ⟨ws, e, hw⟩ := fillA_spec (pl := fun i => (fs.map fun f => (f.offset, g f))[i]?) (fun i o s r hi => by have := h2 i o s r hi; simpa using this) hl hr hz
  refine goesR (x := .agg ws.toArray) ?_ ⟨ws, rfl, hw⟩
  unfold execOp
  simp only [ho, Instr.build, Sem.run_bind, run_zero hi, Result.andThen_ok, run_underlying hu, mapM_places g h1, Value.cells, Array.toList_map, e, Sem.run_pure]
theorem go_buildSlice {rd : Operand → AV} {t e : TypeId} {ps : Array (Nat × Operand)} {zs : List Value} {n len : Nat} {ls : List (List Lf)} (hβ : ∀ k g, β k = some g → g < u.heap.size) (ho : o.op = .buildSlice t len ps) (hu : P.underlying t = some (.slice e)) (hi : (P.info? e).map (fun i => (i.size, i.zero)) = some (n, some (.agg zs.toArray)))
    (hl : rowA rd n 0 ps.toList = some ls) (hlen : ls.length = len) (hb : len * n ≤ 16777216) (hn : 1 ≤ len * n) (hr : ∀ x ∈ ps.toList.map (·.2), (rd x).Is β u (ρ x)) : Goes P o ρ u (EffR β bx u (⟨.inl (⟨.inl (⟨some (.inr (.inr (.inr (.inr ls))))⟩)⟩)⟩)) := by
  obtain ⟨ws, e1, hw⟩ := rowA_spec (β := β) (u := u) (ρ := ρ) (pre := []) (rest := ((Array.range (len * n)).map fun k => (if len * n = 0 then #[] else zs.toArray)[k % (if len * n = 0 then #[] else zs.toArray).size]!).toList) hl hr (by simp) (by simp [hlen])
  simp only [List.nil_append, Array.toArray_toList] at e1
  refine goesV (x := .slice (some ⟨u.heap.size, 0, none⟩) len len) (u' := u.alloc (.cells ws.toArray e)) ?_ ⟨below_alloc _ _, ⟨_, len, by rw [hlen], by rw [hlen]; exact Nat.le_refl _, fun _ => ⟨u.heap.size, 0, ws, rfl, ⟨by simp, fun k hk => Nat.lt_irrefl _ (hβ k _ hk)⟩, hw.later (below_alloc _ _), ?_⟩⟩⟩
  · unfold execOp
    have hs := info_size hi
    have hnb : ¬ (len * n > 2 ^ 24) := by omega
    have h0 : ¬ len * n = 0 := by omega
    rw [if_neg h0] at e1
    simp only [ho, Instr.buildSlice, Sem.run_bind, run_underlying hu, Result.andThen_ok, run_sizeOf' hs, if_neg hnb, if_neg h0, Sem.run_pure, run_zero hi, Value.cells, Array.toList_map, e1, run_new]
  · have := bk_range (x := []) (y := ws) (z := []) (w := u.alloc (.cells ws.toArray e)) (g := u.heap.size) (ty := e) ⟨by rw [heap_alloc_new]; simp⟩
    simpa using this
theorem go_extract {x : Operand} {i : Nat} {l : List BV} {b : BV} (ho : o.op = .extract x i) (hx : AV.Is β u ⟨.inr l⟩ (ρ x)) (hb : l[i]? = some b) : Goes P o ρ u (EffR β bx u (⟨.inl (⟨.inl b⟩)⟩)) := by
  obtain ⟨vs, e, h⟩ := hx
  obtain ⟨v, h1, h2⟩ := h.get hb
  refine goesR (x := v) ?_ h2
  unfold execOp
  simp [ho, e, Instr.extract, h1]
theorem run_eqB {op : BinOp} {t : TypeId} {a b c : Bool} {x y : Operand} {w : World} (hu : P.underlying t = some .bool) (hc : eqB op a b = some c) :
    (do eqGuard op t x y (.bool a) (.bool b); binOp op t (.bool a) (.bool b) : Sem Value).run P w = .ok (.bool c) w := by
  have he := run_equal_bool (P := P) w t a b hu
  have hb : (op = .eql ∧ c = (a == b)) ∨ (op = .neq ∧ c = !(a == b)) := by
    unfold eqB at hc
    split at hc <;> cases hc <;> first | exact .inl ⟨rfl, rfl⟩ | exact .inr ⟨rfl, rfl⟩
  rcases hb with ⟨rfl, rfl⟩ | ⟨rfl, rfl⟩ <;> simp [eqGuard, binOp, he]
theorem sized_cut {n : Nat} : ∀ {ls : List (List Lf)} {k : Nat} {l : List Lf}, sized n ls = true → ls[k]? = some l → ∃ A B, ls.flatten = A ++ (l ++ B) ∧ lsize A = k * n
  | [], _, _, _, h => by simp at h
  | x :: ls, 0, l, _, h => by simp at h; subst h; exact ⟨[], ls.flatten, by simp, by simp [lsize]⟩
  | x :: ls, k + 1, l, hs, h => by
    simp only [sized, Bool.and_eq_true] at hs
    obtain ⟨A, B, e1, e2⟩ := sized_cut hs.2 (by simpa using h)
    refine ⟨x ++ A, B, by rw [List.flatten_cons, e1]; simp, ?_⟩
    rw [lsize_app, e2, Nat.eq_of_beq_eq_true hs.1, Nat.add_mul, Nat.one_mul, Nat.add_comm]
theorem go_index {t e : TypeId} {x i : Operand} {ls : List (List Lf)} {l : List Lf} {z : Int} {n : Nat} (ho : o.op = .indexAddr t x i) (hu : P.underlying t = some (.slice e)) (hn : (P.info? e).map (·.size) = some n) (hx : BV.Is β u ⟨some (.inr (.inr (.inr (.inr ls))))⟩ (ρ x)) (hi : ρ i = .int .i64 z) (hz : 0 ≤ z)
    (hl : ls[z.toNat]? = some l) (hs : sized n ls = true) : Goes P o ρ u (EffR β bx u ⟨.inl ⟨.inl ⟨some (.inr (.inr (.inr (.inl l))))⟩⟩⟩) := by
  obtain ⟨ao, cap, e1, hcap, hth⟩ := hx
  have hlt := (List.getElem?_eq_some_iff.1 hl).1
  obtain ⟨b, off, vs, rfl, hout, hc, hr⟩ := hth (by omega)
  obtain ⟨A, B, ef, el⟩ := sized_cut hs hl
  rw [ef] at hc
  obtain ⟨v1, v2, rfl, c1, c2⟩ := Cells.app.1 hc
  obtain ⟨v3, v4, rfl, c3, c4⟩ := Cells.app.1 c2
  have hl1 := c1.len
  refine goesR (x := .pointer (some ⟨b, off + z.toNat * n, none⟩)) ?_ ⟨b, off + z.toNat * n, v3, rfl, hout, c3, fun j v hv => ?_⟩
  · unfold execOp
    have hb : 0 ≤ z ∧ z < (ls.length : Int) := by omega
    simp only [ho, e1, hi, Instr.indexAt, asIntOf, Sem.run_bind, Sem.run_pure, Result.andThen_ok, run_underlying hu, run_sizeOf' hn, if_pos hb, Addr.add_mid]
  · have hj : j < v3.length := (List.getElem?_eq_some_iff.1 hv).1
    have := hr (v1.length + j) v (by rw [List.getElem?_append_right (by omega), Nat.add_sub_cancel_left, List.getElem?_append_left hj]; exact hv)
    rwa [hl1, el, ← Nat.add_assoc] at this
theorem run_index {t e : TypeId} {k n : Nat} {d : TypeDesc} {z : Int} {w : World} {x y zs : List Value} (hu : P.underlying t = some (.array k e)) (hn : (P.info? e).map (·.size) = some n) (hd : P.underlying e = some d) (hr : d.isRow = true) (hx : x.length = z.toNat * n) (hy : y.length = n) (hz : 0 ≤ z ∧ z < k) :
    (Instr.index t (.agg (x ++ (y ++ zs)).toArray) (.int .i64 z)).run P w = .ok (.agg y.toArray) w := by
  simp only [Instr.index, asIntOf, Sem.run_bind, Sem.run_pure, run_underlying hu, Result.andThen_ok, if_pos hz, run_sizeOf' hn, part, run_isAgg hd, hr, if_true]
  congr 2
  rw [← hx, ← hy]
  apply Array.ext'
  simp
theorem run_indexArr {t e : TypeId} {k n b o : Nat} {z : Int} {w : World} (hu : P.underlying t = some (.array k e)) (hn : (P.info? e).map (·.size) = some n) (hz : 0 ≤ z ∧ z < k) :
    (Instr.indexAt t (.pointer (some ⟨b, o, none⟩)) (.int .i64 z)).run P w = .ok (.pointer (some ⟨b, o + z.toNat * n, none⟩)) w := by
  simp only [Instr.indexAt, Instr.sureAddr, asIntOf, Sem.run_bind, Sem.run_pure, Result.andThen_ok, run_underlying hu, run_sizeOf' hn, if_pos hz, Addr.add_mid]
theorem run_index1 {t e : TypeId} {k : Nat} {d : TypeDesc} {z : Int} {w : World} {x zs : List Value} {v : Value} (hu : P.underlying t = some (.array k e)) (hn : (P.info? e).map (·.size) = some 1) (hd : P.underlying e = some d) (hr : d.isRow = false) (hx : x.length = z.toNat) (hz : 0 ≤ z ∧ z < k) :
    (Instr.index t (.agg (x ++ ([v] ++ zs)).toArray) (.int .i64 z)).run P w = .ok v w := by
  simp only [Instr.index, asIntOf, Sem.run_bind, Sem.run_pure, run_underlying hu, Result.andThen_ok, if_pos hz, run_sizeOf' hn, part, run_isAgg hd, hr]
  rw [← hx]
  simp
theorem args_spec {rd : Operand → AV} : ∀ {xs : List Operand} {bs : List BV}, args rd xs = some bs → (∀ x ∈ xs, (rd x).Is β u (ρ x)) → AllIs β u bs (xs.map ρ)
  | [], _, h, _ => by simp only [args] at h; cases h; rfl
  | x :: l, _, h, hr => by
    simp only [args] at h
    split at h
    · rename_i b r hb hl
      cases h
      have hx := hr x (by simp)
      rw [hb] at hx
      exact ⟨ρ x, l.map ρ, rfl, hx, args_spec hl (fun y hy => hr y (by simp [hy]))⟩
    · cases h
theorem go_cmp {op : BinOp} {t t' : TypeId} {x y : Operand} {a b : Int} {c : Bool} {r : AV} {hs hs' : List Bool} {p : Prop} (ho : o.op = .binOp op t x y t') (hx : ρ x = .int .i64 a) (hy : ρ y = .int .i64 b) (hc : cmpI op a b = some c) (ht : tell (⟨.inl (⟨some (.inl (.bool c))⟩)⟩) hs = some (r, p, hs')) (hp : p) : Goes P o ρ u (EffR β bx u (⟨.inl r⟩)) := by
  refine goesR (x := .bool c) ?_ (tell_spec ht hp rfl)
  unfold execOp
  cases op <;> simp only [cmpI] at hc <;> cases hc <;> simp [ho, hx, hy, eqGuard, binOp, Op.intCmp]
theorem go_call {rd : Operand → AV} {s : Spec} {xs : Array Operand} {ts : Array TypeId} {bs : List BV} {r r' : AV} {p p' : Prop} {h1 h2 : List Bool} (hf : ∀ f, ρ (.func f) = .func (.func f) #[] #[]) (ho : o.op = .call ⟨.value (.func s.f), xs, ts⟩) (hs : SpecOk P s) (ha : args rd xs.toList = some bs) (hi : bs.all BV.into = true)
    (hm : s.sem bs = some (r, p)) (hp : p) (hfr : r.free = true) (ht : tell r h1 = some (r', p', h2)) (hp' : p') (hr : ∀ x ∈ xs.toList, (rd x).Is β u (ρ x)) : Goes P o ρ u (EffR β bx u (⟨.inl r'⟩)) := by
  obtain ⟨c1, c2⟩ := hs
  refine Goes.call s.f (xs.map ρ) ?_ ?_
  · unfold execOp
    simp [ho, resolve, hf, Deferred.ofValue, invoke, c1]
  · have := c2 u bs (xs.toList.map ρ) r p hm hp ((args_spec ha hr).into hi)
    rw [show (xs.toList.map ρ).toArray = xs.map ρ from by apply Array.ext'; simp] at this
    refine Calls.mono this ?_
    rintro e w' ⟨v, rfl, k1, k2⟩
    exact ⟨v, rfl, k2, tell_spec ht hp' (k1.free hfr)⟩
/-- **Each operation does what is said of it.** -/
theorem ev_sound {tt : TT} {S : List Spec} (hT : TTok P tt) (hS : ∀ s ∈ S, SpecOk P s) {rd : Operand → AV} {hs hs' : List Bool} {e : Eff} {p : Prop} (h : ev tt S rd bx hs o.op = some (e, p, hs')) (hp : p)
    (hβ : ∀ k g, β k = some g → g < u.heap.size) (hf : ∀ f, ρ (.func f) = .func (.func f) #[] #[]) (hr : ∀ x ∈ reads o.op, (rd x).Is β u (ρ x))
    (hc : ∀ k x g, touch rd o.op = some k → bx[k]? = some x → β k = some g → ∃ vs, Bk u g x.ty vs ∧ Cells u x.l vs) : Goes P o ρ u (EffR β bx u e) := by
  generalize ho : o.op = op at *
  unfold ev at h
  split at h
  · -- move
    cases h
    exact goesR (x := ρ _) (by unfold execOp; simp [ho]) (hr _ (by simp [reads]))
  · cases h
    exact goesR (x := ρ _) (by unfold execOp; simp [ho]) (hr _ (by simp [reads]))
  · -- pick
    rename_i c a b
    have hcv := hr c (by simp [reads])
    split at h
    · rename_i e1
      rw [e1] at hcv
      have hcv : ρ c = .bool true := hcv
      cases h
      exact goesR (x := ρ a) (by unfold execOp; simp [ho, hcv, asBool]) (hr a (by simp [reads]))
    · rename_i e1
      rw [e1] at hcv
      have hcv : ρ c = .bool false := hcv
      cases h
      exact goesR (x := ρ b) (by unfold execOp; simp [ho, hcv, asBool]) (hr b (by simp [reads]))
    · cases h
  · -- alloc
    split at h
    · rename_i e1
      cases h
      obtain ⟨fs, zs, h1, h2, h3, h4⟩ := hT.get e1
      exact go_alloc ho h2 (h3 u)
    · rename_i e1
      cases h
      obtain ⟨d, h1, h2, h3, h4, _⟩ := hT.get e1
      exact go_alloc ho h3 (by rw [plain_cells h4]; exact ⟨_, [], rfl, ⟨rfl, h4⟩, rfl⟩)
    · cases h
  · -- box
    rename_i t x
    have hx := hr x (by simp [reads])
    split at h
    · rename_i e1
      rw [e1] at hx
      obtain ⟨vs, h1, h2⟩ := hx
      cases h
      exact go_box ho (by rw [h1]; exact h2)
    · rename_i v e1
      rw [e1] at hx
      have hx : ρ x = v := hx
      split at h
      · rename_i h4
        cases h
        exact go_box ho (by rw [hx, plain_cells h4]; exact ⟨_, [], rfl, ⟨rfl, h4⟩, rfl⟩)
      · cases h
    · cases h
  · -- load
    rename_i t a
    have ha := hr a (by simp [reads])
    split at h
    · rename_i e1 e2
      rw [e2] at ha
      obtain ⟨g, hg, ha⟩ := ha
      obtain ⟨fs, zs, h1, h2, h3, h4⟩ := hT.get e1
      split at h
      · rename_i x hx
        split at h
        · rename_i hm
          cases h
          obtain ⟨vs, k1, k2⟩ := hc _ x g (by simp [touch, e2]) hx hg
          exact go_load_agg ho h1 (info_size h2) ha k1 k2 hm
        · cases h
      · cases h
    · rename_i e1 e2
      rw [e2] at ha
      obtain ⟨g, hg, ha⟩ := ha
      obtain ⟨d, h1, h2, h3, h4⟩ := hT.get e1
      split at h
      · rename_i x hx
        split at h
        · rename_i hm
          cases h
          obtain ⟨vs, k1, k2⟩ := hc _ x g (by simp [touch, e2]) hx hg
          exact go_load_one ho h1 h2 ha k1 k2 hm
        · cases h
      · cases h
    · rename_i e1 e2
      rw [e2] at ha
      obtain ⟨fs, zs, h1, h2, h3, h4⟩ := hT.get e1
      split at h
      · rename_i hm
        cases h
        exact go_load_elem ho h1 (info_size h2) ha hm
      · cases h
    · rename_i e1 e2
      rw [e2] at ha
      obtain ⟨d, h1, h2, h3, h4⟩ := hT.get e1
      split at h
      · rename_i hm
        cases h
        exact go_load_elem1 ho h1 h2 ha hm
      · cases h
    · cases h
  · -- store
    rename_i t a x
    have ha := hr a (by simp [reads])
    have hx := hr x (by simp [reads])
    split at h
    · rename_i e1 e2 e3
      rw [e2] at ha
      rw [e3] at hx
      obtain ⟨g, hg, ha⟩ := ha
      obtain ⟨ws, hx, hw⟩ := hx
      obtain ⟨fs, zs, h1, h2, h3, h4⟩ := hT.get e1
      split at h
      · rename_i y hl hy
        split at h
        · rename_i hm
          cases h
          obtain ⟨vs, k1, k2⟩ := hc _ y g (by simp [touch, e2]) hy hg
          have hl := Nat.eq_of_beq_eq_true hl
          have hwl := hw.len
          rw [hl] at hwl
          refine go_store ho ha hg hy k1 k2 hm hw hwl fun ht => ?_
          rw [hx]
          exact run_storeAt_mid u g _ t ws.toArray (by simpa [hwl] using ht) (by rw [info_size h2]; simp [hwl]) (all_oneCell_toArray fun v hv => plain_one (hw.plain v hv))
        · cases h
      · cases h
    · rename_i v e1 e2 e3
      rw [e2] at ha
      rw [e3] at hx
      obtain ⟨g, hg, ha⟩ := ha
      have hx : ρ x = v := hx
      obtain ⟨d, h1, h2, h3, h4⟩ := hT.get e1
      split at h
      · rename_i y hpl hy
        split at h
        · rename_i hm
          cases h
          obtain ⟨vs, k1, k2⟩ := hc _ y g (by simp [touch, e2]) hy hg
          refine go_store (ws := [v]) ho ha hg hy k1 k2 hm ⟨[v], [], rfl, ⟨rfl, hpl⟩, rfl⟩ rfl fun ht => ?_
          rw [hx]
          exact run_storeOne ht (info_size h3) hpl
        · cases h
      · cases h
    · cases h
  · -- fieldAddr
    rename_i s x i
    have hx := hr x (by simp [reads])
    split at h
    · rename_i e1 e2
      rw [e2] at hx
      obtain ⟨g, hg, hx⟩ := hx
      obtain ⟨fs, zs, h1, h2, h3, h4⟩ := hT.get e1
      split at h
      · rename_i e3
        cases h
        obtain ⟨f, d, k1, k2, k3, k4, _⟩ := h4.get e3
        refine goesR (x := .pointer (some ⟨g, _ + f.offset, none⟩)) ?_ ⟨g, hg, by rw [k2]⟩
        unfold execOp
        simp only [ho, hx, Sem.run_bind, run_fieldAt h1 (by simpa using k1) k3 k4, Result.andThen_ok, Sem.run_pure]
      · cases h
    · rename_i e1 e2
      rw [e2] at hx
      obtain ⟨g, off, vs, hx, hout, hcl, hra⟩ := hx
      obtain ⟨fs, zs, h1, h2, h3, h4⟩ := hT.get e1
      split at h
      · rename_i e3
        split at h
        · rename_i e4
          cases h
          obtain ⟨f, d, k1, k2, k3, k4, _⟩ := h4.get e3
          obtain ⟨c1, c2⟩ := cut_spec e4
          rw [c1] at hcl
          obtain ⟨x1, y1, rfl, m1, m2⟩ := Cells.app.1 hcl
          have hl1 := m1.len
          refine goesR (x := .pointer (some ⟨g, off + f.offset, none⟩)) ?_ ⟨g, off + f.offset, y1, rfl, hout, m2, fun j v hv => ?_⟩
          · unfold execOp
            simp only [ho, hx, Sem.run_bind, run_fieldAt h1 (by simpa using k1) k3 k4, Result.andThen_ok, Sem.run_pure]
          · have := hra (x1.length + j) v (by rw [List.getElem?_append_right (by omega), Nat.add_sub_cancel_left]; exact hv)
            rwa [hl1, c2, ← Nat.add_assoc, ← k2] at this
        · cases h
      · cases h
    · cases h
  · -- field
    rename_i s x i
    have hx := hr x (by simp [reads])
    split at h
    · rename_i e1 e2
      rw [e2] at hx
      obtain ⟨vs, hx, hcl⟩ := hx
      obtain ⟨fs, zs, h1, h2, h3, h4⟩ := hT.get e1
      split at h
      · rename_i e3
        split at h
        · rename_i hm
          cases h
          obtain ⟨f, d, k1, k2, k3, k4, k5, k6⟩ := h4.get e3
          obtain ⟨x1, y1, z1, rfl, m1, m2, m3, m4, m5⟩ := hcl.mid hm
          refine goesR (x := .agg y1.toArray) ?_ ⟨y1, rfl, m4⟩
          unfold execOp
          simp only [ho, hx, Sem.run_bind, run_field h1 (by simpa using k1) k3 k5 k6 (by rw [m1, k2]) m2, Result.andThen_ok, Sem.run_pure]
        · cases h
      · rename_i e3
        split at h
        · rename_i hm
          cases h
          obtain ⟨f, d, k1, k2, k3, k4, k5, k6⟩ := h4.get e3
          obtain ⟨x1, y1, z1, rfl, m1, m2, m3, m4, m5⟩ := hcl.mid hm
          obtain ⟨y2, y3, rfl, ⟨rfl, _⟩, rfl⟩ := m4
          refine goesR (x := _) ?_ rfl
          unfold execOp
          simp only [ho, hx, Sem.run_bind, List.append_nil, run_field1 h1 (by simpa using k1) k5 k6 (by rw [m1, k2]), Result.andThen_ok, Sem.run_pure]
        · cases h
      · cases h
    · cases h
  · -- build
    split at h
    · rename_i e1
      obtain ⟨fs, zs, h1, h2, h3, h4⟩ := hT.get e1
      split at h
      · rename_i hl
        cases h
        exact go_build ho h1 h2 (h3 u) h4 hl (fun x hx => hr x hx)
      · cases h
    · cases h
  · -- buildSlice
    split at h
    · rename_i e1
      have h0 := hT.get e1
      split at h
      · rename_i e2
        obtain ⟨fs, zs, h1, h2, h3, h4⟩ := hT.get e2
        split at h
        · rename_i hl
          split at h
          · rename_i k1 k2 k3
            cases h
            exact go_buildSlice hβ ho h0 h2 hl (Nat.eq_of_beq_eq_true k1) (Nat.le_of_ble_eq_true k2) (Nat.le_of_ble_eq_true k3) (fun x hx => hr x hx)
          · cases h
        · cases h
      · cases h
    · cases h
  · -- extract
    rename_i x i
    have hx := hr x (by simp [reads])
    split at h
    · rename_i e1
      rw [e1] at hx
      split at h
      · rename_i hb
        cases h
        exact go_extract ho hx hb
      · cases h
    · cases h
  · -- binOp
    rename_i op t x y t'
    have hx := hr x (by simp [reads])
    have hy := hr y (by simp [reads])
    split at h
    · rename_i a b e1 e2
      rw [e1] at hx
      rw [e2] at hy
      have hx : ρ x = .int .i64 a := hx
      have hy : ρ y = .int .i64 b := hy
      split at h
      · rename_i c hcm
        split at h
        · rename_i ht
          cases h
          exact go_cmp ho hx hy hcm ht hp
        · cases h
      · split at h
        · cases h
          refine goesR (x := .int .i64 (a + b)) ?_ rfl
          unfold execOp
          simp [ho, hx, hy, eqGuard, binOp, Op.intArith, hp]
        · cases h
          refine goesR (x := .int .i64 (a - b)) ?_ rfl
          unfold execOp
          simp [ho, hx, hy, eqGuard, binOp, Op.intArith, hp]
        · cases h
    · rename_i a b e1 e2
      rw [e1] at hx
      rw [e2] at hy
      have hx : ρ x = .bool a := hx
      have hy : ρ y = .bool b := hy
      split at h
      · rename_i c e3 e4
        cases h
        obtain ⟨d, _, _, _, _, h5⟩ := hT.get e3
        refine goesR (x := .bool c) ?_ rfl
        have := run_eqB (P := P) (x := x) (y := y) (w := u) (h5 rfl) e4
        unfold execOp
        simp only [ho, hx, hy]
        rw [Sem.run_bind, this]
        simp
      · cases h
    · cases h
  · -- indexAddr
    rename_i t x i
    have hx := hr x (by simp [reads])
    have hi := hr i (by simp [reads])
    split at h
    · rename_i e ls z e1 e2 e3
      rw [e2] at hx
      rw [e3] at hi
      have h0 := hT.get e1
      split at h
      · rename_i n fl zl l e4 e5
        obtain ⟨fs, zs, h1, h2, h3, h4⟩ := hT.get e4
        split at h
        · rename_i hsz
          cases h
          exact go_index ho h0 (info_size h2) hx hi hp e5 hsz
        · cases h
      · cases h
    · rename_i k e b off z e1 e2 e3
      rw [e2] at hx
      rw [e3] at hi
      obtain ⟨g, hg, hx⟩ := hx
      have hi : ρ i = .int .i64 z := hi
      have h0 := hT.get e1
      split at h
      · rename_i e4
        obtain ⟨fs, zs, h1, h2, h3, h4⟩ := hT.get e4
        cases h
        exact goesR (x := .pointer (some ⟨g, _, none⟩)) (by unfold execOp; simp only [ho, hx, hi, Sem.run_bind, run_indexArr h0 (info_size h2) hp, Result.andThen_ok, Sem.run_pure]) ⟨g, hg, rfl⟩
      · rename_i e4
        obtain ⟨d, h1, h2, h3, h4, _⟩ := hT.get e4
        cases h
        exact goesR (x := .pointer (some ⟨g, _, none⟩)) (by unfold execOp; simp only [ho, hx, hi, Sem.run_bind, run_indexArr h0 (info_size h3) hp, Nat.mul_one, Result.andThen_ok, Sem.run_pure]) ⟨g, hg, rfl⟩
      · cases h
    · cases h
  · -- index
    rename_i t x i
    have hx := hr x (by simp [reads])
    have hi := hr i (by simp [reads])
    split at h
    · rename_i k e l z e1 e2 e3
      rw [e2] at hx
      rw [e3] at hi
      have hi : ρ i = .int .i64 z := hi
      obtain ⟨vs, hx, hcl⟩ := hx
      have h0 := hT.get e1
      split at h
      · rename_i e4
        obtain ⟨fs, zs, h1, h2, h3, h4⟩ := hT.get e4
        split at h
        · rename_i hm
          cases h
          obtain ⟨x1, y1, z1, rfl, m1, m2, m3, m4, m5⟩ := hcl.mid hm
          refine goesR (x := .agg y1.toArray) ?_ ⟨y1, rfl, m4⟩
          unfold execOp
          simp only [ho, hx, hi, Sem.run_bind, run_index h0 (info_size h2) h1 rfl m1 m2 hp, Result.andThen_ok, Sem.run_pure]
        · cases h
      · rename_i e4
        obtain ⟨d, h1, h2, h3, h4, _⟩ := hT.get e4
        split at h
        · rename_i hm
          cases h
          obtain ⟨x1, y1, z1, rfl, m1, m2, m3, m4, m5⟩ := hcl.mid hm
          obtain ⟨y2, y3, rfl, ⟨rfl, _⟩, rfl⟩ := m4
          refine goesR (x := _) ?_ rfl
          unfold execOp
          simp only [ho, hx, hi, Sem.run_bind, List.append_nil, run_index1 h0 (info_size h3) h1 h2 m1 hp, Result.andThen_ok, Sem.run_pure]
        · cases h
      · cases h
    · cases h
  · -- not
    rename_i t x
    have hx := hr x (by simp [reads])
    split at h
    · rename_i b e1
      rw [e1] at hx
      have hx : ρ x = .bool b := hx
      cases h
      refine goesR (x := .bool (!b)) ?_ rfl
      unfold execOp
      simp [ho, hx, Op.unary]
    · cases h
  · -- call
    split at h
    · rename_i s bs hs1 ha
      obtain ⟨hm, he⟩ := find_spec hs1
      subst he
      split at h
      · rename_i hi hsem
        split at h
        · rename_i hfr ht
          cases h
          exact go_call hf ho (hS s hm) ha hi hsem hp.1 hfr ht hp.2 (fun x hx => hr x hx)
        · cases h
      · cases h
    · cases h
  · cases h
end
end Go.Proofs.YtmoicmjljflcgaaGreat.Sym
