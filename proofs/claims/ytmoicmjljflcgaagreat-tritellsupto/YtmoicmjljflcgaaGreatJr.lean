/- A region that draws its order: by one invariant over what has come up, the values, the world. -/
import Derived.Test.YtmoicmjljflcgaaGreatJe
import Derived.Test.YtmoicmjljflcgaaGreatJq
namespace Go.Proofs.YtmoicmjljflcgaaGreat.Kahn
open Go
set_option maxRecDepth 100000

def Upd {α : Type} (f : Nat → α) (i : Nat) (x : α) : Nat → α := fun k => if k = i then x else f k
theorem Upd.same {α : Type} (f : Nat → α) (i : Nat) (x : α) : Upd f i x i = x := by unfold Upd; rw [if_pos rfl]
theorem Upd.ne {α : Type} {f : Nat → α} {i k : Nat} {x : α} (h : k ≠ i) : Upd f i x k = f k := by unfold Upd; rw [if_neg h]

def tabJ (ops : Array Oper) (n N0 : Nat) (tab : List Reads) : Bool :=
  (List.range n).all fun i => match ops[i]?, tab[i]? with
    | some o, some r =>
      (match o.dst with
        | some d => decide (d < N0) && (List.range n).all fun j => j == i || (match ops[j]? with | some oj => oj.dst != some d | none => true)
        | none => true) &&
      (r.1.all fun p => decide (p.1 < n) && Region.waitsFor .any ops i p.1 && (match ops[p.1]? with | some oj => oj.dst == some p.2 | none => false)) &&
      (r.2.all fun t => (List.range n).all fun j => match ops[j]? with | some oj => oj.dst != some t || Region.waitsFor .any ops j i | none => true) &&
      (match o.guard with
        | some _ => false
        | none => true) &&
      (o.after.all fun e => !Region.binds .any e || decide (e.on < i))
    | _, _ => false
def regionJ (ops : Array Oper) (n N0 : Nat) (tab : List Reads) : Bool :=
  decide (n < ops.size) && Region.sinkB .any ops n && Region.chainB .any ops n && Region.seqB .any ops (ops.size - n) n (Array.replicate n true ++ Array.replicate (ops.size - n) false) && tabJ ops n N0 tab

section
variable {P : Program} {ops : Array Oper} {J : (Nat → Bool) → (Nat → Value) → World → Prop} {a0 : Act} {n N0 : Nat} {tab : List Reads}

/-- What is owed of operation i: it goes, and the invariant holds with it. -/
def OwedJ (P : Program) (J : (Nat → Bool) → (Nat → Value) → World → Prop) (a0 : Act) (i : Nat) (o : Oper) (r : Reads) : Prop :=
  ∀ (L : Nat → Bool) (vs : Nat → Value) (ρ : Operand → Value) (u : World), J L vs u → L i = false → (∀ v, ρ (.const v) = v) → (∀ f, ρ (.func f) = .func (.func f) #[] #[]) →
    (∀ p ∈ r.1, L p.1 = true ∧ ρ (.tmp p.2) = vs p.1) → (∀ t ∈ r.2, ρ (.tmp t) = a0.eval (.tmp t)) → Goes P o ρ u fun v u' => J (Upd L i true) (Upd vs i v) u'

structure InvJ (ops : Array Oper) (a0 : Act) (n : Nat) (listed : Array Bool) (vs : Nat → Value) (a : Act) : Prop where
  defers : a.defers = a0.defers
  size : a.tmps.size = a0.tmps.size
  own : ∀ k o d, ops[k]? = some o → o.dst = some d → k < n → listed.getD k false = true → a.tmps.getD d undef = vs k
  other : ∀ t, (∀ k o, ops[k]? = some o → k < n → listed.getD k false = true → o.dst ≠ some t) → a.tmps.getD t undef = a0.tmps.getD t undef

structure TabJ (ops : Array Oper) (n N0 : Nat) (i : Nat) (o : Oper) (r : Reads) : Prop where
  dst : ∀ d, o.dst = some d → d < N0 ∧ ∀ j oj, j < n → j ≠ i → ops[j]? = some oj → oj.dst ≠ some d
  deps : ∀ p ∈ r.1, p.1 < n ∧ (∃ e ∈ o.after, Region.binds .any e = true ∧ e.on = p.1) ∧ ∃ oj, ops[p.1]? = some oj ∧ oj.dst = some p.2
  orig : ∀ t ∈ r.2, ∀ j oj, j < n → ops[j]? = some oj → oj.dst = some t → ∃ e ∈ oj.after, Region.binds .any e = true ∧ e.on = i
  guard : o.guard = none
  lex : ∀ e ∈ o.after, Region.binds .any e = true → e.on < i

theorem tabJ_spec (h : tabJ ops n N0 tab = true) {i : Nat} (hi : i < n) : ∃ o r, ops[i]? = some o ∧ tab[i]? = some r ∧ TabJ ops n N0 i o r := by
  have h1 := List.all_eq_true.1 h i (List.mem_range.2 hi)
  cases ho : ops[i]? with
  | none => simp [ho] at h1
  | some o =>
    cases hr : tab[i]? with
    | none => simp [ho, hr] at h1
    | some r =>
      simp only [ho, hr, Bool.and_eq_true] at h1
      obtain ⟨⟨⟨⟨h1, h2⟩, h3⟩, h4⟩, h5⟩ := h1
      refine ⟨o, r, rfl, rfl, ?_, ?_, ?_, ?_, ?_⟩
      · intro d hd
        simp only [hd, Bool.and_eq_true, decide_eq_true_eq] at h1
        refine ⟨h1.1, fun j oj hj hji hoj he => ?_⟩
        have := List.all_eq_true.1 h1.2 j (List.mem_range.2 hj)
        simp [hoj, he, hji] at this
      · intro p hp
        have := List.all_eq_true.1 h2 p hp
        simp only [Bool.and_eq_true, decide_eq_true_eq] at this
        obtain ⟨⟨k1, k2⟩, k3⟩ := this
        refine ⟨k1, waits_of ho k2, ?_⟩
        cases hoj : ops[p.1]? with
        | none => simp [hoj] at k3
        | some oj => exact ⟨oj, rfl, by simpa [hoj] using k3⟩
      · intro t ht j oj hj hoj hd
        have := List.all_eq_true.1 (List.all_eq_true.1 h3 t ht) j (List.mem_range.2 hj)
        simp only [hoj, hd, Bool.or_eq_true] at this
        rcases this with k | k
        · simp at k
        · exact waits_of hoj k
      · cases hg : o.guard with
        | none => rfl
        | some g => simp [hg] at h4
      · intro e he hb
        have := Array.all_eq_true'.1 h5 e he
        simpa [hb] using this

theorem getD_set_upd {listed : Array Bool} {i : Nat} (hls : i < listed.size) : (fun k => (listed.setIfInBounds i true).getD k false) = Upd (fun k => listed.getD k false) i true := by
  funext k
  by_cases h : k = i
  · subst h
    rw [Upd.same]
    simp [hls]
  · rw [Upd.ne h, getD_set_ne false (Ne.symm h)]

theorem InvJ.set {listed : Array Bool} {a : Act} {i : Nat} {o : Oper} {r : Reads} {vs : Nat → Value} {v : Value} (inv : InvJ ops a0 n listed vs a) (hN : a0.tmps.size = N0) (ho : ops[i]? = some o) (tb : TabJ ops n N0 i o r) (hin : i < n) (hls : i < listed.size) (hiu : listed.getD i false = false) :
    InvJ ops a0 n (listed.setIfInBounds i true) (Upd vs i v) (a.put o.dst v) := by
  refine ⟨?_, by rw [put_size]; exact inv.size, ?_, ?_⟩
  · cases hd : o.dst with
    | none => exact inv.defers
    | some d => exact inv.defers
  · intro k ok d hok hd hk hl
    by_cases hki : k = i
    · subst hki
      rw [ho] at hok
      cases hok
      rw [hd, put_get_eq _ _ (by rw [inv.size, hN]; exact (tb.dst _ hd).1), Upd.same]
    · rw [getD_set_ne false (Ne.symm hki)] at hl
      have hne : o.dst ≠ some d := fun he => (tb.dst d he).2 k ok hk hki hok hd
      rw [put_get_ne _ _ hne, Upd.ne hki]
      exact inv.own k ok d hok hd hk hl
  · intro t ht
    have hti : o.dst ≠ some t := ht i o ho hin (by simp [hls])
    rw [put_get_ne _ _ hti]
    exact inv.other t fun k ok hok hk hl => ht k ok hok hk (getD_set_true hl)

theorem kahnJ_go {Q : Exit → Act → World → Prop} (hs : Region.sinkB .any ops n = true) (hc : Region.chainB .any ops n = true) (hn : n < ops.size) (hN : a0.tmps.size = N0) (htab : tabJ ops n N0 tab = true)
    (howed : ∀ i o r, i < n → ops[i]? = some o → tab[i]? = some r → OwedJ P J a0 i o r) (g : Nat)
    (hfin : ∀ listed vs a u, HeadInv .any ops n listed → (∀ k, k < n → listed.getD k false = true) → InvJ ops a0 n listed vs a → J (fun k => listed.getD k false) vs u → wpAny P .any ops Q g listed a u) :
    ∀ (f : Nat) (listed : Array Bool) (vs : Nat → Value) (a : Act) (u : World), cnt listed n = f → HeadInv .any ops n listed → InvJ ops a0 n listed vs a → J (fun k => listed.getD k false) vs u → wpAny P .any ops Q (f + g) listed a u := by
  intro f
  induction f with
  | zero =>
    intro listed vs a u hf hh inv hJ
    rw [Nat.zero_add]
    exact hfin listed vs a u hh (cnt_zero n hf) inv hJ
  | succ f ih =>
    intro listed vs a u hf hh inv hJ
    rw [show f + 1 + g = (f + g) + 1 from by omega]
    obtain ⟨k, hkn, hku, hkl⟩ := cnt_pos n (show 0 < cnt listed n by omega)
    have hrk : k ∈ Region.ready .any ops listed := by
      obtain ⟨o, r, ho, _, tb⟩ := tabJ_spec htab hkn
      rw [mem_ready]
      exact ⟨getD_in (by rw [hh.size]; omega) hku, o, ho, fun e he hb => hkl _ (tb.lex e he hb)⟩
    refine ⟨fun h0 => (by rw [h0] at hrk; cases hrk), fun i hi => ?_⟩
    have hin : i < n := by
      rcases Nat.lt_or_ge i n with h | h
      · exact h
      · exact absurd hi (tail_waits hs hc hn hh _ k rfl hkn (getD_in (by rw [hh.size]; omega) hku) i h)
    obtain ⟨o, r, ho, hr, tb⟩ := tabJ_spec htab hin
    obtain ⟨hiu, o', ho', hall⟩ := mem_ready.1 hi
    rw [ho] at ho'
    cases ho'
    have hls : i < listed.size := by rw [hh.size]; omega
    have hcnt := cnt_set (getD_both hiu) hls n hin
    unfold wpOp
    simp only [ho]
    have hw : Region.wanted o (yielded ops a.tmps) = true := by
      unfold Region.wanted
      rw [tb.guard]
    rw [if_pos hw]
    refine .inl (Goes.wp (howed i o r hin ho hr (fun k => listed.getD k false) vs a.eval u hJ (getD_both hiu) (fun _ => rfl) (fun _ => rfl) ?_ ?_) fun v u' hJ' => ?_)
    · intro p hp
      obtain ⟨h1, ⟨e, he, hb, hon⟩, oj, hoj, hd⟩ := tb.deps p hp
      have hl := hall e he hb
      rw [hon] at hl
      exact ⟨hl, inv.own p.1 oj p.2 hoj hd h1 hl⟩
    · intro t ht
      show a.tmps.getD t undef = a0.tmps.getD t undef
      refine inv.other t fun j oj hoj hj hl hd => ?_
      obtain ⟨e, he, hb, hon⟩ := tb.orig t ht j oj hj hoj hd
      have := hh.closed j oj hoj hl e he hb
      rw [hon, getD_both hiu] at this
      cases this
    · refine ih _ (Upd vs i v) _ _ (by omega) (hh.set hi hin) (inv.set hN ho tb hin hls (getD_both hiu)) ?_
      rw [getD_set_upd hls]
      exact hJ'

theorem putsJ_is {l : List Oper} {listed : Array Bool} {vs : Nat → Value} {a : Act} (hl : ops = l.toArray) (hN : a0.tmps.size = N0) (htab : tabJ ops n N0 tab = true) (hn : n < ops.size) (hall : ∀ k, k < n → listed.getD k false = true) (inv : InvJ ops a0 n listed vs a) :
    a = puts vs (l.take n) 0 a0 := by
  subst hl
  have hln : n < l.length := by simpa using hn
  have hget : ∀ k, k < n → (l.take n)[k]? = l.toArray[k]? := fun k hk => by simp [hk]
  have hsz : a.tmps.size = (puts vs (l.take n) 0 a0).tmps.size := by
    rw [puts_size]; exact inv.size
  have ht : a.tmps = (puts vs (l.take n) 0 a0).tmps := by
    apply Array.ext hsz
    intro t h1 h2
    have e1 : a.tmps[t] = a.tmps.getD t undef := by simp [h1]
    have e2 : ∀ b : Act, ∀ h : t < b.tmps.size, b.tmps[t] = b.tmps.getD t undef := fun b h => by simp [h]
    rw [e1, e2 _ h2]
    by_cases hex : ∃ k o, k < n ∧ l.toArray[k]? = some o ∧ o.dst = some t
    · obtain ⟨k, o, hk, ho, hd⟩ := hex
      obtain ⟨o', _, ho', _, tb⟩ := tabJ_spec htab hk
      rw [ho] at ho'
      cases ho'
      obtain ⟨hdl, hdist⟩ := tb.dst t hd
      rw [puts_own _ (l.take n) 0 a0 k o (by rw [hget k hk]; exact ho) hd (by rw [hN]; exact hdl) (fun j oj hj hjk => by
        have hjn : j < n := by
          by_cases h : j < n
          · exact h
          · rw [List.getElem?_eq_none (by simp; omega)] at hj; cases hj
        exact hdist j oj hjn hjk (by rw [← hget j hjn]; exact hj))]
      rw [Nat.zero_add]
      exact inv.own k o t ho hd hk (hall k hk)
    · rw [puts_other _ (l.take n) 0 a0 (fun o ho hd => hex (by
        obtain ⟨k, hk⟩ := List.getElem?_of_mem ho
        have hkn : k < n := by
          by_cases h : k < n
          · exact h
          · rw [List.getElem?_eq_none (by simp; omega)] at hk; cases hk
        exact ⟨k, o, hkn, by rw [← hget k hkn]; exact hk, hd⟩))]
      exact inv.other t fun k o ho hk _ hd => hex ⟨k, o, hk, ho, hd⟩
  have hdf := inv.defers
  rw [← puts_defers vs (l.take n) 0 a0] at hdf
  generalize puts _ (l.take n) 0 a0 = b at ht hdf
  cases a
  cases b
  simp_all

def AllOwedJ (P : Program) (J : (Nat → Bool) → (Nat → Value) → World → Prop) (a0 : Act) : Nat → List Oper → List Reads → Prop
  | k, o :: l, r :: t => OwedJ P J a0 k o r ∧ AllOwedJ P J a0 (k + 1) l t
  | _, _, _ => True
theorem AllOwedJ.get {P : Program} {J : (Nat → Bool) → (Nat → Value) → World → Prop} {a0 : Act} : ∀ (l : List Oper) (t : List Reads) (k i : Nat) (o : Oper) (r : Reads), AllOwedJ P J a0 k l t → l[i]? = some o → t[i]? = some r → OwedJ P J a0 (k + i) o r
  | [], _, _, i, _, _, _, ho, _ => by simp at ho
  | _ :: _, [], _, i, _, _, _, _, hr => by simp at hr
  | o' :: l, r' :: t, k, 0, o, r, h, ho, hr => by
    simp at ho hr
    subst ho hr
    exact h.1
  | o' :: l, r' :: t, k, i + 1, o, r, h, ho, hr => by
    have := AllOwedJ.get l t (k + 1) i o r h.2 (by simpa using ho) (by simpa using hr)
    rwa [show k + 1 + i = k + (i + 1) from by omega] at this

/-- **A region that draws its order, by an invariant.** -/
theorem wp_region_inv {id : Nat} {Q : Exit → Act → World → Prop} {w : World} {l : List Oper} (n N0 : Nat) (tab : List Reads) (J : (Nat → Bool) → (Nat → Value) → World → Prop)
    (hm : P.follows .mixedOrders = true) (hN : a0.tmps.size = N0) (hB : regionJ l.toArray n N0 tab = true) (hJ : ∀ vs, J (fun _ => false) vs { w with drawn := w.drawn + 1 })
    (howed : AllOwedJ P J a0 0 l tab)
    (hfin : ∀ (L : Nat → Bool) (vs : Nat → Value) (u : World), (∀ k, k < n → L k = true) → J L vs u → wpList P l.toArray Q (l.drop n) (puts vs (l.take n) 0 a0) u) : (Code.region id l.toArray true).wp P Q a0 w := by
  simp only [regionJ, Bool.and_eq_true, decide_eq_true_eq] at hB
  obtain ⟨⟨⟨⟨hn, hs⟩, hc⟩, hseq⟩, htab⟩ := hB
  have hln : n < l.length := by simpa using hn
  have hdl : (l.drop n).length = l.toArray.size - n := by simp
  have inv0 : HeadInv .any l.toArray n (Array.replicate l.toArray.size false) :=
    ⟨by simp, fun j oj _ hl => (by rw [getD_replicate_false] at hl; cases hl), fun t _ ht => getD_in (by simpa using ht) (getD_replicate_false _ _)⟩
  have i0 : InvJ l.toArray a0 n (Array.replicate l.toArray.size false) (fun _ => undef) a0 :=
    ⟨rfl, rfl, fun k o d _ _ _ hl => (by rw [getD_replicate_false] at hl; cases hl), fun t _ => rfl⟩
  have j0 : J (fun k => (Array.replicate l.toArray.size false).getD k false) (fun _ => undef) { w with drawn := w.drawn + 1 } := by
    have : (fun k => (Array.replicate l.toArray.size false).getD k false) = fun _ => false := by funext k; exact getD_replicate_false _ _
    rw [this]
    exact hJ _
  refine wp_region_any hm ?_
  have H := kahnJ_go (P := P) (Q := Q) (J := J) hs hc hn hN htab (fun i o r hi ho hr => by have := AllOwedJ.get l tab 0 i o r howed (by simpa using ho) hr; rwa [Nat.zero_add] at this) (l.toArray.size - n) (fun listed vs a u hh hall inv hj => by
    have ha := putsJ_is rfl hN htab hn hall inv
    have hlist : listed = Array.replicate n true ++ Array.replicate (l.toArray.size - n) false := by
      apply Array.ext
      · rw [hh.size]; simp; omega
      · intro t h1 h2
        have e1 : listed[t] = listed.getD t false := by simp [h1]
        have e3 : listed[t] = listed.getD t true := by simp [h1]
        by_cases htn : t < n
        · rw [e1, hall t htn]
          simp [htn]
        · rw [e3, hh.tail t (by omega) (by rw [← hh.size]; exact h1)]
          simp [Array.getElem_append, htn]
    have := wpAny_of_seq (P := P) (ops := l.toArray) (md := .any) (Q' := Q) (l.drop n) n listed a u (fun j => by simp [List.getElem?_drop]) (by rw [hdl, hlist]; exact hseq) (by rw [ha]; exact hfin _ vs u hall hj)
    rwa [hdl] at this) n (Array.replicate l.toArray.size false) (fun _ => undef) a0 { w with drawn := w.drawn + 1 } (cnt_start _ n) inv0 i0 j0
  rw [show n + (l.toArray.size - n) = l.toArray.size from by omega] at H
  exact H
end
end Go.Proofs.YtmoicmjljflcgaaGreat.Kahn

/- For regions by an invariant: constants; blocks of one's own; rows of Rats, lists of Vecs. -/
namespace Go.Proofs.YtmoicmjljflcgaaGreat
open Go.RowKit M Kahn
set_option maxRecDepth 100000

/-- The operations that have a constant value. -/
def Know (cs : List (Option Value)) (L : Nat → Bool) (vs : Nat → Value) : Prop := ∀ k v, cs[k]? = some (some v) → L k = true → vs k = v
section
variable {cs : List (Option Value)} {L : Nat → Bool} {vs : Nat → Value} {i : Nat} {v : Value}
theorem Know.start (cs : List (Option Value)) (vs : Nat → Value) : Know cs (fun _ => false) vs := fun _ _ _ h => by cases h
theorem Know.pure (h : Know cs L vs) (hi : cs[i]? = some (some v)) : Know cs (Upd L i true) (Upd vs i v) := by
  intro k x hk hl
  by_cases e : k = i
  · subst e
    rw [Upd.same]
    rw [hi] at hk
    cases hk
    rfl
  · rw [Upd.ne e] at hl ⊢
    exact h k x hk hl
theorem Know.other (h : Know cs L vs) (hi : cs[i]? = some none) : Know cs (Upd L i true) (Upd vs i v) := by
  intro k x hk hl
  by_cases e : k = i
  · subst e
    rw [hi] at hk
    cases hk
  · rw [Upd.ne e] at hl ⊢
    exact h k x hk hl
end
/-- A block of one's own, at B or behind it, with these contents, once b. -/
def Own1 (pt : Nat → Value) (B : Nat) (bl : Obj) (b : Bool) (v : Value) (u : World) : Prop := b = true → ∃ g, v = pt g ∧ B ≤ g ∧ u.heap[g]? = some bl
def Apart (b1 : Bool) (v1 : Value) (b2 : Bool) (v2 : Value) : Prop := b1 = true → b2 = true → v1 ≠ v2
theorem Apart.symm {b1 b2 : Bool} {v1 v2 : Value} (h : Apart b1 v1 b2 v2) : Apart b2 v2 b1 v1 := fun h1 h2 e => h h2 h1 e.symm
theorem Apart.no1 {v1 v2 : Value} {b : Bool} : Apart false v1 b v2 := fun h => by cases h
theorem Apart.no2 {v1 v2 : Value} {b : Bool} : Apart b v1 false v2 := fun _ h => by cases h
section
variable {pt : Nat → Value} {B : Nat} {bl : Obj} {b : Bool} {v : Value} {u u' : World}
theorem Own1.no : Own1 pt B bl false v u := fun h => by cases h
theorem Own1.later (h : Own1 pt B bl b v u) (hb : Below u.heap.size u u') : Own1 pt B bl b v u' := fun hb1 => by
  obtain ⟨g, e1, e2, e3⟩ := h hb1
  exact ⟨g, e1, e2, by rw [hb.block g (Array.getElem?_eq_some_iff.1 e3).1]; exact e3⟩
theorem Own1.keep {g : Nat} (h : Own1 pt B bl b v u) (hf : Fr g u u') (ha : b = true → v ≠ pt g) : Own1 pt B bl b v u' := fun hb1 => by
  obtain ⟨k, e1, e2, e3⟩ := h hb1
  have hne : k ≠ g := fun e => ha hb1 (by rw [e1, e])
  exact ⟨k, e1, e2, by rw [hf.block k hne]; exact e3⟩
theorem Own1.apart {pt' : Nat → Value} (hp : ∀ a b, pt a = pt' b → a = b) (h : Own1 pt B bl b v u) : Apart b v true (pt' u.heap.size) := fun hb1 _ e => by
  obtain ⟨k, e1, e2, e3⟩ := h hb1
  have := (Array.getElem?_eq_some_iff.1 e3).1
  rw [e1] at e
  have := hp _ _ e
  omega
end

/-- A row of Rats. -/
structure Rw (u : World) (g : Nat) (rs : List RP) : Prop where
  at_ : u.heap[g]? = some (.cells (RP.all rs).toArray 24 (0, 0))
theorem RP.all_len : ∀ rs : List RP, (RP.all rs).length = 3 * rs.length
  | [] => rfl
  | r :: rs => by
    show (r.cells ++ RP.all rs).length = _
    rw [List.length_append, RP.all_len rs, List.length_cons]
    show 3 + _ = _
    omega
theorem RP.all_set : ∀ (rs : List RP) (k : Nat) (r : RP), (((RP.all rs).set (k * 3) (.bool r.s)).set (k * 3 + 1) (.slice r.no r.nn r.nc)).set (k * 3 + 2) (.slice r.eo r.en r.ec) = RP.all (rs.set k r)
  | [], k, r => rfl
  | r' :: rs, 0, r => rfl
  | r' :: rs, k + 1, r => by
    have ih := RP.all_set rs k r
    rw [show (k + 1) * 3 = k * 3 + 1 + 1 + 1 from by omega]
    show _ = r'.cells ++ RP.all (rs.set k r)
    rw [← ih]
    rfl
section
variable {u u' : World} {g k : Nat} {rs : List RP}
theorem Rw.lt (h : Rw u g rs) : g < u.heap.size := (Array.getElem?_eq_some_iff.1 h.at_).1
theorem Rw.keep (h : Rw u g rs) (hb : u'.heap[g]? = u.heap[g]?) : Rw u' g rs := ⟨by rw [hb]; exact h.at_⟩
theorem Rw.later (h : Rw u g rs) (hb : Below u.heap.size u u') : Rw u' g rs := h.keep (hb.block g h.lt)
theorem Rw.cell (h : Rw u g rs) (i : Nat) : u.cell? ⟨g, i, none⟩ = (RP.all rs)[i]? := by
  rw [cell_of_row u g i _ _ _ h.at_]
  simp
theorem Rw.free (h : Rw u g rs) (i : Nat) : u.frozen? ⟨g, i, none⟩ = false := frozen_of_row u g i _ _ h.at_
theorem Rw.there (h : Rw u g rs) {r : RP} (hr : rs[k]? = some r) : u.cell? ⟨g, k * 3, none⟩ = some (.bool r.s) ∧ u.cell? ⟨g, k * 3 + 1, none⟩ = some (.slice r.no r.nn r.nc) ∧ u.cell? ⟨g, k * 3 + 2, none⟩ = some (.slice r.eo r.en r.ec) := by
  obtain ⟨a1, a2, a3⟩ := RP.all_get rs k r hr
  exact ⟨by rw [h.cell, a1], by rw [h.cell, a2], by rw [h.cell, a3]⟩
/-- A Rat is stored. -/
def putR (u : World) (g i : Nat) (r : RP) : World := ((u.setCell ⟨g, i, none⟩ (.bool r.s)).setCell ⟨g, i + 1, none⟩ (.slice r.no r.nn r.nc)).setCell ⟨g, i + 2, none⟩ (.slice r.eo r.en r.ec)
theorem putR.fr (u : World) (g i : Nat) (r : RP) : Fr g u (putR u g i r) := (((Fr.refl g u).set i (.bool r.s)).set (i + 1) (.slice r.no r.nn r.nc)).set (i + 2) (.slice r.eo r.en r.ec)
theorem Rw.put (h : Rw u g rs) (k : Nat) (r : RP) : Rw (putR u g (k * 3) r) g (rs.set k r) := ⟨by
  have a0 := heap_setCell_same u g (k * 3) _ _ (.bool r.s) h.at_
  have a1 := heap_setCell_same _ g (k * 3 + 1) _ _ (.slice r.no r.nn r.nc) a0
  have a2 := heap_setCell_same _ g (k * 3 + 2) _ _ (.slice r.eo r.en r.ec) a1
  simp only [List.setIfInBounds_toArray, RP.all_set] at a2
  exact a2⟩
theorem Rw.list {K : Nat} {qs : List Rat} (h : Rw u g rs) (hq : RL u K rs qs) (n : Nat) (hn : rs.length = n) : VL qs K (.slice (some ⟨g, 0, none⟩) n n) u := by
  subst hn
  refine ⟨_, rs.length, rs, by rw [hq.len], by rw [hq.len]; exact Nat.le_refl _, hq, fun _ => ⟨g, 0, rfl, h.lt, fun i v hv => ?_⟩⟩
  rw [Nat.zero_add, h.cell]
  exact hv
end
theorem infoR : (Tryz.prog.info? 24).map (fun i => (i.zero, i.size, i.bytes)) = some (some (.agg #[.bool false, .slice none 0 0, .slice none 0 0]), 3, 56) := by kernel_rfl
theorem mod3 (m : Nat) (z : Array Value) (hz : z = #[.bool false, .slice none 0 0, .slice none 0 0]) : madeCells z (m * 3) = (RP.all (List.replicate m zRP)).toArray := by
  subst hz
  apply Array.ext'
  apply List.ext_getElem?
  intro j
  have hl : (RP.all (List.replicate m zRP)).length = 3 * m := by rw [RP.all_len, List.length_replicate]
  by_cases hj : j < m * 3
  · obtain ⟨q, r, hr, rfl⟩ : ∃ q r, r < 3 ∧ j = q * 3 + r := ⟨j / 3, j % 3, Nat.mod_lt _ (by omega), by omega⟩
    obtain ⟨a1, a2, a3⟩ := RP.all_get (List.replicate m zRP) q zRP (by rw [List.getElem?_replicate, if_pos (by omega)])
    have hm : (q * 3 + r) % 3 = r := by omega
    rcases (by omega : r = 0 ∨ r = 1 ∨ r = 2) with rfl | rfl | rfl
    · simp only [Nat.add_zero, a1]
      simp [madeCells]
      exact ⟨q * 3, by rw [List.getElem?_range (by omega)], by simp [zRP]⟩
    · rw [a2]
      simp [madeCells]
      exact ⟨q * 3 + 1, by rw [List.getElem?_range (by omega)], by simp [hm, zRP]⟩
    · rw [a3]
      simp [madeCells]
      exact ⟨q * 3 + 2, by rw [List.getElem?_range (by omega)], by simp [hm, zRP]⟩
  · rw [List.getElem?_eq_none (by simp [madeCells]; omega), List.getElem?_eq_none (by simp; omega)]
theorem make_runR (n : Nat) (hn : n ≤ 1099511627776) (u : World) : (Instr.makeSlice 66 (.int .i64 (n : Int)) (.int .i64 (n : Int))).run Tryz.prog u =
    .ok (.slice (some ⟨u.heap.size, 0, none⟩) n n) (u.alloc (.cells (RP.all (List.replicate n zRP)).toArray 24)) := by
  obtain ⟨i0, hi, hz0, hz1, hz2⟩ := info_parts infoR
  have h := run_make (P := Tryz.prog) u 66 24 i0 (.agg #[.bool false, .slice none 0 0, .slice none 0 0]) Tryz.underlying66 hi hz0 .i64 .i64 (n : Int) (n : Int) (by omega) (Int.le_refl _) (by rw [hz2]; omega) (by omega)
  rw [Int.toNat_natCast] at h
  rw [← mod3 n _ rfl]
  simpa [hz1, Value.cells] using h

/-- The parts of a Vec; a list of Vecs. -/
structure TP where
  x : RP
  y : RP
  z : RP
def TP.cells (t : TP) : List Value := [.bool t.x.s, .slice t.x.no t.x.nn t.x.nc, .slice t.x.eo t.x.en t.x.ec, .bool t.y.s, .slice t.y.no t.y.nn t.y.nc, .slice t.y.eo t.y.en t.y.ec, .bool t.z.s, .slice t.z.no t.z.nn t.z.nc, .slice t.z.eo t.z.en t.z.ec]
def TP.all : List TP → List Value
  | [] => []
  | t :: l => t.cells ++ TP.all l
theorem TP.all_get : ∀ (ts : List TP) (k : Nat) (t : TP), ts[k]? = some t → ∀ j, j < 9 → (TP.all ts)[k * 9 + j]? = t.cells[j]?
  | [], k, t, h => by simp at h
  | t' :: ts, 0, t, h => fun j hj => by
    simp at h
    subst h
    show (t'.cells ++ TP.all ts)[0 * 9 + j]? = _
    rw [Nat.zero_mul, Nat.zero_add, List.getElem?_append_left hj]
  | t' :: ts, k + 1, t, h => fun j hj => by
    have := TP.all_get ts k t (by simpa using h) j hj
    rw [show (k + 1) * 9 + j = 9 + (k * 9 + j) from by omega, ← this]
    show (t'.cells ++ TP.all ts)[9 + (k * 9 + j)]? = _
    rw [List.getElem?_append_right (by show t'.cells.length ≤ _; simp [TP.cells])]
    congr 1
    simp [TP.cells]
/-- A slice of Vecs that are read as these. -/
def VW (ps qs rs : List Rat) (K : Nat) : Value → World → Prop := fun v u =>
  ∃ ao cap ts, v = .slice ao ps.length cap ∧ ps.length ≤ cap ∧ RL u K (ts.map TP.x) ps ∧ RL u K (ts.map TP.y) qs ∧ RL u K (ts.map TP.z) rs ∧ (0 < ps.length → ∃ b o, ao = some ⟨b, o, none⟩ ∧ b < u.heap.size ∧ ∀ i v, (TP.all ts)[i]? = some v → u.cell? ⟨b, o + i, none⟩ = some v)
theorem VW.lasts (ps qs rs : List Rat) (K : Nat) : Lasts (VW ps qs rs K) := by
  rintro v u u' hb ⟨ao, cap, ts, h1, h2, h3, h4, h5, h6⟩
  refine ⟨ao, cap, ts, h1, h2, h3.later hb, h4.later hb, h5.later hb, fun h0 => ?_⟩
  obtain ⟨b, o, e1, e2, e3⟩ := h6 h0
  exact ⟨b, o, e1, Nat.lt_of_lt_of_le e2 hb.size, fun i v hv => by rw [hb.cell (p := ⟨b, o + i, none⟩) e2]; exact e3 i v hv⟩
theorem VW.nil (K : Nat) (u : World) : VW [] [] [] K (.slice none 0 0) u := ⟨none, 0, [], rfl, Nat.le_refl _, trivial, trivial, trivial, fun h => absurd h (Nat.lt_irrefl _)⟩
theorem VW.made {u : World} {K : Nat} (ts : List TP) (ps qs rs : List Rat) (h1 : RL u K (ts.map TP.x) ps) (h2 : RL u K (ts.map TP.y) qs) (h3 : RL u K (ts.map TP.z) rs) (cs : Array Value) (hc : cs = (TP.all ts).toArray) (n : Nat) (hn : ts.length = n) :
    VW ps qs rs K (.slice (some ⟨u.heap.size, 0, none⟩) n n) (u.alloc (.cells cs 26)) := by
  subst hc hn
  have bl : Below u.heap.size u (u.alloc (.cells (TP.all ts).toArray 26)) := (Below.refl _ _).alloc (Nat.le_refl _) _
  have hl : ts.length = ps.length := by have := h1.len; rwa [List.length_map] at this
  refine ⟨some ⟨u.heap.size, 0, none⟩, ts.length, ts, by rw [hl], by rw [hl]; exact Nat.le_refl _, h1.later bl, h2.later bl, h3.later bl, fun _ => ⟨u.heap.size, 0, rfl, by simp, fun i v hv => ?_⟩⟩
  rw [Nat.zero_add, cell_of_row _ u.heap.size i _ _ _ (heap_alloc_new _ _)]
  simpa using hv
end Go.Proofs.YtmoicmjljflcgaaGreat
