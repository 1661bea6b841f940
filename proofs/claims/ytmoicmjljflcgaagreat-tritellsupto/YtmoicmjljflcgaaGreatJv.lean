/- Operations one behind the other. -/
import Derived.Test.YtmoicmjljflcgaaGreatJu
import Derived.LoopN
namespace Go.Proofs.YtmoicmjljflcgaaGreat.Sym
open Go Go.RowKit M Kahn
set_option maxRecDepth 100000

/-- What is known: of each slot, of each box. -/
structure St where
  tm : List AV
  bx : List Bx
def look (tm : List AV) (t : Nat) : AV := match tm[t]? with
  | some a => a
  | none => ⟨.inl ⟨none⟩⟩
def putT (tm : List AV) (d : Option Nat) (a : AV) : List AV := match d with
  | some d => tm.set d a
  | none => tm
structure Rel (w0 : World) (st : St) (β : Nat → Option Nat) (a : Act) (u : World) : Prop where
  ws : WS w0 st.bx β u
  size : a.tmps.size = st.tm.length
  vals : ∀ t, (look st.tm t).Is β u (a.tmps.getD t undef)
  defers : a.defers = []
theorem put_is {tm : List AV} {β : Nat → Option Nat} {u : World} {a : Act} {d : Option Nat} {av : AV} {v : Value} (hs : a.tmps.size = tm.length) (hv : ∀ t, (look tm t).Is β u (a.tmps.getD t undef)) (hi : av.Is β u v) :
    (a.put d v).tmps.size = (putT tm d av).length ∧ ∀ t, (look (putT tm d av) t).Is β u ((a.put d v).tmps.getD t undef) := by
  cases d with
  | none => exact ⟨hs, hv⟩
  | some d =>
    refine ⟨by rw [put_size]; simp [putT, hs], fun t => ?_⟩
    unfold look putT
    by_cases hd : d < tm.length
    · by_cases ht : d = t
      · subst ht
        rw [put_get_eq _ _ (by rw [hs]; exact hd)]
        simp only [List.getElem?_set_self hd]
        exact hi
      · rw [put_get_ne _ _ (fun h => ht (by cases h; rfl))]
        simp only [List.getElem?_set_ne ht]
        exact hv t
    · have : (tm.set d av)[t]? = tm[t]? := by rw [List.set_eq_of_length_le (by omega)]
      simp only [this]
      by_cases ht : d = t
      · subst ht
        rw [List.getElem?_eq_none (by omega)]
        trivial
      · rw [put_get_ne _ _ (fun h => ht (by cases h; rfl))]
        exact hv t
/-- What an operation makes of what is known. -/
def app (st : St) (d : Option Nat) : Eff → Option St
  | ⟨.inl a⟩ => some ⟨putT st.tm d a, st.bx⟩
  | ⟨.inr (.inl (ty, l))⟩ => some ⟨putT st.tm d (⟨.inl (⟨some (.inr (.inr (.inl (st.bx.length, 0))))⟩)⟩), st.bx ++ [⟨ty, l⟩]⟩
  | ⟨.inr (.inr (b, l))⟩ => match st.bx[b]? with
    | some x => some ⟨putT st.tm d (⟨.inl ⟨none⟩⟩), st.bx.set b ⟨x.ty, l⟩⟩
    | none => none
theorem app_spec {w0 : World} {st st' : St} {β : Nat → Option Nat} {a : Act} {u u' : World} {d : Option Nat} {e : Eff} {v : Value} (r : Rel w0 st β a u) (h : app st d e = some st') (he : EffR β st.bx u e v u') : ∃ β', Rel w0 st' β' (a.put d v) u' := by
  have hdf : (a.put d v).defers = [] := by cases d <;> exact r.defers
  obtain ⟨av | ⟨ty, l⟩ | ⟨b, l⟩⟩ := e
  · simp only [app] at h; cases h
    obtain ⟨h1, h2⟩ := he
    obtain ⟨k1, k2⟩ := put_is (d := d) r.size (fun t => (r.vals t).tr (Tr.later h1)) h2
    exact ⟨β, r.ws.later h1, k1, k2, hdf⟩
  · simp only [app] at h; cases h
    obtain ⟨vs, rfl, rfl, hc⟩ := he
    have hn : β st.bx.length = none := by
      cases hb : β st.bx.length with
      | none => rfl
      | some g => exact absurd (r.ws.dom _ g hb) (Nat.lt_irrefl _)
    have t := Tr.alloc (u := u) hn (.cells vs.toArray ty)
    obtain ⟨k1, k2⟩ := put_is (d := d) (av := ⟨.inl (⟨some (.inr (.inr (.inl (st.bx.length, 0))))⟩)⟩) (v := .pointer (some ⟨u.heap.size, 0, none⟩)) r.size (fun t' => (r.vals t').tr t) ⟨u.heap.size, bset_same _ _ _, rfl⟩
    exact ⟨_, (r.ws.more [⟨ty, l⟩]).alloc (b := ⟨ty, l⟩) hn (by simp) hc, k1, k2, hdf⟩
  · obtain ⟨g, x, ws, h1, h2, h3, h4, h5⟩ := he
    simp only [app, h2] at h; cases h
    have t := r.ws.tr_store h1 h2 h3
    obtain ⟨k1, k2⟩ := put_is (d := d) (av := ⟨.inl ⟨none⟩⟩) (v := v) r.size (fun t' => (r.vals t').tr t) trivial
    exact ⟨β, r.ws.store h1 h2 h3 h4 h5, k1, k2, hdf⟩
/-- Is an operation wanted? By the value of the one that guards it. -/
def want : AV → Bool → Option Bool
  | ⟨.inl (⟨some (.inl (.bool true))⟩)⟩, true => some true
  | ⟨.inl (⟨some (.inl (.bool true))⟩)⟩, false => some false
  | ⟨.inl (⟨some (.inl (.bool false))⟩)⟩, true => some false
  | ⟨.inl (⟨some (.inl (.bool false))⟩)⟩, false => some true
  | ⟨.inl (⟨some (.inl (.tuple _))⟩)⟩, _ => some false
  | _, _ => none
theorem want_spec {β : Nat → Option Nat} {u : World} {a : AV} {b c : Bool} {v : Value} (h : want a b = some c) (hi : a.Is β u v) : c = true ↔ v = .bool b := by
  unfold want at h
  split at h <;> cases h <;> have hi : v = _ := hi <;> subst hi <;> simp
def wantO (ops : List Oper) (tm : List AV) : Option (Nat × Bool) → Option Bool
  | none => some true
  | some (g, b) => match ops[g]? with
    | some o => match o.dst with
      | some d => want (look tm d) b
      | none => none
    | none => none
theorem wantO_spec {ops : List Oper} {st : St} {w0 : World} {β : Nat → Option Nat} {a : Act} {u : World} {o : Oper} {c : Bool} (r : Rel w0 st β a u) (h : wantO ops st.tm o.guard = some c) (hd : ∀ g b og d, o.guard = some (g, b) → ops[g]? = some og → og.dst = some d → d < st.tm.length) : Region.wanted o (yielded ops.toArray a.tmps) = c := by
  unfold wantO at h
  unfold Region.wanted
  split at h
  · rename_i hg; cases h; rw [hg]
  · rename_i g b hg
    rw [hg]
    split at h
    · rename_i og hog
      split at h
      · rename_i d hdst
        have hdl := hd g b og d hg hog hdst
        have hs := want_spec h (r.vals d)
        have hy : yielded ops.toArray a.tmps g = some b ↔ a.tmps.getD d undef = .bool b := by
          unfold yielded
          simp only [List.getElem?_toArray, hog, Option.bind_some, hdst]
          rw [getD_some (a := a) (by rw [r.size]; exact hdl)]
          cases a.tmps.getD d undef <;> simp
        cases c with
        | true => simp [hy.2 (hs.1 rfl)]
        | false =>
          have : yielded ops.toArray a.tmps g ≠ some b := fun h' => by have := hs.2 (hy.1 h'); cases this
          simp [this]
      · cases h
    · cases h
def dstOk (n : Nat) (ops : List Oper) : Bool := ops.all fun o => match o.dst with
  | some d => Nat.blt d n
  | none => true
theorem dstOk_spec {n : Nat} {ops : List Oper} (h : dstOk n ops = true) {i : Nat} {o : Oper} {d : Nat} (ho : ops[i]? = some o) (hd : o.dst = some d) : d < n := by
  have := List.all_eq_true.1 h o (List.mem_of_getElem? ho)
  simp only [hd] at this
  exact Nat.le_of_ble_eq_true this
/-- One operation. -/
def step (tt : TT) (S : List Spec) (ops : List Oper) (st : St) (hs : List Bool) (o : Oper) : Option (St × Prop × List Bool) := match wantO ops st.tm o.guard with
  | some true => match ev tt S (rdO (look st.tm)) st.bx hs o.op with
    | some (e, p, hs') => match app st o.dst e with
      | some st' => some (st', p, hs')
      | none => none
    | none => none
  | some false => some (⟨putT st.tm o.dst (⟨.inl (⟨some (.inl undef)⟩)⟩), st.bx⟩, True, hs)
  | none => none
def run (tt : TT) (S : List Spec) (ops : List Oper) : List Oper → St → List Bool → Option (St × Prop × List Bool)
  | [], st, hs => some (st, True, hs)
  | o :: l, st, hs => match step tt S ops st hs o with
    | some (st', p, hs') => match run tt S ops l st' hs' with
      | some (st'', p', hs'') => some (st'', p ∧ p', hs'')
      | none => none
    | none => none
section
variable {P : Program} {tt : TT} {S : List Spec} {ops : List Oper} {w0 : World} {Q : Exit → Act → World → Prop}
theorem rd_is {tm : List AV} {β : Nat → Option Nat} {u : World} {a : Act} (hv : ∀ t, (look tm t).Is β u (a.tmps.getD t undef)) : ∀ x : Operand, (rdO (look tm) x).Is β u (a.eval x)
  | .tmp t => hv t
  | .const _ => rfl
  | .global _ => trivial
  | .func _ => trivial
theorem app_len {st st' : St} {d : Option Nat} {e : Eff} (h : app st d e = some st') : st'.tm.length = st.tm.length := by
  have hp : ∀ a, (putT st.tm d a).length = st.tm.length := fun a => by cases d <;> simp [putT]
  obtain ⟨a | ⟨ty, l⟩ | ⟨b, l⟩⟩ := e
  · simp only [app] at h; cases h; exact hp _
  · simp only [app] at h; cases h; exact hp _
  · simp only [app] at h
    split at h
    · cases h; exact hp _
    · cases h
theorem step_len {st st' : St} {hs hs' : List Bool} {o : Oper} {p : Prop} (h : step tt S ops st hs o = some (st', p, hs')) : st'.tm.length = st.tm.length := by
  unfold step at h
  split at h
  · split at h
    · split at h
      · rename_i ha; cases h; exact app_len ha
      · cases h
    · cases h
  · cases h; cases o.dst <;> simp [putT]
  · cases h
theorem run_sound (hT : TTok P tt) (hS : ∀ s ∈ S, SpecOk P s) : ∀ (l : List Oper) {st st' : St} {hs hs' : List Bool} {p : Prop} {β : Nat → Option Nat} {a : Act} {u : World}, dstOk st.tm.length ops = true → run tt S ops l st hs = some (st', p, hs') → p → Rel w0 st β a u →
    (∀ β' a' u', Rel w0 st' β' a' u' → Q .normal a' u') → wpList P ops.toArray Q l a u
  | [], st, st', hs, hs', p, β, a, u, _, h, _, r, hq => by
    simp only [run] at h; cases h
    exact hq β a u r
  | o :: l, st, st', hs, hs', p, β, a, u, hd, h, hp, r, hq => by
    simp only [run] at h
    split at h
    · rename_i st1 p1 hs1 h1
      split at h
      · rename_i st2 p2 hs2 h2
        cases h
        have hlen := step_len h1
        unfold step at h1
        split at h1
        · rename_i hw
          have hw := wantO_spec r hw (fun g b og d hg hog hdst => dstOk_spec hd hog hdst)
          split at h1
          · rename_i e p3 hs3 hev
            split at h1
            · rename_i st3 happ
              cases h1
              refine wpList_step fun K hK => ?_
              rw [if_pos hw]
              refine Goes.wp (ev_sound hT hS hev hp.1 (fun k g hk => r.ws.there hk) (fun _ => rfl) (fun x _ => rd_is r.vals x) (fun k x g _ hx hk => r.ws.cont k x g hx hk)) fun v u' he => ?_
              obtain ⟨β', r'⟩ := app_spec r happ he
              exact hK _ _ (run_sound hT hS l (by rw [hlen]; exact hd) h2 hp.2 r' hq)
            · cases h1
          · cases h1
        · rename_i hw
          have hw := wantO_spec r hw (fun g b og d hg hog hdst => dstOk_spec hd hog hdst)
          cases h1
          refine wpList_step fun K hK => ?_
          rw [if_neg (by rw [hw]; simp)]
          obtain ⟨k1, k2⟩ := put_is (d := o.dst) (av := ⟨.inl (⟨some (.inl undef)⟩)⟩) (v := undef) r.size r.vals rfl
          exact hK _ _ (run_sound hT hS l (by rw [hlen]; exact hd) h2 hp.2 (β := β) ⟨r.ws, k1, k2, by cases o.dst <;> exact r.defers⟩ hq)
        · cases h1
      · cases h
    · cases h
end
end Go.Proofs.YtmoicmjljflcgaaGreat.Sym

/- Operations whose order is drawn. -/
namespace Go.Proofs.YtmoicmjljflcgaaGreat.Sym
open Go Go.RowKit M Kahn
set_option maxRecDepth 100000

/-- What is known of an operation of such a region: its value; the box that it lays; the box that it stores to, and what that holds then; the box that it loads from; what it reads. -/
structure HR where
  av : AV
  nw : Option Nat
  pt : Option (Nat × List Lf)
  ld : Option Nat
  rd : Reads
def wfind : List (Nat × Nat) → Nat → Option Nat
  | [], _ => none
  | (d, i) :: l, t => match Nat.beq d t with
    | true => some i
    | false => wfind l t
def rdsOf (wr : List (Nat × Nat)) : List Operand → Reads
  | [] => ([], [])
  | .tmp t :: l => match wfind wr t with
    | some j => ((j, t) :: (rdsOf wr l).1, (rdsOf wr l).2)
    | none => ((rdsOf wr l).1, t :: (rdsOf wr l).2)
  | _ :: l => rdsOf wr l
theorem rdsOf_spec {wr : List (Nat × Nat)} {t : Nat} : ∀ {l : List Operand}, .tmp t ∈ l → (∃ j, wfind wr t = some j ∧ (j, t) ∈ (rdsOf wr l).1) ∨ (wfind wr t = none ∧ t ∈ (rdsOf wr l).2)
  | [], h => by cases h
  | x :: l, h => by
    rcases List.mem_cons.1 h with rfl | h
    · simp only [rdsOf]
      cases hw : wfind wr t with
      | some j => exact .inl ⟨j, rfl, List.mem_cons_self ..⟩
      | none => exact .inr ⟨rfl, List.mem_cons_self ..⟩
    · have ih := rdsOf_spec (wr := wr) h
      cases x <;> simp only [rdsOf]
      case tmp t' =>
        cases hw : wfind wr t' with
        | some j' =>
          rcases ih with ⟨j, h1, h2⟩ | ⟨h1, h2⟩
          · exact .inl ⟨j, h1, List.mem_cons_of_mem _ h2⟩
          · exact .inr ⟨h1, h2⟩
        | none =>
          rcases ih with ⟨j, h1, h2⟩ | ⟨h1, h2⟩
          · exact .inl ⟨j, h1, h2⟩
          · exact .inr ⟨h1, List.mem_cons_of_mem _ h2⟩
      all_goals exact ih
def putW (wr : List (Nat × Nat)) (d : Option Nat) (i : Nat) : List (Nat × Nat) := match d with
  | some d => (d, i) :: wr
  | none => wr
def wantA (avs : List AV) : Option (Nat × Bool) → Option Bool
  | none => some true
  | some (g, b) => match avs[g]? with
    | some a => want a b
    | none => none
def avOf (bx : List Bx) : Eff → AV
  | ⟨.inl a⟩ => a
  | ⟨.inr (.inl (_, _))⟩ => ⟨.inl (⟨some (.inr (.inr (.inl (bx.length, 0))))⟩)⟩
  | ⟨.inr (.inr (_, _))⟩ => ⟨.inl ⟨none⟩⟩
def nwOf (bx : List Bx) : Eff → Option Nat
  | ⟨.inr (.inl (_, _))⟩ => some bx.length
  | _ => none
def ptOf : Eff → Option (Nat × List Lf)
  | ⟨.inr (.inr (b, l))⟩ => some (b, l)
  | _ => none
def bxOf (bx : List Bx) : Eff → List Bx
  | ⟨.inr (.inl (ty, l))⟩ => bx ++ [⟨ty, l⟩]
  | _ => bx
def ldOf (k : Option Nat) : Eff → Option Nat
  | ⟨.inl _⟩ => k
  | _ => none
def head (tt : TT) (S : List Spec) : List Oper → Nat → List AV → List (Nat × Nat) → List AV → List Bx → List Bool → Option (List HR × List AV × List Bx × Prop × List Bool)
  | [], _, tm, _, _, bx, hs => some ([], tm, bx, True, hs)
  | o :: l, i, tm, wr, avs, bx, hs => match wantA avs o.guard with
    | none => none
    | some false => match head tt S l (i + 1) (putT tm o.dst (⟨.inl (⟨some (.inl undef)⟩)⟩)) (putW wr o.dst i) (avs ++ [⟨.inl (⟨some (.inl undef)⟩)⟩]) bx hs with
      | none => none
      | some (rs, tm', bx', p, hs') => some (⟨⟨.inl (⟨some (.inl undef)⟩)⟩, none, none, none, rdsOf wr (reads o.op)⟩ :: rs, tm', bx', p, hs')
    | some true => match ev tt S (rdO (look tm)) bx hs o.op with
      | none => none
      | some (e, p, hs1) => match head tt S l (i + 1) (putT tm o.dst (avOf bx e)) (putW wr o.dst i) (avs ++ [avOf bx e]) (bxOf bx e) hs1 with
        | none => none
        | some (rs, tm', bx', p', hs') => some (⟨avOf bx e, nwOf bx e, ptOf e, ldOf (touch (rdO (look tm)) o.op) e, rdsOf wr (reads o.op)⟩ :: rs, tm', bx', p ∧ p', hs')
/-- What a guard says. -/
def Gd (A : Nat → AV) (c : Bool) : Option (Nat × Bool) → Prop
  | none => c = true
  | some (g, b) => want (A g) b = some c
/-- What is known of operation i. -/
structure HF (tt : TT) (S : List Spec) (tm0 : List AV) (A : Nat → AV) (bxF : List Bx) (o : Oper) (r : HR) : Prop where
  ex : ∃ (tm : List AV) (bx : List Bx) (hs : List Bool),
    (∀ t, .tmp t ∈ reads o.op → (∃ j, (j, t) ∈ r.rd.1 ∧ look tm t = A j) ∨ (t ∈ r.rd.2 ∧ look tm t = look tm0 t)) ∧ (∃ m, bxF = bx ++ m) ∧
    ∃ c, Gd A c o.guard ∧
      match c with
      | false => r.av = ⟨.inl (⟨some (.inl undef)⟩)⟩ ∧ r.nw = none ∧ r.pt = none
      | true => ∃ e p hs', ev tt S (rdO (look tm)) bx hs o.op = some (e, p, hs') ∧ p ∧ r.av = avOf bx e ∧ r.nw = nwOf bx e ∧ r.pt = ptOf e ∧ r.ld = ldOf (touch (rdO (look tm)) o.op) e ∧ ∃ m, bxF = bxOf bx e ++ m
theorem look_put {tm : List AV} {d : Option Nat} {a : AV} {t : Nat} (h : ∀ d', d = some d' → d' < tm.length) : look (putT tm d a) t = if d = some t then a else look tm t := by
  unfold look putT
  cases d with
  | none => rfl
  | some d =>
    by_cases ht : d = t
    · subst ht; simp [h d rfl]
    · simp [ht]
theorem look_app {l m : List AV} {i : Nat} (h : i < l.length) : look (l ++ m) i = look l i := by unfold look; rw [List.getElem?_append_left h]
theorem wantA_spec {avs m : List AV} {g : Option (Nat × Bool)} {c : Bool} (h : wantA avs g = some c) : Gd (look (avs ++ m)) c g := by
  cases g with
  | none => simp only [wantA] at h; cases h; rfl
  | some x =>
    obtain ⟨g, b⟩ := x
    simp only [wantA] at h
    simp only [Gd]
    split at h
    · rename_i a ha
      have hl := (List.getElem?_eq_some_iff.1 ha).1
      rw [look_app hl]
      unfold look
      rw [ha]
      exact h
    · cases h
theorem head_bx {tt : TT} {S : List Spec} : ∀ {l : List Oper} {i : Nat} {tm : List AV} {wr : List (Nat × Nat)} {avs : List AV} {bx : List Bx} {hs : List Bool} {rs : List HR} {tm' : List AV} {bx' : List Bx} {p : Prop} {hs' : List Bool}, head tt S l i tm wr avs bx hs = some (rs, tm', bx', p, hs') → ∃ m, bx' = bx ++ m
  | [], _, _, _, _, _, _, _, _, _, _, _, h => by simp only [head] at h; cases h; exact ⟨[], by simp⟩
  | o :: l, i, tm, wr, avs, bx, hs, rs, tm', bx', p, hs', h => by
    simp only [head] at h
    split at h
    · cases h
    · split at h
      · cases h
      · rename_i h1; cases h; exact head_bx h1
    · split at h
      · cases h
      · rename_i e p1 hs1 he
        split at h
        · cases h
        · rename_i h1
          cases h
          obtain ⟨m, hm⟩ := head_bx h1
          rw [hm]
          obtain ⟨a | ⟨ty, l'⟩ | ⟨b, l'⟩⟩ := e <;> simp [bxOf]
theorem head_get {tt : TT} {S : List Spec} {tm0 : List AV} : ∀ {l : List Oper} {i : Nat} {tm : List AV} {wr : List (Nat × Nat)} {avs : List AV} {bx : List Bx} {hs : List Bool} {rs : List HR} {tm' : List AV} {bx' : List Bx} {p : Prop} {hs' : List Bool},
    head tt S l i tm wr avs bx hs = some (rs, tm', bx', p, hs') → p → dstOk tm.length l = true → avs.length = i → (∀ t j, wfind wr t = some j → look tm t = look avs j ∧ j < i) → (∀ t, wfind wr t = none → look tm t = look tm0 t) →
    ∀ (j : Nat) (o : Oper) (r : HR), l[j]? = some o → rs[j]? = some r → HF tt S tm0 (look (avs ++ rs.map (·.av))) bx' o r
  | [], _, _, _, _, _, _, _, _, _, _, _, _, _, _, _, _, _, j, o, r, ho, _ => by simp at ho
  | o :: l, i, tm, wr, avs, bx, hs, rs, tm', bx', p, hs', h, hp, hd, hl, h1, h2, j, o', r, ho, hr => by
    have hdo : ∀ d', o.dst = some d' → d' < tm.length := fun d' hd' => dstOk_spec hd (i := 0) rfl hd'
    have hdl : dstOk tm.length l = true := by unfold dstOk at hd ⊢; rw [List.all_cons, Bool.and_eq_true] at hd; exact hd.2
    have hplen : ∀ a, (putT tm o.dst a).length = tm.length := fun a => by cases o.dst <;> simp [putT]
    have key : ∀ (av : AV), (∀ t j, wfind (putW wr o.dst i) t = some j → look (putT tm o.dst av) t = look (avs ++ [av]) j ∧ j < i + 1) ∧ (∀ t, wfind (putW wr o.dst i) t = none → look (putT tm o.dst av) t = look tm0 t) := by
      intro av
      refine ⟨fun t j hj => ?_, fun t hj => ?_⟩
      · rw [look_put hdo]
        cases hdst : o.dst with
        | none =>
          rw [hdst] at hj
          obtain ⟨k1, k2⟩ := h1 t j hj
          rw [if_neg (by simp), look_app (by omega)]
          exact ⟨k1, by omega⟩
        | some d =>
          rw [hdst] at hj
          simp only [putW, wfind] at hj
          split at hj
          · rename_i e
            have e := Nat.eq_of_beq_eq_true e
            subst e
            cases hj
            rw [if_pos rfl]
            refine ⟨?_, by omega⟩
            unfold look
            rw [← hl]
            simp
          · rename_i e
            obtain ⟨k1, k2⟩ := h1 t j hj
            rw [if_neg (fun e' => by cases e'; rw [Nat.beq_refl] at e; cases e), look_app (by omega)]
            exact ⟨k1, by omega⟩
      · rw [look_put hdo]
        cases hdst : o.dst with
        | none => rw [hdst] at hj; rw [if_neg (by simp)]; exact h2 t hj
        | some d =>
          rw [hdst] at hj
          simp only [putW, wfind] at hj
          split at hj
          · cases hj
          · rename_i e
            rw [if_neg (fun e' => by cases e'; rw [Nat.beq_refl] at e; cases e)]
            exact h2 t hj
    have rds : ∀ (m : List AV) t, .tmp t ∈ reads o.op → (∃ j, (j, t) ∈ (rdsOf wr (reads o.op)).1 ∧ look tm t = look (avs ++ m) j) ∨ (t ∈ (rdsOf wr (reads o.op)).2 ∧ look tm t = look tm0 t) := fun m t ht => by
      rcases rdsOf_spec (wr := wr) ht with ⟨j, k1, k2⟩ | ⟨k1, k2⟩
      · obtain ⟨k3, k4⟩ := h1 t j k1
        exact .inl ⟨j, k2, by rw [look_app (by omega)]; exact k3⟩
      · exact .inr ⟨k2, h2 t k1⟩
    simp only [head] at h
    split at h
    · cases h
    · rename_i hw
      split at h
      · cases h
      · rename_i rs1 tm1 bx1 p1 hs1 hh
        cases h
        cases j with
        | zero =>
          simp at ho hr
          subst ho hr
          exact ⟨tm, bx, hs, rds _, head_bx hh, false, wantA_spec hw, rfl, rfl, rfl⟩
        | succ j =>
          have := head_get hh hp (by rw [hplen]; exact hdl) (by simp [hl]) (key _).1 (key _).2 j o' r (by simpa using ho) (by simpa using hr)
          rwa [List.append_assoc] at this
    · rename_i hw
      split at h
      · cases h
      · rename_i e p1 hs1 he
        split at h
        · cases h
        · rename_i rs1 tm1 bx1 p2 hs2 hh
          cases h
          cases j with
          | zero =>
            simp at ho hr
            subst ho hr
            obtain ⟨m, hm⟩ := head_bx hh
            refine ⟨tm, bx, hs, rds _, ?_, true, wantA_spec hw, e, p1, hs1, he, hp.1, rfl, rfl, rfl, rfl, m, hm⟩
            rw [hm]
            obtain ⟨a | ⟨ty, l'⟩ | ⟨b, l'⟩⟩ := e <;> simp [bxOf]
          | succ j =>
            have := head_get hh hp.2 (by rw [hplen]; exact hdl) (by simp [hl]) (key _).1 (key _).2 j o' r (by simpa using ho) (by simpa using hr)
            rwa [List.append_assoc] at this
theorem head_len {tt : TT} {S : List Spec} : ∀ {l : List Oper} {i : Nat} {tm : List AV} {wr : List (Nat × Nat)} {avs : List AV} {bx : List Bx} {hs : List Bool} {rs : List HR} {tm' : List AV} {bx' : List Bx} {p : Prop} {hs' : List Bool}, head tt S l i tm wr avs bx hs = some (rs, tm', bx', p, hs') → rs.length = l.length
  | [], _, _, _, _, _, _, _, _, _, _, _, h => by simp only [head] at h; cases h; rfl
  | o :: l, i, tm, wr, avs, bx, hs, rs, tm', bx', p, hs', h => by
    simp only [head] at h
    split at h
    · cases h
    · split at h
      · cases h
      · rename_i h1; cases h; simp [head_len h1]
    · split at h
      · cases h
      · split at h
        · cases h
        · rename_i h1; cases h; simp [head_len h1]
theorem head_tmlen {tt : TT} {S : List Spec} : ∀ {l : List Oper} {i : Nat} {tm : List AV} {wr : List (Nat × Nat)} {avs : List AV} {bx : List Bx} {hs : List Bool} {rs : List HR} {tm' : List AV} {bx' : List Bx} {p : Prop} {hs' : List Bool}, head tt S l i tm wr avs bx hs = some (rs, tm', bx', p, hs') → tm'.length = tm.length := by
  intro l
  induction l with
  | nil => intro i tm wr avs bx hs rs tm' bx' p hs' h; simp only [head] at h; cases h; rfl
  | cons o l ih =>
    intro i tm wr avs bx hs rs tm' bx' p hs' h
    have hpl : ∀ a, (putT tm o.dst a).length = tm.length := fun a => by cases o.dst <;> simp [putT]
    simp only [head] at h
    split at h
    · cases h
    · split at h
      · cases h
      · rename_i h1; cases h; rw [ih h1, hpl]
    · split at h
      · cases h
      · split at h
        · cases h
        · rename_i h1; cases h; rw [ih h1, hpl]
/-- What the operations read: told by the code alone. -/
def statTab : List Oper → Nat → List (Nat × Nat) → List Reads
  | [], _, _ => []
  | o :: l, i, wr => rdsOf wr (reads o.op) :: statTab l (i + 1) (putW wr o.dst i)
theorem head_tab {tt : TT} {S : List Spec} : ∀ {l : List Oper} {i : Nat} {tm : List AV} {wr : List (Nat × Nat)} {avs : List AV} {bx : List Bx} {hs : List Bool} {rs : List HR} {tm' : List AV} {bx' : List Bx} {p : Prop} {hs' : List Bool}, head tt S l i tm wr avs bx hs = some (rs, tm', bx', p, hs') → rs.map (·.rd) = statTab l i wr := by
  intro l
  induction l with
  | nil => intro i tm wr avs bx hs rs tm' bx' p hs' h; simp only [head] at h; cases h; rfl
  | cons o l ih =>
    intro i tm wr avs bx hs rs tm' bx' p hs' h
    simp only [head] at h
    split at h
    · cases h
    · split at h
      · cases h
      · rename_i h1; cases h; simp only [List.map_cons, statTab, ih h1]
    · split at h
      · cases h
      · split at h
        · cases h
        · rename_i h1; cases h; simp only [List.map_cons, statTab, ih h1]
/-- The slots, when all is done. -/
theorem head_fin {tt : TT} {S : List Spec} {β : Nat → Option Nat} {u : World} {vs : Nat → Value} : ∀ {l : List Oper} {i : Nat} {tm : List AV} {wr : List (Nat × Nat)} {avs : List AV} {bx : List Bx} {hs : List Bool} {rs : List HR} {tm' : List AV} {bx' : List Bx} {p : Prop} {hs' : List Bool} {a : Act},
    head tt S l i tm wr avs bx hs = some (rs, tm', bx', p, hs') → a.tmps.size = tm.length → (∀ t, (look tm t).Is β u (a.tmps.getD t undef)) → (∀ (j : Nat) (r : HR), rs[j]? = some r → r.av.Is β u (vs (i + j))) →
    (puts vs l i a).tmps.size = tm'.length ∧ ∀ t, (look tm' t).Is β u ((puts vs l i a).tmps.getD t undef)
  | [], _, _, _, _, _, _, _, _, _, _, _, _, h, hs, hv, _ => by simp only [head] at h; cases h; exact ⟨hs, hv⟩
  | o :: l, i, tm, wr, avs, bx, hs, rs, tm', bx', p, hs', a, h, hsz, hv, hr => by
    simp only [head] at h
    split at h
    · cases h
    · split at h
      · cases h
      · rename_i h1
        cases h
        obtain ⟨k1, k2⟩ := put_is (d := o.dst) (v := vs i) hsz hv (hr 0 _ rfl)
        simp only [puts]
        exact head_fin h1 k1 k2 (fun j r hj => by have := hr (j + 1) r (by simpa using hj); rwa [show i + (j + 1) = i + 1 + j from by omega] at this)
    · split at h
      · cases h
      · split at h
        · cases h
        · rename_i h1
          cases h
          obtain ⟨k1, k2⟩ := put_is (d := o.dst) (v := vs i) hsz hv (hr 0 _ rfl)
          simp only [puts]
          exact head_fin h1 k1 k2 (fun j r hj => by have := hr (j + 1) r (by simpa using hj); rwa [show i + (j + 1) = i + 1 + j from by omega] at this)
end Go.Proofs.YtmoicmjljflcgaaGreat.Sym

/- Operations whose order is drawn: whatever the order is, what is known holds. -/
namespace Go.Proofs.YtmoicmjljflcgaaGreat.Sym
open Go Go.RowKit M Kahn
set_option maxRecDepth 100000

def noPt (k : Nat) : List HR → Bool
  | [] => true
  | r :: l => (match r.pt with
    | some (b, _) => !(Nat.beq b k)
    | none => true) && noPt k l
def noNw (k : Nat) : List HR → Bool
  | [] => true
  | r :: l => (match r.nw with
    | some b => !(Nat.beq b k)
    | none => true) && noNw k l
/-- No box is stored to twice, none is laid twice, none is laid that was there. -/
def chk1 (n : Nat) : List HR → Bool
  | [] => true
  | r :: l => (match r.pt with
    | some (b, _) => noPt b l
    | none => true) && (match r.nw with
    | some b => noNw b l && Nat.ble n b
    | none => true) && chk1 n l
/-- None is loaded from that is stored to. -/
def chk2 (all : List HR) : List HR → Bool
  | [] => true
  | r :: l => (match r.ld with
    | some k => noPt k all
    | none => true) && chk2 all l
theorem noPt_spec {k : Nat} : ∀ {rs : List HR}, noPt k rs = true → ∀ (i : Nat) (r : HR) (l : List Lf), rs[i]? = some r → r.pt ≠ some (k, l)
  | [], _, _, _, _, h => by simp at h
  | r :: rs, h, 0, _, l, hr => by
    simp at hr; subst hr
    simp only [noPt, Bool.and_eq_true] at h
    intro e
    rw [e] at h
    simp at h
  | r :: rs, h, i + 1, r', l, hr => by
    simp only [noPt, Bool.and_eq_true] at h
    exact noPt_spec h.2 i r' l (by simpa using hr)
theorem noNw_spec {k : Nat} : ∀ {rs : List HR}, noNw k rs = true → ∀ (i : Nat) (r : HR), rs[i]? = some r → r.nw ≠ some k
  | [], _, _, _, h => by simp at h
  | r :: rs, h, 0, _, hr => by
    simp at hr; subst hr
    simp only [noNw, Bool.and_eq_true] at h
    intro e
    rw [e] at h
    simp at h
  | r :: rs, h, i + 1, r', hr => by
    simp only [noNw, Bool.and_eq_true] at h
    exact noNw_spec h.2 i r' (by simpa using hr)
theorem chk1_pt {n : Nat} : ∀ {rs : List HR}, chk1 n rs = true → ∀ (i j : Nat) (r s : HR) (k : Nat) (l m : List Lf), rs[i]? = some r → rs[j]? = some s → r.pt = some (k, l) → s.pt = some (k, m) → i = j
  | [], _, _, _, _, _, _, _, _, h, _, _, _ => by simp at h
  | x :: rs, h, i, j, r, s, k, l, m, hi, hj, e1, e2 => by
    simp only [chk1, Bool.and_eq_true] at h
    cases i with
    | zero =>
      simp at hi; subst hi
      cases j with
      | zero => rfl
      | succ j =>
        rw [e1] at h
        exact absurd e2 (noPt_spec h.1.1 j s m (by simpa using hj))
    | succ i =>
      cases j with
      | zero =>
        simp at hj; subst hj
        rw [e2] at h
        exact absurd e1 (noPt_spec h.1.1 i r l (by simpa using hi))
      | succ j => rw [chk1_pt h.2 i j r s k l m (by simpa using hi) (by simpa using hj) e1 e2]
theorem chk1_nw {n : Nat} : ∀ {rs : List HR}, chk1 n rs = true → ∀ (i j : Nat) (r s : HR) (k : Nat), rs[i]? = some r → rs[j]? = some s → r.nw = some k → s.nw = some k → i = j
  | [], _, _, _, _, _, _, h, _, _, _ => by simp at h
  | x :: rs, h, i, j, r, s, k, hi, hj, e1, e2 => by
    simp only [chk1, Bool.and_eq_true] at h
    cases i with
    | zero =>
      simp at hi; subst hi
      cases j with
      | zero => rfl
      | succ j =>
        rw [e1] at h
        simp only [Bool.and_eq_true] at h
        exact absurd e2 (noNw_spec h.1.2.1 j s (by simpa using hj))
    | succ i =>
      cases j with
      | zero =>
        simp at hj; subst hj
        rw [e2] at h
        simp only [Bool.and_eq_true] at h
        exact absurd e1 (noNw_spec h.1.2.1 i r (by simpa using hi))
      | succ j => rw [chk1_nw h.2 i j r s k (by simpa using hi) (by simpa using hj) e1 e2]
theorem chk1_ge {n : Nat} : ∀ {rs : List HR}, chk1 n rs = true → ∀ (i : Nat) (r : HR) (k : Nat), rs[i]? = some r → r.nw = some k → n ≤ k
  | [], _, _, _, _, h, _ => by simp at h
  | x :: rs, h, i, r, k, hi, e => by
    simp only [chk1, Bool.and_eq_true] at h
    cases i with
    | zero =>
      simp at hi; subst hi
      rw [e] at h
      simp only [Bool.and_eq_true] at h
      exact Nat.le_of_ble_eq_true h.1.2.2
    | succ i => exact chk1_ge h.2 i r k (by simpa using hi) e
theorem chk2_spec {all : List HR} : ∀ {rs : List HR}, chk2 all rs = true → ∀ (i : Nat) (r : HR) (k : Nat), rs[i]? = some r → r.ld = some k → noPt k all = true
  | [], _, _, _, _, h, _ => by simp at h
  | x :: rs, h, i, r, k, hi, e => by
    simp only [chk2, Bool.and_eq_true] at h
    cases i with
    | zero => simp at hi; subst hi; rw [e] at h; exact h.1
    | succ i => exact chk2_spec h.2 i r k (by simpa using hi) e
/-- What the boxes hold, when all is done. -/
def allPuts : List HR → List Bx → List Bx
  | [], bx => bx
  | r :: l, bx => match r.pt with
    | some (b, m) => match bx[b]? with
      | some x => allPuts l (bx.set b ⟨x.ty, m⟩)
      | none => allPuts l bx
    | none => allPuts l bx
theorem allPuts_len : ∀ (rs : List HR) (bx : List Bx), (allPuts rs bx).length = bx.length
  | [], _ => rfl
  | r :: rs, bx => by
    simp only [allPuts]
    split
    · split
      · rw [allPuts_len rs]; simp
      · exact allPuts_len rs bx
    · exact allPuts_len rs bx
theorem allPuts_spec : ∀ (rs : List HR) (bx : List Bx) (k : Nat) (b' : Bx), (allPuts rs bx)[k]? = some b' → ∃ b, bx[k]? = some b ∧ b'.ty = b.ty ∧
    ((∃ (i : Nat) (r : HR) (l : List Lf), rs[i]? = some r ∧ r.pt = some (k, l) ∧ b'.l = l) ∨ ((∀ (i : Nat) (r : HR) (l : List Lf), rs[i]? = some r → r.pt ≠ some (k, l)) ∧ b'.l = b.l))
  | [], bx, k, b', h => ⟨b', h, rfl, .inr ⟨fun i r l hr => by simp at hr, rfl⟩⟩
  | r :: rs, bx, k, b', h => by
    have shift : ∀ (bx' : List Bx), (∃ b, bx'[k]? = some b ∧ b'.ty = b.ty ∧ ((∃ (i : Nat) (r : HR) (l : List Lf), rs[i]? = some r ∧ r.pt = some (k, l) ∧ b'.l = l) ∨ ((∀ (i : Nat) (r : HR) (l : List Lf), rs[i]? = some r → r.pt ≠ some (k, l)) ∧ b'.l = b.l))) →
        (∀ b, bx'[k]? = some b → ∃ b0, bx[k]? = some b0 ∧ b.ty = b0.ty ∧ ((∃ l, r.pt = some (k, l) ∧ b.l = l) ∨ ((∀ l, r.pt ≠ some (k, l)) ∧ b.l = b0.l))) →
        ∃ b, bx[k]? = some b ∧ b'.ty = b.ty ∧ ((∃ (i : Nat) (r' : HR) (l : List Lf), (r :: rs)[i]? = some r' ∧ r'.pt = some (k, l) ∧ b'.l = l) ∨ ((∀ (i : Nat) (r' : HR) (l : List Lf), (r :: rs)[i]? = some r' → r'.pt ≠ some (k, l)) ∧ b'.l = b.l)) := by
      rintro bx' ⟨b, h1, h2, h3⟩ hb
      obtain ⟨b0, k1, k2, k3⟩ := hb b h1
      refine ⟨b0, k1, h2.trans k2, ?_⟩
      rcases h3 with ⟨i, r', l, e1, e2, e3⟩ | ⟨e1, e2⟩
      · exact .inl ⟨i + 1, r', l, by simpa using e1, e2, e3⟩
      · rcases k3 with ⟨l, f1, f2⟩ | ⟨f1, f2⟩
        · exact .inl ⟨0, r, l, rfl, f1, e2.trans f2⟩
        · refine .inr ⟨fun i r' l hr => ?_, e2.trans f2⟩
          cases i with
          | zero => simp at hr; subst hr; exact f1 l
          | succ i => exact e1 i r' l (by simpa using hr)
    simp only [allPuts] at h
    split at h
    · rename_i b m hpt
      split at h
      · rename_i x hx
        refine shift _ (allPuts_spec rs _ k b' h) fun b1 hb1 => ?_
        have hbl := (List.getElem?_eq_some_iff.1 hx).1
        by_cases e : b = k
        · subst e
          rw [List.getElem?_set_self hbl] at hb1
          cases hb1
          exact ⟨x, hx, rfl, .inl ⟨m, hpt, rfl⟩⟩
        · rw [List.getElem?_set_ne e] at hb1
          exact ⟨b1, hb1, rfl, .inr ⟨fun l hl => by rw [hpt] at hl; cases hl; exact e rfl, rfl⟩⟩
      · rename_i hx
        refine shift _ (allPuts_spec rs _ k b' h) fun b1 hb1 => ⟨b1, hb1, rfl, .inr ⟨fun l hl => ?_, rfl⟩⟩
        rw [hpt] at hl; cases hl
        rw [hx] at hb1; cases hb1
    · rename_i hpt
      exact shift _ (allPuts_spec rs _ k b' h) fun b1 hb1 => ⟨b1, hb1, rfl, .inr ⟨fun l hl => (by rw [hpt] at hl; cases hl), rfl⟩⟩

theorem ev_new {tt : TT} {S : List Spec} {rd : Operand → AV} {bx : List Bx} {hs hs' : List Bool} {op : Op} {ty : TypeId} {l : List Lf} {p : Prop} (h : ev tt S rd bx hs op = some (⟨.inr (.inl (ty, l))⟩, p, hs')) : touch rd op = none := by
  cases op <;> try rfl
  · exfalso
    simp only [ev] at h
    repeat' split at h
    all_goals cases h
  · exfalso
    simp only [ev] at h
    repeat' split at h
    all_goals cases h
theorem ev_put {tt : TT} {S : List Spec} {rd : Operand → AV} {bx : List Bx} {hs hs' : List Bool} {op : Op} {b : Nat} {l : List Lf} {p : Prop} (h : ev tt S rd bx hs op = some (⟨.inr (.inr (b, l))⟩, p, hs')) : touch rd op = some b := by
  cases op with
  | store t a x =>
    simp only [ev] at h
    split at h
    · rename_i e2 e3
      split at h
      · split at h
        · cases h; simp [touch, e2]
        · cases h
      · cases h
    · rename_i e2 e3
      split at h
      · split at h
        · cases h; simp [touch, e2]
        · cases h
      · cases h
    · cases h
  | _ =>
    exfalso
    unfold ev at h
    repeat' split at h
    all_goals first
      | contradiction
      | (cases h; first | done | contradiction)
end Go.Proofs.YtmoicmjljflcgaaGreat.Sym

/- A region whose order is drawn. -/
namespace Go.Proofs.YtmoicmjljflcgaaGreat.Sym
open Go Go.RowKit M Kahn
set_option maxRecDepth 100000

/-- What holds while the region runs: L tells which operations are done. -/
structure JB (w0 : World) (tm0 : List AV) (a0 : Act) (rs : List HR) (bx : List Bx) (β : Nat → Option Nat) (L : Nat → Bool) (vs : Nat → Value) (u : World) : Prop where
  bel : Below w0.heap.size w0 u
  low : ∀ k g, β k = some g → w0.heap.size ≤ g
  inj : ∀ j k g, β j = some g → β k = some g → j = k
  dom : ∀ k g, β k = some g → k < bx.length
  cont : ∀ k b g, bx[k]? = some b → β k = some g → ∃ xs, Bk u g b.ty xs ∧
    ((∃ (i : Nat) (r : HR) (l : List Lf), rs[i]? = some r ∧ r.pt = some (k, l) ∧ L i = true ∧ Cells u l xs) ∨ ((∀ (i : Nat) (r : HR) (l : List Lf), rs[i]? = some r → r.pt = some (k, l) → L i = false) ∧ Cells u b.l xs))
  fresh : ∀ (i : Nat) (r : HR) (k : Nat), rs[i]? = some r → r.nw = some k → L i = false → β k = none
  done : ∀ (i : Nat) (r : HR) (k : Nat) (l : List Lf), rs[i]? = some r → r.pt = some (k, l) → L i = true → ∃ g, β k = some g
  vals : ∀ (i : Nat) (r : HR), rs[i]? = some r → L i = true → r.av.Is β u (vs i)
  orig : ∀ t, (look tm0 t).Is β u (a0.tmps.getD t undef)
section
variable {w0 : World} {tm0 : List AV} {a0 : Act} {rs : List HR} {bx : List Bx} {β : Nat → Option Nat} {L : Nat → Bool} {vs : Nat → Value} {u u' : World} {i : Nat} {r : HR} {v : Value}
theorem upd_true {L : Nat → Bool} {i j : Nat} (h : L j = true) : Upd L i true j = true := by unfold Upd; split <;> first | rfl | exact h
theorem upd_false {L : Nat → Bool} {i j : Nat} (h : Upd L i true j = false) : j ≠ i ∧ L j = false := by
  unfold Upd at h
  split at h
  · cases h
  · exact ⟨by assumption, h⟩
theorem JB.plain (J : JB w0 tm0 a0 rs bx β L vs u) {k g : Nat} {b : Bx} (hb : bx[k]? = some b) (hk : β k = some g) : ∃ xs, Bk u g b.ty xs ∧ ∀ v ∈ xs, Sym.plain v = true := by
  obtain ⟨xs, h1, h2⟩ := J.cont k b g hb hk
  rcases h2 with ⟨_, _, _, _, _, _, h⟩ | ⟨_, h⟩
  · exact ⟨xs, h1, h.plain⟩
  · exact ⟨xs, h1, h.plain⟩
theorem JB.there (J : JB w0 tm0 a0 rs bx β L vs u) {k g : Nat} (hk : β k = some g) : g < u.heap.size := by
  obtain ⟨xs, h1, _⟩ := J.plain (List.getElem?_eq_getElem (J.dom k g hk)) hk
  exact h1.lt
theorem vals_step {β' : Nat → Option Nat} (J : JB w0 tm0 a0 rs bx β L vs u) (t : Tr β u β' u') (hr : rs[i]? = some r) (hv : r.av.Is β' u' v) : ∀ (j : Nat) (s : HR), rs[j]? = some s → Upd L i true j = true → s.av.Is β' u' (Upd vs i v j) := fun j s hs hj => by
  by_cases e : j = i
  · subst e
    rw [hr] at hs; cases hs
    rw [Upd.same]; exact hv
  · rw [Upd.ne e] at hj ⊢
    exact (J.vals j s hs hj).tr t
/-- It yields a value. -/
theorem JB.ret (J : JB w0 tm0 a0 rs bx β L vs u) (hr : rs[i]? = some r) (hp : r.pt = none) (hb : Below u.heap.size u u') (hv : r.av.Is β u' v) : JB w0 tm0 a0 rs bx β (Upd L i true) (Upd vs i v) u' := by
  have t : Tr β u β u' := Tr.later hb
  refine ⟨J.bel.trans (hb.mono J.bel.size), J.low, J.inj, J.dom, fun k b g h1 h2 => ?_, fun j s k h1 h2 h3 => J.fresh j s k h1 h2 (upd_false h3).2, fun j s k l h1 h2 h3 => ?_, vals_step J t hr hv, fun t' => (J.orig t').tr t⟩
  · obtain ⟨xs, h3, h4⟩ := J.cont k b g h1 h2
    refine ⟨xs, h3.later hb, ?_⟩
    rcases h4 with ⟨j, s, l, k1, k2, k3, k4⟩ | ⟨k1, k2⟩
    · exact .inl ⟨j, s, l, k1, k2, upd_true k3, k4.later hb⟩
    · refine .inr ⟨fun j s l e1 e2 => ?_, k2.later hb⟩
      rw [Upd.ne (fun e => by subst e; rw [hr] at e1; cases e1; rw [hp] at e2; cases e2)]
      exact k1 j s l e1 e2
  · by_cases e : j = i
    · subst e; rw [hr] at h1; cases h1; rw [hp] at h2; cases h2
    · rw [Upd.ne e] at h3; exact J.done j s k l h1 h2 h3
/-- It lays a box. -/
theorem JB.new (J : JB w0 tm0 a0 rs bx β L vs u) {k : Nat} {b : Bx} {xs : List Value} (hr : rs[i]? = some r) (hi : L i = false) (hn : r.nw = some k) (hp : r.pt = none) (hav : r.av = ⟨.inl (⟨some (.inr (.inr (.inl (k, 0))))⟩)⟩) (hb : bx[k]? = some b) (hc : Cells u b.l xs)
    (h1 : ∀ (j : Nat) (s : HR), rs[j]? = some s → s.nw = some k → j = i) : JB w0 tm0 a0 rs bx (bset β k u.heap.size) (Upd L i true) (Upd vs i (.pointer (some ⟨u.heap.size, 0, none⟩))) (u.alloc (.cells xs.toArray b.ty)) := by
  have hk := J.fresh i r k hr hn hi
  have lb := below_alloc u (.cells xs.toArray b.ty)
  have t := Tr.alloc (u := u) hk (.cells xs.toArray b.ty)
  refine ⟨J.bel.trans (lb.mono J.bel.size), fun j g hj => ?_, fun i' j g hi' hj => ?_, fun j g hj => ?_, fun j b' g hb' hj => ?_, fun j s k' e1 e2 e3 => ?_, fun j s k' l e1 e2 e3 => ?_, vals_step J t hr (by rw [hav]; exact ⟨u.heap.size, bset_same _ _ _, rfl⟩), fun t' => (J.orig t').tr t⟩
  · by_cases e : j = k
    · subst e; rw [bset_same] at hj; cases hj; exact J.bel.size
    · rw [bset_ne e] at hj; exact J.low j g hj
  · by_cases e1 : i' = k <;> by_cases e2 : j = k
    · rw [e1, e2]
    · subst e1; rw [bset_same] at hi'; rw [bset_ne e2] at hj; cases hi'; exact absurd (J.there hj) (Nat.lt_irrefl _)
    · subst e2; rw [bset_same] at hj; rw [bset_ne e1] at hi'; cases hj; exact absurd (J.there hi') (Nat.lt_irrefl _)
    · rw [bset_ne e1] at hi'; rw [bset_ne e2] at hj; exact J.inj i' j g hi' hj
  · by_cases e : j = k
    · subst e; exact (List.getElem?_eq_some_iff.1 hb).1
    · rw [bset_ne e] at hj; exact J.dom j g hj
  · by_cases e : j = k
    · subst e; rw [bset_same] at hj; cases hj; rw [hb] at hb'; cases hb'
      refine ⟨xs, Bk.alloc u b.ty xs, .inr ⟨fun j' s l e1 e2 => ?_, hc.later lb⟩⟩
      rw [Upd.ne (fun e => by subst e; rw [hr] at e1; cases e1; rw [hp] at e2; cases e2)]
      cases hL : L j' with
      | false => rfl
      | true =>
        obtain ⟨g, hg⟩ := J.done j' s j l e1 e2 hL
        rw [hk] at hg; cases hg
    · rw [bset_ne e] at hj
      obtain ⟨ws, h3, h4⟩ := J.cont j b' g hb' hj
      refine ⟨ws, h3.later lb, ?_⟩
      rcases h4 with ⟨j', s, l, k1, k2, k3, k4⟩ | ⟨k1, k2⟩
      · exact .inl ⟨j', s, l, k1, k2, upd_true k3, k4.later lb⟩
      · refine .inr ⟨fun j' s l e1 e2 => ?_, k2.later lb⟩
        rw [Upd.ne (fun e => by subst e; rw [hr] at e1; cases e1; rw [hp] at e2; cases e2)]
        exact k1 j' s l e1 e2
  · obtain ⟨f1, f2⟩ := upd_false e3
    rw [bset_ne (fun e => by subst e; exact f1 (h1 j s e1 e2))]
    exact J.fresh j s k' e1 e2 f2
  · by_cases e : j = i
    · subst e; rw [hr] at e1; cases e1; rw [hp] at e2; cases e2
    · rw [Upd.ne e] at e3
      obtain ⟨g, hg⟩ := J.done j s k' l e1 e2 e3
      exact ⟨g, t.box _ _ hg⟩
/-- It stores to a box. -/
theorem JB.put (J : JB w0 tm0 a0 rs bx β L vs u) {k g : Nat} {b : Bx} {l : List Lf} {ws : List Value} (hr : rs[i]? = some r) (hp : r.pt = some (k, l)) (hav : r.av = ⟨.inl ⟨none⟩⟩) (hb : bx[k]? = some b) (hk : β k = some g)
    (hf : Fr g u u') (hw : Bk u' g b.ty ws) (hc : Cells u l ws) : JB w0 tm0 a0 rs bx β (Upd L i true) (Upd vs i v) u' := by
  obtain ⟨xs, hx, hpl⟩ := J.plain hb hk
  have t : Tr β u β u' := ⟨fun _ _ h => h, fun b' hb' => ⟨⟨by rw [hf.size]; exact hb'.1, hb'.2⟩, hf.block b' (fun e => hb'.2 k (by rw [e]; exact hk))⟩, fun _ _ h => h.store hx hpl hf⟩
  refine ⟨J.bel.trans (hf.below (J.low k g hk)), J.low, J.inj, J.dom, fun j b' g' hb' hj => ?_, fun j s k' e1 e2 e3 => J.fresh j s k' e1 e2 (upd_false e3).2, fun j s k' l' e1 e2 e3 => ?_, vals_step J t hr (by rw [hav]; trivial), fun t' => (J.orig t').tr t⟩
  · by_cases e : j = k
    · subst e
      rw [hk] at hj; cases hj
      rw [hb] at hb'; cases hb'
      exact ⟨ws, hw, .inl ⟨i, r, l, hr, hp, by rw [Upd.same], t.cells _ _ hc⟩⟩
    · obtain ⟨ys, h3, h4⟩ := J.cont j b' g' hb' hj
      refine ⟨ys, h3.keep (hf.block g' (fun e' => e (J.inj j k g' hj (by rw [e']; exact hk)))), ?_⟩
      rcases h4 with ⟨j', s, l', k1, k2, k3, k4⟩ | ⟨k1, k2⟩
      · exact .inl ⟨j', s, l', k1, k2, upd_true k3, t.cells _ _ k4⟩
      · refine .inr ⟨fun j' s l' e1 e2 => ?_, t.cells _ _ k2⟩
        rw [Upd.ne (fun e' => by subst e'; rw [hr] at e1; cases e1; rw [hp] at e2; cases e2; exact e rfl)]
        exact k1 j' s l' e1 e2
  · by_cases e : j = i
    · subst e; rw [hr] at e1; cases e1; rw [hp] at e2; cases e2; exact ⟨g, hk⟩
    · rw [Upd.ne e] at e3; exact J.done j s k' l' e1 e2 e3
/-- The region begins. -/
theorem JB.start {st : St} {a : Act} {m : List Bx} (R : Rel w0 st β a u) (hn : ∀ (i : Nat) (r : HR) (k : Nat), rs[i]? = some r → r.nw = some k → st.bx.length ≤ k) : JB w0 st.tm a rs (st.bx ++ m) β (fun _ => false) vs { u with drawn := u.drawn + 1 } := by
  have hb : Below u.heap.size u { u with drawn := u.drawn + 1 } := ⟨rfl, rfl, rfl, Nat.le_refl _, fun _ _ => rfl⟩
  have W := (R.ws.later hb).more m
  refine ⟨W.bel, W.low, W.inj, W.dom, fun k b g h1 h2 => ?_, fun i r k h1 h2 _ => ?_, fun _ _ _ _ _ _ h => (by cases h), fun _ _ _ h => (by cases h), fun t => (R.vals t).tr (Tr.later hb)⟩
  · obtain ⟨xs, h3, h4⟩ := W.cont k b g h1 h2
    exact ⟨xs, h3, .inr ⟨fun _ _ _ _ _ => rfl, h4⟩⟩
  · cases hb' : β k with
    | none => rfl
    | some g => exact absurd (R.ws.dom k g hb') (by have := hn i r k h1 h2; omega)
/-- All is done. -/
theorem JB.fin (J : JB w0 tm0 a0 rs bx β L vs u) (hL : ∀ k, k < rs.length → L k = true) (h1 : ∀ (i j : Nat) (r s : HR) (k : Nat) (l m : List Lf), rs[i]? = some r → rs[j]? = some s → r.pt = some (k, l) → s.pt = some (k, m) → i = j) : WS w0 (allPuts rs bx) β u := by
  refine ⟨J.bel, J.low, J.inj, fun k g hk => by rw [allPuts_len]; exact J.dom k g hk, fun k b' g hb hk => ?_⟩
  obtain ⟨b, e1, e2, e3⟩ := allPuts_spec rs bx k b' hb
  obtain ⟨xs, h3, h4⟩ := J.cont k b g e1 hk
  refine ⟨xs, by rw [e2]; exact h3, ?_⟩
  rcases h4 with ⟨i, r, l, k1, k2, k3, k4⟩ | ⟨k1, k2⟩
  · rcases e3 with ⟨j, s, m, f1, f2, f3⟩ | ⟨f1, _⟩
    · have e := h1 i j r s k l m k1 f1 k2 f2
      subst e
      rw [k1] at f1; cases f1
      rw [k2] at f2; cases f2
      rw [f3]; exact k4
    · exact absurd k2 (f1 i r l k1)
  · rcases e3 with ⟨j, s, m, f1, f2, f3⟩ | ⟨_, f2⟩
    · have := k1 j s m f1 f2
      rw [hL j (List.getElem?_eq_some_iff.1 f1).1] at this
      cases this
    · rw [f2]; exact k2
theorem goes_mono {P : Program} {o : Oper} {ρ : Operand → Value} {R R' : Value → World → Prop} (h : Goes P o ρ u R) (hR : ∀ v u', R v u' → R' v u') : Goes P o ρ u R' := by
  unfold Goes at *
  generalize (execOp ρ o).run P u = x at *
  cases x with
  | ok m u' =>
    cases m <;> simp only at h ⊢
    case value v => exact hR _ _ h
    case skip => exact hR _ _ h
    case enter f args => exact Calls.mono h fun e w ⟨v, h1, h2⟩ => ⟨v, h1, hR _ _ h2⟩
  | halt x u' => exact h
theorem JB.look (J : JB w0 tm0 a0 rs bx β L vs u) {j : Nat} (hj : L j = true) : (Sym.look ([] ++ rs.map (·.av)) j).Is β u (vs j) := by
  unfold Sym.look
  rw [List.nil_append, List.getElem?_map]
  cases hs : rs[j]? with
  | none => trivial
  | some s => exact J.vals j s hs hj
end
/-- **A region whose order is drawn.** -/
theorem region_sound {P : Program} {tt : TT} {S : List Spec} (hT : TTok P tt) (hS : ∀ s ∈ S, SpecOk P s) {w0 : World} {Q : Exit → Act → World → Prop} {id : Nat} {ops : List Oper} {n : Nat} (hm : P.follows .mixedOrders = true) {st : St} {hs hs' : List Bool} {rs : List HR} {tmF : List AV} {bxF : List Bx} {p : Prop} {β : Nat → Option Nat} {a : Act} {u : World}
    (hh : head tt S (ops.take n) 0 st.tm [] [] st.bx hs = some (rs, tmF, bxF, p, hs')) (hp : p) (hn : n ≤ ops.length) (hd : dstOk st.tm.length ops = true) (hc1 : chk1 st.bx.length rs = true) (hc2 : chk2 rs rs = true) (hB : regionG ops.toArray n st.tm.length (rs.map (·.rd)) = true) (R : Rel w0 st β a u)
    (hq : ∀ β' a' u', Rel w0 ⟨tmF, allPuts rs bxF⟩ β' a' u' → wpList P ops.toArray Q (ops.drop n) a' u') : (Code.region id ops.toArray true).wp P Q a u := by
  obtain ⟨m, hm'⟩ := head_bx hh
  have hlen := head_len hh
  rw [List.length_take, Nat.min_eq_left hn] at hlen
  have hdt : dstOk st.tm.length (ops.take n) = true := by
    unfold dstOk at hd ⊢
    exact List.all_eq_true.2 fun o ho => List.all_eq_true.1 hd o (List.mem_of_mem_take ho)
  refine wp_region_gd n st.tm.length (rs.map (·.rd)) (fun L vs u => ∃ β, JB w0 st.tm a rs bxF β L vs u) hm R.size hB (fun vs => ⟨β, by rw [hm']; exact JB.start R (chk1_ge hc1)⟩) ?_ ?_
  · intro i o rd hi ho hr L vs ρ u1 ⟨β1, J⟩ hLi hc hf hdp horig
    rw [List.getElem?_map] at hr
    cases hrs : rs[i]? with
    | none => rw [hrs] at hr; cases hr
    | some r =>
      rw [hrs] at hr
      simp only [Option.map_some, Option.some.injEq] at hr
      subst hr
      obtain ⟨tm, bx, hs1, e1, ⟨mm, e2⟩, c, e3, e4⟩ := (head_get hh hp hdt rfl (fun t j h => by cases h) (fun t _ => rfl) i o r (by rw [List.getElem?_take_of_lt hi]; exact ho) hrs).ex
      have hreads : ∀ x ∈ reads o.op, (rdO (look tm) x).Is β1 u1 (ρ x) := fun x hx => by
        cases x with
        | tmp t =>
          show (look tm t).Is β1 u1 (ρ (.tmp t))
          rcases e1 t hx with ⟨j, h1, h2⟩ | ⟨h1, h2⟩
          · obtain ⟨k1, k2⟩ := hdp _ h1
            rw [h2, k2]; exact J.look k1
          · rw [h2, horig t h1]; exact J.orig t
        | const v => exact hc v
        | global _ => trivial
        | func _ => trivial
      have run : c = true → Goes P o ρ u1 fun v u' => ∃ β', JB w0 st.tm a rs bxF β' (Upd L i true) (Upd vs i v) u' := by
        intro hct
        subst hct
        obtain ⟨e, p1, hs2, f1, f2, f3, f4, f5, f6, mm2, f7⟩ := e4
        have hpre : ∀ k x, bx[k]? = some x → bxF[k]? = some x := fun k x hx => by
          rw [e2, List.getElem?_append_left (List.getElem?_eq_some_iff.1 hx).1]; exact hx
        refine goes_mono (ev_sound hT hS f1 f2 (fun k g hk => J.there hk) hf hreads (fun k x g ht hx hk => ?_)) fun v u' he => ?_
        · obtain ⟨xs, h1, h2⟩ := J.cont k x g (hpre k x hx) hk
          refine ⟨xs, h1, ?_⟩
          rcases h2 with ⟨j, s, l, k1, k2, k3, k4⟩ | ⟨_, k2⟩
          · exfalso
            obtain ⟨av | ⟨ty, l'⟩ | ⟨b, l'⟩⟩ := e
            · have hld : r.ld = some k := by rw [f6]; exact ht
              exact noPt_spec (chk2_spec hc2 i r k hrs hld) j s l k1 k2
            · rw [ev_new f1] at ht; cases ht
            · rw [ev_put f1] at ht
              have ht : b = k := Option.some.inj ht
              subst ht
              have := chk1_pt hc1 j i s r b l l' k1 hrs k2 f5
              subst this
              rw [hLi] at k3; cases k3
          · exact k2
        · obtain ⟨av | ⟨ty, l⟩ | ⟨b, l⟩⟩ := e
          · exact ⟨β1, J.ret hrs f5 he.1 (by rw [f3]; exact he.2)⟩
          · obtain ⟨xs, rfl, rfl, h3⟩ := he
            refine ⟨_, J.new (b := ⟨ty, l⟩) hrs hLi f4 f5 f3 (by rw [f7]; simp [bxOf]) h3 fun j s h1 h2 => chk1_nw hc1 j i s r _ h1 hrs h2 f4⟩
          · obtain ⟨g, x, ws, h1, h2, h3, h4, h5⟩ := he
            exact ⟨β1, J.put hrs f5 f3 (hpre b x h2) h1 h3 h4 h5⟩
      cases hg : o.guard with
      | none =>
        rw [hg] at e3
        exact run e3
      | some gb =>
        obtain ⟨g, b⟩ := gb
        rw [hg] at e3
        intro hLg
        have hw := want_spec e3 (J.look hLg)
        refine ⟨fun h => run (hw.2 h), fun h => ?_⟩
        cases c with
        | true => exact absurd (hw.1 rfl) h
        | false => exact ⟨β1, J.ret hrs e4.2.2 (Below.refl _ _) (by rw [e4.1]; rfl)⟩
  · intro L vs u1 hL ⟨β1, J⟩
    obtain ⟨k1, k2⟩ := head_fin (vs := vs) hh R.size J.orig (fun j r hj => by rw [Nat.zero_add]; exact J.vals j r hj (hL j (by rw [← hlen]; exact (List.getElem?_eq_some_iff.1 hj).1)))
    exact hq β1 _ u1 ⟨J.fin (fun k hk => hL k (by omega)) (chk1_pt hc1), k1, k2, by rw [puts_defers]; exact R.defers⟩
end Go.Proofs.YtmoicmjljflcgaaGreat.Sym

/- Whole functions. -/
namespace Go.Proofs.YtmoicmjljflcgaaGreat.Sym
open Go Go.RowKit M Kahn
set_option maxRecDepth 100000

/-- What is asked of the code alone: in each region slots are in bounds, and the last operation waits for all others where the order is drawn. -/
def regOk (N : Nat) : Code → Bool
  | .region _ ops draw => dstOk N ops.toList && (!draw || regionG ops (ops.size - 1) N (statTab (ops.toList.take (ops.size - 1)) 0 []))
  | .seq a b => regOk N a && regOk N b
  | .cond _ a b => regOk N a && regOk N b
  | .block _ c => regOk N c
  | .loop c => regOk N c
  | _ => true
/-- A region. -/
def exR (tt : TT) (S : List Spec) (ops : List Oper) (draw : Bool) (st : St) (hs : List Bool) : Option (St × Prop × List Bool) := match draw with
  | false => run tt S ops ops st hs
  | true => match head tt S (ops.take (ops.length - 1)) 0 st.tm [] [] st.bx hs with
    | none => none
    | some (rs, tm, bx, p, hs') => match chk1 st.bx.length rs && chk2 rs rs with
      | false => none
      | true => match run tt S ops (ops.drop (ops.length - 1)) ⟨tm, allPuts rs bx⟩ hs' with
        | none => none
        | some (st', p', hs'') => some (st', p ∧ p', hs'')
def exC (tt : TT) (S : List Spec) : Nat → Code → St → List Bool → Option (Exit × St × Prop × List Bool)
  | 0, _, _, _ => none
  | f + 1, c, st, hs => match c with
    | .skip => some (.normal, st, True, hs)
    | .label _ => some (.normal, st, True, hs)
    | .region _ ops draw => match exR tt S ops.toList draw st hs with
      | some (st', p, hs') => some (.normal, st', p, hs')
      | none => none
    | .seq x y => match exC tt S f x st hs with
      | some (.normal, st1, p1, hs1) => match exC tt S f y st1 hs1 with
        | some (e, st2, p2, hs2) => some (e, st2, p1 ∧ p2, hs2)
        | none => none
      | r => r
    | .cond c x y => match rdO (look st.tm) c with
      | ⟨.inl (⟨some (.inl (.bool true))⟩)⟩ => exC tt S f x st hs
      | ⟨.inl (⟨some (.inl (.bool false))⟩)⟩ => exC tt S f y st hs
      | _ => none
    | .block id c => match exC tt S f c st hs with
      | some (.exit id', st', p, hs') => match Nat.beq id' id with
        | true => some (.normal, st', p, hs')
        | false => some (.exit id', st', p, hs')
      | r => r
    | .loop c => match exC tt S f c st hs with
      | some (.normal, st1, p1, hs1) => match exC tt S f (.loop c) st1 hs1 with
        | some (e, st2, p2, hs2) => some (e, st2, p1 ∧ p2, hs2)
        | none => none
      | r => r
    | .exit id => some (.exit id, st, True, hs)
    | .ret => some (.ret, st, True, hs)
    | _ => none
section
variable {P : Program} {tt : TT} {S : List Spec} {w0 : World}
theorem run_len : ∀ {l ops : List Oper} {st st' : St} {hs hs' : List Bool} {p : Prop}, run tt S ops l st hs = some (st', p, hs') → st'.tm.length = st.tm.length
  | [], _, _, _, _, _, _, h => by simp only [run] at h; cases h; rfl
  | o :: l, ops, st, st', hs, hs', p, h => by
    simp only [run] at h
    split at h
    · rename_i h1
      split at h
      · rename_i h2; cases h; rw [run_len h2, step_len h1]
      · cases h
    · cases h
theorem exR_len {ops : List Oper} {draw : Bool} {st st' : St} {hs hs' : List Bool} {p : Prop} (h : exR tt S ops draw st hs = some (st', p, hs')) : st'.tm.length = st.tm.length := by
  unfold exR at h
  split at h
  · exact run_len h
  · split at h
    · cases h
    · rename_i hh
      split at h
      · cases h
      · split at h
        · cases h
        · rename_i hr; cases h; rw [run_len hr]; exact head_tmlen hh
theorem exR_sound (hT : TTok P tt) (hS : ∀ s ∈ S, SpecOk P s) (hm : P.follows .mixedOrders = true) {Q : Exit → Act → World → Prop} {id : Nat} {ops : Array Oper} {draw : Bool} {st st' : St} {hs hs' : List Bool} {p : Prop} {β : Nat → Option Nat} {a : Act} {u : World}
    (hc : regOk st.tm.length (.region id ops draw) = true) (h : exR tt S ops.toList draw st hs = some (st', p, hs')) (hp : p) (R : Rel w0 st β a u) (hq : ∀ β' a' u', Rel w0 st' β' a' u' → Q .normal a' u') : (Code.region id ops draw).wp P Q a u := by
  obtain ⟨ops⟩ := ops
  simp only [regOk, Bool.and_eq_true] at hc
  obtain ⟨hd, hc⟩ := hc
  unfold exR at h
  split at h
  · exact wp_region_lit (run_sound hT hS ops hd h hp R hq)
  · split at h
    · cases h
    · rename_i rs tm bx p1 hs1 hh
      split at h
      · cases h
      · rename_i hk
        rw [Bool.and_eq_true] at hk
        split at h
        · cases h
        · rename_i st2 p2 hs2 hr
          cases h
          simp only [Bool.not_true, Bool.false_or, List.size_toArray] at hc
          rw [← head_tab hh] at hc
          exact region_sound hT hS hm hh hp.1 (Nat.sub_le _ _) hd hk.1 hk.2 hc R fun β' a' u' R' => run_sound hT hS _ (by rw [show (⟨tm, allPuts rs bx⟩ : St).tm.length = st.tm.length from head_tmlen hh]; exact hd) hr hp.2 R' hq
theorem exC_len : ∀ {f : Nat} {c : Code} {st st' : St} {e : Exit} {hs hs' : List Bool} {p : Prop}, exC tt S f c st hs = some (e, st', p, hs') → st'.tm.length = st.tm.length
  | 0, _, _, _, _, _, _, _, h => by cases h
  | f + 1, c, st, st', e, hs, hs', p, h => by
    cases c with
    | skip => simp only [exC] at h; cases h; rfl
    | label l => simp only [exC] at h; cases h; rfl
    | exit id => simp only [exC] at h; cases h; rfl
    | ret => simp only [exC] at h; cases h; rfl
    | region id ops draw =>
      simp only [exC] at h
      split at h
      · rename_i h1; cases h; exact exR_len h1
      · cases h
    | seq x y =>
      simp only [exC] at h
      split at h
      · rename_i h1
        split at h
        · rename_i h2; cases h; rw [exC_len h2, exC_len h1]
        · cases h
      · exact exC_len h
    | cond c x y =>
      simp only [exC] at h
      split at h
      · exact exC_len h
      · exact exC_len h
      · cases h
    | block id c =>
      simp only [exC] at h
      split at h
      · rename_i h1
        split at h <;> cases h <;> exact exC_len h1
      · exact exC_len h
    | loop c =>
      simp only [exC] at h
      split at h
      · rename_i h1
        split at h
        · rename_i h2; cases h; rw [exC_len h2, exC_len h1]
        · cases h
      · exact exC_len h
    | rangeFunc _ _ _ _ => simp only [exC] at h; cases h
    | scope _ => simp only [exC] at h; cases h
    | goto _ => simp only [exC] at h; cases h
    | refuse _ => simp only [exC] at h; cases h
theorem exC_sound (hT : TTok P tt) (hS : ∀ s ∈ S, SpecOk P s) (hm : P.follows .mixedOrders = true) : ∀ (f : Nat),
    (∀ {Q : Exit → Act → World → Prop} {c : Code} {st st' : St} {e : Exit} {hs hs' : List Bool} {p : Prop} {β : Nat → Option Nat} {a : Act} {u : World}, regOk st.tm.length c = true → exC tt S f c st hs = some (e, st', p, hs') → p → Rel w0 st β a u → (∀ β' a' u', Rel w0 st' β' a' u' → Q e a' u') → c.wp P Q a u) ∧
    (∀ {Q : Exit → Act → World → Prop} {c : Code} {st st' : St} {e : Exit} {hs hs' : List Bool} {p : Prop} {β : Nat → Option Nat} {a : Act} {u : World}, regOk st.tm.length c = true → exC tt S f (.loop c) st hs = some (e, st', p, hs') → p → Rel w0 st β a u → (∀ β' a' u', Rel w0 st' β' a' u' → Q e a' u') → Code.rounds P c Q f a u)
  | 0 => ⟨fun _ h => (by cases h), fun _ h => (by cases h)⟩
  | f + 1 => by
    obtain ⟨ih1, ih2⟩ := exC_sound hT hS hm f
    have loop : ∀ {Q : Exit → Act → World → Prop} {c : Code} {st st' : St} {e : Exit} {hs hs' : List Bool} {p : Prop} {β : Nat → Option Nat} {a : Act} {u : World}, regOk st.tm.length c = true → exC tt S (f + 1) (.loop c) st hs = some (e, st', p, hs') → p → Rel w0 st β a u → (∀ β' a' u', Rel w0 st' β' a' u' → Q e a' u') → Code.rounds P c Q (f + 1) a u := by
      intro Q c st st' e hs hs' p β a u hc h hp R hq
      rw [rounds_succ]
      simp only [exC] at h
      split at h
      · rename_i st1 p1 hs1 h1
        split at h
        · rename_i e2 st2 p2 hs2 h2
          cases h
          exact ih1 hc h1 hp.1 R fun β' a' u' R' => ih2 (by rw [exC_len h1]; exact hc) h2 hp.2 R' hq
        · cases h
      · rename_i hne
        refine ih1 hc h hp R fun β' a' u' R' => ?_
        have := hq β' a' u' R'
        cases e with
        | normal => exact absurd h (hne _ _ _)
        | _ => exact this
    refine ⟨?_, loop⟩
    intro Q c st st' e hs hs' p β a u hc h hp R hq
    cases c with
    | skip => simp only [exC] at h; cases h; exact wp_skip (hq β a u R)
    | label l => simp only [exC] at h; cases h; exact wp_label (hq β a u R)
    | region id ops draw =>
      simp only [exC] at h
      split at h
      · rename_i h1; cases h; exact exR_sound hT hS hm hc h1 hp R hq
      · cases h
    | seq x y =>
      simp only [exC] at h
      simp only [regOk, Bool.and_eq_true] at hc
      split at h
      · rename_i st1 p1 hs1 h1
        split at h
        · rename_i e2 st2 p2 hs2 h2
          cases h
          exact wp_seq (ih1 hc.1 h1 hp.1 R fun β' a' u' R' => ih1 (by rw [exC_len h1]; exact hc.2) h2 hp.2 R' hq)
        · cases h
      · rename_i hne
        refine wp_seq (ih1 hc.1 h hp R fun β' a' u' R' => ?_)
        have := hq β' a' u' R'
        cases e with
        | normal => exact absurd h (hne _ _ _)
        | _ => exact this
    | cond c x y =>
      simp only [exC] at h
      simp only [regOk, Bool.and_eq_true] at hc
      have hcd := rd_is R.vals c
      split at h
      · rename_i e1
        rw [e1] at hcd
        exact wp_cond_true hcd (ih1 hc.1 h hp R hq)
      · rename_i e1
        rw [e1] at hcd
        exact wp_cond_false hcd (ih1 hc.2 h hp R hq)
      · cases h
    | block id c =>
      simp only [exC] at h
      split at h
      · rename_i id' st1 p1 hs1 h1
        split at h
        · rename_i hid
          cases h
          refine wp_block (ih1 hc h1 hp R fun β' a' u' R' => ?_)
          have := hq β' a' u' R'
          simp only [Exit.inBlock]
          rw [if_pos (Nat.eq_of_beq_eq_true hid)]
          exact this
        · rename_i hid
          cases h
          refine wp_block (ih1 hc h1 hp R fun β' a' u' R' => ?_)
          have := hq β' a' u' R'
          simp only [Exit.inBlock]
          rw [if_neg (fun e => by subst e; rw [Nat.beq_refl] at hid; cases hid)]
          exact this
      · rename_i hne
        refine wp_block (ih1 hc h hp R fun β' a' u' R' => ?_)
        have := hq β' a' u' R'
        cases e with
        | exit id' => exact absurd h (hne _ _ _ _)
        | _ => exact this
    | loop c => exact wp_loop_rounds (f + 1) (loop hc h hp R hq)
    | exit id => simp only [exC] at h; cases h; exact wp_exit (hq β a u R)
    | ret => simp only [exC] at h; cases h; exact wp_ret (hq β a u R)
    | rangeFunc _ _ _ _ => simp only [exC] at h; cases h
    | scope _ => simp only [exC] at h; cases h
    | goto _ => simp only [exC] at h; cases h
    | refuse _ => simp only [exC] at h; cases h
end
end Go.Proofs.YtmoicmjljflcgaaGreat.Sym

/- Contracts of functions, by running them over what is known. -/
namespace Go.Proofs.YtmoicmjljflcgaaGreat.Sym
open Go Go.RowKit M Kahn
set_option maxRecDepth 100000

/-- The results. -/
def resA1 (tt : TT) (st : St) : ResultVar → Option BV
  | .tmp t => match look st.tm t with
    | ⟨.inl b⟩ => match b.free with
      | true => some b
      | false => none
    | ⟨.inr _⟩ => none
  | .cell a ty => match look st.tm a, tt.at ty with
    | ⟨.inl (⟨some (.inr (.inr (.inl (b, 0))))⟩)⟩, some (⟨.inl (n, _, _)⟩) => match st.bx[b]? with
      | some x => match mid x.l 0 n with
        | some (_, m, _) => some (⟨some (.inr (.inl m))⟩)
        | none => none
      | none => none
    | ⟨.inl (⟨some (.inr (.inr (.inl (b, 0))))⟩)⟩, some (⟨.inr (.inl _)⟩) => match st.bx[b]? with
      | some x => match mid x.l 0 1 with
        | some (_, [⟨.inr v⟩], _) => some (⟨some (.inl v)⟩)
        | _ => none
      | none => none
    | _, _ => none
def resA (tt : TT) (st : St) : List ResultVar → Option (List BV)
  | [] => some []
  | r :: l => match resA1 tt st r, resA tt st l with
    | some b, some bs => some (b :: bs)
    | _, _ => none
def oneOf : List BV → AV
  | [b] => ⟨.inl b⟩
  | l => ⟨.inr l⟩
def exF (tt : TT) (S : List Spec) (fuel : Nat) (fn : Func) (xs : List BV) (hs : List Bool) : Option (AV × Prop) := match fn.body with
  | none => none
  | some c => match exC tt S fuel c ⟨xs.map av1 ++ List.replicate (fn.ntmps - xs.length) (⟨.inl ⟨none⟩⟩), []⟩ hs with
    | some (.ret, st, p, []) => match resA tt st fn.results.toList with
      | some l => some (oneOf l, p)
      | none => none
    | some (.normal, st, p, []) => match resA tt st fn.results.toList with
      | some l => some (oneOf l, p)
      | none => none
    | _ => none
/-- What is asked of the code alone. -/
def fnOk (fn : Func) (n : Nat) : Bool := match fn.body with
  | some c => regOk (n + (fn.ntmps - n)) c
  | none => false
/-- With such arguments the function ends, with such an answer; memory that was there is as it was. -/
def At (P : Program) (f : Nat) (xs : List BV) (r : AV) : Prop := ∀ (w : World) (args : List Value), AllIs nob w xs args →
  Calls P f args.toArray w fun e w' => ∃ v, e = .returned v ∧ r.Is nob w' v ∧ Below w.heap.size w w'
theorem SpecOk.of {P : Program} {s : Spec} {fn : Func} (hf : P.funcs[s.f]? = some fn) (hn : fn.name ≠ "runtime.NumGoroutine") (hb : fn.body ≠ none) (h : ∀ xs r p, s.sem xs = some (r, p) → p → At P s.f xs r) : SpecOk P s :=
  ⟨fun w args => by simp [callFunc, hf, hn, hb], fun w xs args r p h1 h2 h3 => h xs r p h1 h2 w args h3⟩
theorem At.weak {P : Program} {f : Nat} {xs ys : List BV} {r : AV} (h : At P f ys r) (hw : ∀ w args, AllIs nob w xs args → AllIs nob w ys args) : At P f xs r := fun w args ha => h w args (hw w args ha)
theorem At.to {P : Program} {f : Nat} {xs : List BV} {r r' : AV} (h : At P f xs r) (hr : ∀ w v, r.Is nob w v → r'.Is nob w v) : At P f xs r' := fun w args ha => Calls.mono (h w args ha) fun _ _ ⟨v, h1, h2, h3⟩ => ⟨v, h1, hr _ _ h2, h3⟩
theorem BV.free_into : ∀ {b : BV}, b.free = true → b.into = true
  | ⟨none⟩, _ => rfl
  | ⟨some (.inl _)⟩, _ => rfl
  | ⟨some (.inr (.inl _))⟩, _ => rfl
  | ⟨some (.inr (.inr (.inl (_, _))))⟩, h => by cases h
  | ⟨some (.inr (.inr (.inr (.inl _))))⟩, h => by cases h
  | ⟨some (.inr (.inr (.inr (.inr _))))⟩, h => by cases h
def rv (tmps : Array Value) : ResultVar → Sem Value
  | .tmp t => pure (tmps.getD t undef)
  | .cell a t => do loadVar t (← asAddr (tmps.getD a undef))
section
variable {P : Program} {tt : TT} {S : List Spec}
theorem run_loadCell {t : TypeId} {d : TypeDesc} {b k : Nat} {v : Value} {w : World} (h : P.underlying t = some d) (hd : d.isRow = false) (hc : w.cell? ⟨b, k, none⟩ = some v) : (loadVar t ⟨b, k, none⟩).run P w = .ok v w := by
  simp [loadVar, run_isAgg h, hd, run_load, hc]
theorem resA1_spec (hT : TTok P tt) {w0 : World} {st : St} {β : Nat → Option Nat} {a : Act} {u : World} (R : Rel w0 st β a u) {r : ResultVar} {b : BV} (h : resA1 tt st r = some b) :
    ∃ v, (rv a.tmps r).run P u = .ok v u ∧ b.Is nob u v := by
  cases r with
  | tmp t =>
    simp only [resA1] at h
    have hv := R.vals t
    split at h
    · rename_i b' hb
      rw [hb] at hv
      split at h
      · rename_i hf
        cases h
        exact ⟨_, by simp [rv], BV.Is.into (BV.free_into hf) hv⟩
      · cases h
    · cases h
  | cell x ty =>
    simp only [resA1] at h
    have hv := R.vals x
    split at h
    · rename_i e1 e2
      rw [e1] at hv
      obtain ⟨g, hg, hv⟩ := hv
      obtain ⟨fs, zs, h1, h2, h3, h4⟩ := hT.get e2
      split at h
      · rename_i y hy
        split at h
        · rename_i hm
          cases h
          obtain ⟨vs, k1, k2⟩ := R.ws.cont _ y g hy hg
          obtain ⟨x1, y1, z1, rfl, m1, m2, m3, m4, m5⟩ := k2.mid hm
          have hr := bk_range k1
          rw [m1] at hr
          refine ⟨.agg y1.toArray, ?_, y1, rfl, m4⟩
          simp only [rv, Sem.run_bind, hv, asAddr, Sem.run_pure, Result.andThen_ok, run_loadVar_mid u g 0 ty y1 _ hr h1 rfl (by rw [info_size h2, m2])]
        · cases h
      · cases h
    · rename_i e1 e2
      rw [e1] at hv
      obtain ⟨g, hg, hv⟩ := hv
      obtain ⟨d, h1, h2, h3, h4⟩ := hT.get e2
      split at h
      · rename_i y hy
        split at h
        · rename_i hm
          cases h
          obtain ⟨vs, k1, k2⟩ := R.ws.cont _ y g hy hg
          obtain ⟨x1, y1, z1, rfl, m1, m2, m3, m4, m5⟩ := k2.mid hm
          obtain ⟨y2, y3, rfl, ⟨rfl, _⟩, rfl⟩ := m4
          have hr := bk_range k1 0 _ rfl
          rw [m1] at hr
          refine ⟨_, ?_, rfl⟩
          simp only [rv, Sem.run_bind, hv, asAddr, Sem.run_pure, Result.andThen_ok, run_loadCell h1 h2 hr]
        · cases h
      · cases h
    · cases h
theorem resA_spec (hT : TTok P tt) {w0 : World} {st : St} {β : Nat → Option Nat} {a : Act} {u : World} (R : Rel w0 st β a u) : ∀ {l : List ResultVar} {bs : List BV}, resA tt st l = some bs →
    ∃ vs, (l.mapM (rv a.tmps)).run P u = .ok vs u ∧ AllIs nob u bs vs
  | [], bs, h => by simp only [resA] at h; cases h; exact ⟨[], by simp, rfl⟩
  | r :: l, bs, h => by
    simp only [resA] at h
    split at h
    · rename_i b bs' h1 h2
      cases h
      obtain ⟨v, k1, k2⟩ := resA1_spec hT R h1
      obtain ⟨vs, k3, k4⟩ := resA_spec hT R h2
      refine ⟨v :: vs, ?_, v, vs, rfl, k2, k4⟩
      rw [List.mapM_cons]
      simp only [Sem.run_bind, Sem.run_pure]
      rw [k1]
      simp only [Result.andThen_ok]
      rw [k3]
      simp only [Result.andThen_ok]
    · cases h
theorem res_run (hT : TTok P tt) {w0 : World} {st : St} {β : Nat → Option Nat} {a : Act} {u : World} (R : Rel w0 st β a u) {fn : Func} {bs : List BV} (h : resA tt st fn.results.toList = some bs) :
    ∃ v, (results fn a.tmps).run P u = .ok v u ∧ (oneOf bs).Is nob u v := by
  obtain ⟨vs, h1, h2⟩ := resA_spec hT R h
  have hm : (fn.results.mapM (rv a.tmps)).run P u = .ok vs.toArray u := by
    rw [← Array.toArray_toList (xs := fn.results), List.mapM_toArray, Sem.run_map, h1]
    rfl
  refine ⟨if h : vs.toArray.size = 1 then vs.toArray[0] else .tuple vs.toArray, ?_, ?_⟩
  · have e : results fn a.tmps = (do let vs ← fn.results.mapM (rv a.tmps); pure (if h : vs.size = 1 then vs[0] else .tuple vs)) := rfl
    rw [e, Sem.run_bind, hm]
    rfl
  · have hl := h2.len
    match bs, vs, h2, hl with
    | [b], [v], ⟨_, _, e, h3, _⟩, _ => cases e; exact h3
    | [], [], h, _ => exact ⟨[], by simp, h⟩
    | b1 :: b2 :: bs, v1 :: v2 :: vs, h, _ => exact ⟨_, by simp, h⟩
theorem init_is {xs : List BV} {args : List Value} {w : World} {n : Nat} (h : AllIs nob w xs args) (t : Nat) : (look (xs.map av1 ++ List.replicate n ⟨.inl ⟨none⟩⟩) t).Is nob w ((args.toArray ++ Array.replicate n undef).getD t undef) := by
  have hl := h.len
  unfold look
  by_cases ht : t < xs.length
  · rw [List.getElem?_append_left (by simpa using ht), List.getElem?_map, List.getElem?_eq_getElem ht]
    simp only [Option.map_some]
    obtain ⟨v, h1, h2⟩ := h.get (List.getElem?_eq_getElem ht)
    have hta : t < args.length := by omega
    have : (args.toArray ++ Array.replicate n undef).getD t undef = v := by
      rw [List.getElem?_eq_getElem hta] at h1
      simp [Array.getD, hta]
      rw [if_pos (by omega)]
      exact Option.some.inj h1
    rw [this]
    exact h2
  · rw [List.getElem?_append_right (by simpa using Nat.le_of_not_lt ht)]
    rw [List.getElem?_replicate]
    by_cases hh : t - (xs.map av1).length < n
    · rw [if_pos hh]; trivial
    · rw [if_neg hh]; trivial
/-- **A function's contract.** -/
theorem At.run (hT : TTok P tt) (hS : ∀ s ∈ S, SpecOk P s) (hm : P.follows .mixedOrders = true) {f fuel : Nat} {fn : Func} {xs : List BV} {hs : List Bool} {r : AV} {p : Prop} (hf : P.funcs[f]? = some fn) (ho : fnOk fn xs.length = true) (h : exF tt S fuel fn xs hs = some (r, p)) (hp : p) : At P f xs r := by
  intro w args ha
  unfold exF at h
  split at h
  · cases h
  · rename_i c hc
    have hl := ha.len
    have hrg : regOk (xs.map av1 ++ List.replicate (fn.ntmps - xs.length) (⟨.inl ⟨none⟩⟩ : AV)).length c = true := by
      unfold fnOk at ho
      rw [hc] at ho
      simpa using ho
    have R : Rel w ⟨xs.map av1 ++ List.replicate (fn.ntmps - xs.length) (⟨.inl ⟨none⟩⟩), []⟩ nob ⟨args.toArray ++ Array.replicate (fn.ntmps - args.toArray.size) undef, []⟩ w :=
      ⟨⟨Below.refl _ _, fun _ _ h => (by cases h), fun _ _ _ h => (by cases h), fun _ _ h => (by cases h), fun _ _ _ h => (by simp at h)⟩, by simp [hl], fun t => by have := init_is (n := fn.ntmps - xs.length) ha t; simpa [hl] using this, rfl⟩
    split at h
    · rename_i st p1 he
      split at h
      · rename_i l hr
        cases h
        refine calls_of_wp hf hc ((exC_sound hT hS hm fuel).1 hrg he hp R fun β' a' u' R' => ?_)
        obtain ⟨v, h1, h2⟩ := res_run hT R' hr
        exact ⟨R'.defers, v, h1, v, rfl, h2, R'.ws.bel⟩
      · cases h
    · rename_i st p1 he
      split at h
      · rename_i l hr
        cases h
        refine calls_of_wp hf hc ((exC_sound hT hS hm fuel).1 hrg he hp R fun β' a' u' R' => ?_)
        obtain ⟨v, h1, h2⟩ := res_run hT R' hr
        exact ⟨R'.defers, v, h1, v, rfl, h2, R'.ws.bel⟩
      · cases h
    · cases h
end
end Go.Proofs.YtmoicmjljflcgaaGreat.Sym
