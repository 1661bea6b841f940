/- A region whose order is drawn: it holds whatever the order is. -/
import Derived.Test.YtbobhhnhlgdkiaaGreatJI
import Derived.LoopN
namespace Go.Proofs.YtbobhhnhlgdkiaaGreat.Sy
open Go Go.RowKit M Kahn
set_option maxRecDepth 100000

/-- **A region whose order is drawn.** -/
theorem region_sound {P : Program} {tt : TT} {S : List Spec} (hT : TTok P tt) (hS : ∀ s ∈ S, SpecOk P s) {w0 : Start} {Q : Exit → Act → World → Prop} {id : Nat} {ops : List Oper} {n : Nat} (hm : P.follows .mixedOrders = true) {st : St} {hs hs' : List Bool} {rs : List HR} {tmF : List AV} {bxF : List Bx} {p : Prop} {E : Env} {a : Act} {u : World}
    (hh : head tt S (ops.take n) 0 st.tm [] [] st.bx hs = some (rs, tmF, bxF, p, hs')) (hp : p) (hn : n ≤ ops.length) (hd : dstOk st.tm.length ops = true) (hc1 : chk1 st.bx.length rs = true) (hc2 : chk2 rs 0 rs = true) (hc3 : chkE st.tm bxF rs = true) (hB : regionG ops.toArray n st.tm.length (rs.map (·.rd)) = true) (R : Rel w0 st E a u)
    (hq : ∀ E' a' u', Rel w0 ⟨finT rs tmF, allPuts rs bxF⟩ E' a' u' → wpList P ops.toArray Q (ops.drop n) a' u') : (Code.region id ops.toArray true).wp P Q a u := by
  obtain ⟨m, hm'⟩ := head_bx hh
  have hlen := head_len hh
  rw [List.length_take, Nat.min_eq_left hn] at hlen
  have hdt : dstOk st.tm.length (ops.take n) = true := by
    unfold dstOk at hd ⊢
    exact List.all_eq_true.2 fun o ho => List.all_eq_true.1 hd o (List.mem_of_mem_take ho)
  have hplen : ∀ (i : Nat) (r : HR) (k : Nat) (l : List D) (b : Bx) (w : Nat), rs[i]? = some r → r.pt = some (k, l) → bxF[k]? = some b → b.row = some w → l.length = b.l.length := fun i r k l b w hrs hpt hb hw => by
    have hi : i < n := by rw [← hlen]; exact (List.getElem?_eq_some_iff.1 hrs).1
    obtain ⟨tm, bx, hs1, e1, ⟨mm, e2⟩, c, e3, e4⟩ := (head_get hh hp hdt rfl (fun t j h => by cases h) (fun t _ => rfl) i ops[i] r (by rw [List.getElem?_take_of_lt hi]; exact List.getElem?_eq_getElem (Nat.lt_of_lt_of_le hi hn)) hrs).ex
    cases c with
    | false => rw [e4.2.2.1] at hpt; cases hpt
    | true =>
      obtain ⟨e, p1, hs2, f1, f2, f3, f4, f5, f6, f8, mm2, f7⟩ := e4
      rw [f5] at hpt
      obtain ⟨av | b' | ⟨b', l'⟩ | ⟨b', l'⟩⟩ := e
      · cases hpt
      · cases hpt
      · cases hpt
        obtain ⟨_, x, hx, hl⟩ := ev_put (evH_spec f1)
        have : bxF[k]? = some x := by rw [e2, List.getElem?_append_left (List.getElem?_eq_some_iff.1 hx).1]; exact hx
        rw [hb] at this; cases this
        exact hl w hw
      · cases hpt
  have dead_ok : ∀ (L : Nat → Bool) (i : Nat) (r : HR), rs[i]? = some r → L i = false → (∀ p ∈ r.rd.1, noXA (deadB rs L) (look (rs.map (·.av)) p.1) = true) ∧ ∀ t ∈ r.rd.2, noXA (deadB rs L) (look st.tm t) = true := fun L i r hr hL => by
    unfold chkE at hc3
    split at hc3
    · rename_i he
      have none : ∀ k, deadB rs L k = true → non k = true := fun k hk => by
        obtain ⟨j, s, q1, q2, _⟩ := deadB_iff.1 hk
        have := eatL_iff.2 ⟨j, s, q1, q2⟩
        rw [he] at this; cases this
      exact ⟨fun p _ => noXA_less none (noXA_non _), fun t _ => noXA_less none (noXA_non _)⟩
    · rw [Bool.and_eq_true] at hc3
      refine chk3_spec hc3.1 i r _ hr fun k hk => .inr ?_
      obtain ⟨j, s, q1, q2, q3⟩ := deadB_iff.1 hk
      exact ⟨j, s, (fun e => by subst e; rw [hL] at q3; cases q3), q1, q2⟩
  have eat_ok : ∀ (i : Nat) (r : HR) (k : Nat), rs[i]? = some r → r.eat = some k → noPt k rs = true ∧ (∀ (j : Nat) (b : Bx), bxF[j]? = some b → b.row = none → noXL (at' k) b.l = true) ∧ ∀ (j : Nat) (s : HR) (m : Nat) (l : List D), rs[j]? = some s → s.pt = some (m, l) → noXL (at' k) l = true := fun i r k hr hk => by
    have hm := eatL_iff.2 ⟨i, r, hr, hk⟩
    unfold chkE at hc3
    split at hc3
    · rename_i he; rw [he] at hm; cases hm
    · rw [Bool.and_eq_true] at hc3
      have h4 := List.all_eq_true.1 hc3.2 k hm
      simp only [Bool.and_eq_true] at h4
      refine ⟨h4.1, fun j b hb hrow => ?_, fun j s m l hs hp => ?_⟩
      · have := List.all_eq_true.1 h4.2.1 b (List.mem_of_getElem? hb)
        rw [hrow] at this; exact this
      · have := List.all_eq_true.1 h4.2.2 s (List.mem_of_getElem? hs)
        rw [hp] at this; exact this
  refine wp_region_gd n st.tm.length (rs.map (·.rd)) (fun L vs u => (∃ E, JB w0 st.tm a rs bxF E L vs u) ∧ Clo rs L) hm R.size hB (fun vs => ⟨⟨E, by rw [hm']; exact JB.start R (chk1_ge hc1) (by rw [← hm']; exact hplen)⟩, fun _ _ _ h => (by cases h)⟩) ?_ ?_
  · intro i o rd hi ho hr L vs ρ u1 ⟨⟨E1, J⟩, hcl⟩ hLi hc hf hdp horig
    rw [List.getElem?_map] at hr
    cases hrs : rs[i]? with
    | none => rw [hrs] at hr; cases hr
    | some r =>
      rw [hrs] at hr
      simp only [Option.map_some, Option.some.injEq] at hr
      subst hr
      obtain ⟨tm, bx, hs1, e1, ⟨mm, e2⟩, c, e3, e4⟩ := (head_get hh hp hdt rfl (fun t j h => by cases h) (fun t _ => rfl) i o r (by rw [List.getElem?_take_of_lt hi]; exact ho) hrs).ex
      have hreads : ∀ x ∈ reads o.op, (rdO (look tm) x).Is E1 u1 (ρ x) := fun x hx => by
        cases x with
        | tmp t =>
          show (look tm t).Is E1 u1 (ρ (.tmp t))
          rcases e1 t hx with ⟨j, h1, h2⟩ | ⟨h1, h2⟩
          · obtain ⟨k1, k2⟩ := hdp _ h1
            rw [h2, k2]; exact J.look k1 ((dead_ok L i r hrs hLi).1 _ h1)
          · rw [h2, horig t h1]; exact J.first ((dead_ok L i r hrs hLi).2 _ h1)
        | const v => exact VIs.val_iff.2 (hc v)
        | global _ => exact VIs.any
        | func _ => exact VIs.any
      have run : c = true → Goes P o ρ u1 fun v u' => (∃ E', JB w0 st.tm a rs bxF E' (Upd L i true) (Upd vs i v) u') ∧ Clo rs (Upd L i true) := by
        intro hct
        subst hct
        obtain ⟨e, p1, hs2, f1, f2, f3, f4, f5, f6, f8, mm2, f7⟩ := e4
        have hcl' : Clo rs (Upd L i true) := hcl.upd hrs fun p hp => (hdp p hp).1
        have ref : ∀ (j : Nat) (s : HR) (l : List D) (k : Nat), k ∈ r.ld → rs[j]? = some s → s.pt = some (k, l) → L j = true → False := fun j s l k hk k1 k2 k3 => by
          have hw := chk2_spec hc2 i r k hrs hk
          rw [Nat.zero_add] at hw
          have := waitB_spec hcl hw j s l k1 k2 (hcl j s k1 k3)
          rw [hLi] at this; cases this
        have hpre : ∀ k x, bx[k]? = some x → bxF[k]? = some x := fun k x hx => by
          rw [e2, List.getElem?_append_left (List.getElem?_eq_some_iff.1 hx).1]; exact hx
        have f1 := evH_spec f1
        refine goes_mono (ev_sound hT hS f1 f2 (J.bs e2) hf hreads (fun k ht x g hx hk => ?_)) fun v u' he => ?_
        · have hx' := hpre k x hx
          rcases J.cont k x g hx' hk with ⟨j, s, l, k1, k2, k3, k4⟩ | ⟨_, k2⟩
          · exfalso
            obtain ⟨av | b | ⟨b, l'⟩ | ⟨b, l'⟩⟩ := e
            · have hld : k ∈ r.ld := by rw [f6]; exact ht
              exact ref j s l k hld k1 k2 k3
            · rw [ev_new f1] at ht; cases ht
            · rw [(ev_put f1).1] at ht
              obtain rfl := List.mem_singleton.1 ht
              have := chk1_pt hc1 j i s r k l l' k1 hrs k2 f5
              subst this
              rw [hLi] at k3; cases k3
            · have hld : k ∈ r.ld := by rw [f6]; exact ht
              exact ref j s l k hld k1 k2 k3
          · exact k2
        · refine ⟨?_, hcl'⟩
          obtain ⟨av | b | ⟨b, l⟩ | ⟨b, l⟩⟩ := e
          · exact ⟨E1, J.ret hrs f8 f5 he.1 (by rw [f3]; exact he.2)⟩
          · obtain ⟨cs, rfl, hb⟩ := he
            have hbF : bxF[bx.length]? = some b := by rw [f7]; simp [bxOf]
            obtain ⟨hk, hk'⟩ := J.fresh i r _ hrs f4 hLi
            have LL := Laid.alloc (E := E1) (k := bx.length) (u := u1) (.cells cs.toArray b.ty)
            have t := fun vv => Tr.laid (X := non) (v := vv) LL (fun g hg => by rw [hk] at hg; cases hg) (.inr ⟨.inl hk, .inl hk'⟩)
            cases hrow : b.row with
            | none =>
              rw [hrow] at hb
              obtain ⟨rfl, hcl⟩ := hb
              refine ⟨_, J.new (vv := undef) hrs f8 hLi f4 f5 hbF ?_ ?_ nofun fun j s h1 h2 => chk1_nw hc1 j i s r _ h1 hrs h2 f4⟩
              · rw [f3]
                simp only [avOf, newRef, hrow]
                exact VIs.box_iff.2 ⟨J.nm, _, lay_b _ _ _ _, rfl⟩
              · unfold Holds; rw [hrow]
                exact ⟨cs, Bk.alloc _ _ _, hcl.tr (t _) (noXL_non _)⟩
            | some n =>
              rw [hrow] at hb
              obtain ⟨rfl, hcl, hw, hl⟩ := hb
              refine ⟨_, J.new (vv := .slice (some ⟨u1.heap.size, 0, none⟩) b.l.length b.l.length) hrs f8 hLi f4 f5 hbF ?_ ?_ (fun _ => ⟨n, hrow⟩) fun j s h1 h2 => chk1_nw hc1 j i s r _ h1 hrs h2 f4⟩
              · rw [f3]
                simp only [avOf, newRef, hrow]
                exact VIs.row_iff.2 ⟨J.nm, (lay_g _ _ _ _).symm, by rw [lay_g]; rfl⟩
              · unfold Holds; rw [hrow]
                refine ⟨hw, cs, ⟨[], b.l.length, by rw [List.append_nil]; exact Bk.alloc _ _ _, ?_, els_len hw hcl, Nat.le_refl _, hl, nofun, lay_g _ _ _ _⟩, hcl.tr (t _)⟩
                rw [List.append_nil]; exact els_len hw hcl
          · obtain ⟨g, x, h1, h2, h3, h4⟩ := he
            refine ⟨E1, J.put hrs f8 f5 f3 (hpre b x h2) h1 h3 fun t => ?_⟩
            unfold Holds
            cases hrow : x.row with
            | none =>
              rw [hrow] at h4
              obtain ⟨ys, q1, q2⟩ := h4
              exact ⟨ys, q1, q2.tr t (noXL_non _)⟩
            | some n =>
              rw [hrow] at h4
              obtain ⟨hw, ys, q1, q2⟩ := h4
              exact ⟨hw, ys, q1, q2.tr t⟩
          · obtain ⟨hkk, og, n', LL, hrow, hpl, hw, q1, q2⟩ := he
            have hbF : bxF[bx.length]? = some l := by rw [f7]; simp [bxOf]
            refine J.app hrs hLi f4 f5 f3 hbF hrow LL hpl hw q1 q2 ?_ (fun j s h1 h2 => chk1_nw hc1 j i s r _ h1 hrs h2 f4) fun g hg => by
              obtain ⟨_, b', r2, r3⟩ := J.root b g hg
              rcases hkk with e | ⟨b0, n0, h, h'⟩
              · subst e; rw [hbF] at r2; cases r2; rw [hrow] at r3; cases r3
              · rw [hpre b b0 h] at r2; cases r2; rw [r3] at h'; cases h'
            simp only [eatOf] at f8
            split at f8
            · rename_i hlt
              have hlt : b < bx.length := Nat.le_of_ble_eq_true hlt
              obtain ⟨g1, g2, g3⟩ := eat_ok i r b hrs f8
              exact .inr ⟨by omega, f8, g1, g2, g3⟩
            · rename_i hlt
              have hlt : ¬ b < bx.length := fun h => by
                have : Nat.blt b bx.length = true := Nat.ble_eq_true_of_le h
                rw [this] at hlt; cases hlt
              rcases hkk with e | ⟨b0, n0, h, _⟩
              · exact .inl ⟨e, f8⟩
              · exact absurd (List.getElem?_eq_some_iff.1 h).1 hlt
      cases hg : o.guard with
      | none =>
        rw [hg] at e3
        exact run e3
      | some gb =>
        obtain ⟨g, b⟩ := gb
        rw [hg] at e3
        intro hLg
        have hw := want_spec e3 (J.look hLg (by have := want_no (Z := deadB rs L) e3; rwa [List.nil_append] at this))
        refine ⟨fun h => run (hw.2 h), fun h => ?_⟩
        cases c with
        | true => exact absurd (hw.1 rfl) h
        | false => exact ⟨⟨E1, J.ret hrs e4.2.2.2 e4.2.2.1 (Below.refl _ _) (by rw [e4.1]; exact VIs.val_iff.2 rfl)⟩, hcl.upd hrs fun p hp => (hdp p hp).1⟩
  · intro L vs u1 hL ⟨⟨E1, J⟩, _⟩
    obtain ⟨k1, k2⟩ := head_fin (R := fun a v => (kilA (deadB rs L) a).Is E1 u1 v) (fun v => VIs.any) (vs := vs) hh R.size J.orig (fun j r hj => by rw [Nat.zero_add]; exact J.vals j r hj (hL j (by rw [← hlen]; exact (List.getElem?_eq_some_iff.1 hj).1)))
    refine hq E1 _ u1 ⟨J.fin (fun k hk => hL k (by omega)) (chk1_pt hc1), by rw [finT_len]; exact k1, fun t => ?_, by rw [puts_defers]; exact R.defers⟩
    have kt := k2 t
    unfold finT
    split
    · rename_i he
      have none : ∀ k, deadB rs L k = true → non k = true := fun k hk => by
        obtain ⟨j, s, q1, q2, _⟩ := deadB_iff.1 hk
        have := eatL_iff.2 ⟨j, s, q1, q2⟩
        rw [he] at this; cases this
      rwa [kilA_id (noXA_less none (noXA_non _))] at kt
    · rename_i k0 ks0 he
      rw [kilT_get]
      refine kilA_grow (fun k hk => ?_) kt
      obtain ⟨j, s, q1, q2, _⟩ := deadB_iff.1 hk
      rw [← he]
      exact memL_iff.2 (eatL_iff.2 ⟨j, s, q1, q2⟩)
end Go.Proofs.YtbobhhnhlgdkiaaGreat.Sy

/- What is known, in short: of the slots that are told, and of the boxes that they lead to. -/
namespace Go.Proofs.YtbobhhnhlgdkiaaGreat.Sy
open Go Go.RowKit M Kahn
set_option maxRecDepth 100000

/-- Where a box's number stands. -/
def pos : List Nat → Nat → Option Nat
  | [], _ => none
  | j :: l, k => match Nat.beq j k with
    | true => some 0
    | false => match pos l k with
      | some i => some (i + 1)
      | none => none
def add (ρ : List Nat) (k : Nat) : List Nat := match pos ρ k with
  | some _ => ρ
  | none => ρ ++ [k]
def name1 (ρ : List Nat) : D → List Nat
  | .held (.inr (.inr (.inl k))) => add ρ k
  | .held (.inr (.inr (.inr (.inl (k, _))))) => add ρ k
  | .held (.inr (.inr (.inr (.inr (k, _, _, _))))) => add ρ k
  | _ => ρ
def nameL (ρ : List Nat) : List D → List Nat
  | [] => ρ
  | x :: l => nameL (name1 ρ x) l
def nameV (ρ : List Nat) : D → List Nat
  | .agg ps => nameL ρ ps
  | x => name1 ρ x
def nameA (ρ : List Nat) : AV → List Nat
  | ⟨.inl b⟩ => nameV ρ b
  | ⟨.inr _⟩ => ρ
def nameT (tm : List AV) : List Nat → List Nat → List Nat
  | ρ, [] => ρ
  | ρ, t :: l => nameT tm (nameA ρ (look tm t)) l
def nameB (bx : List Bx) : List Nat → List Nat → List Nat
  | ρ, [] => ρ
  | ρ, k :: l => match bx[k]? with
    | some ⟨_, m, none⟩ => nameB bx (nameL ρ m) l
    | _ => nameB bx ρ l
def ren1 (ρ : List Nat) : D → D
  | .held (.inr (.inr (.inl k))) => match pos ρ k with
    | some j => .held (.inr (.inr (.inl j)))
    | none => .map []
  | .held (.inr (.inr (.inr (.inl (k, o))))) => match pos ρ k with
    | some j => .held (.inr (.inr (.inr (.inl (j, o)))))
    | none => .map []
  | .held (.inr (.inr (.inr (.inr (k, i, n, o))))) => match pos ρ k with
    | some j => .held (.inr (.inr (.inr (.inr (j, i, n, o)))))
    | none => .map []
  | x => x
def renL (ρ : List Nat) : List D → List D
  | [] => []
  | x :: l => ren1 ρ x :: renL ρ l
def renV (ρ : List Nat) : D → D
  | .agg ps => .agg (renL ρ ps)
  | x => ren1 ρ x
def renA (ρ : List Nat) : AV → AV
  | ⟨.inl b⟩ => ⟨.inl (renV ρ b)⟩
  | ⟨.inr _⟩ => ⟨.inl (.map [])⟩
def renX (ρ : List Nat) : Bx → Bx
  | ⟨ty, l, none⟩ => ⟨ty, renL ρ l, none⟩
  | b => b
/-- The boxes of these numbers. -/
def pick (bx : List Bx) (ρ : List Nat) : List Nat → Option (List Bx)
  | [] => some []
  | k :: l => match bx[k]?, pick bx ρ l with
    | some b, some r => some (renX ρ b :: r)
    | _, _ => none
def keepT (tm : List AV) (ρ : List Nat) : List Nat → List AV → List AV
  | [], acc => acc
  | t :: l, acc => keepT tm ρ l (acc.set t (renA ρ (look tm t)))
/-- Of all that is known, what is known of these slots. -/
def canon (st : St) (keep : List Nat) : Option St := match nameT st.tm [] keep with
  | ρ1 => match nameB st.bx ρ1 ρ1 with
    | ρ => match pick st.bx ρ ρ with
      | some bx => some ⟨keepT st.tm ρ keep (List.replicate st.tm.length ⟨.inl (.map [])⟩), bx⟩
      | none => none

theorem pos_spec : ∀ {ρ : List Nat} {k i : Nat}, pos ρ k = some i → ρ[i]? = some k
  | [], _, _, h => by cases h
  | j :: l, k, i, h => by
    simp only [pos] at h
    split at h
    · rename_i e; cases h; simp [Nat.eq_of_beq_eq_true e]
    · split at h
      · rename_i i' hi
        cases h
        simpa using pos_spec hi
      · cases h
theorem pos_none : ∀ {ρ : List Nat} {k : Nat}, pos ρ k = none → k ∉ ρ
  | [], _, _ => by simp
  | j :: l, k, h => by
    simp only [pos] at h
    split at h
    · cases h
    · rename_i e
      split at h
      · cases h
      · rename_i hn
        intro hk
        rcases List.mem_cons.1 hk with rfl | hk
        · rw [Nat.beq_refl] at e; cases e
        · exact pos_none hn hk
theorem add_nodup {ρ : List Nat} {k : Nat} (h : ρ.Nodup) : (add ρ k).Nodup := by
  unfold add
  split
  · exact h
  · rename_i hn
    rw [List.nodup_append]
    exact ⟨h, by simp, fun a ha b hb => by
      rw [List.mem_singleton] at hb
      intro e; subst e; subst hb
      exact pos_none hn ha⟩
theorem name1_nodup {ρ : List Nat} {x : D} (h : ρ.Nodup) : (name1 ρ x).Nodup := by
  unfold name1; split <;> first | exact add_nodup h | exact h
theorem nameL_nodup : ∀ {l : List D} {ρ : List Nat}, ρ.Nodup → (nameL ρ l).Nodup
  | [], _, h => h
  | x :: l, ρ, h => nameL_nodup (l := l) (ρ := name1 ρ x) (name1_nodup h)
theorem nameV_nodup {ρ : List Nat} {x : D} (h : ρ.Nodup) : (nameV ρ x).Nodup := by
  unfold nameV; split <;> first | exact nameL_nodup h | exact name1_nodup h
theorem nameA_nodup {ρ : List Nat} : ∀ {x : AV}, ρ.Nodup → (nameA ρ x).Nodup
  | ⟨.inl _⟩, h => nameV_nodup h
  | ⟨.inr _⟩, h => h
theorem nameT_nodup {tm : List AV} : ∀ {l ρ : List Nat}, ρ.Nodup → (nameT tm ρ l).Nodup
  | [], _, h => h
  | t :: l, ρ, h => nameT_nodup (l := l) (ρ := nameA ρ (look tm t)) (nameA_nodup h)
theorem nameB_nodup {bx : List Bx} : ∀ {l ρ : List Nat}, ρ.Nodup → (nameB bx ρ l).Nodup
  | [], _, h => h
  | k :: l, ρ, h => by
    unfold nameB
    split
    · exact nameB_nodup (nameL_nodup h)
    · exact nameB_nodup h
/-- The boxes by their new numbers. -/
def Env.ren (E : Env) (ρ : List Nat) : Env := ⟨fun j => match ρ[j]? with
  | some k => E.β k
  | none => none, fun j => match ρ[j]? with
  | some k => E.γ k
  | none => undef, E.nm, E.F⟩
section
variable {E : Env} {u : World} {ρ : List Nat}
theorem out_ren {b : Nat} (h : Out E u b) : Out (E.ren ρ) u b := ⟨h.lt, h.ge, fun j hj => by
  simp only [Env.ren] at hj
  split at hj
  · exact h.no _ hj
  · cases hj⟩
theorem pos_env {k j : Nat} (h : pos ρ k = some j) : (E.ren ρ).β j = E.β k ∧ (E.ren ρ).γ j = E.γ k := by
  have := pos_spec h
  simp only [Env.ren, this, and_self]
theorem ren1_noX {x : D} {v : Value} (h : ∀ ps, x ≠ .agg ps) : VIs E u x v → VIs (E.ren ρ) u (ren1 ρ x) v := by
  intro hv
  unfold ren1
  split
  · obtain ⟨e0, e1, e2⟩ := VIs.row_iff.1 hv
    split
    · rename_i j hj
      obtain ⟨_, k2⟩ := pos_env (E := E) hj
      exact VIs.row_iff.2 ⟨e0, by rw [k2]; exact e1, by rw [k2]; exact e2⟩
    · exact VIs.any
  · obtain ⟨e0, c, e1, e2⟩ := VIs.box_iff.1 hv
    split
    · rename_i j hj
      obtain ⟨k1, _⟩ := pos_env (E := E) hj
      exact VIs.box_iff.2 ⟨e0, c, by rw [k1]; exact e1, e2⟩
    · exact VIs.any
  · obtain ⟨e0, c, e1, e2⟩ := VIs.ent_iff.1 hv
    split
    · rename_i j hj
      obtain ⟨k1, _⟩ := pos_env (E := E) hj
      exact VIs.ent_iff.2 ⟨e0, c, by rw [k1]; exact e1, e2⟩
    · exact VIs.any
  · rename_i h1 h2 h3
    refine VIs.unname_to (E := E) (F := E.ren ρ) (fun _ h => out_ren h) ?_ hv
    unfold noXV
    split
    · exact absurd rfl (h _)
    · unfold noX
      split
      · exact absurd rfl (h1 _)
      · exact absurd rfl (h2 _ _)
      · exact absurd rfl (h3 _ _ _ _)
      · rfl
theorem ren1_one {x : D} (h : one x = true) : one (ren1 ρ x) = true := by
  unfold ren1
  split <;> first | (split <;> rfl) | exact h
theorem ren1_leaf {x : D} {vs : List Value} (h : LfIs E u x vs) : LfIs (E.ren ρ) u (ren1 ρ x) vs := by
  by_cases hx : one x = true
  · obtain ⟨v, e1, e2, e3⟩ := (LfIs.one_iff hx).1 h
    refine (LfIs.one_iff (ren1_one hx)).2 ⟨v, e1, e2, ren1_noX (fun ps e => ?_) e3⟩
    subst e
    obtain ⟨ws, rfl, _⟩ := VIs.agg_iff.1 e3
    cases e2
  · unfold one at hx
    split at hx
    · exact LfIs.rat_iff.2 (LfIs.rat_iff.1 h)
    · exact absurd rfl hx
theorem renL_is : ∀ {l : List D} {vs : List Value}, Cells E u l vs → Cells (E.ren ρ) u (renL ρ l) vs
  | [], _, h => Cells.nil_iff.2 (Cells.nil_iff.1 h)
  | x :: l, _, h => by
    obtain ⟨a, b, e, h1, h2⟩ := Cells.cons_iff.1 h
    exact Cells.cons_iff.2 ⟨a, b, e, ren1_leaf h1, renL_is h2⟩
theorem renV_is {x : D} {v : Value} (h : VIs E u x v) : VIs (E.ren ρ) u (renV ρ x) v := by
  unfold renV
  split
  · obtain ⟨vs, e, hc⟩ := VIs.agg_iff.1 h
    exact VIs.agg_iff.2 ⟨vs, e, renL_is hc⟩
  · rename_i hx; exact ren1_noX hx h
theorem renA_is : ∀ {a : AV} {v : Value}, a.Is E u v → (renA ρ a).Is (E.ren ρ) u v
  | ⟨.inl _⟩, _, h => renV_is h
  | ⟨.inr _⟩, _, _ => VIs.any
theorem els_ren {es : List D} {vs : List Value} : Els E u es vs → Els (E.ren ρ) u es vs := fun ⟨n, h⟩ => ⟨n, ElsF.mono (fun _ _ => LfN.un_le (E := E.bare) (F := (E.ren ρ).bare) rfl (fun _ h => by have := out_ren (ρ := ρ) (E := E) ⟨h.lt, h.ge, h.no⟩; exact ⟨this.lt, this.ge, this.no⟩)) h⟩
theorem renX_holds {j k g : Nat} (hj : ρ[j]? = some k) : ∀ {b : Bx}, Holds E u b k g → Holds (E.ren ρ) u (renX ρ b) j g
  | ⟨_, _, none⟩, ⟨vs, h1, h2⟩ => ⟨vs, h1, renL_is h2⟩
  | ⟨_, _, some _⟩, ⟨h0, vs, h1, h2⟩ => ⟨h0, vs, by
      have : (E.ren ρ).γ j = E.γ k := by simp only [Env.ren, hj]
      rw [this]; exact h1, els_ren h2⟩
theorem pick_spec {bx : List Bx} : ∀ {l : List Nat} {r : List Bx}, pick bx ρ l = some r → ∀ j : Nat, r[j]? = (l[j]?).bind fun k => (bx[k]?).map (renX ρ)
  | [], _, h, j => by simp only [pick] at h; cases h; simp
  | k :: l, _, h, j => by
    simp only [pick] at h
    split at h
    · rename_i b r h1 h2
      cases h
      cases j with
      | zero => simp [h1]
      | succ j => simpa using pick_spec h2 j
    · cases h
theorem pick_len {bx : List Bx} : ∀ {l : List Nat} {r : List Bx}, pick bx ρ l = some r → r.length = l.length
  | [], _, h => by simp only [pick] at h; cases h; rfl
  | k :: l, _, h => by
    simp only [pick] at h
    split at h
    · rename_i h1 h2
      cases h
      simp [pick_len h2]
    · cases h
theorem renX_same {b : Bx} {n : Nat} (h : b.row = some n) : renX ρ b = b := by obtain ⟨_, _, r⟩ := b; cases r with | none => cases h | some _ => rfl
theorem keepT_spec {tm : List AV} {vs : Nat → Value} (hv : ∀ t, (look tm t).Is E u (vs t)) : ∀ {l : List Nat} {acc : List AV}, (∀ t, (look acc t).Is (E.ren ρ) u (vs t)) → (∀ t, (look (keepT tm ρ l acc) t).Is (E.ren ρ) u (vs t)) ∧ (keepT tm ρ l acc).length = acc.length
  | [], acc, h => ⟨h, rfl⟩
  | s :: l, acc, h => by
    obtain ⟨h1, h2⟩ := keepT_spec (l := l) (acc := acc.set s (renA ρ (look tm s))) hv (fun t => by
      unfold look
      by_cases hs : s < acc.length
      · by_cases e : s = t
        · subst e
          rw [List.getElem?_set_self hs]
          exact renA_is (hv s)
        · rw [List.getElem?_set_ne e]
          exact h t
      · rw [List.set_eq_of_length_le (by omega)]
        exact h t)
    exact ⟨h1, by rw [keepT, h2, List.length_set]⟩
theorem Rel.canon {w0 : Start} {st st' : St} {a : Act} {keep : List Nat} (hw : ∀ k, w0.R k = none) (R : Rel w0 st E a u) (h : canon st keep = some st') : ∃ E', Rel w0 st' E' a u := by
  unfold Sy.canon at h
  simp only at h
  generalize hρ : nameB st.bx (nameT st.tm [] keep) (nameT st.tm [] keep) = ρ at h
  have nd : ρ.Nodup := by rw [← hρ]; exact nameB_nodup (nameT_nodup List.nodup_nil)
  split at h
  · rename_i bx hb
    cases h
    have hp := pick_spec hb
    have hl := pick_len hb
    have ge : ∀ j k : Nat, ρ[j]? = some k → (E.ren ρ).β j = E.β k ∧ (E.ren ρ).γ j = E.γ k := fun j k h => by simp only [Env.ren, h, and_self]
    have no : ∀ j : Nat, ρ[j]? = none → (E.ren ρ).β j = none ∧ (E.ren ρ).γ j = undef := fun j h => by simp only [Env.ren, h, and_self]
    have inr : ∀ j g, (E.ren ρ).β j = some g → ∃ k, ρ[j]? = some k ∧ E.β k = some g := fun j g hj => by
      cases e : ρ[j]? with
      | none => rw [(no j e).1] at hj; cases hj
      | some k => exact ⟨k, rfl, by rw [← (ge j k e).1]; exact hj⟩
    obtain ⟨k1, k2⟩ := keepT_spec (ρ := ρ) (l := keep) (acc := List.replicate st.tm.length ⟨.inl (.map [])⟩) R.vals (fun t => by
      unfold look
      split
      · rename_i x hx
        rw [List.getElem?_replicate] at hx
        split at hx
        · cases hx; exact VIs.any
        · cases hx
      · exact VIs.any)
    refine ⟨E.ren ρ, ⟨⟨R.ws.nm, R.ws.old, R.ws.F, R.ws.bel, fun j g hj => ?_, fun i j g hi hj => ?_, fun j g hj => ?_, fun j b g hb' hj => ?_, fun j hj => ?_, fun k g hk => by rw [hw k] at hk; cases hk⟩, ?_, k1, R.defers⟩⟩
    · obtain ⟨k, _, h2⟩ := inr j g hj
      rcases R.ws.low k g h2 with h | h
      · exact .inl h
      · rw [hw k] at h; cases h
    · obtain ⟨k, h1, h2⟩ := inr i g hi
      obtain ⟨k', h3, h4⟩ := inr j g hj
      have := R.ws.inj k k' g h2 h4
      subst this
      exact (List.getElem?_inj (List.getElem?_eq_some_iff.1 h1).1 nd).1 (by rw [h1, h3])
    · obtain ⟨k, h1, _⟩ := inr j g hj
      rw [hl]
      exact (List.getElem?_eq_some_iff.1 h1).1
    · obtain ⟨k, h1, h2⟩ := inr j g hj
      rw [hp j, h1, Option.bind_some, Option.map_eq_some_iff] at hb'
      obtain ⟨b0, h3, rfl⟩ := hb'
      exact renX_holds h1 (R.ws.cont k b0 g h3 h2)
    · cases e : ρ[j]? with
      | none => rw [(no j e).2] at hj; cases hj
      | some k =>
        obtain ⟨q1, q2⟩ := ge j k e
        rw [q2] at hj
        obtain ⟨b, n, h1, h2, h3⟩ := R.ws.row k hj
        refine ⟨b, n, ?_, h2, fun h => by rw [q1] at h; rw [q2]; exact h3 h⟩
        rw [hp j, e, Option.bind_some, h1, Option.map_some, renX_same h2]
    · rw [k2, List.length_replicate]; exact R.size
  · cases h
theorem canon_len {st st' : St} {keep : List Nat} (h : canon st keep = some st') : st'.tm.length = st.tm.length := by
  unfold Sy.canon at h
  simp only at h
  split at h
  · cases h
    have : ∀ (l : List Nat) (acc : List AV) (ρ : List Nat), (keepT st.tm ρ l acc).length = acc.length := fun l => by
      induction l with
      | nil => intro _ _; rfl
      | cons t l ih => intro acc ρ; rw [keepT, ih, List.length_set]
    rw [this, List.length_replicate]
  · cases h
end
end Go.Proofs.YtbobhhnhlgdkiaaGreat.Sy

/- Whole functions. -/
namespace Go.Proofs.YtbobhhnhlgdkiaaGreat.Sy
open Go Go.RowKit M Kahn
set_option maxRecDepth 100000

/-- How many operations are drawn: those ahead of the first append, not the last one. -/
def isApp : Op → Bool
  | .call ⟨.builtin .append, _, _⟩ => true
  | _ => false
def headN : List Oper → Nat
  | [] => 0
  | [_] => 0
  | o :: x :: l => match isApp o.op with
    | true => 0
    | false => headN (x :: l) + 1
theorem headN_le : ∀ l : List Oper, headN l ≤ l.length
  | [] => Nat.le_refl _
  | [_] => Nat.zero_le _
  | o :: x :: l => by
    simp only [headN]
    split
    · exact Nat.zero_le _
    · have := headN_le (x :: l)
      simp only [List.length_cons] at this ⊢
      omega
/-- Does an append come ahead of what may come ahead of it? Then all but the last operation are drawn. -/
def mixOp : Op → Bool
  | .load _ _ => true
  | .buildSlice _ _ _ => true
  | .call _ => true
  | .alloc _ => true
  | _ => false
def mixA : List Oper → Bool
  | [] => false
  | o :: l => match mixOp o.op with
    | true => true
    | false => mixA l
def mixN : List Oper → Bool
  | [] => false
  | o :: l => match isApp o.op with
    | true => mixA l
    | false => mixN l
def lessN : Nat → Nat
  | 0 => 0
  | n + 1 => n
def hdN (ops : List Oper) : Nat := match mixN ops with
  | true => lessN ops.length
  | false => headN ops
theorem hdN_le (l : List Oper) : hdN l ≤ l.length := by
  unfold hdN
  split
  · unfold lessN; split <;> omega
  · exact headN_le l
/-- What is asked of the code alone: in each region slots are in bounds, and the last operation waits for all others where the order is drawn. -/
def regOk (N : Nat) : Code → Bool
  | .region _ ops draw => dstOk N ops.toList && (!draw || regionG ops (hdN ops.toList) N (statTab (ops.toList.take (hdN ops.toList)) 0 []))
  | .seq a b => regOk N a && regOk N b
  | .cond _ a b => regOk N a && regOk N b
  | .block _ c => regOk N c
  | .loop c => regOk N c
  | _ => true
/-- A region. -/
def exR (tt : TT) (S : List Spec) (ops : List Oper) (draw : Bool) (st : St) (hs : List Bool) : Option (St × Prop × List Bool) := match draw with
  | false => run tt S ops ops st hs
  | true => match head tt S (ops.take (hdN ops)) 0 st.tm [] [] st.bx hs with
    | none => none
    | some (rs, tm, bx, p, hs') => match chk1 st.bx.length rs && (chk2 rs 0 rs && chkE st.tm bx rs) with
      | false => none
      | true => match run tt S ops (ops.drop (hdN ops)) ⟨finT rs tm, allPuts rs bx⟩ hs' with
        | none => none
        | some (st', p', hs'') => some (st', p ∧ p', hs'')
/-- The blocks of a function, by their numbers. -/
def blocksOf : Code → List (Nat × Code)
  | .seq a b => blocksOf a ++ blocksOf b
  | .cond _ a b => blocksOf a ++ blocksOf b
  | .block id c => (id, c) :: blocksOf c
  | .loop c => blocksOf c
  | _ => []
def getBlk : List (Nat × Code) → Nat → Option Code
  | [], _ => none
  | (j, c) :: l, k => match Nat.beq j k with
    | true => some c
    | false => getBlk l k
def onceB : List (Nat × Code) → Bool
  | [] => true
  | (j, _) :: l => l.all (fun p => !(Nat.beq p.1 j)) && onceB l
theorem onceB_spec : ∀ {l : List (Nat × Code)}, onceB l = true → ∀ p ∈ l, getBlk l p.1 = some p.2
  | [], _, p, h => by cases h
  | (j, c) :: l, h, p, hp => by
    simp only [onceB, Bool.and_eq_true] at h
    rcases List.mem_cons.1 hp with rfl | hp
    · simp only [getBlk, Nat.beq_refl]
    · have h1 := List.all_eq_true.1 h.1 p hp
      have : Nat.beq j p.1 = false := by
        cases e : Nat.beq j p.1 with
        | false => rfl
        | true =>
          rw [Nat.eq_of_beq_eq_true e, Nat.beq_refl] at h1
          cases h1
      simp only [getBlk, this]
      exact onceB_spec h.2 p hp
/-- What a loop comes to, by what is known ahead of it of these slots. -/
structure LSpec where
  id : Nat
  keep : List Nat
  sem : St → List Bool → Option (Exit × St × Prop × List Bool)
def findL : List LSpec → Nat → Option LSpec
  | [], _ => none
  | s :: l, k => match Nat.beq s.id k with
    | true => some s
    | false => findL l k
theorem findL_spec {l : List LSpec} {k : Nat} {s : LSpec} (h : findL l k = some s) : s ∈ l ∧ s.id = k := by
  induction l with
  | nil => cases h
  | cons x l ih =>
    simp only [findL] at h
    split at h
    · rename_i e; cases h; exact ⟨List.mem_cons_self .., Nat.eq_of_beq_eq_true e⟩
    · exact ⟨List.mem_cons_of_mem _ (ih h).1, (ih h).2⟩
def LOk (P : Program) (N : Nat) (bl : List (Nat × Code)) (s : LSpec) : Prop := ∀ c, getBlk bl s.id = some c → ∀ (st : St) (e : Exit) (st' : St) (hs hs' : List Bool) (p : Prop), st.tm.length = N → s.sem st hs = some (e, st', p, hs') → p →
  st'.tm.length = N ∧ ∀ (w0 : Start) (E : Env) (a : Act) (u : World) (Q : Exit → Act → World → Prop), (∀ k, w0.R k = none) → Rel w0 st E a u → (∀ E' a' u', Rel w0 st' E' a' u' → Q e a' u') → (Code.block s.id c).wp P Q a u
def exC (tt : TT) (S : List Spec) (Lt : List LSpec) : Nat → Code → St → List Bool → Option (Exit × St × Prop × List Bool)
  | 0, _, _, _ => none
  | f + 1, c, st, hs => match c with
    | .skip => some (.normal, st, True, hs)
    | .label _ => some (.normal, st, True, hs)
    | .region _ ops draw => match exR tt S ops.toList draw st hs with
      | some (st', p, hs') => some (.normal, st', p, hs')
      | none => none
    | .seq x y => match exC tt S Lt f x st hs with
      | some (.normal, st1, p1, hs1) => match exC tt S Lt f y st1 hs1 with
        | some (e, st2, p2, hs2) => some (e, st2, p1 ∧ p2, hs2)
        | none => none
      | r => r
    | .cond c x y => match rdO (look st.tm) c with
      | ⟨.inl (.held (.inr (.inl (.bool true))))⟩ => exC tt S Lt f x st hs
      | ⟨.inl (.held (.inr (.inl (.bool false))))⟩ => exC tt S Lt f y st hs
      | _ => none
    | .block id c => match findL Lt id with
      | some s => match canon st s.keep with
        | some st1 => s.sem st1 hs
        | none => none
      | none => match exC tt S Lt f c st hs with
        | some (.exit id', st', p, hs') => match Nat.beq id' id with
          | true => some (.normal, st', p, hs')
          | false => some (.exit id', st', p, hs')
        | r => r
    | .loop c => match exC tt S Lt f c st hs with
      | some (.normal, st1, p1, hs1) => match exC tt S Lt f (.loop c) st1 hs1 with
        | some (e, st2, p2, hs2) => some (e, st2, p1 ∧ p2, hs2)
        | none => none
      | r => r
    | .exit id => some (.exit id, st, True, hs)
    | .ret => some (.ret, st, True, hs)
    | _ => none
section
variable {P : Program} {tt : TT} {S : List Spec} {w0 : Start}
theorem run_len : ∀ {l ops : List Oper} {st st' : St} {hs hs' : List Bool} {p : Prop}, run tt S ops l st hs = some (st', p, hs') → st'.tm.length = st.tm.length
  | [], _, _, _, _, _, _, h => by simp only [run] at h; cases h; rfl
  | o :: l, ops, st, st', hs, hs', p, h => by
    simp only [run] at h
    split at h
    · rename_i h1
      split at h
      · rename_i h2; cases h; rw [run_len h2, step_len h1]
      · cases h
    · cases h
theorem exR_len {ops : List Oper} {draw : Bool} {st st' : St} {hs hs' : List Bool} {p : Prop} (h : exR tt S ops draw st hs = some (st', p, hs')) : st'.tm.length = st.tm.length := by
  unfold exR at h
  split at h
  · exact run_len h
  · split at h
    · cases h
    · rename_i hh
      split at h
      · cases h
      · split at h
        · cases h
        · rename_i hr; cases h; rw [run_len hr]; exact (finT_len _ _).trans (head_tmlen hh)
theorem exR_sound (hT : TTok P tt) (hS : ∀ s ∈ S, SpecOk P s) (hm : P.follows .mixedOrders = true) {Q : Exit → Act → World → Prop} {id : Nat} {ops : Array Oper} {draw : Bool} {st st' : St} {hs hs' : List Bool} {p : Prop} {E : Env} {a : Act} {u : World}
    (hc : regOk st.tm.length (.region id ops draw) = true) (h : exR tt S ops.toList draw st hs = some (st', p, hs')) (hp : p) (R : Rel w0 st E a u) (hq : ∀ E' a' u', Rel w0 st' E' a' u' → Q .normal a' u') : (Code.region id ops draw).wp P Q a u := by
  obtain ⟨ops⟩ := ops
  simp only [regOk, Bool.and_eq_true] at hc
  obtain ⟨hd, hc⟩ := hc
  unfold exR at h
  split at h
  · exact wp_region_lit (run_sound hT hS ops hd h hp R hq)
  · split at h
    · cases h
    · rename_i rs tm bx p1 hs1 hh
      split at h
      · cases h
      · rename_i hk
        rw [Bool.and_eq_true, Bool.and_eq_true] at hk
        split at h
        · cases h
        · rename_i st2 p2 hs2 hr
          cases h
          simp only [Bool.not_true, Bool.false_or] at hc
          rw [← head_tab hh] at hc
          exact region_sound hT hS hm hh hp.1 (hdN_le _) hd hk.1 hk.2.1 hk.2.2 hc R fun E' a' u' R' => run_sound hT hS _ (by rw [show (⟨finT rs tm, allPuts rs bx⟩ : St).tm.length = st.tm.length from (finT_len _ _).trans (head_tmlen hh)]; exact hd) hr hp.2 R' hq
theorem exC_len {Lt : List LSpec} {N : Nat} {bl : List (Nat × Code)} (hL : ∀ s ∈ Lt, LOk P N bl s) : ∀ {f : Nat} {c : Code} {st st' : St} {e : Exit} {hs hs' : List Bool} {p : Prop}, (∀ q ∈ blocksOf c, getBlk bl q.1 = some q.2) → st.tm.length = N → exC tt S Lt f c st hs = some (e, st', p, hs') → p → st'.tm.length = N
  | 0, _, _, _, _, _, _, _, _, _, h, _ => by cases h
  | f + 1, c, st, st', e, hs, hs', p, hb, hN, h, hp => by
    cases c with
    | skip => simp only [exC] at h; cases h; exact hN
    | label l => simp only [exC] at h; cases h; exact hN
    | exit id => simp only [exC] at h; cases h; exact hN
    | ret => simp only [exC] at h; cases h; exact hN
    | region id ops draw =>
      simp only [exC] at h
      split at h
      · rename_i h1; cases h; rw [exR_len h1]; exact hN
      · cases h
    | seq x y =>
      have hx : ∀ q ∈ blocksOf x, getBlk bl q.1 = some q.2 := fun q hq => hb q (List.mem_append.2 (.inl hq))
      have hy : ∀ q ∈ blocksOf y, getBlk bl q.1 = some q.2 := fun q hq => hb q (List.mem_append.2 (.inr hq))
      simp only [exC] at h
      split at h
      · rename_i h1
        split at h
        · rename_i h2; cases h; exact exC_len hL hy (exC_len hL hx hN h1 hp.1) h2 hp.2
        · cases h
      · exact exC_len hL hx hN h hp
    | cond c x y =>
      have hx : ∀ q ∈ blocksOf x, getBlk bl q.1 = some q.2 := fun q hq => hb q (List.mem_append.2 (.inl hq))
      have hy : ∀ q ∈ blocksOf y, getBlk bl q.1 = some q.2 := fun q hq => hb q (List.mem_append.2 (.inr hq))
      simp only [exC] at h
      split at h
      · exact exC_len hL hx hN h hp
      · exact exC_len hL hy hN h hp
      · cases h
    | block id c =>
      have hc : ∀ q ∈ blocksOf c, getBlk bl q.1 = some q.2 := fun q hq => hb q (List.mem_cons_of_mem _ hq)
      simp only [exC] at h
      split at h
      · rename_i s hs1
        obtain ⟨h1, h2⟩ := findL_spec hs1
        split at h
        · rename_i st1 hcn
          exact (hL s h1 c (by rw [h2]; exact hb _ (List.mem_cons_self ..)) _ _ _ _ _ _ (by rw [canon_len hcn]; exact hN) h hp).1
        · cases h
      · split at h
        · rename_i h1
          split at h <;> cases h <;> exact exC_len hL hc hN h1 hp
        · exact exC_len hL hc hN h hp
    | loop c =>
      have hc : ∀ q ∈ blocksOf c, getBlk bl q.1 = some q.2 := fun q hq => hb q hq
      simp only [exC] at h
      split at h
      · rename_i h1
        split at h
        · rename_i h2; cases h; exact exC_len (c := .loop c) hL hc (exC_len hL hc hN h1 hp.1) h2 hp.2
        · cases h
      · exact exC_len hL hc hN h hp
    | rangeFunc _ _ _ _ => simp only [exC] at h; cases h
    | scope _ => simp only [exC] at h; cases h
    | goto _ => simp only [exC] at h; cases h
    | refuse _ => simp only [exC] at h; cases h
/-- What a run of code comes to, it does. -/
theorem exC_sound (hT : TTok P tt) (hS : ∀ s ∈ S, SpecOk P s) (hm : P.follows .mixedOrders = true) {Lt : List LSpec} {N : Nat} {bl : List (Nat × Code)} (hL : ∀ s ∈ Lt, LOk P N bl s) (hR : (∀ k, w0.R k = none) ∨ Lt = []) : ∀ (f : Nat),
    (∀ {Q : Exit → Act → World → Prop} {c : Code} {st st' : St} {e : Exit} {hs hs' : List Bool} {p : Prop} {E : Env} {a : Act} {u : World}, st.tm.length = N → regOk N c = true → (∀ q ∈ blocksOf c, getBlk bl q.1 = some q.2) → exC tt S Lt f c st hs = some (e, st', p, hs') → p → Rel w0 st E a u → (∀ E' a' u', Rel w0 st' E' a' u' → Q e a' u') → c.wp P Q a u) ∧
    (∀ {Q : Exit → Act → World → Prop} {c : Code} {st st' : St} {e : Exit} {hs hs' : List Bool} {p : Prop} {E : Env} {a : Act} {u : World}, st.tm.length = N → regOk N c = true → (∀ q ∈ blocksOf c, getBlk bl q.1 = some q.2) → exC tt S Lt f (.loop c) st hs = some (e, st', p, hs') → p → Rel w0 st E a u → (∀ E' a' u', Rel w0 st' E' a' u' → Q e a' u') → Code.rounds P c Q f a u)
  | 0 => ⟨fun _ _ _ h => (by cases h), fun _ _ _ h => (by cases h)⟩
  | f + 1 => by
    obtain ⟨ih1, ih2⟩ := exC_sound hT hS hm hL hR f
    have loop : ∀ {Q : Exit → Act → World → Prop} {c : Code} {st st' : St} {e : Exit} {hs hs' : List Bool} {p : Prop} {E : Env} {a : Act} {u : World}, st.tm.length = N → regOk N c = true → (∀ q ∈ blocksOf c, getBlk bl q.1 = some q.2) → exC tt S Lt (f + 1) (.loop c) st hs = some (e, st', p, hs') → p → Rel w0 st E a u → (∀ E' a' u', Rel w0 st' E' a' u' → Q e a' u') → Code.rounds P c Q (f + 1) a u := by
      intro Q c st st' e hs hs' p E a u hN hc hb h hp R hq
      rw [rounds_succ]
      simp only [exC] at h
      split at h
      · rename_i st1 p1 hs1 h1
        split at h
        · rename_i e2 st2 p2 hs2 h2
          cases h
          exact ih1 hN hc hb h1 hp.1 R fun E' a' u' R' => ih2 (exC_len hL hb hN h1 hp.1) hc hb h2 hp.2 R' hq
        · cases h
      · rename_i hne
        refine ih1 hN hc hb h hp R fun E' a' u' R' => ?_
        have := hq E' a' u' R'
        cases e with
        | normal => exact absurd h (hne _ _ _)
        | _ => exact this
    refine ⟨?_, loop⟩
    intro Q c st st' e hs hs' p E a u hN hc hb h hp R hq
    cases c with
    | skip => simp only [exC] at h; cases h; exact wp_skip (hq E a u R)
    | label l => simp only [exC] at h; cases h; exact wp_label (hq E a u R)
    | region id ops draw =>
      simp only [exC] at h
      split at h
      · rename_i h1; cases h; exact exR_sound hT hS hm (by rw [hN]; exact hc) h1 hp R hq
      · cases h
    | seq x y =>
      have hx : ∀ q ∈ blocksOf x, getBlk bl q.1 = some q.2 := fun q hq => hb q (List.mem_append.2 (.inl hq))
      have hy : ∀ q ∈ blocksOf y, getBlk bl q.1 = some q.2 := fun q hq => hb q (List.mem_append.2 (.inr hq))
      simp only [exC] at h
      simp only [regOk, Bool.and_eq_true] at hc
      split at h
      · rename_i st1 p1 hs1 h1
        split at h
        · rename_i e2 st2 p2 hs2 h2
          cases h
          exact wp_seq (ih1 hN hc.1 hx h1 hp.1 R fun E' a' u' R' => ih1 (exC_len hL hx hN h1 hp.1) hc.2 hy h2 hp.2 R' hq)
        · cases h
      · rename_i hne
        refine wp_seq (ih1 hN hc.1 hx h hp R fun E' a' u' R' => ?_)
        have := hq E' a' u' R'
        cases e with
        | normal => exact absurd h (hne _ _ _)
        | _ => exact this
    | cond c x y =>
      have hx : ∀ q ∈ blocksOf x, getBlk bl q.1 = some q.2 := fun q hq => hb q (List.mem_append.2 (.inl hq))
      have hy : ∀ q ∈ blocksOf y, getBlk bl q.1 = some q.2 := fun q hq => hb q (List.mem_append.2 (.inr hq))
      simp only [exC] at h
      simp only [regOk, Bool.and_eq_true] at hc
      have hcd := rd_is R.vals c
      split at h
      · rename_i e1
        rw [e1] at hcd
        exact wp_cond_true (VIs.val_iff.1 hcd) (ih1 hN hc.1 hx h hp R hq)
      · rename_i e1
        rw [e1] at hcd
        exact wp_cond_false (VIs.val_iff.1 hcd) (ih1 hN hc.2 hy h hp R hq)
      · cases h
    | block id c =>
      have hcb : ∀ q ∈ blocksOf c, getBlk bl q.1 = some q.2 := fun q hq => hb q (List.mem_cons_of_mem _ hq)
      simp only [exC] at h
      split at h
      · rename_i s hs1
        obtain ⟨h1, h2⟩ := findL_spec hs1
        split at h
        · rename_i st1 hcn
          have hw : ∀ k, w0.R k = none := hR.resolve_right fun e => by rw [e] at h1; cases h1
          obtain ⟨E1, R1⟩ := R.canon hw hcn
          have := (hL s h1 c (by rw [h2]; exact hb _ (List.mem_cons_self ..)) _ _ _ _ _ _ (by rw [canon_len hcn]; exact hN) h hp).2 w0 E1 a u Q hw R1 hq
          rwa [h2] at this
        · cases h
      · split at h
        · rename_i id' st1 p1 hs1 h1
          split at h
          · rename_i hid
            cases h
            refine wp_block (ih1 hN hc hcb h1 hp R fun E' a' u' R' => ?_)
            have := hq E' a' u' R'
            simp only [Exit.inBlock]
            rw [if_pos (Nat.eq_of_beq_eq_true hid)]
            exact this
          · rename_i hid
            cases h
            refine wp_block (ih1 hN hc hcb h1 hp R fun E' a' u' R' => ?_)
            have := hq E' a' u' R'
            simp only [Exit.inBlock]
            rw [if_neg (fun e => by subst e; rw [Nat.beq_refl] at hid; cases hid)]
            exact this
        · rename_i hne
          refine wp_block (ih1 hN hc hcb h hp R fun E' a' u' R' => ?_)
          have := hq E' a' u' R'
          cases e with
          | exit id' => exact absurd h (hne _ _ _ _)
          | _ => exact this
    | loop c => exact wp_loop_rounds (f + 1) (loop hN hc hb h hp R hq)
    | exit id => simp only [exC] at h; cases h; exact wp_exit (hq E a u R)
    | ret => simp only [exC] at h; cases h; exact wp_ret (hq E a u R)
    | rangeFunc _ _ _ _ => simp only [exC] at h; cases h
    | scope _ => simp only [exC] at h; cases h
    | goto _ => simp only [exC] at h; cases h
    | refuse _ => simp only [exC] at h; cases h
end
end Go.Proofs.YtbobhhnhlgdkiaaGreat.Sy

/- Contracts of functions, by running them over what is known. -/
namespace Go.Proofs.YtbobhhnhlgdkiaaGreat.Sy
open Go Go.RowKit M Kahn
set_option maxRecDepth 100000

/-- The results. -/
def resA1 (tt : TT) (st : St) : ResultVar → Option D
  | .tmp t => match look st.tm t with
    | ⟨.inl b⟩ => handed st.bx b
    | ⟨.inr _⟩ => none
  | .cell a ty => match tt.wide ty, tt.one ty, look st.tm a with
    | some (n, _), _, ⟨.inl b⟩ => match partOf st.bx n b with
      | some m => handed st.bx (.agg m)
      | none => none
    | none, some _, ⟨.inl b⟩ => match partOf st.bx 1 b with
      | some [y] => match one y with
        | true => handed st.bx y
        | false => none
      | _ => none
    | _, _, _ => none
def resA (tt : TT) (st : St) : List ResultVar → Option (List D)
  | [] => some []
  | r :: l => match resA1 tt st r, resA tt st l with
    | some b, some bs => some (b :: bs)
    | _, _ => none
def oneOf : List D → AV
  | [b] => ⟨.inl b⟩
  | l => ⟨.inr l⟩
def exF (tt : TT) (S : List Spec) (Lt : List LSpec) (fuel : Nat) (fn : Func) (xs : List D) (hs : List Bool) : Option (AV × Prop) := match fn.body with
  | none => none
  | some c => match exC tt S Lt fuel c ⟨xs.map av1 ++ List.replicate (fn.ntmps - xs.length) ⟨.inl (.map [])⟩, []⟩ hs with
    | some (.ret, st, p, []) => match resA tt st fn.results.toList with
      | some l => some (oneOf l, p)
      | none => none
    | some (.normal, st, p, []) => match resA tt st fn.results.toList with
      | some l => some (oneOf l, p)
      | none => none
    | _ => none
/-- What is asked of the code alone. -/
def fnOk (fn : Func) (n : Nat) : Bool := match fn.body with
  | some c => regOk (n + (fn.ntmps - n)) c && onceB (blocksOf c)
  | none => false
/-- With such arguments the function ends, with such an answer; memory that was there is as it was. -/
def At (P : Program) (f : Nat) (xs : List D) (r : AV) : Prop := ∀ (w : World) (args : List Value) (F : Nat → Prop), (∀ b, F b → b < w.heap.size) → AllIs (nob F) w xs args →
  Calls P f args.toArray w fun e w' => ∃ v, e = .returned v ∧ r.Is (nob F) w' v ∧ Below w.heap.size w w'
theorem SpecOk.of {P : Program} {s : Spec} {fn : Func} (hf : P.funcs[s.f]? = some fn) (hn : fn.name ≠ "runtime.NumGoroutine") (hb : fn.body ≠ none) (h : ∀ xs r p, s.sem xs = some (r, p) → p → At P s.f xs r) (hm : s.mem = nomem := by rfl) : SpecOk P s :=
  ⟨fun w args => by simp [callFunc, hf, hn, hb], fun w xs args r p F h1 h2 h3 h4 => h xs r p h1 h2 w args F h3 h4, fun o ty l xs r l' p h1 => by rw [hm] at h1; cases h1⟩
theorem SpecOk.ofM {P : Program} {s : Spec} {fn : Func} (hf : P.funcs[s.f]? = some fn) (hn : fn.name ≠ "runtime.NumGoroutine") (hb : fn.body ≠ none) (h : MemOk P s) (hs : s.sem = fun _ => none) : SpecOk P s :=
  ⟨fun w args => by simp [callFunc, hf, hn, hb], fun w xs args r p F h1 => (by rw [hs] at h1; cases h1), h⟩
theorem At.weak {P : Program} {f : Nat} {xs ys : List D} {r : AV} (h : At P f ys r) (hw : ∀ E w args, AllIs E w xs args → AllIs E w ys args) : At P f xs r := fun w args F hF ha => h w args F hF (hw _ w args ha)
theorem At.to {P : Program} {f : Nat} {xs : List D} {r r' : AV} (h : At P f xs r) (hr : ∀ E w v, r.Is E w v → r'.Is E w v) : At P f xs r' := fun w args F hF ha => Calls.mono (h w args F hF ha) fun _ _ ⟨v, h1, h2, h3⟩ => ⟨v, h1, hr _ _ _ h2, h3⟩
def rv (tmps : Array Value) : ResultVar → Sem Value
  | .tmp t => pure (tmps.getD t undef)
  | .cell a t => do loadVar t (← asAddr (tmps.getD a undef))
section
variable {P : Program} {tt : TT} {S : List Spec}
theorem run_loadCell {t : TypeId} {d : TypeDesc} {b k : Nat} {v : Value} {w : World} (h : P.underlying t = some d) (hd : d.isRow = false) (hc : w.cell? ⟨b, k, none⟩ = some v) : (loadVar t ⟨b, k, none⟩).run P w = .ok v w := by
  simp [loadVar, run_isAgg h, hd, run_load, hc]
theorem WS.hid {w0 : Start} {bx : List Bx} {E : Env} {u : World} (h : WS w0 bx E u) (l : List Nat) : Hid' E u l w0.F :=
  ⟨fun b hb => by rw [← h.F]; exact hb.ge, fun k _ g hg hF => by
    have ho := h.old g (by rw [h.F]; exact hF)
    exact (h.low k g hg).elim (Nat.not_le_of_lt ho.1) fun e => ho.2 ⟨k, e⟩⟩
theorem WS.known {w0 : Start} {bx : List Bx} {E : Env} {u : World} (h : WS w0 bx E u) (l : List Nat) : Known E bx u l := fun k _ b g hb hk => h.cont k b g hb hk
theorem resA1_spec (hT : TTok P tt) {w0 : Start} {st : St} {E : Env} {a : Act} {u : World} (R : Rel w0 st E a u) {r : ResultVar} {b : D} (h : resA1 tt st r = some b) :
    ∃ v, (rv a.tmps r).run P u = .ok v u ∧ VIs (nob w0.F) u b v := by
  cases r with
  | tmp t =>
    simp only [resA1] at h
    have hv := R.vals t
    split at h
    · rename_i b' hb
      rw [hb] at hv
      exact ⟨_, by simp [rv], handed_spec R.ws.bs h (R.ws.hid _) (R.ws.known _) hv⟩
    · cases h
  | cell x ty =>
    simp only [resA1] at h
    have hv := R.vals x
    split at h
    · rename_i n z b' e1 e2
      rw [e2] at hv
      split at h
      · rename_i m hm
        obtain ⟨c, q, vs, h1, h2, h3, h4⟩ := partOf_spec hm hv (R.ws.known _)
        obtain ⟨d, zs, by', k1, k2, k3, _⟩ := wide_ok hT e1
        refine ⟨.agg vs.toArray, ?_, handed_spec R.ws.bs h (R.ws.hid _) (R.ws.known _) (VIs.agg_iff.2 ⟨vs, rfl, h4⟩)⟩
        simp only [rv, Sem.run_bind, h1, asAddr, Sem.run_pure, Result.andThen_ok, run_loadVar_mid u c q ty vs d h2 k1 k2 (by rw [info_size k3, h3])]
      · cases h
    · rename_i z b' e0 e1 e2
      rw [e2] at hv
      split at h
      · rename_i y hm
        split at h
        · rename_i hy
          obtain ⟨c, q, vs, h1, h2, h3, h4⟩ := partOf_spec hm hv (R.ws.known _)
          obtain ⟨x1, x2, rfl, h5, h6⟩ := Cells.cons_iff.1 h4
          obtain rfl := Cells.nil_iff.1 h6
          obtain ⟨v, rfl, h7, h8⟩ := (LfIs.one_iff hy).1 h5
          obtain ⟨d, by', k1, k2, k3, _⟩ := one_ok hT e1
          refine ⟨v, ?_, handed_spec R.ws.bs h (R.ws.hid _) (R.ws.known _) h8⟩
          have hcell := h2 0 v rfl
          rw [Nat.add_zero] at hcell
          simp only [rv, Sem.run_bind, h1, asAddr, Sem.run_pure, Result.andThen_ok, run_loadCell k1 k2 hcell]
        · cases h
      · cases h
    · cases h
theorem resA_spec (hT : TTok P tt) {w0 : Start} {st : St} {E : Env} {a : Act} {u : World} (R : Rel w0 st E a u) : ∀ {l : List ResultVar} {bs : List D}, resA tt st l = some bs →
    ∃ vs, (l.mapM (rv a.tmps)).run P u = .ok vs u ∧ AllIs (nob w0.F) u bs vs
  | [], bs, h => by simp only [resA] at h; cases h; exact ⟨[], by simp, rfl⟩
  | r :: l, bs, h => by
    simp only [resA] at h
    split at h
    · rename_i b bs' h1 h2
      cases h
      obtain ⟨v, k1, k2⟩ := resA1_spec hT R h1
      obtain ⟨vs, k3, k4⟩ := resA_spec hT R h2
      refine ⟨v :: vs, ?_, v, vs, rfl, k2, k4⟩
      rw [List.mapM_cons]
      simp only [Sem.run_bind, Sem.run_pure]
      rw [k1]
      simp only [Result.andThen_ok]
      rw [k3]
      simp only [Result.andThen_ok]
    · cases h
theorem res_run (hT : TTok P tt) {w0 : Start} {st : St} {E : Env} {a : Act} {u : World} (R : Rel w0 st E a u) {fn : Func} {bs : List D} (h : resA tt st fn.results.toList = some bs) :
    ∃ v, (results fn a.tmps).run P u = .ok v u ∧ (oneOf bs).Is (nob w0.F) u v := by
  obtain ⟨vs, h1, h2⟩ := resA_spec hT R h
  have hm : (fn.results.mapM (rv a.tmps)).run P u = .ok vs.toArray u := by
    rw [← Array.toArray_toList (xs := fn.results), List.mapM_toArray, Sem.run_map, h1]
    rfl
  refine ⟨if h : vs.toArray.size = 1 then vs.toArray[0] else .tuple vs.toArray, ?_, ?_⟩
  · have e : results fn a.tmps = (do let vs ← fn.results.mapM (rv a.tmps); pure (if h : vs.size = 1 then vs[0] else .tuple vs)) := rfl
    rw [e, Sem.run_bind, hm]
    rfl
  · have hl := h2.len
    match bs, vs, h2, hl with
    | [b], [v], ⟨_, _, e, h3, _⟩, _ => cases e; exact h3
    | [], [], h, _ => exact ⟨[], by simp, h⟩
    | b1 :: b2 :: bs, v1 :: v2 :: vs, h, _ => exact ⟨_, by simp, h⟩
theorem init_is {E : Env} {xs : List D} {args : List Value} {w : World} {n : Nat} (h : AllIs E w xs args) (t : Nat) : (look (xs.map av1 ++ List.replicate n ⟨.inl (.map [])⟩) t).Is E w ((args.toArray ++ Array.replicate n undef).getD t undef) := by
  have hl := h.len
  unfold look
  by_cases ht : t < xs.length
  · rw [List.getElem?_append_left (by simpa using ht), List.getElem?_map, List.getElem?_eq_getElem ht]
    simp only [Option.map_some]
    obtain ⟨v, h1, h2⟩ := h.get (List.getElem?_eq_getElem ht)
    have hta : t < args.length := by omega
    have : (args.toArray ++ Array.replicate n undef).getD t undef = v := by
      rw [List.getElem?_eq_getElem hta] at h1
      simp [Array.getD, hta]
      rw [if_pos (by omega)]
      exact Option.some.inj h1
    rw [this]
    exact h2
  · rw [List.getElem?_append_right (by simpa using Nat.le_of_not_lt ht)]
    rw [List.getElem?_replicate]
    by_cases hh : t - (xs.map av1).length < n
    · rw [if_pos hh]; exact VIs.any
    · rw [if_neg hh]; exact VIs.any
/-- **A function's contract.** -/
theorem At.run (hT : TTok P tt) (hS : ∀ s ∈ S, SpecOk P s) (hm : P.follows .mixedOrders = true) {Lt : List LSpec} {f fuel : Nat} {fn : Func} {xs : List D} {hs : List Bool} {r : AV} {p : Prop} (hf : P.funcs[f]? = some fn) (ho : fnOk fn xs.length = true)
    (hL : ∀ c, fn.body = some c → ∀ s ∈ Lt, LOk P (xs.length + (fn.ntmps - xs.length)) (blocksOf c) s) (h : exF tt S Lt fuel fn xs hs = some (r, p)) (hp : p) : At P f xs r := by
  intro w args F hF ha
  unfold exF at h
  split at h
  · cases h
  · rename_i c hc
    have hl := ha.len
    have hk : regOk (xs.length + (fn.ntmps - xs.length)) c = true ∧ onceB (blocksOf c) = true := by
      unfold fnOk at ho
      rw [hc] at ho
      simpa using ho
    have hn : ∀ b, ¬ Start.K ⟨w, F, fun _ => none⟩ b := fun b ⟨_, h⟩ => (by cases h)
    have R : Rel ⟨w, F, fun _ => none⟩ ⟨xs.map av1 ++ List.replicate (fn.ntmps - xs.length) ⟨.inl (.map [])⟩, []⟩ (nob F) ⟨args.toArray ++ Array.replicate (fn.ntmps - args.toArray.size) undef, []⟩ w :=
      ⟨⟨rfl, fun b hb => ⟨hF b hb, hn b⟩, rfl, BelX.refl _ _ _, fun _ _ h => (by cases h), fun _ _ _ h => (by cases h), fun _ _ h => (by cases h), fun _ _ _ h => (by simp at h), fun _ h => (by cases h), fun _ _ h => (by cases h)⟩, by simp [hl], fun t => by have := init_is (n := fn.ntmps - xs.length) ha t; simpa [hl] using this, rfl⟩
    have hlen : (xs.map av1 ++ List.replicate (fn.ntmps - xs.length) (⟨.inl (.map [])⟩ : AV)).length = xs.length + (fn.ntmps - xs.length) := by simp
    split at h
    · rename_i st p1 he
      split at h
      · rename_i l hr
        cases h
        refine calls_of_wp hf hc ((exC_sound hT hS hm (hL c hc) (.inl fun _ => rfl) fuel).1 hlen hk.1 (onceB_spec hk.2) he hp R fun E' a' u' R' => ?_)
        obtain ⟨v, h1, h2⟩ := res_run hT R' hr
        exact ⟨R'.defers, v, h1, v, rfl, h2, R'.ws.bel.below hn⟩
      · cases h
    · rename_i st p1 he
      split at h
      · rename_i l hr
        cases h
        refine calls_of_wp hf hc ((exC_sound hT hS hm (hL c hc) (.inl fun _ => rfl) fuel).1 hlen hk.1 (onceB_spec hk.2) he hp R fun E' a' u' R' => ?_)
        obtain ⟨v, h1, h2⟩ := res_run hT R' hr
        exact ⟨R'.defers, v, h1, v, rfl, h2, R'.ws.bel.below hn⟩
      · cases h
    · cases h
/-- What a function that writes the box that its first argument leads to comes to; it has no results. -/
def endM (ty : TypeId) (st : St) (p : Prop) : Option (List D × Prop) := match (st.bx[0]? : Option Bx) with
  | some ⟨ty', l', none⟩ => match Nat.beq ty' ty && noXL all' l' with
    | true => some (l', p)
    | false => none
  | _ => none
def exM (tt : TT) (S : List Spec) (fuel : Nat) (fn : Func) (o : Nat) (ty : TypeId) (l xs : List D) (hs : List Bool) : Option (List D × Prop) := match fn.body, fn.results.toList with
  | some c, [] => match exC tt S [] fuel c ⟨av1 (.held (.inr (.inr (.inr (.inl (0, o)))))) :: (xs.map av1 ++ List.replicate (fn.ntmps - (xs.length + 1)) ⟨.inl (.map [])⟩), [⟨ty, l, none⟩]⟩ hs with
    | some (.ret, st, p, []) => endM ty st p
    | some (.normal, st, p, []) => endM ty st p
    | _ => none
  | _, _ => none
theorem endM_spec {ty : TypeId} {st : St} {p p' : Prop} {l' : List D} (h : endM ty st p = some (l', p')) : p = p' ∧ st.bx[0]? = some ⟨ty, l', none⟩ ∧ noXL all' l' = true := by
  unfold endM at h
  split at h
  · rename_i hb
    split at h
    · rename_i hk
      cases h
      rw [Bool.and_eq_true] at hk
      have := Nat.eq_of_beq_eq_true hk.1
      subst this
      exact ⟨rfl, hb, hk.2⟩
    · cases h
  · cases h
/-- **The contract of a function that writes a box.** -/
theorem MAt.run (hT : TTok P tt) (hS : ∀ s ∈ S, SpecOk P s) (hm : P.follows .mixedOrders = true) {f o fuel : Nat} {ty : TypeId} {fn : Func} {l xs l' : List D} {hs : List Bool} {p : Prop} (hf : P.funcs[f]? = some fn) (ho : fnOk fn (xs.length + 1) = true)
    (h : exM tt S fuel fn o ty l xs hs = some (l', p)) (hp : p) : MAt P f o ty l xs ⟨.inr []⟩ l' := by
  intro w args vs g F hF hFg hb hc ha
  unfold exM at h
  split at h
  case h_2 => cases h
  rename_i c hc0 hr0
  have hl := ha.len
  have hk : regOk ((xs.length + 1) + (fn.ntmps - (xs.length + 1))) c = true ∧ onceB (blocksOf c) = true := by
    unfold fnOk at ho
    rw [hc0] at ho
    simpa using ho
  obtain ⟨E, hE⟩ : ∃ E : Env, E = ⟨fun k => if k = 0 then some g else none, fun _ => undef, true, fun b => F b ∧ b ≠ g⟩ := ⟨_, rfl⟩
  have hβ : ∀ k g', E.β k = some g' → k = 0 ∧ g' = g := fun k g' h => by
    rw [hE] at h
    simp only at h
    split at h
    · cases h; exact ⟨by assumption, rfl⟩
    · cases h
  have hβ0 : E.β 0 = some g := by rw [hE]; rfl
  have t : Tr non (nob F) w E w := ⟨by rw [hE]; rfl, fun b hb => ⟨⟨hb.lt, fun h => hb.ge (by rw [hE] at h; exact h.1), fun k hk => hb.ge (by rw [(hβ k b hk).2]; exact hFg)⟩, rfl⟩, fun _ _ _ h => h, fun _ _ _ h => h, fun _ _ _ _ h => h, fun _ _ _ h => (by cases h), fun _ _ h => (by cases h)⟩
  have ha' : AllIs E w (.held (.inr (.inr (.inr (.inl (0, o))))) :: xs) (Value.pointer (some ⟨g, o, none⟩) :: args) := ⟨_, _, rfl, VIs.box_iff.2 ⟨by rw [hE], g, hβ0, rfl⟩, AllIs.tr t (noXD_non _) ha⟩
  have R : Rel ⟨w, fun b => F b ∧ b ≠ g, E.β⟩ ⟨av1 (.held (.inr (.inr (.inr (.inl (0, o)))))) :: (xs.map av1 ++ List.replicate (fn.ntmps - (xs.length + 1)) ⟨.inl (.map [])⟩), [⟨ty, l, none⟩]⟩ E ⟨(Value.pointer (some ⟨g, o, none⟩) :: args).toArray ++ Array.replicate (fn.ntmps - (Value.pointer (some ⟨g, o, none⟩) :: args).toArray.size) undef, []⟩ w := by
    refine ⟨⟨by rw [hE], fun b hb => ?_, by rw [hE], BelX.refl _ _ _, fun k g' h => .inr h, fun j k g' h1 h2 => by rw [(hβ j g' h1).1, (hβ k g' h2).1], fun k g' h => by rw [(hβ k g' h).1]; exact Nat.zero_lt_one, fun k b g' h1 h2 => ?_, fun k hk => (by rw [hE] at hk; cases hk), fun k g' h => ⟨h, ⟨ty, l, none⟩, by rw [(hβ k g' h).1]; rfl, rfl⟩⟩, by simp [hl]; omega, fun t => ?_, rfl⟩
    · rw [hE] at hb
      exact ⟨hF b hb.1, fun ⟨k, hk⟩ => hb.2 (hβ k b hk).2⟩
    · obtain ⟨rfl, rfl⟩ := hβ k g' h2
      simp at h1
      subst h1
      exact ⟨vs, hb, hc.tr t (noXL_non _)⟩
    · have := init_is (n := fn.ntmps - (xs.length + 1)) ha' t
      simpa [hl] using this
  have hlen : (av1 (.held (.inr (.inr (.inr (.inl (0, o)))))) :: (xs.map av1 ++ List.replicate (fn.ntmps - (xs.length + 1)) (⟨.inl (.map [])⟩ : AV))).length = (xs.length + 1) + (fn.ntmps - (xs.length + 1)) := by simp; omega
  have fin : ∀ {e st p1}, (e = .ret ∨ e = .normal) → exC tt S [] fuel c ⟨av1 (.held (.inr (.inr (.inr (.inl (0, o)))))) :: (xs.map av1 ++ List.replicate (fn.ntmps - (xs.length + 1)) ⟨.inl (.map [])⟩), [⟨ty, l, none⟩]⟩ hs = some (e, st, p1, []) → endM ty st p1 = some (l', p) →
      Calls P f (Value.pointer (some ⟨g, o, none⟩) :: args).toArray w fun e w' => ∃ v vs', e = .returned v ∧ AV.Is (nob F) w' ⟨.inr []⟩ v ∧ BelX (fun b => b = g) w.heap.size w w' ∧ Bk w' g ty vs' ∧ Cells (nob F) w' l' vs' := fun {e st p1} he hx hend => by
    obtain ⟨rfl, k1, k2⟩ := endM_spec hend
    refine calls_of_wp hf hc0 ((exC_sound hT hS hm (fun s hs => by cases hs) (.inr rfl) fuel).1 hlen hk.1 (onceB_spec hk.2) hx hp R fun E' a' u' R' => ?_)
    obtain ⟨v, h1, h2⟩ := res_run hT R' (fn := fn) (bs := []) (by rw [hr0]; rfl)
    obtain ⟨q1, _⟩ := R'.ws.root 0 g hβ0
    obtain ⟨vs', q2, q3⟩ := R'.ws.cont 0 _ g k1 q1
    have goal : ∃ v, (results fn a'.tmps).run P u' = .ok v u' ∧ ∃ v' vs', Ending.returned v = Ending.returned v' ∧ AV.Is (nob F) u' ⟨.inr []⟩ v' ∧ BelX (fun b => b = g) w.heap.size w u' ∧ Bk u' g ty vs' ∧ Cells (nob F) u' l' vs' := by
      refine ⟨v, h1, v, vs', rfl, h2, ⟨R'.ws.bel.os, R'.ws.bel.tape, R'.ws.bel.output, R'.ws.bel.size, fun b hb hne => R'.ws.bel.block b hb fun ⟨k, hk⟩ => hne (hβ k b hk).2⟩, q2, cells_unname (fun b hO => ⟨hO.lt, fun h => ?_, fun _ e => (by cases e)⟩) k2 q3⟩
      by_cases e : b = g
      · exact hO.no 0 (by rw [e]; exact q1)
      · exact hO.ge (by rw [R'.ws.F]; exact ⟨h, e⟩)
    rcases he with rfl | rfl
    · exact ⟨R'.defers, goal⟩
    · exact ⟨R'.defers, goal⟩
  split at h
  · rename_i st p1 he
    exact fin (.inl rfl) he h
  · rename_i st p1 he
    exact fin (.inr rfl) he h
  · cases h
end
end Go.Proofs.YtbobhhnhlgdkiaaGreat.Sy
