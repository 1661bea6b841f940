/- Operations one behind the other. -/
import Derived.Test.YtbobhhnhlgdkiaaGreatJH
namespace Go.Proofs.YtbobhhnhlgdkiaaGreat.Sy
open Go Go.RowKit M Kahn
set_option maxRecDepth 100000

/-- What is known: of each slot, of each box. -/
structure St where
  tm : List AV
  bx : List Bx
def look (tm : List AV) (t : Nat) : AV := match tm[t]? with
  | some a => a
  | none => ⟨.inl (.map [])⟩
def putT (tm : List AV) (d : Option Nat) (a : AV) : List AV := match d with
  | some d => tm.set d a
  | none => tm
structure Rel (w0 : Start) (st : St) (E : Env) (a : Act) (u : World) : Prop where
  ws : WS w0 st.bx E u
  size : a.tmps.size = st.tm.length
  vals : ∀ t, (look st.tm t).Is E u (a.tmps.getD t undef)
  defers : a.defers = []
theorem put_is {tm : List AV} {E : Env} {u : World} {a : Act} {d : Option Nat} {av : AV} {v : Value} (hs : a.tmps.size = tm.length) (hv : ∀ t, (look tm t).Is E u (a.tmps.getD t undef)) (hi : av.Is E u v) :
    (a.put d v).tmps.size = (putT tm d av).length ∧ ∀ t, (look (putT tm d av) t).Is E u ((a.put d v).tmps.getD t undef) := by
  cases d with
  | none => exact ⟨hs, hv⟩
  | some d =>
    refine ⟨by rw [put_size]; simp [putT, hs], fun t => ?_⟩
    unfold look putT
    by_cases hd : d < tm.length
    · by_cases ht : d = t
      · subst ht
        rw [put_get_eq _ _ (by rw [hs]; exact hd)]
        simp only [List.getElem?_set_self hd]
        exact hi
      · rw [put_get_ne _ _ (fun h => ht (by cases h; rfl))]
        simp only [List.getElem?_set_ne ht]
        exact hv t
    · have : (tm.set d av)[t]? = tm[t]? := by rw [List.set_eq_of_length_le (by omega)]
      simp only [this]
      by_cases ht : d = t
      · subst ht
        rw [List.getElem?_eq_none (by omega)]
        exact VIs.any
      · rw [put_get_ne _ _ (fun h => ht (by cases h; rfl))]
        exact hv t
/-- The row of box k is named no more. -/
def kill1 (k : Nat) : D → D
  | .held (.inr (.inr (.inl j))) => match Nat.beq j k with
    | true => .map []
    | false => .held (.inr (.inr (.inl j)))
  | .held (.inr (.inr (.inr (.inl (j, o))))) => match Nat.beq j k with
    | true => .map []
    | false => .held (.inr (.inr (.inr (.inl (j, o)))))
  | .held (.inr (.inr (.inr (.inr (j, i, n, o))))) => match Nat.beq j k with
    | true => .map []
    | false => .held (.inr (.inr (.inr (.inr (j, i, n, o)))))
  | x => x
def killL (k : Nat) : List D → List D
  | [] => []
  | x :: l => kill1 k x :: killL k l
def killV (k : Nat) : D → D
  | .agg ps => .agg (killL k ps)
  | x => kill1 k x
def killD (k : Nat) : List D → List D
  | [] => []
  | x :: l => killV k x :: killD k l
def killA (k : Nat) : AV → AV
  | ⟨.inl b⟩ => ⟨.inl (killV k b)⟩
  | ⟨.inr l⟩ => ⟨.inr (killD k l)⟩
def killT (k : Nat) : List AV → List AV
  | [] => []
  | a :: l => killA k a :: killT k l
def killX (k : Nat) : Bx → Bx
  | ⟨ty, l, none⟩ => ⟨ty, killL k l, none⟩
  | b => b
def killB (k : Nat) : List Bx → List Bx
  | [] => []
  | b :: l => killX k b :: killB k l
def at' (k : Nat) : Nat → Bool := fun j => Nat.beq j k
section
variable {E : Env} {u : World} {k : Nat}
theorem kill1_no (x : D) : noX (at' k) (kill1 k x) = true := by
  unfold kill1
  split
  · split
    · rfl
    · rename_i h; simp only [noX, at', h]; rfl
  · split
    · rfl
    · rename_i h; simp only [noX, at', h]; rfl
  · split
    · rfl
    · rename_i h; simp only [noX, at', h]; rfl
  · rename_i h1 h2 h3
    unfold noX
    split
    · exact absurd rfl (h1 _)
    · exact absurd rfl (h2 _ _)
    · exact absurd rfl (h3 _ _ _ _)
    · rfl
theorem kill1_is {x : D} {v : Value} (h : VIs E u x v) : VIs E u (kill1 k x) v := by
  unfold kill1
  split <;> first | (split <;> first | exact VIs.any | exact h) | exact h
theorem kill1_one {x : D} (h : one x = true) : one (kill1 k x) = true := by
  unfold kill1
  split <;> first | (split <;> rfl) | exact h
theorem kill1_leaf {x : D} {vs : List Value} (h : LfIs E u x vs) : LfIs E u (kill1 k x) vs := by
  by_cases hx : one x = true
  · obtain ⟨v, e1, e2, e3⟩ := (LfIs.one_iff hx).1 h
    exact (LfIs.one_iff (kill1_one hx)).2 ⟨v, e1, e2, kill1_is e3⟩
  · unfold one at hx
    split at hx
    · exact h
    · exact absurd rfl hx
theorem killL_no : ∀ l : List D, noXL (at' k) (killL k l) = true
  | [] => rfl
  | x :: l => by rw [killL, noXL, kill1_no, killL_no l]; rfl
theorem killL_is : ∀ {l : List D} {vs : List Value}, Cells E u l vs → Cells E u (killL k l) vs
  | [], _, h => h
  | x :: l, _, h => by
    obtain ⟨a, b, e, h1, h2⟩ := Cells.cons_iff.1 h
    exact Cells.cons_iff.2 ⟨a, b, e, kill1_leaf h1, killL_is h2⟩
theorem killV_no (x : D) : noXV (at' k) (killV k x) = true := by
  unfold killV
  split
  · exact killL_no _
  · rename_i h
    have h1 := kill1_no (k := k) x
    have : ∀ ps, kill1 k x ≠ .agg ps := by
      intro ps e
      unfold kill1 at e
      split at e <;> first | (split at e <;> cases e) | (subst e; exact h _ rfl)
    unfold noXV
    split
    · rename_i e; exact absurd e (this _)
    · exact h1
theorem killV_is {x : D} {v : Value} (h : VIs E u x v) : VIs E u (killV k x) v := by
  unfold killV
  split
  · obtain ⟨vs, e, hc⟩ := VIs.agg_iff.1 h
    exact VIs.agg_iff.2 ⟨vs, e, killL_is hc⟩
  · exact kill1_is h
theorem killD_no : ∀ l : List D, noXD (at' k) (killD k l) = true
  | [] => rfl
  | x :: l => by rw [killD, noXD, killV_no, killD_no l]; rfl
theorem killD_is : ∀ {l : List D} {vs : List Value}, AllIs E u l vs → AllIs E u (killD k l) vs
  | [], _, h => h
  | _ :: _, _, ⟨v, r, e, h1, h2⟩ => ⟨v, r, e, killV_is h1, killD_is h2⟩
theorem killA_no : ∀ a : AV, noXA (at' k) (killA k a) = true
  | ⟨.inl _⟩ => killV_no _
  | ⟨.inr _⟩ => killD_no _
theorem killA_is : ∀ {a : AV} {v : Value}, a.Is E u v → (killA k a).Is E u v
  | ⟨.inl _⟩, _, h => killV_is h
  | ⟨.inr _⟩, _, ⟨vs, e, h⟩ => ⟨vs, e, killD_is h⟩
theorem killT_get : ∀ {l : List AV} {t : Nat}, look (killT k l) t = killA k (look l t)
  | [], t => rfl
  | a :: l, 0 => rfl
  | a :: l, t + 1 => by
    have := killT_get (l := l) (t := t)
    unfold look at this ⊢
    simpa [killT] using this
theorem killT_len : ∀ l : List AV, (killT k l).length = l.length
  | [] => rfl
  | _ :: l => by rw [killT, List.length_cons, List.length_cons, killT_len l]
theorem killX_row : ∀ b : Bx, (killX k b).row = b.row ∧ (killX k b).ty = b.ty
  | ⟨_, _, none⟩ => ⟨rfl, rfl⟩
  | ⟨_, _, some _⟩ => ⟨rfl, rfl⟩
theorem killX_no : ∀ {b : Bx}, b.row = none → noXL (at' k) (killX k b).l = true
  | ⟨_, _, none⟩, _ => killL_no _
  | ⟨_, _, some _⟩, h => by cases h
theorem killX_same : ∀ {b : Bx} {n : Nat}, b.row = some n → killX k b = b
  | ⟨_, _, none⟩, _, h => by cases h
  | ⟨_, _, some _⟩, _, _ => rfl
theorem killX_is {j g : Nat} : ∀ {b : Bx}, Holds E u b j g → Holds E u (killX k b) j g
  | ⟨_, _, none⟩, ⟨vs, h1, h2⟩ => ⟨vs, h1, killL_is h2⟩
  | ⟨_, _, some _⟩, h => h
theorem killB_get : ∀ {l : List Bx} {j : Nat}, (killB k l)[j]? = (l[j]?).map (killX k)
  | [], _ => rfl
  | _ :: _, 0 => rfl
  | _ :: l, j + 1 => by simpa [killB] using killB_get (l := l) (j := j)
theorem killB_len : ∀ l : List Bx, (killB k l).length = l.length
  | [] => rfl
  | _ :: l => by rw [killB, List.length_cons, List.length_cons, killB_len l]
theorem WS.kill {w0 : Start} {bx : List Bx} (h : WS w0 bx E u) : WS w0 (killB k bx) E u :=
  ⟨h.nm, h.old, h.F, h.bel, h.low, h.inj, fun j g hj => by rw [killB_len]; exact h.dom j g hj, fun j b g hb hj => by
    rw [killB_get, Option.map_eq_some_iff] at hb
    obtain ⟨b0, h1, rfl⟩ := hb
    exact killX_is (h.cont j b0 g h1 hj), fun j hj => by
    obtain ⟨b, n, h1, h2, h3⟩ := h.row j hj
    exact ⟨b, n, by rw [killB_get, h1, Option.map_some, killX_same h2], h2, h3⟩, fun j g hj => by
    obtain ⟨r1, b, r2, r3⟩ := h.root j g hj
    exact ⟨r1, killX k b, by rw [killB_get, r2, Option.map_some], by rw [(killX_row b).1]; exact r3⟩⟩
end
def newRef (n : Nat) (b : Bx) : D := match b.row with
  | none => .held (.inr (.inr (.inr (.inl (n, 0)))))
  | some _ => .held (.inr (.inr (.inl n)))
/-- What an operation makes of what is known. -/
def app (st : St) (d : Option Nat) : Eff → Option St
  | ⟨.inl a⟩ => some ⟨putT st.tm d a, st.bx⟩
  | ⟨.inr (.inl b)⟩ => some ⟨putT st.tm d ⟨.inl (newRef st.bx.length b)⟩, st.bx ++ [b]⟩
  | ⟨.inr (.inr (.inl (k, l)))⟩ => match st.bx[k]? with
    | some x => some ⟨putT st.tm d ⟨.inl (.map [])⟩, st.bx.set k ⟨x.ty, l, x.row⟩⟩
    | none => none
  | ⟨.inr (.inr (.inr (k, b)))⟩ => match Nat.blt k st.bx.length with
    | true => some ⟨putT (killT k st.tm) d ⟨.inl (.held (.inr (.inr (.inl k))))⟩, (killB k st.bx).set k b⟩
    | false => some ⟨putT st.tm d ⟨.inl (.held (.inr (.inr (.inl k))))⟩, st.bx ++ [b]⟩
theorem app_spec {w0 : Start} {st st' : St} {E : Env} {a : Act} {u u' : World} {d : Option Nat} {e : Eff} {v : Value} (r : Rel w0 st E a u) (h : app st d e = some st') (he : EffR E st.bx u e v u') : ∃ E', Rel w0 st' E' (a.put d v) u' := by
  have hdf : (a.put d v).defers = [] := by cases d <;> exact r.defers
  obtain ⟨av | b | ⟨k, l⟩ | ⟨k, b⟩⟩ := e
  · simp only [app] at h; cases h
    obtain ⟨h1, h2⟩ := he
    obtain ⟨k1, k2⟩ := put_is (d := d) r.size (fun t => (r.vals t).go (Tr.later h1)) h2
    exact ⟨E, r.ws.later h1, k1, k2, hdf⟩
  · simp only [app] at h; cases h
    obtain ⟨cs, rfl, hb⟩ := he
    obtain ⟨hn, hg⟩ := r.ws.fresh (Nat.le_refl st.bx.length)
    have L := Laid.alloc (E := E) (k := st.bx.length) (u := u) (.cells cs.toArray b.ty)
    obtain ⟨vv, hvv, hval⟩ : ∃ vv, (plain vv = true → ∃ n, b.row = some n) ∧ (VIs (E.lay st.bx.length (some u.heap.size) vv) (u.alloc (.cells cs.toArray b.ty)) (newRef st.bx.length b) v) ∧ ((E.lay st.bx.length (some u.heap.size) vv).nm = true → Holds (E.lay st.bx.length (some u.heap.size) vv) (u.alloc (.cells cs.toArray b.ty)) b st.bx.length u.heap.size) := by
      have t := fun vv => Tr.laid (X := non) (v := vv) L (fun g hg => by rw [hn] at hg; cases hg) (.inr ⟨.inl hn, .inl hg⟩)
      cases hr : b.row with
      | none =>
        rw [hr] at hb
        obtain ⟨rfl, hc⟩ := hb
        refine ⟨undef, nofun, ?_, fun _ => ?_⟩
        · unfold newRef; rw [hr]
          exact VIs.box_iff.2 ⟨r.ws.nm, _, lay_b _ _ _ _, rfl⟩
        · unfold Holds; rw [hr]
          exact ⟨cs, Bk.alloc _ _ _, hc.tr (t _) (noXL_non _)⟩
      | some n =>
        rw [hr] at hb
        obtain ⟨rfl, hc, hw, hl⟩ := hb
        refine ⟨.slice (some ⟨u.heap.size, 0, none⟩) b.l.length b.l.length, fun _ => ⟨n, rfl⟩, ?_, fun _ => ?_⟩
        · unfold newRef; rw [hr]
          exact VIs.row_iff.2 ⟨r.ws.nm, (lay_g _ _ _ _).symm, by rw [lay_g]; rfl⟩
        · unfold Holds; rw [hr]
          refine ⟨hw, cs, ⟨[], b.l.length, by rw [List.append_nil]; exact Bk.alloc _ _ _, ?_, els_len hw hc, Nat.le_refl _, hl, nofun, lay_g _ _ _ _⟩, hc.tr (t _)⟩
          rw [List.append_nil]; exact els_len hw hc
    have t := Tr.laid (X := non) (v := vv) L (fun g hg => by rw [hn] at hg; cases hg) (.inr ⟨.inl hn, .inl hg⟩)
    have W := (r.ws.more [b]).laid (X := non) (b' := b) L t (fun _ _ => rfl) (by simp) (fun g hg => by cases hg; exact hval.2 r.ws.nm) (fun _ _ _ _ _ => noXL_non _) (fun hp => ⟨hvv hp, nofun⟩) (fun g hg => absurd hg (r.ws.noroot (.inl (Nat.le_refl _)) g))
    rw [show (st.bx ++ [b]).set st.bx.length b = st.bx ++ [b] from by simp] at W
    obtain ⟨k1, k2⟩ := put_is (d := d) (av := ⟨.inl (newRef st.bx.length b)⟩) r.size (fun t' => (r.vals t').go t) hval.1
    exact ⟨_, W, k1, k2, hdf⟩
  · obtain ⟨g, x, h1, h2, h3, h4⟩ := he
    simp only [app, h2] at h; cases h
    have t := Tr.store r.ws h1 h3
    obtain ⟨k1, k2⟩ := put_is (d := d) (av := ⟨.inl (.map [])⟩) (v := v) r.size (fun t' => (r.vals t').go t) VIs.any
    refine ⟨E, r.ws.store h1 h2 rfl h3 ?_, k1, k2, hdf⟩
    unfold Holds
    cases hr : x.row with
    | none =>
      rw [hr] at h4
      obtain ⟨ys, e1, e2⟩ := h4
      exact ⟨ys, e1, e2.tr t (noXL_non _)⟩
    | some n =>
      rw [hr] at h4
      obtain ⟨hw, ys, e1, e2⟩ := h4
      exact ⟨hw, ys, e1, e2.tr t⟩
  · obtain ⟨hk, og, n, L, hrow, hpl, hw, h1, h2⟩ := he
    have hold : ∀ (W : WS w0 st.bx E u) (vv : Value) (X : Nat → Bool), vv = v → Tr X E u (E.lay k og vv) u' → ∀ g, og = some g → Holds (E.lay k og vv) u' b k g := by
      intro W vv X e t g hg
      subst e
      unfold Holds
      rw [hrow]
      obtain ⟨ws, e1, e2⟩ := h1 g hg
      exact ⟨hw, ws, by rw [lay_g]; exact e1, e2.tr t⟩
    have val : VIs (E.lay k og v) u' (.held (.inr (.inr (.inl k)))) v := VIs.row_iff.2 ⟨r.ws.nm, (lay_g _ _ _ _).symm, by rw [lay_g]; exact hpl⟩
    simp only [app] at h
    split at h
    · rename_i hlt
      cases h
      have hlt : k < st.bx.length := Nat.le_of_ble_eq_true hlt
      have t := Tr.laid (X := at' k) (v := v) L (fun g hg => r.ws.bk hg) (.inl (Nat.beq_refl k))
      have W := (r.ws.kill (k := k)).laid (X := at' k) (b' := b) L t (fun j hj => by
        unfold at'
        cases e : Nat.beq j k with
        | false => rfl
        | true => exact absurd (Nat.eq_of_beq_eq_true e) hj) (by rw [killB_len]; exact hlt) (hold r.ws v _ rfl t) (fun j b0 _ hb hr => by
        rw [killB_get, Option.map_eq_some_iff] at hb
        obtain ⟨b1, _, rfl⟩ := hb
        exact killX_no (by rw [← (killX_row b1).1]; exact hr)) (fun _ => ⟨⟨n, hrow⟩, h2⟩) (fun g hg => absurd hg (r.ws.noroot (by
        rcases hk with h | ⟨b0, n0, h, h'⟩
        · exact .inl (Nat.le_of_eq h.symm)
        · exact .inr ⟨b0, n0, h, h'⟩) g))
      obtain ⟨k1, k2⟩ := put_is (tm := killT k st.tm) (d := d) (av := ⟨.inl (.held (.inr (.inr (.inl k))))⟩) (by rw [killT_len]; exact r.size) (fun t' => by
        rw [killT_get]
        exact (killA_is (r.vals t')).tr t (killA_no _)) val
      exact ⟨_, W, k1, k2, hdf⟩
    · rename_i hlt
      cases h
      have hlt : ¬ k < st.bx.length := fun h => by
        have : Nat.blt k st.bx.length = true := Nat.ble_eq_true_of_le h
        rw [this] at hlt; cases hlt
      have hk : k = st.bx.length := by
        rcases hk with h | ⟨b0, n0, h, _⟩
        · exact h
        · exact absurd (List.getElem?_eq_some_iff.1 h).1 hlt
      subst hk
      obtain ⟨hn, hg⟩ := r.ws.fresh (Nat.le_refl st.bx.length)
      have t := Tr.laid (X := non) (v := v) L (fun g hg => r.ws.bk hg) (.inr ⟨.inl hn, .inl hg⟩)
      have W := (r.ws.more [b]).laid (X := non) (b' := b) L t (fun _ _ => rfl) (by simp) (hold r.ws v _ rfl t) (fun _ _ _ _ _ => noXL_non _) (fun _ => ⟨⟨n, hrow⟩, h2⟩) (fun g hg => absurd hg (r.ws.noroot (.inl (Nat.le_refl _)) g))
      rw [show (st.bx ++ [b]).set st.bx.length b = st.bx ++ [b] from by simp] at W
      obtain ⟨k1, k2⟩ := put_is (d := d) (av := ⟨.inl (.held (.inr (.inr (.inl st.bx.length))))⟩) r.size (fun t' => (r.vals t').go t) val
      exact ⟨_, W, k1, k2, hdf⟩
end Go.Proofs.YtbobhhnhlgdkiaaGreat.Sy

/- Operations one behind the other: what they come to. -/
namespace Go.Proofs.YtbobhhnhlgdkiaaGreat.Sy
open Go Go.RowKit M Kahn
set_option maxRecDepth 100000

/-- Is an operation wanted? By the value of the one that guards it. -/
def want : AV → Bool → Option Bool
  | ⟨.inl (.held (.inr (.inl (.bool true))))⟩, true => some true
  | ⟨.inl (.held (.inr (.inl (.bool true))))⟩, false => some false
  | ⟨.inl (.held (.inr (.inl (.bool false))))⟩, true => some false
  | ⟨.inl (.held (.inr (.inl (.bool false))))⟩, false => some true
  | ⟨.inl (.held (.inr (.inl (.tuple _))))⟩, _ => some false
  | _, _ => none
theorem want_spec {E : Env} {u : World} {a : AV} {b c : Bool} {v : Value} (h : want a b = some c) (hi : a.Is E u v) : c = true ↔ v = .bool b := by
  unfold want at h
  split at h <;> cases h <;> have hi := VIs.val_iff.1 hi <;> subst hi <;> simp
def wantO (ops : List Oper) (tm : List AV) : Option (Nat × Bool) → Option Bool
  | none => some true
  | some (g, b) => match ops[g]? with
    | some o => match o.dst with
      | some d => want (look tm d) b
      | none => none
    | none => none
theorem wantO_spec {ops : List Oper} {st : St} {w0 : Start} {E : Env} {a : Act} {u : World} {o : Oper} {c : Bool} (r : Rel w0 st E a u) (h : wantO ops st.tm o.guard = some c) (hd : ∀ g b og d, o.guard = some (g, b) → ops[g]? = some og → og.dst = some d → d < st.tm.length) : Region.wanted o (yielded ops.toArray a.tmps) = c := by
  unfold wantO at h
  unfold Region.wanted
  split at h
  · rename_i hg; cases h; rw [hg]
  · rename_i g b hg
    rw [hg]
    split at h
    · rename_i og hog
      split at h
      · rename_i d hdst
        have hdl := hd g b og d hg hog hdst
        have hs := want_spec h (r.vals d)
        have hy : yielded ops.toArray a.tmps g = some b ↔ a.tmps.getD d undef = .bool b := by
          unfold yielded
          simp only [List.getElem?_toArray, hog, Option.bind_some, hdst]
          rw [getD_some (a := a) (by rw [r.size]; exact hdl)]
          cases a.tmps.getD d undef <;> simp
        cases c with
        | true => simp [hy.2 (hs.1 rfl)]
        | false =>
          have : yielded ops.toArray a.tmps g ≠ some b := fun h' => by have := hs.2 (hy.1 h'); cases this
          simp [this]
      · cases h
    · cases h
def dstOk (n : Nat) (ops : List Oper) : Bool := ops.all fun o => match o.dst with
  | some d => Nat.blt d n
  | none => true
theorem dstOk_spec {n : Nat} {ops : List Oper} (h : dstOk n ops = true) {i : Nat} {o : Oper} {d : Nat} (ho : ops[i]? = some o) (hd : o.dst = some d) : d < n := by
  have := List.all_eq_true.1 h o (List.mem_of_getElem? ho)
  simp only [hd] at this
  exact Nat.le_of_ble_eq_true this
/-- Is it none of these? -/
def notIn (k : Nat) : List Nat → Bool
  | [] => true
  | j :: l => match Nat.beq j k with
    | true => false
    | false => notIn k l
theorem notIn_spec {k : Nat} : ∀ {l : List Nat}, notIn k l = true → ¬ k ∈ l
  | [], _, h => (by cases h)
  | j :: l, h, hk => by
    simp only [notIn] at h
    split at h
    · cases h
    · rename_i e
      rcases List.mem_cons.1 hk with rfl | hk
      · rw [Nat.beq_refl] at e; cases e
      · exact notIn_spec h hk
/-- A call of a function that writes the box that its first argument leads to. -/
def stepW (S : List Spec) (st : St) (hs : List Bool) (d : Option Nat) : Op → Option (St × Prop × List Bool)
  | .call ⟨.value (.func f), xs, _⟩ => match find S f, xs.toList with
    | some s, x :: ys => match rdO (look st.tm) x, args (rdO (look st.tm)) ys with
      | ⟨.inl (.held (.inr (.inr (.inr (.inl (k, o))))))⟩, some bs => match st.bx[k]?, handedL st.bx bs with
        | some ⟨ty, l, none⟩, some cs => match s.mem o ty l cs with
          | some (r, l', p) => match noXL all' l && (noXL all' l' && (noXA all' r && (notIn k (boxesOf (rdO (look st.tm)) ys) && (isNil (boxesOf (rdO (look st.tm)) ys) || (flatL l' && r.flat))))), tell r hs with
            | true, some (r', p', hs') => some (⟨putT st.tm d r', st.bx.set k ⟨ty, l', none⟩⟩, p ∧ p', hs')
            | _, _ => none
          | none => none
        | _, _ => none
      | _, _ => none
    | _, _ => none
  | _ => none
/-- One operation. -/
def step (tt : TT) (S : List Spec) (ops : List Oper) (st : St) (hs : List Bool) (o : Oper) : Option (St × Prop × List Bool) := match wantO ops st.tm o.guard with
  | some true => match ev tt S (rdO (look st.tm)) st.bx hs o.op with
    | some (e, p, hs') => match app st o.dst e with
      | some st' => some (st', p, hs')
      | none => none
    | none => stepW S st hs o.dst o.op
  | some false => some (⟨putT st.tm o.dst (⟨.inl (.held (.inr (.inl undef)))⟩), st.bx⟩, True, hs)
  | none => none
def run (tt : TT) (S : List Spec) (ops : List Oper) : List Oper → St → List Bool → Option (St × Prop × List Bool)
  | [], st, hs => some (st, True, hs)
  | o :: l, st, hs => match step tt S ops st hs o with
    | some (st', p, hs') => match run tt S ops l st' hs' with
      | some (st'', p', hs'') => some (st'', p ∧ p', hs'')
      | none => none
    | none => none
section
variable {P : Program} {tt : TT} {S : List Spec} {ops : List Oper} {w0 : Start} {Q : Exit → Act → World → Prop}
theorem rd_is {tm : List AV} {E : Env} {u : World} {a : Act} (hv : ∀ t, (look tm t).Is E u (a.tmps.getD t undef)) : ∀ x : Operand, (rdO (look tm) x).Is E u (a.eval x)
  | .tmp t => hv t
  | .const _ => VIs.val_iff.2 rfl
  | .global _ => VIs.any
  | .func _ => VIs.any
theorem app_len {st st' : St} {d : Option Nat} {e : Eff} (h : app st d e = some st') : st'.tm.length = st.tm.length := by
  have hp : ∀ tm a, (putT tm d a).length = tm.length := fun tm a => by cases d <;> simp [putT]
  obtain ⟨a | b | ⟨k, l⟩ | ⟨k, b⟩⟩ := e
  · simp only [app] at h; cases h; exact hp _ _
  · simp only [app] at h; cases h; exact hp _ _
  · simp only [app] at h
    split at h
    · cases h; exact hp _ _
    · cases h
  · simp only [app] at h
    split at h
    · cases h; simp only [hp, killT_len]
    · cases h; exact hp _ _
theorem stepW_len {st st' : St} {hs hs' : List Bool} {d : Option Nat} {op : Op} {p : Prop} (h : stepW S st hs d op = some (st', p, hs')) : st'.tm.length = st.tm.length := by
  unfold stepW at h
  repeat' split at h
  all_goals first | cases h | skip
  all_goals (cases d <;> simp [putT])
theorem cells_unname {E F : Env} {u : World} (ho : ∀ b, Out E u b → Out F u b) {l : List D} {vs : List Value} (hx : noXL all' l = true) (h : Cells E u l vs) : Cells F u l vs := by
  obtain ⟨ws, e, h'⟩ := VIs.agg_iff.1 (VIs.unname_to (F := F) ho (x := .agg l) (v := .agg vs.toArray) hx (VIs.agg_iff.2 ⟨vs, rfl, h⟩))
  have : vs = ws := by simpa using e
  rw [this]; exact h'
theorem cells_flat {E F : Env} {u : World} {l : List D} {vs : List Value} (hx : flatL l = true) (h : Cells E u l vs) : Cells F u l vs := by
  obtain ⟨ws, e, h'⟩ := VIs.agg_iff.1 (VIs.flat_to (F := F) (x := .agg l) (v := .agg vs.toArray) hx (VIs.agg_iff.2 ⟨vs, rfl, h⟩))
  have : vs = ws := by simpa using e
  rw [this]; exact h'
theorem stepW_sound (hS : ∀ s ∈ S, SpecOk P s) {o : Oper} {st st' : St} {hs hs' : List Bool} {p : Prop} {E : Env} {a : Act} {u : World} (R : Rel w0 st E a u) (h : stepW S st hs o.dst o.op = some (st', p, hs')) (hp : p) : Goes P o a.eval u fun v u' => Rel w0 st' E (a.put o.dst v) u' := by
  generalize ho : o.op = op at h
  unfold stepW at h
  split at h
  case h_2 => cases h
  rename_i f xs ts
  split at h
  case h_2 => cases h
  rename_i s x ys h1 h2
  obtain ⟨hm, he⟩ := find_spec h1
  subst he
  split at h
  case h_2 => cases h
  rename_i k q bs h3 h4
  split at h
  case h_2 => cases h
  rename_i ty l cs h5 h6
  split at h
  case h_2 => cases h
  rename_i r l' p1 h7
  split at h
  case h_2 => cases h
  rename_i r' p2 hs2 h8 h9
  cases h
  simp only [Bool.and_eq_true, Bool.or_eq_true] at h8
  obtain ⟨n1, n2, n3, n4, n5⟩ := h8
  have hx := rd_is R.vals x
  rw [h3] at hx
  obtain ⟨_, g, hg, hv⟩ := VIs.box_iff.1 hx
  obtain ⟨vs, b1, b2⟩ := R.ws.cont k _ g h5 hg
  have B := R.ws.bs
  obtain ⟨c1, _, c3⟩ := hS s hm
  obtain ⟨F, hF⟩ : ∃ F : Nat → Prop, F = fun b => E.F b ∨ ∃ j, E.β j = some b ∧ ¬ j ∈ boxesOf (rdO (look st.tm)) ys := ⟨_, rfl⟩
  have hid : Hid' E u (boxesOf (rdO (look st.tm)) ys) F := by
    rw [hF]
    exact ⟨fun b hb h => by
      rcases h with h | ⟨k, h, _⟩
      · exact hb.ge h
      · exact hb.no k h, fun k hk g hg h => by
      rcases h with h | ⟨j, h, hj⟩
      · exact (B.old g h).2 k hg
      · exact hj (by rw [B.inj j k g h hg]; exact hk)⟩
  have hsub : ∀ x ∈ bs, ∀ k ∈ boxOf x, k ∈ boxesOf (rdO (look st.tm)) ys := fun x hx k hk => boxesOf_args h4 x hx k hk
  have hFg : F g := by rw [hF]; exact .inr ⟨k, hg, notIn_spec n4⟩
  have hlt : ∀ b, F b → b < u.heap.size := fun b h => by
    rw [hF] at h
    rcases h with h | ⟨k, h, _⟩
    · exact (B.old b h).1
    · exact B.lt k b h
  have out : ∀ b, Out E u b → Out (nob F) u b := fun b hb => ⟨hb.lt, hid.out b hb, fun _ e => (by cases e)⟩
  have key := c3 q ty l cs r l' p1 h7 hp.1 u (ys.map a.eval) vs g F hlt hFg b1 (cells_unname out n1 b2) (handedL_spec B h6 (fun x hx => hid.sub (hsub x hx)) (fun x hx j hj => fun b g h1 h2 => R.ws.cont j b g h1 h2) (args_spec h4 fun x _ => rd_is R.vals x))
  have hxs : (Value.pointer (some ⟨g, q, none⟩) :: ys.map a.eval).toArray = xs.map a.eval := by
    apply Array.ext'
    simp [h2, hv]
  rw [hxs] at key
  refine Goes.call s.f (xs.map a.eval) ?_ (Calls.mono key ?_)
  · unfold execOp
    simp [ho, resolve, Act.eval, Deferred.ofValue, invoke, c1]
  rintro e w' ⟨v, vs', rfl, k1, k2, k3, k4⟩
  refine ⟨v, rfl, ?_⟩
  have L : Laid E u w' k (some g) := ⟨k2.os, k2.tape, k2.output, k2.size, fun b hb hne => k2.block b hb fun e => hne (by rw [e]; exact hg), fun g' e => by cases e; exact .inl hg⟩
  have t := Tr.put R.ws hg L
  have back : isNil (boxesOf (rdO (look st.tm)) ys) = true → ∀ b, Out (nob F) w' b → Out E w' b := fun hn b hb => by
    have he : boxesOf (rdO (look st.tm)) ys = [] := by
      unfold isNil at hn
      split at hn
      · assumption
      · cases hn
    have hge := hb.ge
    rw [hF] at hge
    exact ⟨hb.lt, fun h => hge (.inl h), fun j h => hge (.inr ⟨j, h, by rw [he]; exact List.not_mem_nil⟩)⟩
  have hc : Cells E w' l' vs' := by
    rcases n5 with n5 | n5
    · exact cells_unname (back n5) n2 k4
    · exact cells_flat n5.1 k4
  have hr : r.Is E w' v := by
    rcases n5 with n5 | n5
    · exact AV.Is.unname_to (back n5) n3 k1
    · exact k1.flat_to n5.2
  obtain ⟨q1, q2⟩ := put_is (d := o.dst) R.size (fun t' => (R.vals t').go t) (tell_spec h9 hp.2 hr)
  exact ⟨R.ws.put (b' := ⟨ty, l', none⟩) hg h5 rfl L ⟨vs', k3, hc⟩, q1, q2, by cases o.dst <;> exact R.defers⟩
theorem step_len {st st' : St} {hs hs' : List Bool} {o : Oper} {p : Prop} (h : step tt S ops st hs o = some (st', p, hs')) : st'.tm.length = st.tm.length := by
  unfold step at h
  split at h
  · split at h
    · split at h
      · rename_i ha; cases h; exact app_len ha
      · cases h
    · exact stepW_len h
  · cases h; cases o.dst <;> simp [putT]
  · cases h
theorem run_sound (hT : TTok P tt) (hS : ∀ s ∈ S, SpecOk P s) : ∀ (l : List Oper) {st st' : St} {hs hs' : List Bool} {p : Prop} {E : Env} {a : Act} {u : World}, dstOk st.tm.length ops = true → run tt S ops l st hs = some (st', p, hs') → p → Rel w0 st E a u →
    (∀ E' a' u', Rel w0 st' E' a' u' → Q .normal a' u') → wpList P ops.toArray Q l a u
  | [], st, st', hs, hs', p, E, a, u, _, h, _, r, hq => by
    simp only [run] at h; cases h
    exact hq E a u r
  | o :: l, st, st', hs, hs', p, E, a, u, hd, h, hp, r, hq => by
    simp only [run] at h
    split at h
    · rename_i st1 p1 hs1 h1
      split at h
      · rename_i st2 p2 hs2 h2
        cases h
        have hlen := step_len h1
        unfold step at h1
        split at h1
        · rename_i hw
          have hw := wantO_spec r hw (fun g b og d hg hog hdst => dstOk_spec hd hog hdst)
          split at h1
          · rename_i e p3 hs3 hev
            split at h1
            · rename_i st3 happ
              cases h1
              refine wpList_step fun K hK => ?_
              rw [if_pos hw]
              refine Goes.wp (ev_sound hT hS hev hp.1 r.ws.bs (fun _ => rfl) (fun x _ => rd_is r.vals x) (fun k _ b g hb hk => r.ws.cont k b g hb hk)) fun v u' he => ?_
              obtain ⟨E', r'⟩ := app_spec r happ he
              exact hK _ _ (run_sound hT hS l (by rw [hlen]; exact hd) h2 hp.2 r' hq)
            · cases h1
          · refine wpList_step fun K hK => ?_
            rw [if_pos hw]
            exact Goes.wp (stepW_sound hS r h1 hp.1) fun v u' r' => hK _ _ (run_sound hT hS l (by rw [hlen]; exact hd) h2 hp.2 r' hq)
        · rename_i hw
          have hw := wantO_spec r hw (fun g b og d hg hog hdst => dstOk_spec hd hog hdst)
          cases h1
          refine wpList_step fun K hK => ?_
          rw [if_neg (by rw [hw]; simp)]
          obtain ⟨k1, k2⟩ := put_is (d := o.dst) (av := ⟨.inl (.held (.inr (.inl undef)))⟩) (v := undef) r.size r.vals (VIs.val_iff.2 rfl)
          exact hK _ _ (run_sound hT hS l (by rw [hlen]; exact hd) h2 hp.2 (E := E) ⟨r.ws, k1, k2, by cases o.dst <;> exact r.defers⟩ hq)
        · cases h1
      · cases h
    · cases h
end
end Go.Proofs.YtbobhhnhlgdkiaaGreat.Sy

/- Operations whose order is drawn. -/
namespace Go.Proofs.YtbobhhnhlgdkiaaGreat.Sy
open Go Go.RowKit M Kahn
set_option maxRecDepth 100000

/-- What is known of an operation of such a region: its value; the box that it lays; the box that it stores to, and what that holds then; the box that it loads from; what it reads; the row of which it makes another one. -/
structure HR where
  av : AV
  nw : Option Nat
  pt : Option (Nat × List D)
  ld : List Nat
  rd : Reads
  eat : Option Nat
def wfind : List (Nat × Nat) → Nat → Option Nat
  | [], _ => none
  | (d, i) :: l, t => match Nat.beq d t with
    | true => some i
    | false => wfind l t
def rdsOf (wr : List (Nat × Nat)) : List Operand → Reads
  | [] => ([], [])
  | .tmp t :: l => match wfind wr t with
    | some j => ((j, t) :: (rdsOf wr l).1, (rdsOf wr l).2)
    | none => ((rdsOf wr l).1, t :: (rdsOf wr l).2)
  | _ :: l => rdsOf wr l
theorem rdsOf_spec {wr : List (Nat × Nat)} {t : Nat} : ∀ {l : List Operand}, .tmp t ∈ l → (∃ j, wfind wr t = some j ∧ (j, t) ∈ (rdsOf wr l).1) ∨ (wfind wr t = none ∧ t ∈ (rdsOf wr l).2)
  | [], h => by cases h
  | x :: l, h => by
    rcases List.mem_cons.1 h with rfl | h
    · simp only [rdsOf]
      cases hw : wfind wr t with
      | some j => exact .inl ⟨j, rfl, List.mem_cons_self ..⟩
      | none => exact .inr ⟨rfl, List.mem_cons_self ..⟩
    · have ih := rdsOf_spec (wr := wr) h
      cases x <;> simp only [rdsOf]
      case tmp t' =>
        cases hw : wfind wr t' with
        | some j' =>
          rcases ih with ⟨j, h1, h2⟩ | ⟨h1, h2⟩
          · exact .inl ⟨j, h1, List.mem_cons_of_mem _ h2⟩
          · exact .inr ⟨h1, h2⟩
        | none =>
          rcases ih with ⟨j, h1, h2⟩ | ⟨h1, h2⟩
          · exact .inl ⟨j, h1, h2⟩
          · exact .inr ⟨h1, List.mem_cons_of_mem _ h2⟩
      all_goals exact ih
def putW (wr : List (Nat × Nat)) (d : Option Nat) (i : Nat) : List (Nat × Nat) := match d with
  | some d => (d, i) :: wr
  | none => wr
def wantA (avs : List AV) : Option (Nat × Bool) → Option Bool
  | none => some true
  | some (g, b) => match avs[g]? with
    | some a => want a b
    | none => none
def avOf (bx : List Bx) : Eff → AV
  | ⟨.inl a⟩ => a
  | ⟨.inr (.inl b)⟩ => ⟨.inl (newRef bx.length b)⟩
  | ⟨.inr (.inr (.inl _))⟩ => ⟨.inl (.map [])⟩
  | ⟨.inr (.inr (.inr _))⟩ => ⟨.inl (.held (.inr (.inr (.inl bx.length))))⟩
def nwOf (bx : List Bx) : Eff → Option Nat
  | ⟨.inr (.inl _)⟩ => some bx.length
  | ⟨.inr (.inr (.inr _))⟩ => some bx.length
  | _ => none
def ptOf : Eff → Option (Nat × List D)
  | ⟨.inr (.inr (.inl (b, l)))⟩ => some (b, l)
  | _ => none
def bxOf (bx : List Bx) : Eff → List Bx
  | ⟨.inr (.inl b)⟩ => bx ++ [b]
  | ⟨.inr (.inr (.inr (_, b)))⟩ => bx ++ [b]
  | _ => bx
def ldOf (k : List Nat) : Eff → List Nat
  | ⟨.inl _⟩ => k
  | ⟨.inr (.inr (.inr _))⟩ => k
  | _ => []
/-- The row that is no more: another one is made of it. -/
def eatOf (bx : List Bx) : Eff → Option Nat
  | ⟨.inr (.inr (.inr (k, _)))⟩ => match Nat.blt k bx.length with
    | true => some k
    | false => none
  | _ => none
def evH (tt : TT) (S : List Spec) (rd : Operand → AV) (bx : List Bx) (hs : List Bool) (op : Op) : Option (Eff × Prop × List Bool) := ev tt S rd bx hs op
theorem evH_spec {tt : TT} {S : List Spec} {rd : Operand → AV} {bx : List Bx} {hs : List Bool} {op : Op} {e : Eff} {q : Prop × List Bool} (h : evH tt S rd bx hs op = some (e, q)) : ev tt S rd bx hs op = some (e, q) := h
def head (tt : TT) (S : List Spec) : List Oper → Nat → List AV → List (Nat × Nat) → List AV → List Bx → List Bool → Option (List HR × List AV × List Bx × Prop × List Bool)
  | [], _, tm, _, _, bx, hs => some ([], tm, bx, True, hs)
  | o :: l, i, tm, wr, avs, bx, hs => match wantA avs o.guard with
    | none => none
    | some false => match head tt S l (i + 1) (putT tm o.dst (⟨.inl (.held (.inr (.inl undef)))⟩)) (putW wr o.dst i) (avs ++ [⟨.inl (.held (.inr (.inl undef)))⟩]) bx hs with
      | none => none
      | some (rs, tm', bx', p, hs') => some (⟨⟨.inl (.held (.inr (.inl undef)))⟩, none, none, [], rdsOf wr (reads o.op), none⟩ :: rs, tm', bx', p, hs')
    | some true => match evH tt S (rdO (look tm)) bx hs o.op with
      | none => none
      | some (e, p, hs1) => match head tt S l (i + 1) (putT tm o.dst (avOf bx e)) (putW wr o.dst i) (avs ++ [avOf bx e]) (bxOf bx e) hs1 with
        | none => none
        | some (rs, tm', bx', p', hs') => some (⟨avOf bx e, nwOf bx e, ptOf e, ldOf (touch (rdO (look tm)) o.op) e, rdsOf wr (reads o.op), eatOf bx e⟩ :: rs, tm', bx', p ∧ p', hs')
/-- What a guard says. -/
def Gd (A : Nat → AV) (c : Bool) : Option (Nat × Bool) → Prop
  | none => c = true
  | some (g, b) => want (A g) b = some c
/-- What is known of operation i. -/
structure HF (tt : TT) (S : List Spec) (tm0 : List AV) (A : Nat → AV) (bxF : List Bx) (o : Oper) (r : HR) : Prop where
  ex : ∃ (tm : List AV) (bx : List Bx) (hs : List Bool),
    (∀ t, .tmp t ∈ reads o.op → (∃ j, (j, t) ∈ r.rd.1 ∧ look tm t = A j) ∨ (t ∈ r.rd.2 ∧ look tm t = look tm0 t)) ∧ (∃ m, bxF = bx ++ m) ∧
    ∃ c, Gd A c o.guard ∧
      match c with
      | false => r.av = ⟨.inl (.held (.inr (.inl undef)))⟩ ∧ r.nw = none ∧ r.pt = none ∧ r.eat = none
      | true => ∃ e p hs', evH tt S (rdO (look tm)) bx hs o.op = some (e, p, hs') ∧ p ∧ r.av = avOf bx e ∧ r.nw = nwOf bx e ∧ r.pt = ptOf e ∧ r.ld = ldOf (touch (rdO (look tm)) o.op) e ∧ r.eat = eatOf bx e ∧ ∃ m, bxF = bxOf bx e ++ m
theorem look_put {tm : List AV} {d : Option Nat} {a : AV} {t : Nat} (h : ∀ d', d = some d' → d' < tm.length) : look (putT tm d a) t = if d = some t then a else look tm t := by
  unfold look putT
  cases d with
  | none => rfl
  | some d =>
    by_cases ht : d = t
    · subst ht; simp [h d rfl]
    · simp [ht]
theorem look_app {l m : List AV} {i : Nat} (h : i < l.length) : look (l ++ m) i = look l i := by unfold look; rw [List.getElem?_append_left h]
theorem wantA_spec {avs m : List AV} {g : Option (Nat × Bool)} {c : Bool} (h : wantA avs g = some c) : Gd (look (avs ++ m)) c g := by
  cases g with
  | none => simp only [wantA] at h; cases h; rfl
  | some x =>
    obtain ⟨g, b⟩ := x
    simp only [wantA] at h
    simp only [Gd]
    split at h
    · rename_i a ha
      have hl := (List.getElem?_eq_some_iff.1 ha).1
      rw [look_app hl]
      unfold look
      rw [ha]
      exact h
    · cases h
theorem head_bx {tt : TT} {S : List Spec} : ∀ {l : List Oper} {i : Nat} {tm : List AV} {wr : List (Nat × Nat)} {avs : List AV} {bx : List Bx} {hs : List Bool} {rs : List HR} {tm' : List AV} {bx' : List Bx} {p : Prop} {hs' : List Bool}, head tt S l i tm wr avs bx hs = some (rs, tm', bx', p, hs') → ∃ m, bx' = bx ++ m
  | [], _, _, _, _, _, _, _, _, _, _, _, h => by simp only [head] at h; cases h; exact ⟨[], by simp⟩
  | o :: l, i, tm, wr, avs, bx, hs, rs, tm', bx', p, hs', h => by
    simp only [head] at h
    split at h
    · cases h
    · split at h
      · cases h
      · rename_i h1; cases h; exact head_bx h1
    · split at h
      · cases h
      · rename_i e p1 hs1 he
        split at h
        · cases h
        · rename_i h1
          cases h
          obtain ⟨m, hm⟩ := head_bx h1
          rw [hm]
          obtain ⟨a | b | ⟨k, l'⟩ | ⟨k, b⟩⟩ := e <;> simp [bxOf]
theorem head_get {tt : TT} {S : List Spec} {tm0 : List AV} : ∀ {l : List Oper} {i : Nat} {tm : List AV} {wr : List (Nat × Nat)} {avs : List AV} {bx : List Bx} {hs : List Bool} {rs : List HR} {tm' : List AV} {bx' : List Bx} {p : Prop} {hs' : List Bool},
    head tt S l i tm wr avs bx hs = some (rs, tm', bx', p, hs') → p → dstOk tm.length l = true → avs.length = i → (∀ t j, wfind wr t = some j → look tm t = look avs j ∧ j < i) → (∀ t, wfind wr t = none → look tm t = look tm0 t) →
    ∀ (j : Nat) (o : Oper) (r : HR), l[j]? = some o → rs[j]? = some r → HF tt S tm0 (look (avs ++ rs.map (·.av))) bx' o r
  | [], _, _, _, _, _, _, _, _, _, _, _, _, _, _, _, _, _, j, o, r, ho, _ => by simp at ho
  | o :: l, i, tm, wr, avs, bx, hs, rs, tm', bx', p, hs', h, hp, hd, hl, h1, h2, j, o', r, ho, hr => by
    have hdo : ∀ d', o.dst = some d' → d' < tm.length := fun d' hd' => dstOk_spec hd (i := 0) rfl hd'
    have hdl : dstOk tm.length l = true := by unfold dstOk at hd ⊢; rw [List.all_cons, Bool.and_eq_true] at hd; exact hd.2
    have hplen : ∀ a, (putT tm o.dst a).length = tm.length := fun a => by cases o.dst <;> simp [putT]
    have key : ∀ (av : AV), (∀ t j, wfind (putW wr o.dst i) t = some j → look (putT tm o.dst av) t = look (avs ++ [av]) j ∧ j < i + 1) ∧ (∀ t, wfind (putW wr o.dst i) t = none → look (putT tm o.dst av) t = look tm0 t) := by
      intro av
      refine ⟨fun t j hj => ?_, fun t hj => ?_⟩
      · rw [look_put hdo]
        cases hdst : o.dst with
        | none =>
          rw [hdst] at hj
          obtain ⟨k1, k2⟩ := h1 t j hj
          rw [if_neg (by simp), look_app (by omega)]
          exact ⟨k1, by omega⟩
        | some d =>
          rw [hdst] at hj
          simp only [putW, wfind] at hj
          split at hj
          · rename_i e
            have e := Nat.eq_of_beq_eq_true e
            subst e
            cases hj
            rw [if_pos rfl]
            refine ⟨?_, by omega⟩
            unfold look
            rw [← hl]
            simp
          · rename_i e
            obtain ⟨k1, k2⟩ := h1 t j hj
            rw [if_neg (fun e' => by cases e'; rw [Nat.beq_refl] at e; cases e), look_app (by omega)]
            exact ⟨k1, by omega⟩
      · rw [look_put hdo]
        cases hdst : o.dst with
        | none => rw [hdst] at hj; rw [if_neg (by simp)]; exact h2 t hj
        | some d =>
          rw [hdst] at hj
          simp only [putW, wfind] at hj
          split at hj
          · cases hj
          · rename_i e
            rw [if_neg (fun e' => by cases e'; rw [Nat.beq_refl] at e; cases e)]
            exact h2 t hj
    have rds : ∀ (m : List AV) t, .tmp t ∈ reads o.op → (∃ j, (j, t) ∈ (rdsOf wr (reads o.op)).1 ∧ look tm t = look (avs ++ m) j) ∨ (t ∈ (rdsOf wr (reads o.op)).2 ∧ look tm t = look tm0 t) := fun m t ht => by
      rcases rdsOf_spec (wr := wr) ht with ⟨j, k1, k2⟩ | ⟨k1, k2⟩
      · obtain ⟨k3, k4⟩ := h1 t j k1
        exact .inl ⟨j, k2, by rw [look_app (by omega)]; exact k3⟩
      · exact .inr ⟨k2, h2 t k1⟩
    simp only [head] at h
    split at h
    · cases h
    · rename_i hw
      split at h
      · cases h
      · rename_i rs1 tm1 bx1 p1 hs1 hh
        cases h
        cases j with
        | zero =>
          simp at ho hr
          subst ho hr
          exact ⟨tm, bx, hs, rds _, head_bx hh, false, wantA_spec hw, rfl, rfl, rfl, rfl⟩
        | succ j =>
          have := head_get hh hp (by rw [hplen]; exact hdl) (by simp [hl]) (key _).1 (key _).2 j o' r (by simpa using ho) (by simpa using hr)
          rwa [List.append_assoc] at this
    · rename_i hw
      split at h
      · cases h
      · rename_i e p1 hs1 he
        split at h
        · cases h
        · rename_i rs1 tm1 bx1 p2 hs2 hh
          cases h
          cases j with
          | zero =>
            simp at ho hr
            subst ho hr
            obtain ⟨m, hm⟩ := head_bx hh
            refine ⟨tm, bx, hs, rds _, ?_, true, wantA_spec hw, e, p1, hs1, he, hp.1, rfl, rfl, rfl, rfl, rfl, m, hm⟩
            rw [hm]
            obtain ⟨a | b | ⟨k, l'⟩ | ⟨k, b⟩⟩ := e <;> simp [bxOf]
          | succ j =>
            have := head_get hh hp.2 (by rw [hplen]; exact hdl) (by simp [hl]) (key _).1 (key _).2 j o' r (by simpa using ho) (by simpa using hr)
            rwa [List.append_assoc] at this
theorem head_len {tt : TT} {S : List Spec} : ∀ {l : List Oper} {i : Nat} {tm : List AV} {wr : List (Nat × Nat)} {avs : List AV} {bx : List Bx} {hs : List Bool} {rs : List HR} {tm' : List AV} {bx' : List Bx} {p : Prop} {hs' : List Bool}, head tt S l i tm wr avs bx hs = some (rs, tm', bx', p, hs') → rs.length = l.length
  | [], _, _, _, _, _, _, _, _, _, _, _, h => by simp only [head] at h; cases h; rfl
  | o :: l, i, tm, wr, avs, bx, hs, rs, tm', bx', p, hs', h => by
    simp only [head] at h
    split at h
    · cases h
    · split at h
      · cases h
      · rename_i h1; cases h; simp [head_len h1]
    · split at h
      · cases h
      · split at h
        · cases h
        · rename_i h1; cases h; simp [head_len h1]
theorem head_tmlen {tt : TT} {S : List Spec} : ∀ {l : List Oper} {i : Nat} {tm : List AV} {wr : List (Nat × Nat)} {avs : List AV} {bx : List Bx} {hs : List Bool} {rs : List HR} {tm' : List AV} {bx' : List Bx} {p : Prop} {hs' : List Bool}, head tt S l i tm wr avs bx hs = some (rs, tm', bx', p, hs') → tm'.length = tm.length := by
  intro l
  induction l with
  | nil => intro i tm wr avs bx hs rs tm' bx' p hs' h; simp only [head] at h; cases h; rfl
  | cons o l ih =>
    intro i tm wr avs bx hs rs tm' bx' p hs' h
    have hpl : ∀ a, (putT tm o.dst a).length = tm.length := fun a => by cases o.dst <;> simp [putT]
    simp only [head] at h
    split at h
    · cases h
    · split at h
      · cases h
      · rename_i h1; cases h; rw [ih h1, hpl]
    · split at h
      · cases h
      · split at h
        · cases h
        · rename_i h1; cases h; rw [ih h1, hpl]
/-- What the operations read: told by the code alone. -/
def statTab : List Oper → Nat → List (Nat × Nat) → List Reads
  | [], _, _ => []
  | o :: l, i, wr => rdsOf wr (reads o.op) :: statTab l (i + 1) (putW wr o.dst i)
theorem head_tab {tt : TT} {S : List Spec} : ∀ {l : List Oper} {i : Nat} {tm : List AV} {wr : List (Nat × Nat)} {avs : List AV} {bx : List Bx} {hs : List Bool} {rs : List HR} {tm' : List AV} {bx' : List Bx} {p : Prop} {hs' : List Bool}, head tt S l i tm wr avs bx hs = some (rs, tm', bx', p, hs') → rs.map (·.rd) = statTab l i wr := by
  intro l
  induction l with
  | nil => intro i tm wr avs bx hs rs tm' bx' p hs' h; simp only [head] at h; cases h; rfl
  | cons o l ih =>
    intro i tm wr avs bx hs rs tm' bx' p hs' h
    simp only [head] at h
    split at h
    · cases h
    · split at h
      · cases h
      · rename_i h1; cases h; simp only [List.map_cons, statTab, ih h1]
    · split at h
      · cases h
      · split at h
        · cases h
        · rename_i h1; cases h; simp only [List.map_cons, statTab, ih h1]
theorem put_R {R : AV → Value → Prop} (ha : ∀ v, R ⟨.inl (.map [])⟩ v) {tm : List AV} {a : Act} {d : Option Nat} {av : AV} {v : Value} (hs : a.tmps.size = tm.length) (hv : ∀ t, R (look tm t) (a.tmps.getD t undef)) (hi : R av v) :
    (a.put d v).tmps.size = (putT tm d av).length ∧ ∀ t, R (look (putT tm d av) t) ((a.put d v).tmps.getD t undef) := by
  cases d with
  | none => exact ⟨hs, hv⟩
  | some d =>
    refine ⟨by rw [put_size]; simp [putT, hs], fun t => ?_⟩
    unfold look putT
    by_cases hd : d < tm.length
    · by_cases ht : d = t
      · subst ht
        rw [put_get_eq _ _ (by rw [hs]; exact hd)]
        simp only [List.getElem?_set_self hd]
        exact hi
      · rw [put_get_ne _ _ (fun h => ht (by cases h; rfl))]
        simp only [List.getElem?_set_ne ht]
        exact hv t
    · have : (tm.set d av)[t]? = tm[t]? := by rw [List.set_eq_of_length_le (by omega)]
      simp only [this]
      by_cases ht : d = t
      · subst ht
        rw [List.getElem?_eq_none (by omega)]
        exact ha _
      · rw [put_get_ne _ _ (fun h => ht (by cases h; rfl))]
        exact hv t
/-- The slots, when all is done. -/
theorem head_fin {tt : TT} {S : List Spec} {R : AV → Value → Prop} (ha : ∀ v, R ⟨.inl (.map [])⟩ v) {vs : Nat → Value} : ∀ {l : List Oper} {i : Nat} {tm : List AV} {wr : List (Nat × Nat)} {avs : List AV} {bx : List Bx} {hs : List Bool} {rs : List HR} {tm' : List AV} {bx' : List Bx} {p : Prop} {hs' : List Bool} {a : Act},
    head tt S l i tm wr avs bx hs = some (rs, tm', bx', p, hs') → a.tmps.size = tm.length → (∀ t, R (look tm t) (a.tmps.getD t undef)) → (∀ (j : Nat) (r : HR), rs[j]? = some r → R r.av (vs (i + j))) →
    (puts vs l i a).tmps.size = tm'.length ∧ ∀ t, R (look tm' t) ((puts vs l i a).tmps.getD t undef)
  | [], _, _, _, _, _, _, _, _, _, _, _, _, h, hs, hv, _ => by simp only [head] at h; cases h; exact ⟨hs, hv⟩
  | o :: l, i, tm, wr, avs, bx, hs, rs, tm', bx', p, hs', a, h, hsz, hv, hr => by
    simp only [head] at h
    split at h
    · cases h
    · split at h
      · cases h
      · rename_i h1
        cases h
        obtain ⟨k1, k2⟩ := put_R ha (d := o.dst) (v := vs i) hsz hv (hr 0 _ rfl)
        simp only [puts]
        exact head_fin ha h1 k1 k2 (fun j r hj => by have := hr (j + 1) r (by simpa using hj); rwa [show i + (j + 1) = i + 1 + j from by omega] at this)
    · split at h
      · cases h
      · split at h
        · cases h
        · rename_i h1
          cases h
          obtain ⟨k1, k2⟩ := put_R ha (d := o.dst) (v := vs i) hsz hv (hr 0 _ rfl)
          simp only [puts]
          exact head_fin ha h1 k1 k2 (fun j r hj => by have := hr (j + 1) r (by simpa using hj); rwa [show i + (j + 1) = i + 1 + j from by omega] at this)
/-- Boxes of Z are named no more. -/
def kil1 (Z : Nat → Bool) : D → D
  | .held (.inr (.inr (.inl j))) => match Z j with
    | true => .map []
    | false => .held (.inr (.inr (.inl j)))
  | .held (.inr (.inr (.inr (.inl (j, o))))) => match Z j with
    | true => .map []
    | false => .held (.inr (.inr (.inr (.inl (j, o)))))
  | .held (.inr (.inr (.inr (.inr (j, i, n, o))))) => match Z j with
    | true => .map []
    | false => .held (.inr (.inr (.inr (.inr (j, i, n, o)))))
  | x => x
def kilL (Z : Nat → Bool) : List D → List D
  | [] => []
  | x :: l => kil1 Z x :: kilL Z l
def kilV (Z : Nat → Bool) : D → D
  | .agg ps => .agg (kilL Z ps)
  | x => kil1 Z x
def kilD (Z : Nat → Bool) : List D → List D
  | [] => []
  | x :: l => kilV Z x :: kilD Z l
def kilA (Z : Nat → Bool) : AV → AV
  | ⟨.inl b⟩ => ⟨.inl (kilV Z b)⟩
  | ⟨.inr l⟩ => ⟨.inr (kilD Z l)⟩
def kilT (Z : Nat → Bool) : List AV → List AV
  | [] => []
  | a :: l => kilA Z a :: kilT Z l
section
variable {E : Env} {u : World} {Z Z' : Nat → Bool}
theorem kil1_no (x : D) : noX Z (kil1 Z x) = true := by
  unfold kil1
  split
  · split
    · rfl
    · rename_i h; simp only [noX, h]; rfl
  · split
    · rfl
    · rename_i h; simp only [noX, h]; rfl
  · split
    · rfl
    · rename_i h; simp only [noX, h]; rfl
  · rename_i h1 h2 h3
    unfold noX
    split
    · exact absurd rfl (h1 _)
    · exact absurd rfl (h2 _ _)
    · exact absurd rfl (h3 _ _ _ _)
    · rfl
theorem kil1_is {x : D} {v : Value} (h : VIs E u x v) : VIs E u (kil1 Z x) v := by
  unfold kil1
  split <;> first | (split <;> first | exact VIs.any | exact h) | exact h
theorem kil1_one {x : D} (h : one x = true) : one (kil1 Z x) = true := by
  unfold kil1
  split <;> first | (split <;> rfl) | exact h
theorem kil1_leaf {x : D} {vs : List Value} (h : LfIs E u x vs) : LfIs E u (kil1 Z x) vs := by
  by_cases hx : one x = true
  · obtain ⟨v, e1, e2, e3⟩ := (LfIs.one_iff hx).1 h
    exact (LfIs.one_iff (kil1_one hx)).2 ⟨v, e1, e2, kil1_is e3⟩
  · unfold one at hx
    split at hx
    · exact h
    · exact absurd rfl hx
theorem kilL_no : ∀ l : List D, noXL Z (kilL Z l) = true
  | [] => rfl
  | x :: l => by rw [kilL, noXL, kil1_no, kilL_no l]; rfl
theorem kilL_is : ∀ {l : List D} {vs : List Value}, Cells E u l vs → Cells E u (kilL Z l) vs
  | [], _, h => h
  | x :: l, _, h => by
    obtain ⟨a, b, e, h1, h2⟩ := Cells.cons_iff.1 h
    exact Cells.cons_iff.2 ⟨a, b, e, kil1_leaf h1, kilL_is h2⟩
theorem kil1_agg {x : D} (h : ∀ ps, x ≠ .agg ps) : ∀ ps, kil1 Z x ≠ .agg ps := by
  intro ps e
  unfold kil1 at e
  split at e <;> first | (split at e <;> cases e) | (subst e; exact h _ rfl)
theorem kilV_no (x : D) : noXV Z (kilV Z x) = true := by
  unfold kilV
  split
  · exact kilL_no _
  · rename_i h
    have h1 := kil1_no (Z := Z) x
    have := kil1_agg (Z := Z) (x := x) (fun ps e => h _ e)
    unfold noXV
    split
    · rename_i e; exact absurd e (this _)
    · exact h1
theorem kilV_is {x : D} {v : Value} (h : VIs E u x v) : VIs E u (kilV Z x) v := by
  unfold kilV
  split
  · obtain ⟨vs, e, hc⟩ := VIs.agg_iff.1 h
    exact VIs.agg_iff.2 ⟨vs, e, kilL_is hc⟩
  · exact kil1_is h
theorem kilD_no : ∀ l : List D, noXD Z (kilD Z l) = true
  | [] => rfl
  | x :: l => by rw [kilD, noXD, kilV_no, kilD_no l]; rfl
theorem kilD_is : ∀ {l : List D} {vs : List Value}, AllIs E u l vs → AllIs E u (kilD Z l) vs
  | [], _, h => h
  | _ :: _, _, ⟨v, r, e, h1, h2⟩ => ⟨v, r, e, kilV_is h1, kilD_is h2⟩
theorem kilA_no : ∀ a : AV, noXA Z (kilA Z a) = true
  | ⟨.inl _⟩ => kilV_no _
  | ⟨.inr _⟩ => kilD_no _
theorem kilA_is : ∀ {a : AV} {v : Value}, a.Is E u v → (kilA Z a).Is E u v
  | ⟨.inl _⟩, _, h => kilV_is h
  | ⟨.inr _⟩, _, ⟨vs, e, h⟩ => ⟨vs, e, kilD_is h⟩
theorem kil1_id {x : D} (h : noX Z x = true) : kil1 Z x = x := by
  unfold kil1
  split
  · rename_i j; simp only [noX, Bool.not_eq_true'] at h; rw [h]
  · rename_i j o; simp only [noX, Bool.not_eq_true'] at h; rw [h]
  · rename_i j i n o; simp only [noX, Bool.not_eq_true'] at h; rw [h]
  · rfl
theorem kilL_id : ∀ {l : List D}, noXL Z l = true → kilL Z l = l
  | [], _ => rfl
  | x :: l, h => by
    rw [noXL, Bool.and_eq_true] at h
    rw [kilL, kil1_id h.1, kilL_id h.2]
theorem kilV_id {x : D} (h : noXV Z x = true) : kilV Z x = x := by
  unfold kilV
  split
  · rw [kilL_id h]
  · rename_i hx
    refine kil1_id ?_
    unfold noXV at h
    split at h
    · exact absurd rfl (hx _)
    · exact h
theorem kilD_id : ∀ {l : List D}, noXD Z l = true → kilD Z l = l
  | [], _ => rfl
  | x :: l, h => by
    rw [noXD, Bool.and_eq_true] at h
    rw [kilD, kilV_id h.1, kilD_id h.2]
theorem kilA_id : ∀ {a : AV}, noXA Z a = true → kilA Z a = a
  | ⟨.inl _⟩, h => by show AV.mk _ = _; rw [kilV_id h]
  | ⟨.inr _⟩, h => by show AV.mk _ = _; rw [kilD_id h]
theorem kil1_more (h : ∀ k, Z k = true → Z' k = true) : ∀ x : D, kil1 Z' (kil1 Z x) = kil1 Z' x
  | .held (.inr (.inr (.inl j))) => by
    cases e : Z j with
    | true => simp only [kil1, e, h j e]
    | false => simp only [kil1, e]
  | .held (.inr (.inr (.inr (.inl (j, o))))) => by
    cases e : Z j with
    | true => simp only [kil1, e, h j e]
    | false => simp only [kil1, e]
  | .held (.inr (.inr (.inr (.inr (j, i, n, o))))) => by
    cases e : Z j with
    | true => simp only [kil1, e, h j e]
    | false => simp only [kil1, e]
  | .held (.inl _) => rfl
  | .held (.inr (.inl _)) => rfl
  | .agg _ => rfl
  | .slice _ _ => rfl
  | .ptr _ => rfl
  | .map _ => rfl
  | .lit _ => rfl
  | .nil => rfl
  | .iface _ _ => rfl
theorem kilL_more (h : ∀ k, Z k = true → Z' k = true) : ∀ l : List D, kilL Z' (kilL Z l) = kilL Z' l
  | [] => rfl
  | x :: l => by rw [kilL, kilL, kilL, kil1_more h, kilL_more h l]
theorem kilV_more (h : ∀ k, Z k = true → Z' k = true) (x : D) : kilV Z' (kilV Z x) = kilV Z' x := by
  by_cases hx : ∃ ps, x = .agg ps
  · obtain ⟨ps, rfl⟩ := hx
    show DataW.agg _ = DataW.agg _
    rw [kilL_more h]
  · have n1 : ∀ ps, x ≠ .agg ps := fun ps e => hx ⟨ps, e⟩
    have e1 : ∀ {W : Nat → Bool} {y : D}, (∀ ps, y ≠ .agg ps) → kilV W y = kil1 W y := fun {W y} hy => by
      unfold kilV
      split
      · exact absurd rfl (hy _)
      · rfl
    rw [e1 n1, e1 (kil1_agg n1), e1 n1, kil1_more h]
theorem kilD_more (h : ∀ k, Z k = true → Z' k = true) : ∀ l : List D, kilD Z' (kilD Z l) = kilD Z' l
  | [] => rfl
  | x :: l => by rw [kilD, kilD, kilD, kilV_more h, kilD_more h l]
theorem kilA_more (h : ∀ k, Z k = true → Z' k = true) : ∀ a : AV, kilA Z' (kilA Z a) = kilA Z' a
  | ⟨.inl _⟩ => by show AV.mk _ = AV.mk _; rw [kilV_more h]
  | ⟨.inr _⟩ => by show AV.mk _ = AV.mk _; rw [kilD_more h]
theorem kilA_grow (h : ∀ k, Z k = true → Z' k = true) {a : AV} {v : Value} (hi : (kilA Z a).Is E u v) : (kilA Z' a).Is E u v := by
  rw [← kilA_more h]; exact kilA_is hi
theorem kilT_get : ∀ {l : List AV} {t : Nat}, look (kilT Z l) t = kilA Z (look l t)
  | [], t => rfl
  | a :: l, 0 => rfl
  | a :: l, t + 1 => by
    have := kilT_get (l := l) (t := t)
    unfold look at this ⊢
    simpa [kilT] using this
theorem kilT_len : ∀ l : List AV, (kilT Z l).length = l.length
  | [] => rfl
  | _ :: l => by rw [kilT, List.length_cons, List.length_cons, kilT_len l]
theorem noX_less (h : ∀ k, Z k = true → Z' k = true) {x : D} (hx : noX Z' x = true) : noX Z x = true := by
  have key : ∀ k, Z' k = false → Z k = false := fun k hk => by
    cases e : Z k with
    | false => rfl
    | true => rw [h k e] at hk; cases hk
  unfold noX at hx ⊢
  split <;> first | rfl | (simp only [Bool.not_eq_true'] at hx ⊢; exact key _ hx)
theorem noXL_less (h : ∀ k, Z k = true → Z' k = true) : ∀ {l : List D}, noXL Z' l = true → noXL Z l = true
  | [], _ => rfl
  | x :: l, hx => by
    rw [noXL, Bool.and_eq_true] at hx ⊢
    exact ⟨noX_less h hx.1, noXL_less h hx.2⟩
theorem noXV_less (h : ∀ k, Z k = true → Z' k = true) {x : D} (hx : noXV Z' x = true) : noXV Z x = true := by
  unfold noXV at hx ⊢
  split
  · exact noXL_less h hx
  · rename_i hn
    split at hx
    · exact absurd rfl (hn _)
    · exact noX_less h hx
theorem noXD_less (h : ∀ k, Z k = true → Z' k = true) : ∀ {l : List D}, noXD Z' l = true → noXD Z l = true
  | [], _ => rfl
  | x :: l, hx => by
    rw [noXD, Bool.and_eq_true] at hx ⊢
    exact ⟨noXV_less h hx.1, noXD_less h hx.2⟩
theorem noXA_less (h : ∀ k, Z k = true → Z' k = true) : ∀ {a : AV}, noXA Z' a = true → noXA Z a = true
  | ⟨.inl _⟩, hx => noXV_less h hx
  | ⟨.inr _⟩, hx => noXD_less h hx
end
end Go.Proofs.YtbobhhnhlgdkiaaGreat.Sy

/- Operations whose order is drawn: whatever the order is, what is known holds. -/
namespace Go.Proofs.YtbobhhnhlgdkiaaGreat.Sy
open Go Go.RowKit M Kahn
set_option maxRecDepth 100000

def noPt (k : Nat) : List HR → Bool
  | [] => true
  | r :: l => (match r.pt with
    | some (b, _) => !(Nat.beq b k)
    | none => true) && noPt k l
def noNw (k : Nat) : List HR → Bool
  | [] => true
  | r :: l => (match r.nw with
    | some b => !(Nat.beq b k)
    | none => true) && noNw k l
/-- No box is stored to twice, none is laid twice, none is laid that was there. -/
def chk1 (n : Nat) : List HR → Bool
  | [] => true
  | r :: l => (match r.pt with
    | some (b, _) => noPt b l
    | none => true) && (match r.nw with
    | some b => noNw b l && Nat.ble n b
    | none => true) && chk1 n l
/-- Does what reads these wait for operation i, by what it reads? -/
def depB (all : List HR) : Nat → List (Nat × Nat) → Nat → Bool
  | 0, _, _ => false
  | _ + 1, [], _ => false
  | f + 1, p :: l, i => match Nat.beq p.1 i with
    | true => true
    | false => match depB all f (match all[p.1]? with
      | some r => r.rd.1
      | none => []) i with
      | true => true
      | false => depB all f l i
/-- What stores to box k waits for operation i. -/
def waitB (all : List HR) (k i : Nat) : List HR → Bool
  | [] => true
  | s :: l => (match s.pt with
    | some (b, _) => match Nat.beq b k with
      | true => depB all 40 s.rd.1 i
      | false => true
    | none => true) && waitB all k i l
/-- None is loaded from that may have been stored to. -/
def chk2 (all : List HR) : Nat → List HR → Bool
  | _, [] => true
  | i, r :: l => r.ld.all (fun k => waitB all k i all) && chk2 all (i + 1) l
/-- What an operation reads is done ahead of it. -/
def Clo (rs : List HR) (L : Nat → Bool) : Prop := ∀ (j : Nat) (r : HR), rs[j]? = some r → L j = true → ∀ p ∈ r.rd.1, L p.1 = true
theorem Clo.upd {rs : List HR} {L : Nat → Bool} {i : Nat} {r : HR} (h : Clo rs L) (hr : rs[i]? = some r) (hd : ∀ p ∈ r.rd.1, L p.1 = true) : Clo rs (Upd L i true) := fun j s hs hj p hp => by
  have up : ∀ m, L m = true → Upd L i true m = true := fun m hm => by unfold Upd; split <;> first | rfl | exact hm
  by_cases e : j = i
  · subst e
    rw [hr] at hs; cases hs
    exact up _ (hd p hp)
  · rw [Upd.ne e] at hj
    exact up _ (h j s hs hj p hp)
theorem depB_spec {rs : List HR} {L : Nat → Bool} (h : Clo rs L) {i : Nat} : ∀ {f : Nat} {l : List (Nat × Nat)}, depB rs f l i = true → (∀ p ∈ l, L p.1 = true) → L i = true
  | 0, _, e, _ => (by cases e)
  | _ + 1, [], e, _ => (by cases e)
  | f + 1, p :: l, e, hl => by
    simp only [depB] at e
    split at e
    · rename_i hb
      rw [← Nat.eq_of_beq_eq_true hb]
      exact hl p (List.mem_cons_self ..)
    · split at e
      · rename_i hd
        refine depB_spec h hd fun q hq => ?_
        split at hq
        · rename_i r hr
          exact h p.1 r hr (hl p (List.mem_cons_self ..)) q hq
        · cases hq
      · exact depB_spec h e fun q hq => hl q (List.mem_cons_of_mem _ hq)
theorem waitB_spec {all : List HR} {L : Nat → Bool} (h : Clo all L) {k i : Nat} : ∀ {rs : List HR}, waitB all k i rs = true → ∀ (j : Nat) (s : HR) (l : List D), rs[j]? = some s → s.pt = some (k, l) → (∀ p ∈ s.rd.1, L p.1 = true) → L i = true
  | [], _, _, _, _, hj, _, _ => by simp at hj
  | x :: rs, hw, j, s, l, hj, hp, hd => by
    simp only [waitB, Bool.and_eq_true] at hw
    cases j with
    | zero =>
      simp at hj; subst hj
      have h1 := hw.1
      rw [hp] at h1
      simp only [Nat.beq_refl] at h1
      exact depB_spec h h1 hd
    | succ j => exact waitB_spec h hw.2 j s l (by simpa using hj) hp hd
theorem noPt_spec {k : Nat} : ∀ {rs : List HR}, noPt k rs = true → ∀ (i : Nat) (r : HR) (l : List D), rs[i]? = some r → r.pt ≠ some (k, l)
  | [], _, _, _, _, h => by simp at h
  | r :: rs, h, 0, _, l, hr => by
    simp at hr; subst hr
    simp only [noPt, Bool.and_eq_true] at h
    intro e
    rw [e] at h
    simp at h
  | r :: rs, h, i + 1, r', l, hr => by
    simp only [noPt, Bool.and_eq_true] at h
    exact noPt_spec h.2 i r' l (by simpa using hr)
theorem noNw_spec {k : Nat} : ∀ {rs : List HR}, noNw k rs = true → ∀ (i : Nat) (r : HR), rs[i]? = some r → r.nw ≠ some k
  | [], _, _, _, h => by simp at h
  | r :: rs, h, 0, _, hr => by
    simp at hr; subst hr
    simp only [noNw, Bool.and_eq_true] at h
    intro e
    rw [e] at h
    simp at h
  | r :: rs, h, i + 1, r', hr => by
    simp only [noNw, Bool.and_eq_true] at h
    exact noNw_spec h.2 i r' (by simpa using hr)
theorem chk1_pt {n : Nat} : ∀ {rs : List HR}, chk1 n rs = true → ∀ (i j : Nat) (r s : HR) (k : Nat) (l m : List D), rs[i]? = some r → rs[j]? = some s → r.pt = some (k, l) → s.pt = some (k, m) → i = j
  | [], _, _, _, _, _, _, _, _, h, _, _, _ => by simp at h
  | x :: rs, h, i, j, r, s, k, l, m, hi, hj, e1, e2 => by
    simp only [chk1, Bool.and_eq_true] at h
    cases i with
    | zero =>
      simp at hi; subst hi
      cases j with
      | zero => rfl
      | succ j =>
        rw [e1] at h
        exact absurd e2 (noPt_spec h.1.1 j s m (by simpa using hj))
    | succ i =>
      cases j with
      | zero =>
        simp at hj; subst hj
        rw [e2] at h
        exact absurd e1 (noPt_spec h.1.1 i r l (by simpa using hi))
      | succ j => rw [chk1_pt h.2 i j r s k l m (by simpa using hi) (by simpa using hj) e1 e2]
theorem chk1_nw {n : Nat} : ∀ {rs : List HR}, chk1 n rs = true → ∀ (i j : Nat) (r s : HR) (k : Nat), rs[i]? = some r → rs[j]? = some s → r.nw = some k → s.nw = some k → i = j
  | [], _, _, _, _, _, _, h, _, _, _ => by simp at h
  | x :: rs, h, i, j, r, s, k, hi, hj, e1, e2 => by
    simp only [chk1, Bool.and_eq_true] at h
    cases i with
    | zero =>
      simp at hi; subst hi
      cases j with
      | zero => rfl
      | succ j =>
        rw [e1] at h
        simp only [Bool.and_eq_true] at h
        exact absurd e2 (noNw_spec h.1.2.1 j s (by simpa using hj))
    | succ i =>
      cases j with
      | zero =>
        simp at hj; subst hj
        rw [e2] at h
        simp only [Bool.and_eq_true] at h
        exact absurd e1 (noNw_spec h.1.2.1 i r (by simpa using hi))
      | succ j => rw [chk1_nw h.2 i j r s k (by simpa using hi) (by simpa using hj) e1 e2]
theorem chk1_ge {n : Nat} : ∀ {rs : List HR}, chk1 n rs = true → ∀ (i : Nat) (r : HR) (k : Nat), rs[i]? = some r → r.nw = some k → n ≤ k
  | [], _, _, _, _, h, _ => by simp at h
  | x :: rs, h, i, r, k, hi, e => by
    simp only [chk1, Bool.and_eq_true] at h
    cases i with
    | zero =>
      simp at hi; subst hi
      rw [e] at h
      simp only [Bool.and_eq_true] at h
      exact Nat.le_of_ble_eq_true h.1.2.2
    | succ i => exact chk1_ge h.2 i r k (by simpa using hi) e
theorem chk2_spec {all : List HR} : ∀ {rs : List HR} {n : Nat}, chk2 all n rs = true → ∀ (i : Nat) (r : HR) (k : Nat), rs[i]? = some r → k ∈ r.ld → waitB all k (n + i) all = true
  | [], _, _, _, _, _, h, _ => by simp at h
  | x :: rs, n, h, i, r, k, hi, e => by
    simp only [chk2, Bool.and_eq_true] at h
    cases i with
    | zero => simp at hi; subst hi; exact List.all_eq_true.1 h.1 k e
    | succ i =>
      have := chk2_spec h.2 i r k (by simpa using hi) e
      rwa [Nat.add_assoc, Nat.add_comm 1 i] at this
/-- What the boxes hold, when all is done. -/
def allPuts : List HR → List Bx → List Bx
  | [], bx => bx
  | r :: l, bx => match r.pt with
    | some (b, m) => match bx[b]? with
      | some x => allPuts l (bx.set b ⟨x.ty, m, x.row⟩)
      | none => allPuts l bx
    | none => allPuts l bx
theorem allPuts_len : ∀ (rs : List HR) (bx : List Bx), (allPuts rs bx).length = bx.length
  | [], _ => rfl
  | r :: rs, bx => by
    simp only [allPuts]
    split
    · split
      · rw [allPuts_len rs]; simp
      · exact allPuts_len rs bx
    · exact allPuts_len rs bx
theorem allPuts_spec : ∀ (rs : List HR) (bx : List Bx) (k : Nat) (b' : Bx), (allPuts rs bx)[k]? = some b' → ∃ b, bx[k]? = some b ∧ (b'.ty = b.ty ∧ b'.row = b.row) ∧
    ((∃ (i : Nat) (r : HR) (l : List D), rs[i]? = some r ∧ r.pt = some (k, l) ∧ b'.l = l) ∨ ((∀ (i : Nat) (r : HR) (l : List D), rs[i]? = some r → r.pt ≠ some (k, l)) ∧ b'.l = b.l))
  | [], bx, k, b', h => ⟨b', h, ⟨rfl, rfl⟩, .inr ⟨fun i r l hr => by simp at hr, rfl⟩⟩
  | r :: rs, bx, k, b', h => by
    have shift : ∀ (bx' : List Bx), (∃ b, bx'[k]? = some b ∧ (b'.ty = b.ty ∧ b'.row = b.row) ∧ ((∃ (i : Nat) (r : HR) (l : List D), rs[i]? = some r ∧ r.pt = some (k, l) ∧ b'.l = l) ∨ ((∀ (i : Nat) (r : HR) (l : List D), rs[i]? = some r → r.pt ≠ some (k, l)) ∧ b'.l = b.l))) →
        (∀ b, bx'[k]? = some b → ∃ b0, bx[k]? = some b0 ∧ (b.ty = b0.ty ∧ b.row = b0.row) ∧ ((∃ l, r.pt = some (k, l) ∧ b.l = l) ∨ ((∀ l, r.pt ≠ some (k, l)) ∧ b.l = b0.l))) →
        ∃ b, bx[k]? = some b ∧ (b'.ty = b.ty ∧ b'.row = b.row) ∧ ((∃ (i : Nat) (r' : HR) (l : List D), (r :: rs)[i]? = some r' ∧ r'.pt = some (k, l) ∧ b'.l = l) ∨ ((∀ (i : Nat) (r' : HR) (l : List D), (r :: rs)[i]? = some r' → r'.pt ≠ some (k, l)) ∧ b'.l = b.l)) := by
      rintro bx' ⟨b, h1, h2, h3⟩ hb
      obtain ⟨b0, k1, k2, k3⟩ := hb b h1
      refine ⟨b0, k1, ⟨h2.1.trans k2.1, h2.2.trans k2.2⟩, ?_⟩
      rcases h3 with ⟨i, r', l, e1, e2, e3⟩ | ⟨e1, e2⟩
      · exact .inl ⟨i + 1, r', l, by simpa using e1, e2, e3⟩
      · rcases k3 with ⟨l, f1, f2⟩ | ⟨f1, f2⟩
        · exact .inl ⟨0, r, l, rfl, f1, e2.trans f2⟩
        · refine .inr ⟨fun i r' l hr => ?_, e2.trans f2⟩
          cases i with
          | zero => simp at hr; subst hr; exact f1 l
          | succ i => exact e1 i r' l (by simpa using hr)
    simp only [allPuts] at h
    split at h
    · rename_i b m hpt
      split at h
      · rename_i x hx
        refine shift _ (allPuts_spec rs _ k b' h) fun b1 hb1 => ?_
        have hbl := (List.getElem?_eq_some_iff.1 hx).1
        by_cases e : b = k
        · subst e
          rw [List.getElem?_set_self hbl] at hb1
          cases hb1
          exact ⟨x, hx, ⟨rfl, rfl⟩, .inl ⟨m, hpt, rfl⟩⟩
        · rw [List.getElem?_set_ne e] at hb1
          exact ⟨b1, hb1, ⟨rfl, rfl⟩, .inr ⟨fun l hl => by rw [hpt] at hl; cases hl; exact e rfl, rfl⟩⟩
      · rename_i hx
        refine shift _ (allPuts_spec rs _ k b' h) fun b1 hb1 => ⟨b1, hb1, ⟨rfl, rfl⟩, .inr ⟨fun l hl => ?_, rfl⟩⟩
        rw [hpt] at hl; cases hl
        rw [hx] at hb1; cases hb1
    · rename_i hpt
      exact shift _ (allPuts_spec rs _ k b' h) fun b1 hb1 => ⟨b1, hb1, ⟨rfl, rfl⟩, .inr ⟨fun l hl => (by rw [hpt] at hl; cases hl), rfl⟩⟩

/-- The rows that are no more, when all is done. -/
def eatL : List HR → List Nat
  | [] => []
  | r :: l => match r.eat with
    | some k => k :: eatL l
    | none => eatL l
def memL : List Nat → Nat → Bool
  | [], _ => false
  | j :: l, k => match Nat.beq j k with
    | true => true
    | false => memL l k
/-- No other operation reads such a row. -/
def chk3 (tm0 : List AV) (all : List HR) : List Nat → List HR → Bool
  | _, [] => true
  | pre, r :: l => (r.rd.1.all fun p => noXA (memL (pre ++ eatL l)) (look (all.map (·.av)) p.1)) && ((r.rd.2.all fun t => noXA (memL (pre ++ eatL l)) (look tm0 t)) && chk3 tm0 all (match r.eat with
    | some k => pre ++ [k]
    | none => pre) l)
/-- It is not stored to, and no box names it. -/
def chk4 (bx : List Bx) (rs : List HR) : Bool := (eatL rs).all fun k => noPt k rs && ((bx.all fun b => match b.row with
    | none => noXL (at' k) b.l
    | some _ => true) && rs.all fun r => match r.pt with
    | some (_, l) => noXL (at' k) l
    | none => true)
def chkE (tm0 : List AV) (bx : List Bx) (rs : List HR) : Bool := match eatL rs with
  | [] => true
  | _ :: _ => chk3 tm0 rs [] rs && chk4 bx rs
def finT (rs : List HR) (tm : List AV) : List AV := match eatL rs with
  | [] => tm
  | k :: ks => kilT (memL (k :: ks)) tm
theorem finT_len (rs : List HR) (tm : List AV) : (finT rs tm).length = tm.length := by
  unfold finT
  split
  · rfl
  · exact kilT_len _
theorem memL_iff : ∀ {ks : List Nat} {k : Nat}, memL ks k = true ↔ k ∈ ks
  | [], k => by simp [memL]
  | j :: l, k => by
    have ih := memL_iff (ks := l) (k := k)
    unfold memL
    split
    · rename_i e
      simp [Nat.eq_of_beq_eq_true e]
    · rename_i e
      have hne : ¬ k = j := fun h => by subst h; rw [Nat.beq_refl] at e; cases e
      rw [ih, List.mem_cons]
      exact ⟨.inr, fun h => h.resolve_left hne⟩
theorem eatL_iff {k : Nat} : ∀ {rs : List HR}, k ∈ eatL rs ↔ ∃ (i : Nat) (r : HR), rs[i]? = some r ∧ r.eat = some k
  | [] => by simp [eatL]
  | r :: l => by
    have ih := eatL_iff (k := k) (rs := l)
    unfold eatL
    constructor
    · intro h
      split at h
      · rename_i k' he
        rcases List.mem_cons.1 h with rfl | h
        · exact ⟨0, r, rfl, he⟩
        · obtain ⟨i, s, h1, h2⟩ := ih.1 h
          exact ⟨i + 1, s, by simpa using h1, h2⟩
      · obtain ⟨i, s, h1, h2⟩ := ih.1 h
        exact ⟨i + 1, s, by simpa using h1, h2⟩
    · rintro ⟨i, s, h1, h2⟩
      cases i with
      | zero =>
        simp at h1; subst h1
        rw [h2]; exact List.mem_cons_self ..
      | succ i =>
        have := ih.2 ⟨i, s, by simpa using h1, h2⟩
        split
        · exact List.mem_cons_of_mem _ this
        · exact this
theorem chk3_spec {tm0 : List AV} {all : List HR} : ∀ {rs : List HR} {pre : List Nat}, chk3 tm0 all pre rs = true → ∀ (i : Nat) (r : HR) (Z : Nat → Bool), rs[i]? = some r → (∀ k, Z k = true → k ∈ pre ∨ ∃ (j : Nat) (s : HR), j ≠ i ∧ rs[j]? = some s ∧ s.eat = some k) →
    (∀ p ∈ r.rd.1, noXA Z (look (all.map (·.av)) p.1) = true) ∧ ∀ t ∈ r.rd.2, noXA Z (look tm0 t) = true
  | [], _, _, _, _, _, hi, _ => by simp at hi
  | x :: rs, pre, h, i, r, Z, hi, hZ => by
    simp only [chk3, Bool.and_eq_true] at h
    cases i with
    | zero =>
      simp at hi; subst hi
      have less : ∀ k, Z k = true → memL (pre ++ eatL rs) k = true := fun k hk => memL_iff.2 (by
        rcases hZ k hk with h1 | ⟨j, s, h1, h2, h3⟩
        · exact List.mem_append_left _ h1
        · refine List.mem_append_right _ (eatL_iff.2 ?_)
          obtain ⟨j', rfl⟩ : ∃ j', j = j' + 1 := ⟨j - 1, by omega⟩
          exact ⟨j', s, by simpa using h2, h3⟩)
      exact ⟨fun p hp => noXA_less less (List.all_eq_true.1 h.1 p hp), fun t ht => noXA_less less (List.all_eq_true.1 h.2.1 t ht)⟩
    | succ i =>
      refine chk3_spec h.2.2 i r Z (by simpa using hi) fun k hk => ?_
      rcases hZ k hk with h1 | ⟨j, s, h1, h2, h3⟩
      · left
        split
        · exact List.mem_append_left _ h1
        · exact h1
      · cases j with
        | zero =>
          simp at h2; subst h2
          left
          rw [h3]
          exact List.mem_append_right _ (List.mem_singleton.2 rfl)
        | succ j => exact .inr ⟨j, s, by omega, by simpa using h2, h3⟩
/-- The rows that are no more, where L is done. -/
def deadB (rs : List HR) (L : Nat → Bool) : Nat → Bool := fun k => (List.range rs.length).any fun j => L j && match rs[j]? with
  | some s => match s.eat with
    | some k' => Nat.beq k' k
    | none => false
  | none => false
theorem deadB_iff {rs : List HR} {L : Nat → Bool} {k : Nat} : deadB rs L k = true ↔ ∃ (j : Nat) (s : HR), rs[j]? = some s ∧ s.eat = some k ∧ L j = true := by
  unfold deadB
  rw [List.any_eq_true]
  constructor
  · rintro ⟨j, _, h⟩
    rw [Bool.and_eq_true] at h
    obtain ⟨h1, h2⟩ := h
    split at h2
    · rename_i s hs
      split at h2
      · rename_i k' he
        exact ⟨j, s, hs, by rw [he, Nat.eq_of_beq_eq_true h2], h1⟩
      · cases h2
    · cases h2
  · rintro ⟨j, s, h1, h2, h3⟩
    refine ⟨j, List.mem_range.2 (List.getElem?_eq_some_iff.1 h1).1, ?_⟩
    simp only [h1, h2, h3, Nat.beq_refl, Bool.and_self]
theorem want_no {a : AV} {b c : Bool} {Z : Nat → Bool} (h : want a b = some c) : noXA Z a = true := by
  unfold want at h
  split at h <;> first | (cases h; rfl) | cases h
theorem putAt_box {bx : List Bx} {n k : Nat} {m l : List D} {b : D} (h : putAt bx n m b = some (k, l)) : boxOf b = [k] ∧ ∃ x, bx[k]? = some x ∧ ∀ w, x.row = some w → l.length = x.l.length := by
  unfold putAt at h
  split at h
  · split at h
    · rename_i hb
      split at h
      · cases h
        exact ⟨rfl, _, hb, nofun⟩
      · cases h
    · cases h
  · split at h
    · rename_i hb
      split at h
      · split at h
        · cases h
          exact ⟨rfl, _, hb, fun _ _ => by simp⟩
        · cases h
      · cases h
    · cases h
  · cases h
theorem ev1_new {tt : TT} {S : List Spec} {rd : Operand → AV} {bx : List Bx} {hs hs' : List Bool} {op : Op} {b : Bx} {p : Prop} (h : ev1 tt S rd bx hs op = some (⟨.inr (.inl b)⟩, p, hs')) : touch rd op = [] := by
  cases op with
  | load t a =>
    exfalso
    simp only [ev1] at h
    repeat' split at h
    all_goals cases h
  | store t a x =>
    exfalso
    simp only [ev1] at h
    repeat' split at h
    all_goals cases h
  | call c =>
    exfalso
    unfold ev1 at h
    split at h <;> first | contradiction | skip
    · repeat' split at h
      all_goals cases h
    · unfold evB at h
      repeat' split at h
      all_goals cases h
  | _ => rfl
theorem ev1_put {tt : TT} {S : List Spec} {rd : Operand → AV} {bx : List Bx} {hs hs' : List Bool} {op : Op} {k : Nat} {l : List D} {p : Prop} (h : ev1 tt S rd bx hs op = some (⟨.inr (.inr (.inl (k, l)))⟩, p, hs')) : touch rd op = [k] ∧ ∃ x, bx[k]? = some x ∧ ∀ w, x.row = some w → l.length = x.l.length := by
  cases op with
  | store t a x =>
    simp only [ev1] at h
    split at h
    · rename_i e2 e3
      split at h
      · split at h
        · rename_i hp
          cases h
          obtain ⟨h1, h2⟩ := putAt_box hp
          exact ⟨by simp [touch, boxesOf, e2, h1], h2⟩
        · cases h
      · cases h
    · cases h
  | call c =>
    exfalso
    unfold ev1 at h
    split at h <;> first | contradiction | skip
    · repeat' split at h
      all_goals cases h
    · unfold evB at h
      repeat' split at h
      all_goals cases h
  | _ =>
    exfalso
    unfold ev1 at h
    repeat' split at h
    all_goals first
      | contradiction
      | (cases h; first | done | contradiction)
theorem ev_new {tt : TT} {S : List Spec} {rd : Operand → AV} {bx : List Bx} {hs hs' : List Bool} {op : Op} {b : Bx} {p : Prop} (h : ev tt S rd bx hs op = some (⟨.inr (.inl b)⟩, p, hs')) : touch rd op = [] := by
  unfold ev at h
  split at h
  · rename_i r h1
    cases h
    exact ev1_new h1
  · split at h <;> cases h
theorem ev_put {tt : TT} {S : List Spec} {rd : Operand → AV} {bx : List Bx} {hs hs' : List Bool} {op : Op} {k : Nat} {l : List D} {p : Prop} (h : ev tt S rd bx hs op = some (⟨.inr (.inr (.inl (k, l)))⟩, p, hs')) : touch rd op = [k] ∧ ∃ x, bx[k]? = some x ∧ ∀ w, x.row = some w → l.length = x.l.length := by
  unfold ev at h
  split at h
  · rename_i r h1
    cases h
    exact ev1_put h1
  · split at h <;> cases h
end Go.Proofs.YtbobhhnhlgdkiaaGreat.Sy

/- A region whose order is drawn. -/
namespace Go.Proofs.YtbobhhnhlgdkiaaGreat.Sy
open Go Go.RowKit M Kahn
set_option maxRecDepth 100000

/-- What holds while the region runs: L tells which operations are done. -/
structure JB (w0 : Start) (tm0 : List AV) (a0 : Act) (rs : List HR) (bx : List Bx) (E : Env) (L : Nat → Bool) (vs : Nat → Value) (u : World) : Prop where
  nm : E.nm = true
  old : ∀ b, E.F b → b < w0.heap.size ∧ ¬ w0.K b
  F : E.F = w0.F
  bel : BelX w0.K w0.heap.size w0.toWorld u
  low : ∀ k g, E.β k = some g → w0.heap.size ≤ g ∨ w0.R k = some g
  inj : ∀ j k g, E.β j = some g → E.β k = some g → j = k
  dom : ∀ k g, E.β k = some g → k < bx.length
  cont : ∀ k b g, bx[k]? = some b → E.β k = some g →
    ((∃ (i : Nat) (r : HR) (l : List D), rs[i]? = some r ∧ r.pt = some (k, l) ∧ L i = true ∧ Holds E u ⟨b.ty, l, b.row⟩ k g) ∨ ((∀ (i : Nat) (r : HR) (l : List D), rs[i]? = some r → r.pt = some (k, l) → L i = false) ∧ Holds E u b k g))
  row : ∀ k, plain (E.γ k) = true → ∃ b n, bx[k]? = some b ∧ b.row = some n ∧ (E.β k = none → b.l = [] ∧ E.γ k = .slice none 0 0)
  root : ∀ k g, w0.R k = some g → E.β k = some g ∧ ∃ b, bx[k]? = some b ∧ b.row = none
  plen : ∀ (i : Nat) (r : HR) (k : Nat) (l : List D) (b : Bx) (n : Nat), rs[i]? = some r → r.pt = some (k, l) → bx[k]? = some b → b.row = some n → l.length = b.l.length
  fresh : ∀ (i : Nat) (r : HR) (k : Nat), rs[i]? = some r → r.nw = some k → L i = false → E.β k = none ∧ plain (E.γ k) = false
  done : ∀ (i : Nat) (r : HR) (k : Nat) (l : List D), rs[i]? = some r → r.pt = some (k, l) → L i = true → ∃ g, E.β k = some g
  vals : ∀ (i : Nat) (r : HR), rs[i]? = some r → L i = true → (kilA (deadB rs L) r.av).Is E u (vs i)
  orig : ∀ t, (kilA (deadB rs L) (look tm0 t)).Is E u (a0.tmps.getD t undef)
section
variable {w0 : Start} {tm0 : List AV} {a0 : Act} {rs : List HR} {bx : List Bx} {E : Env} {L : Nat → Bool} {vs : Nat → Value} {u u' : World} {i : Nat} {r : HR} {v : Value}
theorem upd_true {L : Nat → Bool} {i j : Nat} (h : L j = true) : Upd L i true j = true := by unfold Upd; split <;> first | rfl | exact h
theorem upd_false {L : Nat → Bool} {i j : Nat} (h : Upd L i true j = false) : j ≠ i ∧ L j = false := by
  unfold Upd at h
  split at h
  · cases h
  · exact ⟨by assumption, h⟩
theorem JB.holds (J : JB w0 tm0 a0 rs bx E L vs u) {k g : Nat} {b : Bx} (hb : bx[k]? = some b) (hk : E.β k = some g) : ∃ l, Holds E u ⟨b.ty, l, b.row⟩ k g ∧ ∀ n, b.row = some n → l.length = b.l.length := by
  rcases J.cont k b g hb hk with ⟨i, r, l, h1, h2, _, h⟩ | ⟨_, h⟩
  · exact ⟨l, h, fun n hn => J.plen i r k l b n h1 h2 hb hn⟩
  · exact ⟨b.l, h, fun _ _ => rfl⟩
theorem JB.bk (J : JB w0 tm0 a0 rs bx E L vs u) {k g : Nat} (hk : E.β k = some g) : ∃ ty cs, Bk u g ty cs ∧ ∀ v ∈ cs, Sy.plain v = true := by
  obtain ⟨l, h, _⟩ := J.holds (List.getElem?_eq_getElem (J.dom k g hk)) hk
  obtain ⟨cs, h1, h2⟩ := h.plain
  exact ⟨_, cs, h1, h2⟩
theorem JB.there (J : JB w0 tm0 a0 rs bx E L vs u) {k g : Nat} (hk : E.β k = some g) : g < u.heap.size := by
  obtain ⟨_, _, h, _⟩ := J.bk hk
  exact h.lt
theorem JB.bs (J : JB w0 tm0 a0 rs bx E L vs u) {bx' m : List Bx} (hb : bx = bx' ++ m) : BS E bx' u := by
  have pre : ∀ (k : Nat) (b : Bx), bx'[k]? = some b → bx[k]? = some b := fun k b h => by
    rw [hb, List.getElem?_append_left (List.getElem?_eq_some_iff.1 h).1]; exact h
  refine ⟨J.nm, fun b hb => ⟨Nat.lt_of_lt_of_le (J.old b hb).1 J.bel.size, fun k hk => (J.low k b hk).elim (Nat.not_le_of_lt (J.old b hb).1) fun e => (J.old b hb).2 ⟨k, e⟩⟩, J.inj, fun k g hk => J.there hk, fun k b hk h1 => ?_, fun k b hk h1 hn => ?_⟩
  · obtain ⟨b', n, h1', h2, h3⟩ := J.row k hk
    rw [pre k b h1] at h1'; cases h1'
    cases hbk : E.β k with
    | none =>
      obtain ⟨h4, h5⟩ := h3 hbk
      exact ⟨n, none, 0, h2, by rw [h4, h5]; rfl, by rw [h4]; exact Nat.le_refl _, nofun, fun _ => h4⟩
    | some g =>
      obtain ⟨l, hh, hl⟩ := J.holds (pre k b h1) hbk
      unfold Holds at hh
      simp only [h2] at hh
      obtain ⟨_, vs, h4, _⟩ := hh
      obtain ⟨sp, cap, _, _, _, h5, _, _, h6⟩ := h4.ex
      rw [hl n h2] at h5 h6
      exact ⟨n, some ⟨g, 0, none⟩, cap, h2, h6, h5, fun c hc => by cases hc; exact ⟨g, rfl, rfl⟩, nofun⟩
  · obtain ⟨b', n, h1', h2, h3⟩ := J.row k hk
    rw [pre k b h1] at h1'; cases h1'
    exact h3 hn
theorem dead_upd {L : Nat → Bool} (hr : rs[i]? = some r) (he : r.eat = none) : deadB rs (Upd L i true) = deadB rs L := by
  funext k
  rw [Bool.eq_iff_iff, deadB_iff, deadB_iff]
  constructor
  · rintro ⟨j, s, h1, h2, h3⟩
    have hj : j ≠ i := fun e => by subst e; rw [hr] at h1; cases h1; rw [he] at h2; cases h2
    exact ⟨j, s, h1, h2, by rwa [Upd.ne hj] at h3⟩
  · rintro ⟨j, s, h1, h2, h3⟩
    exact ⟨j, s, h1, h2, upd_true h3⟩
theorem dead_grow {L : Nat → Bool} : ∀ k, deadB rs L k = true → deadB rs (Upd L i true) k = true := fun k h => by
  obtain ⟨j, s, h1, h2, h3⟩ := deadB_iff.1 h
  exact deadB_iff.2 ⟨j, s, h1, h2, upd_true h3⟩
theorem vals_step {E' : Env} (J : JB w0 tm0 a0 rs bx E L vs u) (t : Tr non E u E' u') (hr : rs[i]? = some r) (he : r.eat = none) (hv : r.av.Is E' u' v) : ∀ (j : Nat) (s : HR), rs[j]? = some s → Upd L i true j = true → (kilA (deadB rs (Upd L i true)) s.av).Is E' u' (Upd vs i v j) := fun j s hs hj => by
  rw [dead_upd hr he]
  by_cases e : j = i
  · subst e
    rw [hr] at hs; cases hs
    rw [Upd.same]; exact kilA_is hv
  · rw [Upd.ne e] at hj ⊢
    exact (J.vals j s hs hj).go t
theorem orig_step {E' : Env} (J : JB w0 tm0 a0 rs bx E L vs u) (t : Tr non E u E' u') (hr : rs[i]? = some r) (he : r.eat = none) (t' : Nat) : (kilA (deadB rs (Upd L i true)) (look tm0 t')).Is E' u' (a0.tmps.getD t' undef) := by
  rw [dead_upd hr he]
  exact (J.orig t').go t
theorem upd_pt {L : Nat → Bool} {k : Nat} (hr : rs[i]? = some r) (hp : ∀ l, r.pt ≠ some (k, l)) (h : ∀ (j : Nat) (s : HR) (l : List D), rs[j]? = some s → s.pt = some (k, l) → L j = false) : ∀ (j : Nat) (s : HR) (l : List D), rs[j]? = some s → s.pt = some (k, l) → Upd L i true j = false := fun j s l e1 e2 => by
  rw [Upd.ne (fun e => by subst e; rw [hr] at e1; cases e1; exact hp l e2)]
  exact h j s l e1 e2
/-- It yields a value. -/
theorem JB.ret (J : JB w0 tm0 a0 rs bx E L vs u) (hr : rs[i]? = some r) (he : r.eat = none) (hp : r.pt = none) (hb : Below u.heap.size u u') (hv : r.av.Is E u' v) : JB w0 tm0 a0 rs bx E (Upd L i true) (Upd vs i v) u' := by
  have t : Tr non E u E u' := Tr.later hb
  refine ⟨J.nm, J.old, J.F, J.bel.on (hb.mono J.bel.size), J.low, J.inj, J.dom, fun k b g h1 h2 => ?_, J.row, J.root, J.plen, fun j s k h1 h2 h3 => J.fresh j s k h1 h2 (upd_false h3).2, fun j s k l h1 h2 h3 => ?_, vals_step J t hr he hv, orig_step J t hr he⟩
  · have hg := hb.block g (J.there h2)
    rcases J.cont k b g h1 h2 with ⟨j, s, l, k1, k2, k3, k4⟩ | ⟨k1, k2⟩
    · exact .inl ⟨j, s, l, k1, k2, upd_true k3, k4.tr t rfl (fun _ => noXL_non _) hg⟩
    · exact .inr ⟨upd_pt hr (by rw [hp]; nofun) k1, k2.tr t rfl (fun _ => noXL_non _) hg⟩
  · by_cases e : j = i
    · subst e; rw [hr] at h1; cases h1; rw [hp] at h2; cases h2
    · rw [Upd.ne e] at h3; exact J.done j s k l h1 h2 h3
/-- It lays a box. -/
theorem JB.new (J : JB w0 tm0 a0 rs bx E L vs u) {k : Nat} {b : Bx} {xs : List Value} {vv : Value} (hr : rs[i]? = some r) (he : r.eat = none) (hi : L i = false) (hn : r.nw = some k) (hp : r.pt = none) (hb : bx[k]? = some b)
    (hv : r.av.Is (E.lay k (some u.heap.size) vv) (u.alloc (.cells xs.toArray b.ty)) v) (hh : Holds (E.lay k (some u.heap.size) vv) (u.alloc (.cells xs.toArray b.ty)) b k u.heap.size) (hvv : plain vv = true → ∃ n, b.row = some n)
    (h1 : ∀ (j : Nat) (s : HR), rs[j]? = some s → s.nw = some k → j = i) : JB w0 tm0 a0 rs bx (E.lay k (some u.heap.size) vv) (Upd L i true) (Upd vs i v) (u.alloc (.cells xs.toArray b.ty)) := by
  obtain ⟨hk, hk'⟩ := J.fresh i r k hr hn hi
  have lb := below_alloc u (.cells xs.toArray b.ty)
  have LL := Laid.alloc (E := E) (k := k) (u := u) (.cells xs.toArray b.ty)
  have t := Tr.laid (X := non) (v := vv) LL (fun g hg => by rw [hk] at hg; cases hg) (.inr ⟨.inl hk, .inl hk'⟩)
  refine ⟨J.nm, J.old, J.F, J.bel.on (lb.mono J.bel.size), fun j g hj => ?_, fun i' j g hi' hj => ?_, fun j g hj => ?_, fun j b' g hb' hj => ?_, fun j hj => ?_, fun j g hj => ?_, J.plen, fun j s k' e1 e2 e3 => ?_, fun j s k' l e1 e2 e3 => ?_, vals_step J t hr he hv, orig_step J t hr he⟩
  · by_cases e : j = k
    · subst e; rw [lay_b] at hj; cases hj; exact .inl J.bel.size
    · rw [lay_nb e] at hj; exact J.low j g hj
  · by_cases e1 : i' = k <;> by_cases e2 : j = k
    · rw [e1, e2]
    · subst e1; rw [lay_b] at hi'; rw [lay_nb e2] at hj; cases hi'; exact absurd (J.there hj) (Nat.lt_irrefl _)
    · subst e2; rw [lay_b] at hj; rw [lay_nb e1] at hi'; cases hj; exact absurd (J.there hi') (Nat.lt_irrefl _)
    · rw [lay_nb e1] at hi'; rw [lay_nb e2] at hj; exact J.inj i' j g hi' hj
  · by_cases e : j = k
    · subst e; exact (List.getElem?_eq_some_iff.1 hb).1
    · rw [lay_nb e] at hj; exact J.dom j g hj
  · by_cases e : j = k
    · subst e; rw [lay_b] at hj; cases hj; rw [hb] at hb'; cases hb'
      refine .inr ⟨upd_pt hr (by rw [hp]; nofun) fun j' s l e1 e2 => ?_, hh⟩
      cases hL : L j' with
      | false => rfl
      | true =>
        obtain ⟨g, hg⟩ := J.done j' s j l e1 e2 hL
        rw [hk] at hg; cases hg
    · rw [lay_nb e] at hj
      have hg := lb.block g (J.there hj)
      rcases J.cont j b' g hb' hj with ⟨j', s, l, k1, k2, k3, k4⟩ | ⟨k1, k2⟩
      · exact .inl ⟨j', s, l, k1, k2, upd_true k3, k4.tr t rfl (fun _ => noXL_non _) hg⟩
      · exact .inr ⟨upd_pt hr (by rw [hp]; nofun) k1, k2.tr t rfl (fun _ => noXL_non _) hg⟩
  · by_cases e : j = k
    · subst e
      rw [lay_g] at hj
      obtain ⟨n, hn'⟩ := hvv hj
      exact ⟨b, n, hb, hn', fun h => by rw [lay_b] at h; cases h⟩
    · rw [lay_ng e] at hj
      obtain ⟨b', n, h1, h2, h3⟩ := J.row j hj
      exact ⟨b', n, h1, h2, fun h => by rw [lay_nb e] at h; rw [lay_ng e]; exact h3 h⟩
  · obtain ⟨r1, r2⟩ := J.root j g hj
    have e : j ≠ k := fun e => by subst e; rw [hk] at r1; cases r1
    exact ⟨by rw [lay_nb e]; exact r1, r2⟩
  · obtain ⟨f1, f2⟩ := upd_false e3
    have hne : k' ≠ k := fun e => by subst e; exact f1 (h1 j s e1 e2)
    rw [lay_nb hne, lay_ng hne]
    exact J.fresh j s k' e1 e2 f2
  · by_cases e : j = i
    · subst e; rw [hr] at e1; cases e1; rw [hp] at e2; cases e2
    · rw [Upd.ne e] at e3
      obtain ⟨g, hg⟩ := J.done j s k' l e1 e2 e3
      exact ⟨g, t.box _ _ rfl hg⟩
/-- It stores to a box. -/
theorem JB.put (J : JB w0 tm0 a0 rs bx E L vs u) {k g : Nat} {b : Bx} {l : List D} (hr : rs[i]? = some r) (he : r.eat = none) (hp : r.pt = some (k, l)) (hav : r.av = ⟨.inl (.map [])⟩) (hb : bx[k]? = some b) (hk : E.β k = some g)
    (hf : Fr g u u') (hh : Tr non E u E u' → Holds E u' ⟨b.ty, l, b.row⟩ k g) : JB w0 tm0 a0 rs bx E (Upd L i true) (Upd vs i v) u' := by
  have t : Tr non E u E u' := by
    have := Tr.laid (X := non) (v := E.γ k) (Laid.store hk hf) (fun g hg => J.bk hg) (.inr ⟨.inr hk.symm, .inr rfl⟩)
    rwa [← hk, lay_self] at this
  refine ⟨J.nm, J.old, J.F, J.bel.trans ⟨hf.os, hf.tape, hf.output, by rw [hf.size]; exact Nat.le_refl _, fun c hc hK => hf.block c fun e => by subst e; exact (J.low k c hk).elim (Nat.not_le_of_lt hc) fun e => hK ⟨k, e⟩⟩, J.low, J.inj, J.dom, fun j b' g' hb' hj => ?_, J.row, J.root, J.plen, fun j s k' e1 e2 e3 => J.fresh j s k' e1 e2 (upd_false e3).2, fun j s k' l' e1 e2 e3 => ?_, vals_step J t hr he (by rw [hav]; exact VIs.any), orig_step J t hr he⟩
  · by_cases e : j = k
    · subst e
      rw [hk] at hj; cases hj
      rw [hb] at hb'; cases hb'
      exact .inl ⟨i, r, l, hr, hp, by rw [Upd.same], hh t⟩
    · have hg := hf.block g' (fun e' => e (J.inj j k g' hj (by rw [e']; exact hk)))
      rcases J.cont j b' g' hb' hj with ⟨j', s, l', k1, k2, k3, k4⟩ | ⟨k1, k2⟩
      · exact .inl ⟨j', s, l', k1, k2, upd_true k3, k4.tr t rfl (fun _ => noXL_non _) hg⟩
      · exact .inr ⟨upd_pt hr (fun l' e' => by rw [hp] at e'; cases e'; exact e rfl) k1, k2.tr t rfl (fun _ => noXL_non _) hg⟩
  · by_cases e : j = i
    · subst e; rw [hr] at e1; cases e1; rw [hp] at e2; cases e2; exact ⟨g, hk⟩
    · rw [Upd.ne e] at e3; exact J.done j s k' l' e1 e2 e3
/-- The region begins. -/
theorem JB.start {st : St} {a : Act} {m : List Bx} (R : Rel w0 st E a u) (hn : ∀ (i : Nat) (r : HR) (k : Nat), rs[i]? = some r → r.nw = some k → st.bx.length ≤ k) (hpl : ∀ (i : Nat) (r : HR) (k : Nat) (l : List D) (b : Bx) (n : Nat), rs[i]? = some r → r.pt = some (k, l) → (st.bx ++ m)[k]? = some b → b.row = some n → l.length = b.l.length) : JB w0 st.tm a rs (st.bx ++ m) E (fun _ => false) vs { u with drawn := u.drawn + 1 } := by
  have hb : Below u.heap.size u { u with drawn := u.drawn + 1 } := ⟨rfl, rfl, rfl, Nat.le_refl _, fun _ _ => rfl⟩
  have W := (R.ws.later hb).more m
  refine ⟨W.nm, W.old, W.F, W.bel, W.low, W.inj, W.dom, fun k b g h1 h2 => .inr ⟨fun _ _ _ _ _ => rfl, W.cont k b g h1 h2⟩, W.row, W.root, hpl, fun i r k h1 h2 _ => R.ws.fresh (hn i r k h1 h2), fun _ _ _ _ _ _ h => (by cases h), fun _ _ _ h => (by cases h), fun t => kilA_is ((R.vals t).go (Tr.later hb))⟩
/-- All is done. -/
theorem JB.fin (J : JB w0 tm0 a0 rs bx E L vs u) (hL : ∀ k, k < rs.length → L k = true) (h1 : ∀ (i j : Nat) (r s : HR) (k : Nat) (l m : List D), rs[i]? = some r → rs[j]? = some s → r.pt = some (k, l) → s.pt = some (k, m) → i = j) : WS w0 (allPuts rs bx) E u := by
  refine ⟨J.nm, J.old, J.F, J.bel, J.low, J.inj, fun k g hk => by rw [allPuts_len]; exact J.dom k g hk, fun k b' g hb hk => ?_, fun k hk => ?_, fun k g hk => ?_⟩
  · obtain ⟨b, e1, e2, e3⟩ := allPuts_spec rs bx k b' hb
    have key : ∀ l, b'.l = l → Holds E u ⟨b.ty, l, b.row⟩ k g → Holds E u b' k g := fun l hl h => by
      rw [← e2.1, ← e2.2, ← hl] at h; exact h
    rcases J.cont k b g e1 hk with ⟨i, r, l, k1, k2, k3, k4⟩ | ⟨k1, k2⟩
    · rcases e3 with ⟨j, s, m, f1, f2, f3⟩ | ⟨f1, _⟩
      · have e := h1 i j r s k l m k1 f1 k2 f2
        subst e
        rw [k1] at f1; cases f1
        rw [k2] at f2; cases f2
        exact key _ f3 k4
      · exact absurd k2 (f1 i r l k1)
    · rcases e3 with ⟨j, s, m, f1, f2, f3⟩ | ⟨_, f2⟩
      · have := k1 j s m f1 f2
        rw [hL j (List.getElem?_eq_some_iff.1 f1).1] at this
        cases this
      · exact key _ f2 k2
  · obtain ⟨b, n, e1, e2, e3⟩ := J.row k hk
    have hkl : k < (allPuts rs bx).length := by rw [allPuts_len]; exact (List.getElem?_eq_some_iff.1 e1).1
    obtain ⟨b', hb'⟩ : ∃ b', (allPuts rs bx)[k]? = some b' := ⟨_, List.getElem?_eq_getElem hkl⟩
    obtain ⟨b0, f1, f2, f3⟩ := allPuts_spec rs bx k b' hb'
    rw [e1] at f1; cases f1
    refine ⟨b', n, hb', by rw [f2.2]; exact e2, fun h => ?_⟩
    obtain ⟨q1, q2⟩ := e3 h
    refine ⟨?_, q2⟩
    rcases f3 with ⟨j, s, m, g1, g2, g3⟩ | ⟨_, g2⟩
    · have := J.plen j s k m b n g1 g2 e1 e2
      rw [g3]
      exact List.eq_nil_of_length_eq_zero (by rw [this, q1]; rfl)
    · rw [g2]; exact q1
  · obtain ⟨r1, b, r2, r3⟩ := J.root k g hk
    have hkl : k < (allPuts rs bx).length := by rw [allPuts_len]; exact (List.getElem?_eq_some_iff.1 r2).1
    obtain ⟨b', hb'⟩ : ∃ b', (allPuts rs bx)[k]? = some b' := ⟨_, List.getElem?_eq_getElem hkl⟩
    obtain ⟨b0, f1, f2, _⟩ := allPuts_spec rs bx k b' hb'
    rw [r2] at f1; cases f1
    exact ⟨r1, b', hb', by rw [f2.2]; exact r3⟩
theorem goes_mono {P : Program} {o : Oper} {ρ : Operand → Value} {R R' : Value → World → Prop} (h : Goes P o ρ u R) (hR : ∀ v u', R v u' → R' v u') : Goes P o ρ u R' := by
  unfold Goes at *
  generalize (execOp ρ o).run P u = x at *
  cases x with
  | ok m u' =>
    cases m <;> simp only at h ⊢
    case value v => exact hR _ _ h
    case skip => exact hR _ _ h
    case enter f args => exact Calls.mono h fun e w ⟨v, h1, h2⟩ => ⟨v, h1, hR _ _ h2⟩
  | halt x u' => exact h
theorem JB.look (J : JB w0 tm0 a0 rs bx E L vs u) {j : Nat} (hj : L j = true) (hn : noXA (deadB rs L) (Sy.look (rs.map (·.av)) j) = true) : (Sy.look ([] ++ rs.map (·.av)) j).Is E u (vs j) := by
  rw [List.nil_append]
  unfold Sy.look at hn ⊢
  rw [List.getElem?_map] at hn ⊢
  cases hs : rs[j]? with
  | none => exact VIs.any
  | some s =>
    have := J.vals j s hs hj
    rw [hs] at hn
    have hn' : noXA (deadB rs L) s.av = true := hn
    rw [kilA_id hn'] at this
    exact this
theorem JB.first (J : JB w0 tm0 a0 rs bx E L vs u) {t : Nat} (hn : noXA (deadB rs L) (Sy.look tm0 t) = true) : (Sy.look tm0 t).Is E u (a0.tmps.getD t undef) := by
  have := J.orig t
  rwa [kilA_id hn] at this
/-- It makes a row, another one of that of box kk, or one of none. -/
theorem JB.app (J : JB w0 tm0 a0 rs bx E L vs u) {k kk n : Nat} {b : Bx} {og : Option Nat} (hr : rs[i]? = some r) (hi : L i = false) (hn : r.nw = some k) (hp : r.pt = none) (hav : r.av = ⟨.inl (.held (.inr (.inr (.inl k))))⟩) (hb : bx[k]? = some b) (hrow : b.row = some n) (LL : Laid E u u' kk og) (hpl : plain v = true)
    (hw : Wide n b.l) (h1 : ∀ g, og = some g → ∃ ws, RowIs u' b.ty n b.l.length v g ws ∧ Els E u b.l ws) (h2 : og = none → b.l = [] ∧ v = .slice none 0 0)
    (hk : (kk = k ∧ r.eat = none) ∨ (kk ≠ k ∧ r.eat = some kk ∧ noPt kk rs = true ∧ (∀ (j : Nat) (b : Bx), bx[j]? = some b → b.row = none → noXL (at' kk) b.l = true) ∧ ∀ (j : Nat) (s : HR) (m : Nat) (l : List D), rs[j]? = some s → s.pt = some (m, l) → noXL (at' kk) l = true))
    (hu : ∀ (j : Nat) (s : HR), rs[j]? = some s → s.nw = some k → j = i) (hnr : ∀ g, w0.R kk ≠ some g) : ∃ E', JB w0 tm0 a0 rs bx E' (Upd L i true) (Upd vs i v) u' := by
  obtain ⟨hbk, hgk⟩ := J.fresh i r k hr hn hi
  -- the new places of boxes
  obtain ⟨E', hE'⟩ : ∃ E' : Env, E' = ⟨fun j => if j = k then og else if j = kk then none else E.β j, fun j => if j = k then v else if j = kk then undef else E.γ j, E.nm, E.F⟩ := ⟨_, rfl⟩
  have bk : E'.β k = og := by rw [hE']; exact if_pos rfl
  have gk : E'.γ k = v := by rw [hE']; exact if_pos rfl
  have bkk : kk ≠ k → E'.β kk = none := fun h => by rw [hE']; show (if kk = k then _ else _) = _; rw [if_neg h, if_pos rfl]
  have gkk : kk ≠ k → E'.γ kk = undef := fun h => by rw [hE']; show (if kk = k then _ else _) = _; rw [if_neg h, if_pos rfl]
  have bo : ∀ j, j ≠ k → j ≠ kk → E'.β j = E.β j := fun j h h' => by rw [hE']; show (if j = k then _ else _) = _; rw [if_neg h, if_neg h']
  have go : ∀ j, j ≠ k → j ≠ kk → E'.γ j = E.γ j := fun j h h' => by rw [hE']; show (if j = k then _ else _) = _; rw [if_neg h, if_neg h']
  have nmE : E'.nm = E.nm := by rw [hE']
  have FE : E'.F = E.F := by rw [hE']
  obtain ⟨X, hXd⟩ : ∃ X : Nat → Bool, X = deadB rs (Upd L i true) := ⟨_, rfl⟩
  have hpk : ∀ g, E.β kk = some g → ∃ ty cs, Bk u g ty cs ∧ ∀ v ∈ cs, Sy.plain v = true := fun g hg => J.bk hg
  have dead_kk : kk ≠ k → X kk = true := fun h => by
    rcases hk with ⟨e, _⟩ | ⟨_, he, _⟩
    · exact absurd e h
    · rw [hXd]; exact deadB_iff.2 ⟨i, r, hr, he, by rw [Upd.same]⟩
  have new : ∀ g, og = some g → E.β kk = some g ∨ u.heap.size ≤ g := LL.new
  -- what is not dead lasts
  have tr : ∀ Y : Nat → Bool, (kk ≠ k → Y kk = true) → Tr Y E u E' u' := fun Y hY => by
    refine ⟨nmE, fun c hc => ⟨⟨Nat.lt_of_lt_of_le hc.lt LL.big, by rw [FE]; exact hc.ge, fun j hj => ?_⟩, LL.keep c hc.lt (hc.no kk)⟩, fun r q K h => ?_, fun r q K h => ⟨h.sgn, sl_laid LL hpk h.num, sl_laid LL hpk h.den, h.ln, h.ld⟩, fun _ _ _ _ h => sl_laid LL hpk h, fun j g hj hg => ?_, fun j hj hg => ?_⟩
    · by_cases e : j = k
      · subst e
        rw [bk] at hj
        rcases new c hj with h | h
        · exact hc.no kk h
        · exact absurd hc.lt (Nat.not_lt_of_le h)
      · by_cases e' : j = kk
        · subst e'; rw [bkk e] at hj; cases hj
        · rw [bo j e e'] at hj; exact hc.no j hj
    · obtain ⟨xs, ys, q1, q2, q3⟩ := h.there
      exact ⟨⟨xs, ys, sl_laid LL hpk q1, sl_laid LL hpk q2, q3⟩, h.ln, h.ld⟩
    · have e : j ≠ k := fun e => by subst e; rw [hbk] at hg; cases hg
      have e' : j ≠ kk := fun e' => by subst e'; rw [hY e] at hj; cases hj
      rw [bo j e e']; exact hg
    · have e : j ≠ k := fun e => by subst e; rw [hgk] at hg; cases hg
      have e' : j ≠ kk := fun e' => by subst e'; rw [hY e] at hj; cases hj
      rw [go j e e']
  have t := tr X dead_kk
  have t1 := tr (at' kk) (fun _ => Nat.beq_refl kk)
  have val : r.av.Is E' u' v := by
    rw [hav]
    exact VIs.row_iff.2 ⟨by rw [nmE]; exact J.nm, gk.symm, by rw [gk]; exact hpl⟩
  refine ⟨E', ⟨by rw [nmE]; exact J.nm, fun b hb => J.old b (by rw [← FE]; exact hb), FE.trans J.F, J.bel.trans ⟨LL.os, LL.tape, LL.output, LL.big, fun c hc hK => LL.keep c (Nat.lt_of_lt_of_le hc J.bel.size) fun e => (J.low kk c e).elim (Nat.not_le_of_lt hc) fun e' => hK ⟨kk, e'⟩⟩, fun j g hj => ?_, fun j m g hj hm => ?_, fun j g hj => ?_, fun j b' g hb' hj => ?_, fun j hj => ?_, fun j g hj => ?_, J.plen, fun j s k' e1 e2 e3 => ?_, fun j s k' l e1 e2 e3 => ?_, fun j s hs hj => ?_, fun t' => ?_⟩⟩
  · -- low
    by_cases e : j = k
    · subst e
      rw [bk] at hj
      rcases new g hj with h | h
      · rcases J.low kk g h with h' | h'
        · exact .inl h'
        · exact absurd h' (hnr g)
      · exact .inl (Nat.le_trans J.bel.size h)
    · by_cases e' : j = kk
      · subst e'; rw [bkk e] at hj; cases hj
      · rw [bo j e e'] at hj; exact J.low j g hj
  · -- inj
    have off : ∀ m, m ≠ k → E'.β k = some g → E'.β m = some g → False := fun m e hj hm => by
      have e' : m ≠ kk := fun e' => by subst e'; rw [bkk e] at hm; cases hm
      rw [bo m e e'] at hm
      rw [bk] at hj
      rcases new g hj with h | h
      · exact e' (J.inj m kk g hm h)
      · exact absurd (J.there hm) (Nat.not_lt_of_le h)
    by_cases e1 : j = k <;> by_cases e2 : m = k
    · rw [e1, e2]
    · subst e1; exact (off m e2 hj hm).elim
    · subst e2; exact (off j e1 hm hj).elim
    · have e1' : j ≠ kk := fun e' => by subst e'; rw [bkk e1] at hj; cases hj
      have e2' : m ≠ kk := fun e' => by subst e'; rw [bkk e2] at hm; cases hm
      rw [bo j e1 e1'] at hj
      rw [bo m e2 e2'] at hm
      exact J.inj j m g hj hm
  · -- dom
    by_cases e : j = k
    · subst e; exact (List.getElem?_eq_some_iff.1 hb).1
    · by_cases e' : j = kk
      · subst e'; rw [bkk e] at hj; cases hj
      · rw [bo j e e'] at hj; exact J.dom j g hj
  · -- cont
    by_cases e : j = k
    · subst e
      rw [bk] at hj
      rw [hb] at hb'; cases hb'
      refine .inr ⟨upd_pt hr (by rw [hp]; nofun) fun j' s l e1 e2 => ?_, ?_⟩
      · cases hL : L j' with
        | false => rfl
        | true =>
          obtain ⟨g', hg'⟩ := J.done j' s j l e1 e2 hL
          rw [hbk] at hg'; cases hg'
      · unfold Holds
        rw [hrow]
        obtain ⟨ws, q1, q2⟩ := h1 g hj
        exact ⟨hw, ws, by rw [gk]; exact q1, q2.tr t⟩
    · by_cases e' : j = kk
      · subst e'; rw [bkk e] at hj; cases hj
      · rw [bo j e e'] at hj
        have hg := LL.keep g (J.there hj) (fun h => e' (J.inj j kk g hj h))
        have hX : at' kk j = false := by
          unfold at'
          cases q : Nat.beq j kk with
          | false => rfl
          | true => exact absurd (Nat.eq_of_beq_eq_true q) e'
        rcases hk with ⟨hkk, _⟩ | ⟨hkk, _, _, hc1, hc2⟩
        · have t0 := tr non (fun h => absurd hkk h)
          rcases J.cont j b' g hb' hj with ⟨j', s, l, k1, k2, k3, k4⟩ | ⟨k1, k2⟩
          · exact .inl ⟨j', s, l, k1, k2, upd_true k3, k4.tr t0 rfl (fun _ => noXL_non _) hg⟩
          · exact .inr ⟨upd_pt hr (by rw [hp]; nofun) k1, k2.tr t0 rfl (fun _ => noXL_non _) hg⟩
        · rcases J.cont j b' g hb' hj with ⟨j', s, l, k1, k2, k3, k4⟩ | ⟨k1, k2⟩
          · exact .inl ⟨j', s, l, k1, k2, upd_true k3, k4.tr t1 hX (fun _ => hc2 j' s j l k1 k2) hg⟩
          · exact .inr ⟨upd_pt hr (by rw [hp]; nofun) k1, k2.tr t1 hX (fun h => hc1 j b' hb' h) hg⟩
  · -- row
    by_cases e : j = k
    · subst e
      exact ⟨b, n, hb, hrow, fun h => by rw [bk] at h; rw [gk]; exact h2 h⟩
    · by_cases e' : j = kk
      · subst e'; rw [gkk e] at hj; cases hj
      · rw [go j e e'] at hj
        obtain ⟨b', n', q1, q2, q3⟩ := J.row j hj
        exact ⟨b', n', q1, q2, fun h => by rw [bo j e e'] at h; rw [go j e e']; exact q3 h⟩
  · -- root
    obtain ⟨r1, r2⟩ := J.root j g hj
    have e : j ≠ k := fun e => by subst e; rw [hbk] at r1; cases r1
    have e' : j ≠ kk := fun e' => by subst e'; exact hnr g hj
    exact ⟨by rw [bo j e e']; exact r1, r2⟩
  · -- fresh
    obtain ⟨f1, f2⟩ := upd_false e3
    have hne : k' ≠ k := fun e => by subst e; exact f1 (hu j s e1 e2)
    by_cases e' : k' = kk
    · subst e'; exact ⟨bkk hne, by rw [gkk hne]; rfl⟩
    · rw [bo k' hne e', go k' hne e']
      exact J.fresh j s k' e1 e2 f2
  · -- done
    have hj : j ≠ i := fun e => by subst e; rw [hr] at e1; cases e1; rw [hp] at e2; cases e2
    rw [Upd.ne hj] at e3
    obtain ⟨g, hg⟩ := J.done j s k' l e1 e2 e3
    have hne : k' ≠ k := fun e => by subst e; rw [hbk] at hg; cases hg
    have hne' : k' ≠ kk := fun e => by
      subst e
      rcases hk with ⟨h, _⟩ | ⟨_, _, h, _⟩
      · exact hne h
      · exact noPt_spec h j s l e1 e2
    exact ⟨g, by rw [bo k' hne hne']; exact hg⟩
  · -- vals
    by_cases e : j = i
    · subst e
      rw [hr] at hs; cases hs
      rw [Upd.same]; exact kilA_is val
    · rw [Upd.ne e] at hj ⊢
      have := kilA_grow (dead_grow (i := i)) (J.vals j s hs hj)
      exact this.tr t (by rw [hXd]; exact kilA_no _)
  · have := kilA_grow (dead_grow (i := i)) (J.orig t')
    exact this.tr t (by rw [hXd]; exact kilA_no _)
end
end Go.Proofs.YtbobhhnhlgdkiaaGreat.Sy
