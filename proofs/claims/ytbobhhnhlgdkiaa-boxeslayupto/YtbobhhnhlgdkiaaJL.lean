/- Package vec, and penumbraref05, by runs 2. -/
import Derived.Test.YtbobhhnhlgdkiaaJK
namespace Go.Proofs.Ytbobhhnhlgdkiaa.Sy
open Go Go.RowKit M Kahn
set_option maxRecDepth 1000000
set_option linter.unusedSimpArgs false
set_option linter.unusedVariables false

@[go_sem] def sVOf : Spec := ⟨19, fun xs => match xs with
  | [.held (.inr (.inl (.int .i64 x))), .held (.inr (.inl (.int .i64 y))), .held (.inr (.inl (.int .i64 z)))] => some (⟨.inl (cn [(x : Rat) / ((1 : Int) : Rat), (y : Rat) / ((1 : Int) : Rat), (z : Rat) / ((1 : Int) : Rat)] (2))⟩, (-9223372036854775808 ≤ x ∧ x ≤ 9223372036854775807) ∧ (-9223372036854775808 ≤ y ∧ y ≤ 9223372036854775807) ∧ -9223372036854775808 ≤ z ∧ z ≤ 9223372036854775807)
  | _ => none, nomem⟩
set_option maxHeartbeats 8000000 in
theorem sVOf_ok : SpecOk Try.prog sVOf := SpecOk.mk' Try.func19 (by kernel_rfl) (by kernel_rfl) (fun xs r p h hp => by
  simp only [sVOf] at h
  split at h
  · cases h
    refine At.ok (fuel := 60) (hs := []) S0_ok Try.func19 (by kernel_rfl) ?_
    simp only [Try.f19, go_sem, Nat.reduceAdd, Nat.reduceSub, Nat.reduceMul, Int.reduceAdd, Int.reduceSub, Int.reduceToNat]
    omega
  · cases h)
@[go_sem] def sVScale : Spec := spN 38 fun l => match l with
  | [([k], K), ([a1, a2, a3], L)] => some (⟨.inl (cn [k * a1, k * a2, k * a3] (K + L))⟩, 1 ≤ K ∧ 1 ≤ L ∧ 3 * max K L + 3 ≤ 4294967296)
  | _ => none
set_option maxHeartbeats 8000000 in
theorem sVScale_ok : SpecOk Try.prog sVScale := SpecOk.mk' Try.func38 (by kernel_rfl) (by kernel_rfl) (spN_at fun l r p h hp => by
  split at h
  · rename_i k K a1 a2 a3 L
    cases h
    refine At.okT (fuel := 60) (hs := []) S0_ok Try.func38 (by kernel_rfl) ?_
    simp only [Try.f38, go_sem, Nat.reduceAdd, Nat.reduceSub, Nat.reduceMul, Int.reduceAdd, Int.reduceSub, Int.reduceToNat]
    rintro ⟨d_k, ⟨d_a1, d_a2, d_a3⟩⟩
    replace d_k := d_k (by omega)
    replace d_a1 := d_a1 (by omega)
    replace d_a2 := d_a2 (by omega)
    replace d_a3 := d_a3 (by omega)
    and_intros
    all_goals first | with_reducible rfl | omega | (show Bd _ _; refine Bd.mono (by repeat' (with_reducible first | apply Bd.add | apply Bd.sub | apply Bd.mul | apply Bd.div | apply Bd.neg | apply Bd.ite | exact Bd.zero | exact Bd.one | exact Bd.two | assumption)) ?_; omega) | (first | with_reducible rfl | grind)
  · cases h)
@[go_sem] def s5Zero : Spec := ⟨29, fun xs => match xs with
  | [] => some (⟨.inl (cn [0, 0, 0] (1))⟩, True)
  | _ => none, nomem⟩
set_option maxHeartbeats 8000000 in
theorem s5Zero_ok : SpecOk Try.prog s5Zero := SpecOk.mk' Try.func29 (by kernel_rfl) (by kernel_rfl) (fun xs r p h hp => by
  simp only [s5Zero] at h
  split at h
  · cases h
    refine At.ok (fuel := 60) (hs := []) S0_ok Try.func29 (by kernel_rfl) ?_
    simp only [Try.f29, go_sem, Nat.reduceAdd, Nat.reduceSub, Nat.reduceMul, Int.reduceAdd, Int.reduceSub, Int.reduceToNat]
    omega
  · cases h)
@[go_sem] def s5Is : Spec := spC 24 fun l => match l with
  | [([a1, a2, a3], K), ([b1, b2, b3], L)] => some (⟨.inl (.held (.inr (.inl (.bool (decide (a1 = b1 ∧ a2 = b2 ∧ a3 = b3))))))⟩, K ≤ 1099511627776 ∧ L ≤ 1099511627776)
  | _ => none
set_option maxHeartbeats 8000000 in
theorem s5Is_ok : SpecOk Try.prog s5Is := SpecOk.mk' Try.func24 (by kernel_rfl) (by kernel_rfl) (spC_at fun l r p h hp => by
  split at h
  · rename_i a1 a2 a3 K b1 b2 b3 L
    cases h
    by_cases h0 : a1 = b1
    · by_cases h1 : a2 = b2
      · by_cases h2 : a3 = b3
        · rw [show decide (a1 = b1 ∧ a2 = b2 ∧ a3 = b3) = true from by simp [h0, h1, h2]]
          refine At.ok (fuel := 60) (hs := [true, true, true]) S0_ok Try.func24 (by kernel_rfl) ?_
          simp only [Try.f24, go_sem, Nat.reduceAdd, Nat.reduceSub, Nat.reduceMul, Int.reduceAdd, Int.reduceSub, Int.reduceToNat, decide_eq_true_eq, decide_eq_false_iff_not, h0, h1, h2, not_false_eq_true]
          omega
        · rw [show decide (a1 = b1 ∧ a2 = b2 ∧ a3 = b3) = false from by simp [h0, h1, h2]]
          refine At.ok (fuel := 60) (hs := [true, true, false]) S0_ok Try.func24 (by kernel_rfl) ?_
          simp only [Try.f24, go_sem, Nat.reduceAdd, Nat.reduceSub, Nat.reduceMul, Int.reduceAdd, Int.reduceSub, Int.reduceToNat, decide_eq_true_eq, decide_eq_false_iff_not, h0, h1, h2, not_false_eq_true]
          omega
      · rw [show decide (a1 = b1 ∧ a2 = b2 ∧ a3 = b3) = false from by simp [h0, h1]]
        refine At.ok (fuel := 60) (hs := [true, false]) S0_ok Try.func24 (by kernel_rfl) ?_
        simp only [Try.f24, go_sem, Nat.reduceAdd, Nat.reduceSub, Nat.reduceMul, Int.reduceAdd, Int.reduceSub, Int.reduceToNat, decide_eq_true_eq, decide_eq_false_iff_not, h0, h1, not_false_eq_true]
        omega
    · rw [show decide (a1 = b1 ∧ a2 = b2 ∧ a3 = b3) = false from by simp [h0]]
      refine At.ok (fuel := 60) (hs := [false]) S0_ok Try.func24 (by kernel_rfl) ?_
      simp only [Try.f24, go_sem, Nat.reduceAdd, Nat.reduceSub, Nat.reduceMul, Int.reduceAdd, Int.reduceSub, Int.reduceToNat, decide_eq_true_eq, decide_eq_false_iff_not, h0, not_false_eq_true]
      omega
  · cases h)
@[go_sem] def S1 : List Spec := sVOf :: sVScale :: s5Zero :: s5Is :: S0
theorem S1_ok : AllOk Try.prog S1 := ⟨sVOf_ok, sVScale_ok, s5Zero_ok, s5Is_ok, S0_ok⟩
end Go.Proofs.Ytbobhhnhlgdkiaa.Sy

/- Loops. -/
namespace Go.Proofs.Ytbobhhnhlgdkiaa.Sy
open Go Go.RowKit M Kahn
set_option maxRecDepth 100000

def TLe : List AV → List AV → Prop
  | [], [] => True
  | a :: l, b :: m => ALe a b ∧ TLe l m
  | _, _ => False
def BLe : List Bx → List Bx → Prop
  | [], [] => True
  | ⟨ty, l, none⟩ :: s, ⟨ty', l', none⟩ :: s' => ty = ty' ∧ LLe l l' ∧ BLe s s'
  | ⟨ty, l, some n⟩ :: s, ⟨ty', l', some n'⟩ :: s' => ty = ty' ∧ n = n' ∧ EsLe l l' ∧ BLe s s'
  | _, _ => False
def StLe (st st' : St) : Prop := TLe st.tm st'.tm ∧ BLe st.bx st'.bx
theorem TLe.get : ∀ {l m : List AV}, TLe l m → ∀ t, ALe (look l t) (look m t)
  | [], [], _, _ => trivial
  | a :: l, b :: m, h, 0 => h.1
  | a :: l, b :: m, h, t + 1 => by
    have := TLe.get h.2 t
    unfold look at this ⊢
    simpa using this
  | [], _ :: _, h, _ => h.elim
  | _ :: _, [], h, _ => h.elim
theorem TLe.len : ∀ {l m : List AV}, TLe l m → l.length = m.length
  | [], [], _ => rfl
  | _ :: _, _ :: _, h => by simp [TLe.len h.2]
  | [], _ :: _, h => h.elim
  | _ :: _, [], h => h.elim
theorem LfLe1.size {x y : D} (h : LfLe1 x y) : dsz x = dsz y := by
  unfold LfLe1 at h
  split at h <;> first | rfl | exact h.elim | skip
  rename_i hx
  unfold dsz
  split
  · exact (hx _ rfl).elim
  · rfl
theorem LLe1.size : ∀ {l m : List D}, LLe1 l m → lsize l = lsize m
  | [], [], _ => rfl
  | _ :: _, _ :: _, h => by rw [lsize, lsize, h.1.size, LLe1.size h.2]
  | [], _ :: _, h => h.elim
  | _ :: _, [], h => h.elim
theorem EsR.wide {n : Nat} : ∀ {l m : List D}, EsR l m → Wide n l → Wide n m := by
  intro l
  induction l with
  | nil => intro m h _; cases m with
    | nil => intro x hx; cases hx
    | cons _ _ => exact h.elim
  | cons x l ih =>
    intro m h hw
    unfold EsR at h
    split at h
    · rename_i heq; cases heq
    · rename_i heq
      cases heq
      intro y hy
      rcases List.mem_cons.1 hy with rfl | hy
      · obtain ⟨l', e, hl⟩ := hw _ (List.mem_cons_self ..)
        cases e
        exact ⟨_, rfl, by rw [← h.1.size]; exact hl⟩
      · exact ih h.2 (fun z hz => hw z (List.mem_cons_of_mem _ hz)) y hy
    · exact h.elim
theorem EsLe.wide {n : Nat} {l m : List D} (h : EsLe l m) (hw : Wide n l) : Wide n m := by
  rcases h with rfl | h
  · exact hw
  · exact h.wide hw
theorem BLe.len : ∀ {l m : List Bx}, BLe l m → l.length = m.length := by
  intro l
  induction l with
  | nil => intro m h; cases m with
    | nil => rfl
    | cons _ _ => exact h.elim
  | cons b l ih =>
    intro m h
    unfold BLe at h
    split at h
    · rename_i heq; cases heq
    · rename_i heq; cases heq; simp [ih h.2.2]
    · rename_i heq; cases heq; simp [ih h.2.2.2]
    · exact h.elim
theorem BLe.get {E : Env} {u : World} : ∀ {l m : List Bx}, BLe l m → ∀ (j : Nat) (b' : Bx), m[j]? = some b' → ∃ b, l[j]? = some b ∧ b'.row = b.row ∧ (b.l = [] → b.row ≠ none → b'.l = []) ∧ ∀ k g, Holds E u b k g → Holds E u b' k g := by
  intro l
  induction l with
  | nil => intro m h j b' hj; cases m with
    | nil => simp at hj
    | cons _ _ => exact h.elim
  | cons b l ih =>
    intro m h j b' hj
    unfold BLe at h
    split at h
    · rename_i heq; cases heq
    · rename_i ty l1 s ty' l2 s' heq
      cases heq
      cases j with
      | zero =>
        simp at hj; subst hj
        obtain ⟨rfl, h2, _⟩ := h
        exact ⟨_, rfl, rfl, fun _ hn => absurd rfl hn, fun k g ⟨vs, q1, q2⟩ => ⟨vs, q1, h2.is q2⟩⟩
      | succ j => exact ih h.2.2 j b' (by simpa using hj)
    · rename_i ty l1 n s ty' l2 n' s' heq
      cases heq
      cases j with
      | zero =>
        simp at hj; subst hj
        obtain ⟨rfl, rfl, h2, _⟩ := h
        have hl := h2.len
        refine ⟨_, rfl, rfl, fun e _ => ?_, fun k g ⟨q0, vs, q1, q2⟩ => ⟨h2.wide q0, vs, ?_, h2.is q2⟩⟩
        · simp only at e ⊢
          rw [e] at hl
          exact List.eq_nil_of_length_eq_zero hl.symm
        · simp only at q1 ⊢
          rw [← hl]; exact q1
      | succ j => exact ih h.2.2.2 j b' (by simpa using hj)
    · exact h.elim
theorem root_le {w0 : Start} {bx bx' : List Bx} {E : Env} {u : World} (hb : BLe bx bx') (W : WS w0 bx E u) (k g : Nat) (hk : w0.R k = some g) : E.β k = some g ∧ ∃ b, bx'[k]? = some b ∧ b.row = none := by
  obtain ⟨r1, b, r2, r3⟩ := W.root k g hk
  have hk' : k < bx'.length := by rw [← hb.len]; exact (List.getElem?_eq_some_iff.1 r2).1
  obtain ⟨b0, q1, q2, _⟩ := hb.get (E := E) (u := u) k _ (List.getElem?_eq_getElem hk')
  rw [r2] at q1; cases q1
  exact ⟨r1, _, List.getElem?_eq_getElem hk', q2.trans r3⟩
theorem Rel.le {w0 : Start} {st st' : St} {E : Env} {a : Act} {u : World} (R : Rel w0 st E a u) (hl : st.tm.length = st'.tm.length) (ht : ∀ t, ALe (look st.tm t) (look st'.tm t)) (hb : BLe st.bx st'.bx) : Rel w0 st' E a u := by
  refine ⟨⟨R.ws.nm, R.ws.old, R.ws.F, R.ws.bel, R.ws.low, R.ws.inj, fun k g hk => by rw [← hb.len]; exact R.ws.dom k g hk, fun k b g h1 h2 => ?_, fun k hk => ?_, root_le hb R.ws⟩, by rw [← hl]; exact R.size, fun t => (ht t).is (R.vals t), R.defers⟩
  · obtain ⟨b0, q1, _, _, q2⟩ := hb.get (E := E) (u := u) k b h1
    exact q2 k g (R.ws.cont k b0 g q1 h2)
  · obtain ⟨b, n, h1, h2, h3⟩ := R.ws.row k hk
    have hk' : k < st'.bx.length := by rw [← hb.len]; exact (List.getElem?_eq_some_iff.1 h1).1
    obtain ⟨b0, q1, q2, q3, _⟩ := hb.get (E := E) (u := u) k _ (List.getElem?_eq_getElem hk')
    rw [h1] at q1; cases q1
    exact ⟨_, n, List.getElem?_eq_getElem hk', by rw [q2]; exact h2, fun h => ⟨q3 (h3 h).1 (by rw [h2]; nofun), (h3 h).2⟩⟩
/-- Slots of which these are told. -/
def setAll : List AV → List (Nat × D) → List AV
  | tm, [] => tm
  | tm, (t, v) :: r => setAll (tm.set t ⟨.inl v⟩) r
def tmOf (N : Nat) (kv : List (Nat × D)) : List AV := setAll (List.replicate N ⟨.inl (.map [])⟩) kv
theorem setAll_len : ∀ (kv : List (Nat × D)) (tm : List AV), (setAll tm kv).length = tm.length
  | [], _ => rfl
  | (t, v) :: r, tm => by rw [setAll, setAll_len r, List.length_set]
theorem tmOf_len (N : Nat) (kv : List (Nat × D)) : (tmOf N kv).length = N := by rw [tmOf, setAll_len, List.length_replicate]
/-- What one round comes to. -/
def OkBody (keep : List Nat) (good : Exit → St → Prop) : Option (Exit × St × Prop × List Bool) → Prop
  | some (e, st1, p, []) => p ∧ match canon st1 keep with
    | some st2 => good e st2
    | none => False
  | _ => False
/-- Is the loop left? -/
def leaves : Exit → Bool
  | .normal => false
  | _ => true
section
variable {S : List Spec} {Lt : List LSpec} {N : Nat} {bl : List (Nat × Code)} {c : Code} {X : Type}
/-- **A loop**: from what is known ahead of a round, I x, a round leads to I y, with y less far, or out of the loop, as out x says. -/
theorem loop_rule (hS : AllOk Try.prog S) (hL : ∀ s ∈ Lt, LOk Try.prog N bl s) (hreg : regOk N c = true) (hb : ∀ q ∈ blocksOf c, getBlk bl q.1 = some q.2) (keep : List Nat) (I : X → St) (hN : ∀ x, (I x).tm.length = N) (Inv : X → Prop) (m : X → Nat) (out : X → Exit × St)
    (body : ∀ x, Inv x → ∃ fuel hs, OkBody keep (fun e st2 => (leaves e = false → e = .normal ∧ ∃ y, Inv y ∧ m y < m x ∧ StLe st2 (I y) ∧ out y = out x) ∧ (leaves e = true → e = (out x).1 ∧ StLe st2 (out x).2)) (exC tt0 S Lt fuel c (I x) hs)) :
    ∀ (n : Nat) (x : X), Inv x → m x < n → ∀ {w0 : Start} {E : Env} {a : Act} {u : World} {Q : Exit → Act → World → Prop}, (∀ k, w0.R k = none) → Rel w0 (I x) E a u → (∀ E' a' u', Rel w0 (out x).2 E' a' u' → Q (out x).1 a' u') → Code.rounds Try.prog c Q n a u
  | 0, _, _, h, _, _, _, _, _, _, _, _ => absurd h (Nat.not_lt_zero _)
  | n + 1, x, hx, hm, w0, E, a, u, Q, hw, R, hq => by
    obtain ⟨fuel, hs, h⟩ := body x hx
    rw [rounds_succ]
    unfold OkBody at h
    split at h
    · rename_i e st1 p he
      obtain ⟨hp, h⟩ := h
      split at h
      · rename_i st2 hcn
        refine (exC_sound tt0_ok hS.mem mixed hL (.inl hw) fuel).1 (hN x) hreg hb he hp R fun E' a' u' R' => ?_
        obtain ⟨E2, R2⟩ := R'.canon hw hcn
        cases hl : leaves e with
        | false =>
          obtain ⟨rfl, y, hy, hmy, hle, ho⟩ := h.1 hl
          exact loop_rule hS hL hreg hb keep I hN Inv m out body n y hy (by omega) hw (R2.le hle.1.len hle.1.get hle.2) (by rw [ho]; exact hq)
        | true =>
          obtain ⟨rfl, hle⟩ := h.2 hl
          have := hq E2 a' u' (R2.le hle.1.len hle.1.get hle.2)
          generalize (out x).1 = e at *
          cases e with
          | normal => cases hl
          | _ => exact this
      · exact h.elim
    · exact h.elim
/-- An exit, seen from outside the block. -/
def outB (id : Nat) : Exit → Exit
  | .exit k => match Nat.beq k id with
    | true => .normal
    | false => .exit k
  | e => e
theorem outB_is {id : Nat} {e : Exit} {Q : Exit → Act → World → Prop} {a : Act} {w : World} : Exit.inBlock id Q e a w = Q (outB id e) a w := by
  cases e with
  | exit k =>
    show (if k = id then Q .normal a w else Q (.exit k) a w) = _
    cases hb : Nat.beq k id with
    | true =>
      simp only [outB, hb]
      rw [if_pos (Nat.eq_of_beq_eq_true hb)]
    | false =>
      simp only [outB, hb]
      rw [if_neg (fun h : k = id => by subst h; rw [Nat.beq_refl] at hb; cases hb)]
  | _ => rfl
/-- What a loop comes to, from what is known ahead of its first round. -/
def lsp (id : Nat) (keep : List Nat) (ahead : St) (r : Exit × St) : LSpec := ⟨id, keep, fun st hs => some (outB id r.1, r.2, StLe st ahead, hs)⟩
theorem loop_ok (hS : AllOk Try.prog S) (hL : ∀ s ∈ Lt, LOk Try.prog N bl s) {id : Nat} (hg : getBlk bl id = some (.loop c)) (hreg : regOk N c = true) (hb : ∀ q ∈ blocksOf c, getBlk bl q.1 = some q.2) (keep : List Nat) (I : X → St) (hN : ∀ x, (I x).tm.length = N) (Inv : X → Prop) (m : X → Nat) (out : X → Exit × St) (hout : ∀ x, (out x).2.tm.length = N)
    (body : ∀ x, Inv x → ∃ fuel hs, OkBody keep (fun e st2 => (leaves e = false → e = .normal ∧ ∃ y, Inv y ∧ m y < m x ∧ StLe st2 (I y) ∧ out y = out x) ∧ (leaves e = true → e = (out x).1 ∧ StLe st2 (out x).2)) (exC tt0 S Lt fuel c (I x) hs)) (x0 : X) (h0 : Inv x0) :
    LOk Try.prog N bl (lsp id keep (I x0) (out x0)) := by
  intro c' hc' st e st' hs hs' p hl h hp
  simp only [lsp] at hc' h
  rw [hg] at hc'
  cases hc'
  cases h
  refine ⟨hout x0, fun w0 E a u Q hw R hq => wp_block (wp_loop_rounds (m x0 + 1) (loop_rule hS hL hreg hb keep I hN Inv m out body (m x0 + 1) x0 h0 (Nat.lt_succ_self _) hw (R.le hp.1.len hp.1.get hp.2) fun E' a' u' R' => ?_))⟩
  rw [show (lsp id keep (I x0) (out x0)).id = id from rfl, outB_is]
  exact hq E' a' u' R'
theorem getBlk_mem : ∀ {l : List (Nat × Code)} {k : Nat} {d : Code}, getBlk l k = some d → (k, d) ∈ l
  | [], _, _, h => by cases h
  | (j, c) :: l, k, d, h => by
    simp only [getBlk] at h
    split at h
    · rename_i hj
      cases h
      rw [Nat.eq_of_beq_eq_true hj]
      exact List.mem_cons_self ..
    · exact List.mem_cons_of_mem _ (getBlk_mem h)
theorem regOk_blk {N : Nat} : ∀ {c : Code}, regOk N c = true → ∀ q ∈ blocksOf c, regOk N q.2 = true
  | .seq a b, h, q, hq => by
    simp only [regOk, Bool.and_eq_true] at h
    rcases List.mem_append.1 hq with hq | hq
    · exact regOk_blk h.1 q hq
    · exact regOk_blk h.2 q hq
  | .cond _ a b, h, q, hq => by
    simp only [regOk, Bool.and_eq_true] at h
    rcases List.mem_append.1 hq with hq | hq
    · exact regOk_blk h.1 q hq
    · exact regOk_blk h.2 q hq
  | .block id c, h, q, hq => by
    simp only [regOk] at h
    rcases List.mem_cons.1 hq with rfl | hq
    · exact h
    · exact regOk_blk h q hq
  | .loop c, h, q, hq => by
    simp only [regOk] at h
    exact regOk_blk h q hq
  | .skip, _, _, hq => by cases hq
  | .label _, _, _, hq => by cases hq
  | .region _ _ _, _, _, hq => by cases hq
  | .exit _, _, _, hq => by cases hq
  | .ret, _, _, hq => by cases hq
  | .rangeFunc _ _ _ _, _, _, hq => by cases hq
  | .scope _, _, _, hq => by cases hq
  | .goto _, _, _, hq => by cases hq
  | .refuse _, _, _, hq => by cases hq
theorem blk_sub : ∀ {c : Code}, ∀ q ∈ blocksOf c, ∀ r ∈ blocksOf q.2, r ∈ blocksOf c
  | .seq a b, q, hq, r, hr => by
    rcases List.mem_append.1 hq with hq | hq
    · exact List.mem_append.2 (.inl (blk_sub q hq r hr))
    · exact List.mem_append.2 (.inr (blk_sub q hq r hr))
  | .cond _ a b, q, hq, r, hr => by
    rcases List.mem_append.1 hq with hq | hq
    · exact List.mem_append.2 (.inl (blk_sub q hq r hr))
    · exact List.mem_append.2 (.inr (blk_sub q hq r hr))
  | .block id c, q, hq, r, hr => by
    rcases List.mem_cons.1 hq with rfl | hq
    · exact List.mem_cons_of_mem _ hr
    · exact List.mem_cons_of_mem _ (blk_sub q hq r hr)
  | .loop c, q, hq, r, hr => blk_sub (c := c) q hq r hr
  | .skip, _, hq, _, _ => by cases hq
  | .label _, _, hq, _, _ => by cases hq
  | .region _ _ _, _, hq, _, _ => by cases hq
  | .exit _, _, hq, _, _ => by cases hq
  | .ret, _, hq, _, _ => by cases hq
  | .rangeFunc _ _ _ _, _, hq, _, _ => by cases hq
  | .scope _, _, hq, _, _ => by cases hq
  | .goto _, _, hq, _, _ => by cases hq
  | .refuse _, _, hq, _, _ => by cases hq
/-- Such a block of a function is a loop. -/
def isLoop (fn : Func) (id : Nat) : Bool := match fn.body with
  | some b => match getBlk (blocksOf b) id with
    | some (.loop _) => true
    | _ => false
  | none => false
/-- A loop more. -/
theorem LoopsOk.loop {fn : Func} {n : Nat} (hS : AllOk Try.prog S) (ho : fnOk fn n = true) (hL : LoopsOk fn n Lt) (id : Nat) (hi : isLoop fn id = true) (keep : List Nat) (I : X → St) (hN : ∀ x, (I x).tm.length = n + (fn.ntmps - n)) (Inv : X → Prop) (m : X → Nat) (out : X → Exit × St) (hout : ∀ x, (out x).2.tm.length = n + (fn.ntmps - n))
    (body : ∀ b c, fn.body = some b → getBlk (blocksOf b) id = some (.loop c) → ∀ x, Inv x → ∃ fuel hs, OkBody keep (fun e st2 => (leaves e = false → e = .normal ∧ ∃ y, Inv y ∧ m y < m x ∧ StLe st2 (I y) ∧ out y = out x) ∧ (leaves e = true → e = (out x).1 ∧ StLe st2 (out x).2)) (exC tt0 S Lt fuel c (I x) hs)) (x0 : X) (h0 : Inv x0) :
    LoopsOk fn n (lsp id keep (I x0) (out x0) :: Lt) := by
  intro b hb s hs
  rcases List.mem_cons.1 hs with rfl | hs
  · have hk : regOk (n + (fn.ntmps - n)) b = true ∧ onceB (blocksOf b) = true := by
      unfold fnOk at ho
      rw [hb] at ho
      simpa only [Bool.and_eq_true] using ho
    have hi' : ∃ c, getBlk (blocksOf b) id = some (.loop c) := by
      unfold isLoop at hi
      rw [hb] at hi
      simp only at hi
      split at hi
      · rename_i c h; exact ⟨c, h⟩
      · cases hi
    obtain ⟨c, hc⟩ := hi'
    have hm := getBlk_mem hc
    refine loop_ok hS (hL b hb) hc (by have := regOk_blk hk.1 _ hm; simpa only [regOk] using this) (fun q hq => onceB_spec hk.2 q (blk_sub _ hm q hq)) keep I hN Inv m out hout (body b c hb hc) x0 h0
  · exact hL b hb s hs
end
attribute [go_sem] TLe BLe StLe setAll tmOf OkBody leaves outB lsp
end Go.Proofs.Ytbobhhnhlgdkiaa.Sy

/- Lists of Vecs; vec.Sum, by a loop. -/
namespace Go.Proofs.Ytbobhhnhlgdkiaa.Sy
open Go Go.RowKit M Kahn
set_option maxRecDepth 1000000
set_option linter.unusedSimpArgs false
set_option linter.unusedVariables false

/-- A row that is made: the first i entries are laid, the others are as they began. -/
def part {α : Type} (f : α → D) (z : D) (vs : List α) (i : Nat) : List D := (vs.take i).map f ++ List.replicate (vs.length - i) z
section
variable {α : Type} {f : α → D} {z : D} {vs : List α} {i : Nat}
theorem part_zero : List.replicate vs.length z = part f z vs 0 := by simp [part]
theorem part_all : part f z vs vs.length = vs.map f := by simp [part]
theorem part_len (h : i ≤ vs.length) : (part f z vs i).length = vs.length := by simp [part]; omega
theorem part_get (h : i < vs.length) : (part f z vs i)[i]? = some z := by
  unfold part
  rw [List.getElem?_append_right (by simp; omega), List.getElem?_replicate, if_pos (by simp; omega)]
theorem part_set {v : α} (h : vs[i]? = some v) : (part f z vs i).set i (f v) = part f z vs (i + 1) := by
  have hi := (List.getElem?_eq_some_iff.1 h).1
  have hv := (List.getElem?_eq_some_iff.1 h).2
  unfold part
  rw [List.set_append_right _ _ (by simp; omega), List.take_add_one, h, List.map_append]
  simp only [List.length_map, List.length_take, Nat.min_eq_left (Nat.le_of_lt hi), Nat.sub_self, Option.toList, List.map_cons, List.map_nil, List.append_assoc]
  rw [show vs.length - i = (vs.length - (i + 1)) + 1 from by omega, List.replicate_succ]
  simp
end
def eV (K : Nat) (v : Rat × Rat × Rat) : D := .agg [.held (.inl (v.1, K, false)), .held (.inl (v.2.1, K, false)), .held (.inl (v.2.2, K, false))]
def eR (K : Nat) (q : Rat) : D := .agg [.held (.inl (q, K, false))]
theorem rowE_map {K : Nat} (hK : 1 ≤ K) : ∀ qs : List Rat, rowE (qs.map (eR K)) = some (qs, if qs.length = 0 then 1 else K)
  | [] => rfl
  | q :: qs => by
    rw [List.map_cons, eR, rowE, rowE_map hK qs]
    have h1 : (q :: qs).length ≠ 0 := by simp
    rw [if_neg h1]
    by_cases h : qs.length = 0
    · simp only [if_pos h, Nat.max_eq_left hK]
    · simp only [if_neg h, Nat.max_self]
theorem sized_map {α : Type} {f : α → D} {n : Nat} (h : ∀ x, ∃ l, f x = .agg l ∧ lsize l = n) : ∀ vs : List α, sized n (vs.map f) = true
  | [] => rfl
  | v :: vs => by
    obtain ⟨l, e, hl⟩ := h v
    rw [List.map_cons, e]
    simp only [sized, sized_map h vs, Bool.and_true, hl]
    exact Nat.beq_refl n
theorem sized_eV (K : Nat) (vs : List (Rat × Rat × Rat)) : sized 9 (vs.map (eV K)) = true := sized_map (f := eV K) (n := 9) (fun x => ⟨[.held (.inl (x.1, K, false)), .held (.inl (x.2.1, K, false)), .held (.inl (x.2.2, K, false))], rfl, rfl⟩) vs

abbrev V3 := Rat × Rat × Rat
/-- What is known ahead of a round of vec.Sum's loop. -/
def vsI (K : Nat) (vs : List V3) (i : Nat) : St :=
  ⟨tmOf 47 [(0, .slice (vs.map (eV K)) []), (2, .held (.inr (.inr (.inr (.inl (0, 0)))))), (3, .held (.inr (.inr (.inl 1)))), (4, .held (.inr (.inr (.inl 2)))), (5, .held (.inr (.inr (.inl 3)))), (17, .slice (vs.map (eV K)) []), (18, .held (.inr (.inl (.int .i64 (vs.length : Int))))), (19, .held (.inr (.inl (.int .i64 (i : Int)))))],
   [⟨30, [.held (.inl (0, 0, false)), .held (.inl (0, 0, false)), .held (.inl (0, 0, false))], none⟩,
    ⟨28, part (fun v => eR K v.1) (.agg [.held (.inl (0, 0, false))]) vs i, some 3⟩,
    ⟨28, part (fun v => eR K v.2.1) (.agg [.held (.inl (0, 0, false))]) vs i, some 3⟩,
    ⟨28, part (fun v => eR K v.2.2) (.agg [.held (.inl (0, 0, false))]) vs i, some 3⟩]⟩
def vsKeep : List Nat := [0, 2, 3, 4, 5, 17, 18, 19]
set_option maxHeartbeats 4000000 in
theorem vs_body (K : Nat) (vs : List V3) (i : Nat) (hi : i ≤ vs.length) (hl : vs.length ≤ 1048576) (b c : Code) (hb : Try.f37.body = some b) (hc : getBlk (blocksOf b) 0 = some (.loop c)) :
    ∃ fuel hs, OkBody vsKeep (fun e st2 => (leaves e = false → e = .normal ∧ ∃ y, y ≤ vs.length ∧ vs.length - y < vs.length - i ∧ StLe st2 (vsI K vs y)) ∧ (leaves e = true → e = .exit 0 ∧ StLe st2 (vsI K vs vs.length))) (exC tt0 S0 [] fuel c (vsI K vs i) hs) := by
  simp only [Try.f37, Option.some.injEq] at hb
  subst hb
  simp only [blocksOf, getBlk, Nat.beq, List.cons_append, List.nil_append, Option.some.injEq, Code.loop.injEq] at hc
  subst hc
  by_cases h : i < vs.length
  · obtain ⟨v, hv⟩ : ∃ v, vs[i]? = some v := ⟨_, List.getElem?_eq_getElem h⟩
    have hn : ((i : Int)).toNat = i := Int.toNat_natCast i
    have hv' : (vs.map (eV K))[i]? = some (.agg [.held (.inl (v.1, K, false)), .held (.inl (v.2.1, K, false)), .held (.inl (v.2.2, K, false))]) := by rw [List.getElem?_map, hv]; rfl
    have s1 := part_set (f := fun v : V3 => eR K v.1) (z := .agg [.held (.inl (0, 0, false))]) hv
    have s2 := part_set (f := fun v : V3 => eR K v.2.1) (z := .agg [.held (.inl (0, 0, false))]) hv
    have s3 := part_set (f := fun v : V3 => eR K v.2.2) (z := .agg [.held (.inl (0, 0, false))]) hv
    simp only [eR] at s1 s2 s3
    refine ⟨60, [true], ?_⟩
    simp (maxSteps := 10000000) only [vsI, vsKeep, go_sem, hn, Nat.reduceAdd, Nat.reduceSub, Nat.reduceMul, Int.reduceAdd, Int.reduceSub, Int.reduceToNat, hv', sized_eV, part_get h, eR, s1, s2, s3, reduceCtorEq, false_implies, decide_eq_true_eq]
    have hw : IntKind.i64.wrap ((i : Int) + 1) = ((i + 1 : Nat) : Int) := by rw [IntKind.wrap_i64]; omega
    refine ⟨⟨by omega, ⟨by omega, ⟨by omega, by rw [part_len hi]; omega⟩, ⟨by omega, by rw [part_len hi]; omega⟩, by omega, by rw [part_len hi]; omega⟩, by rw [hw]; rfl⟩, i + 1, h, by omega, rfl, Nat.le_refl 0, .inl rfl, .inl rfl, .inl rfl⟩
  · have he : i = vs.length := by omega
    refine ⟨60, [false], ?_⟩
    simp (maxSteps := 10000000) only [vsI, vsKeep, go_sem, Nat.reduceAdd, Nat.reduceSub, Nat.reduceMul, Int.reduceAdd, Int.reduceSub, Int.reduceToNat, reduceCtorEq, false_implies, decide_eq_true_eq, decide_eq_false_iff_not]
    subst he
    exact ⟨Nat.lt_irrefl _ ∘ Int.ofNat_lt.1, rfl, Nat.le_refl 0, .inl rfl, .inl rfl, .inl rfl⟩

/-- Lists of Vecs. -/
def rowVE : List D → Option (List V3 × Nat)
  | [] => some ([], 1)
  | .agg [.held (.inl (a, K, _)), .held (.inl (b, L, _)), .held (.inl (c, M, _))] :: l => match rowVE l with
    | some (vs, N) => some ((a, b, c) :: vs, max (max K (max L M)) N)
    | none => none
  | _ => none
def rowV : D → Option (List V3 × Nat)
  | .slice es _ => rowVE es
  | .held (.inr (.inl (.slice none 0 0))) => some ([], 1)
  | _ => none
theorem rowVE_le : ∀ {es : List D} {vs : List V3} {N K : Nat}, rowVE es = some (vs, N) → N ≤ K → EsR es (vs.map (eV K)) := by
  intro es
  induction es with
  | nil => intro vs N K h hk; simp only [rowVE] at h; cases h; trivial
  | cons x l ih =>
    intro vs N K h hk
    unfold rowVE at h
    split at h
    · rename_i heq; cases heq
    · rename_i heq
      cases heq
      split at h
      · rename_i ws N' h1
        cases h
        exact ⟨⟨⟨rfl, by omega, nofun⟩, ⟨rfl, by omega, nofun⟩, ⟨rfl, by omega, nofun⟩, trivial⟩, ih h1 (by omega)⟩
      · cases h
    · cases h
theorem rowV_mk {E : Env} {u : World} {b : D} {vs : List V3} {K : Nat} {v : Value} (h : rowV b = some (vs, K)) (hi : VIs E u b v) : VIs E u (.slice (vs.map (eV K)) []) v := by
  unfold rowV at h
  split at h
  · exact slice_le (.inr (rowVE_le h (Nat.le_refl _))) hi
  · cases h
    have e := VIs.val_iff.1 hi
    exact VIs.slice_iff.2 ⟨none, 0, e, Nat.zero_le _, fun h => absurd h (Nat.lt_irrefl _)⟩
  · cases h
theorem rowE_gmap {α : Type} {K : Nat} (hK : 1 ≤ K) (g : α → Rat) : ∀ vs : List α, rowE (vs.map fun v => eR K (g v)) = some (vs.map g, if vs.length = 0 then 1 else K) := fun vs => by
  have := rowE_map hK (vs.map g)
  rw [List.map_map, List.length_map] at this
  exact this
@[go_sem] def sVSum : Spec := ⟨37, fun xs => match xs with
  | [x] => match rowV x with
    | some (vs, K) => some (⟨.inl (cn [sumL (vs.map fun v => v.1), sumL (vs.map fun v => v.2.1), sumL (vs.map fun v => v.2.2)] (vs.length * (K + 1) + 1))⟩, 1 ≤ K ∧ (vs.length + 1) * (K + 1) ≤ 4294967296 ∧ vs.length ≤ 3)
    | _ => none
  | _ => none, nomem⟩
theorem vs_loops (K : Nat) (vs : List V3) (hl : vs.length ≤ 1048576) : LoopsOk Try.f37 1 [lsp 0 vsKeep (vsI K vs 0) (.exit 0, vsI K vs vs.length)] :=
  LoopsOk.loop S0_ok (by kernel_rfl) LoopsOk.nil 0 (by kernel_rfl) vsKeep (vsI K vs) (fun x => by rw [vsI, tmOf_len]; kernel_rfl) (fun i => i ≤ vs.length) (fun i => vs.length - i) (fun _ => (.exit 0, vsI K vs vs.length)) (fun x => by rw [vsI, tmOf_len]; kernel_rfl)
    (fun b c hb hc i hi => by
      obtain ⟨fuel, hs, h⟩ := vs_body K vs i hi hl b c hb hc
      refine ⟨fuel, hs, ?_⟩
      unfold OkBody at h ⊢
      split at h
      · obtain ⟨hp, h⟩ := h
        refine ⟨hp, ?_⟩
        split at h
        · exact ⟨fun hl => by obtain ⟨e, y, h1, h2, h3⟩ := h.1 hl; exact ⟨e, y, h1, h2, h3, rfl⟩, h.2⟩
        · exact h.elim
      · exact h.elim) 0 (Nat.zero_le _)
set_option maxHeartbeats 8000000 in
theorem sVSum_ok : SpecOk Try.prog sVSum := SpecOk.mk' Try.func37 (by kernel_rfl) (by kernel_rfl) (fun xs r p h hp => by
  simp only [sVSum] at h
  split at h
  · split at h
    · rename_i x vs K hr
      cases h
      refine At.weak (ys := [.slice (vs.map (eV K)) []]) (At.okL (fuel := 60) (hs := []) S0_ok Try.func37 (by kernel_rfl) (vs_loops K vs (by omega)) ?_) fun E w args ⟨v, r, e, h1, h2⟩ => ⟨v, r, e, rowV_mk hr h1, h2⟩
      simp (maxSteps := 10000000) only [Try.f37, vsI, vsKeep, go_sem, Nat.reduceAdd, Nat.reduceSub, Nat.reduceMul, Int.reduceAdd, Int.reduceSub, Int.reduceToNat, sized_eV, part_all, ← part_zero, rowE_gmap hp.1, List.length_map]
      obtain ⟨h1, h2, h3⟩ := hp
      have hq : vs.length * ((if vs.length = 0 then 1 else K) + 1) + 1 ≤ vs.length * (K + 1) + 1 ∧ (1 ≤ if vs.length = 0 then 1 else K) ∧ (vs.length + 1) * ((if vs.length = 0 then 1 else K) + 1) ≤ 4294967296 := by
        by_cases h0 : vs.length = 0
        · rw [if_pos h0, h0]; exact ⟨by omega, by omega, by omega⟩
        · rw [if_neg h0]; exact ⟨by omega, h1, h2⟩
      exact ⟨hq.1, ⟨by omega, ⟨by omega, by omega⟩, by omega, ⟨by omega, by omega⟩, by omega, by omega, by omega⟩, ⟨by omega, rfl, ⟨Nat.le_refl 0, id⟩, .inl (by rw [Int.toNat_natCast])⟩, hq.2.1, hq.2.2, h3⟩
    · cases h
  · cases h)
attribute [go_sem] rowV rowVE
end Go.Proofs.Ytbobhhnhlgdkiaa.Sy
