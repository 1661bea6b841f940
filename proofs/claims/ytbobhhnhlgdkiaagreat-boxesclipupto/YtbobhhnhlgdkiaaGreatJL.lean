/- Package vec, and penumbraref05, by runs 2. -/
import Derived.Test.YtbobhhnhlgdkiaaGreatJK
namespace Go.Proofs.YtbobhhnhlgdkiaaGreat.Sy
open Go Go.RowKit M Kahn
set_option maxRecDepth 1000000
set_option linter.unusedSimpArgs false
set_option linter.unusedVariables false

@[go_sem] def sLess : Spec := spN 62 fun l => match l with
  | [([a], K), ([b], L), ([c], M), ([d], N)] => some (⟨.inl (cn [a * b - c * d] (2 * max K L + 2 * max M N + 3))⟩, 1 ≤ K ∧ 1 ≤ L ∧ 1 ≤ M ∧ 1 ≤ N ∧ 2 * max K L + 2 * max M N + 3 ≤ 1073741824)
  | _ => none
set_option maxHeartbeats 8000000 in
theorem sLess_ok : SpecOk Tryz.prog sLess := SpecOk.mk' Tryz.func62 (by kernel_rfl) (by kernel_rfl) (spN_at fun l r p h hp => by
  split at h
  · cases h
    refine At.ok (fuel := 60) (hs := []) S0_ok Tryz.func62 (by kernel_rfl) ?_
    simp only [Tryz.f62, go_sem, Nat.reduceAdd, Nat.reduceSub, Nat.reduceMul, Int.reduceAdd, Int.reduceSub, Int.reduceToNat]
    omega
  · cases h)
@[go_sem] def sVOf : Spec := ⟨23, fun xs => match xs with
  | [.held (.inr (.inl (.int .i64 x))), .held (.inr (.inl (.int .i64 y))), .held (.inr (.inl (.int .i64 z)))] => some (⟨.inl (cn [(x : Rat) / ((1 : Int) : Rat), (y : Rat) / ((1 : Int) : Rat), (z : Rat) / ((1 : Int) : Rat)] (2))⟩, (-9223372036854775808 ≤ x ∧ x ≤ 9223372036854775807) ∧ (-9223372036854775808 ≤ y ∧ y ≤ 9223372036854775807) ∧ -9223372036854775808 ≤ z ∧ z ≤ 9223372036854775807)
  | _ => none, nomem⟩
set_option maxHeartbeats 8000000 in
theorem sVOf_ok : SpecOk Tryz.prog sVOf := SpecOk.mk' Tryz.func23 (by kernel_rfl) (by kernel_rfl) (fun xs r p h hp => by
  simp only [sVOf] at h
  split at h
  · cases h
    refine At.ok (fuel := 60) (hs := []) S0_ok Tryz.func23 (by kernel_rfl) ?_
    simp only [Tryz.f23, go_sem, Nat.reduceAdd, Nat.reduceSub, Nat.reduceMul, Int.reduceAdd, Int.reduceSub, Int.reduceToNat]
    omega
  · cases h)
@[go_sem] def sVSub : Spec := spN 35 fun l => match l with
  | [([a1, a2, a3], K), ([b1, b2, b3], L)] => some (⟨.inl (cn [a1 - b1, a2 - b2, a3 - b3] (K + L + 1))⟩, 1 ≤ K ∧ 1 ≤ L ∧ K + L + 1 ≤ 1073741824)
  | _ => none
set_option maxHeartbeats 8000000 in
theorem sVSub_ok : SpecOk Tryz.prog sVSub := SpecOk.mk' Tryz.func35 (by kernel_rfl) (by kernel_rfl) (spN_at fun l r p h hp => by
  split at h
  · cases h
    refine At.ok (fuel := 60) (hs := []) S0_ok Tryz.func35 (by kernel_rfl) ?_
    simp only [Tryz.f35, go_sem, Nat.reduceAdd, Nat.reduceSub, Nat.reduceMul, Int.reduceAdd, Int.reduceSub, Int.reduceToNat]
    omega
  · cases h)
@[go_sem] def sVDot : Spec := spN 34 fun l => match l with
  | [([a1, a2, a3], K), ([b1, b2, b3], L)] => some (⟨.inl (cn [a1 * b1 + a2 * b2 + a3 * b3] (3 * (K + L) + 2))⟩, 1 ≤ K ∧ 1 ≤ L ∧ 8 * max K L + 8 ≤ 1073741824)
  | _ => none
set_option maxHeartbeats 8000000 in
theorem sVDot_ok : SpecOk Tryz.prog sVDot := SpecOk.mk' Tryz.func34 (by kernel_rfl) (by kernel_rfl) (spN_at fun l r p h hp => by
  split at h
  · rename_i a1 a2 a3 K b1 b2 b3 L
    cases h
    refine At.okT (fuel := 60) (hs := []) S0_ok Tryz.func34 (by kernel_rfl) ?_
    simp only [Tryz.f34, go_sem, Nat.reduceAdd, Nat.reduceSub, Nat.reduceMul, Int.reduceAdd, Int.reduceSub, Int.reduceToNat]
    rintro ⟨⟨d_a1, d_a2, d_a3⟩, ⟨d_b1, d_b2, d_b3⟩⟩
    replace d_a1 := d_a1 (by omega)
    replace d_a2 := d_a2 (by omega)
    replace d_a3 := d_a3 (by omega)
    replace d_b1 := d_b1 (by omega)
    replace d_b2 := d_b2 (by omega)
    replace d_b3 := d_b3 (by omega)
    and_intros
    all_goals first | with_reducible rfl | omega | (show Bd _ _; refine Bd.mono (by repeat' (with_reducible first | apply Bd.add | apply Bd.sub | apply Bd.mul | apply Bd.div | apply Bd.neg | apply Bd.ite | exact Bd.zero | exact Bd.one | exact Bd.two | assumption)) ?_; omega) | (first | with_reducible rfl | grind)
  · cases h)
@[go_sem] def s5Zero : Spec := ⟨49, fun xs => match xs with
  | [] => some (⟨.inl (cn [0, 0, 0] (1))⟩, True)
  | _ => none, nomem⟩
set_option maxHeartbeats 8000000 in
theorem s5Zero_ok : SpecOk Tryz.prog s5Zero := SpecOk.mk' Tryz.func49 (by kernel_rfl) (by kernel_rfl) (fun xs r p h hp => by
  simp only [s5Zero] at h
  split at h
  · cases h
    refine At.ok (fuel := 60) (hs := []) S0_ok Tryz.func49 (by kernel_rfl) ?_
    simp only [Tryz.f49, go_sem, Nat.reduceAdd, Nat.reduceSub, Nat.reduceMul, Int.reduceAdd, Int.reduceSub, Int.reduceToNat]
    omega
  · cases h)
@[go_sem] def s5Read : Spec := spN 48 fun l => match l with
  | [([a1, a2, a3], K)] => some (⟨.inl (cn [a1, a2, a3] (K))⟩, 1 ≤ K ∧ K ≤ 17179869184)
  | _ => none
set_option maxHeartbeats 8000000 in
theorem s5Read_ok : SpecOk Tryz.prog s5Read := SpecOk.mk' Tryz.func48 (by kernel_rfl) (by kernel_rfl) (spN_at fun l r p h hp => by
  split at h
  · cases h
    refine At.ok (fuel := 60) (hs := []) S0_ok Tryz.func48 (by kernel_rfl) ?_
    simp only [Tryz.f48, go_sem, Nat.reduceAdd, Nat.reduceSub, Nat.reduceMul, Int.reduceAdd, Int.reduceSub, Int.reduceToNat]
    omega
  · cases h)
@[go_sem] def s5Add : Spec := spN 42 fun l => match l with
  | [([a1, a2, a3], K), ([b1, b2, b3], L)] => some (⟨.inl (cn [a1 + b1, a2 + b2, a3 + b3] (K + L + 1))⟩, 1 ≤ K ∧ 1 ≤ L ∧ K + L + 1 ≤ 17179869184)
  | _ => none
set_option maxHeartbeats 8000000 in
theorem s5Add_ok : SpecOk Tryz.prog s5Add := SpecOk.mk' Tryz.func42 (by kernel_rfl) (by kernel_rfl) (spN_at fun l r p h hp => by
  split at h
  · cases h
    refine At.ok (fuel := 60) (hs := []) S0_ok Tryz.func42 (by kernel_rfl) ?_
    simp only [Tryz.f42, go_sem, Nat.reduceAdd, Nat.reduceSub, Nat.reduceMul, Int.reduceAdd, Int.reduceSub, Int.reduceToNat]
    omega
  · cases h)
@[go_sem] def s5Scale : Spec := spN 43 fun l => match l with
  | [([k], K), ([a1, a2, a3], L)] => some (⟨.inl (cn [k * a1, k * a2, k * a3] (K + L))⟩, 1 ≤ K ∧ 1 ≤ L ∧ K + L + 1 ≤ 17179869184)
  | _ => none
set_option maxHeartbeats 8000000 in
theorem s5Scale_ok : SpecOk Tryz.prog s5Scale := SpecOk.mk' Tryz.func43 (by kernel_rfl) (by kernel_rfl) (spN_at fun l r p h hp => by
  split at h
  · cases h
    refine At.ok (fuel := 60) (hs := []) S0_ok Tryz.func43 (by kernel_rfl) ?_
    simp only [Tryz.f43, go_sem, Nat.reduceAdd, Nat.reduceSub, Nat.reduceMul, Int.reduceAdd, Int.reduceSub, Int.reduceToNat]
    omega
  · cases h)
@[go_sem] def s5Is : Spec := spC 47 fun l => match l with
  | [([a1, a2, a3], K), ([b1, b2, b3], L)] => some (⟨.inl (.held (.inr (.inl (.bool (decide (a1 = b1 ∧ a2 = b2 ∧ a3 = b3))))))⟩, K ≤ 1099511627776 ∧ L ≤ 1099511627776)
  | _ => none
set_option maxHeartbeats 8000000 in
theorem s5Is_ok : SpecOk Tryz.prog s5Is := SpecOk.mk' Tryz.func47 (by kernel_rfl) (by kernel_rfl) (spC_at fun l r p h hp => by
  split at h
  · rename_i a1 a2 a3 K b1 b2 b3 L
    cases h
    by_cases h0 : a1 = b1
    · by_cases h1 : a2 = b2
      · by_cases h2 : a3 = b3
        · rw [show decide (a1 = b1 ∧ a2 = b2 ∧ a3 = b3) = true from by simp [h0, h1, h2]]
          refine At.ok (fuel := 60) (hs := [true, true, true]) S0_ok Tryz.func47 (by kernel_rfl) ?_
          simp only [Tryz.f47, go_sem, Nat.reduceAdd, Nat.reduceSub, Nat.reduceMul, Int.reduceAdd, Int.reduceSub, Int.reduceToNat, decide_eq_true_eq, decide_eq_false_iff_not, h0, h1, h2, not_false_eq_true]
          omega
        · rw [show decide (a1 = b1 ∧ a2 = b2 ∧ a3 = b3) = false from by simp [h0, h1, h2]]
          refine At.ok (fuel := 60) (hs := [true, true, false]) S0_ok Tryz.func47 (by kernel_rfl) ?_
          simp only [Tryz.f47, go_sem, Nat.reduceAdd, Nat.reduceSub, Nat.reduceMul, Int.reduceAdd, Int.reduceSub, Int.reduceToNat, decide_eq_true_eq, decide_eq_false_iff_not, h0, h1, h2, not_false_eq_true]
          omega
      · rw [show decide (a1 = b1 ∧ a2 = b2 ∧ a3 = b3) = false from by simp [h0, h1]]
        refine At.ok (fuel := 60) (hs := [true, false]) S0_ok Tryz.func47 (by kernel_rfl) ?_
        simp only [Tryz.f47, go_sem, Nat.reduceAdd, Nat.reduceSub, Nat.reduceMul, Int.reduceAdd, Int.reduceSub, Int.reduceToNat, decide_eq_true_eq, decide_eq_false_iff_not, h0, h1, not_false_eq_true]
        omega
    · rw [show decide (a1 = b1 ∧ a2 = b2 ∧ a3 = b3) = false from by simp [h0]]
      refine At.ok (fuel := 60) (hs := [false]) S0_ok Tryz.func47 (by kernel_rfl) ?_
      simp only [Tryz.f47, go_sem, Nat.reduceAdd, Nat.reduceSub, Nat.reduceMul, Int.reduceAdd, Int.reduceSub, Int.reduceToNat, decide_eq_true_eq, decide_eq_false_iff_not, h0, not_false_eq_true]
      omega
  · cases h)
@[go_sem] def S1 : List Spec := sLess :: sVOf :: sVSub :: sVDot :: s5Zero :: s5Read :: s5Add :: s5Scale :: s5Is :: S0
theorem S1_ok : AllOk Tryz.prog S1 := ⟨sLess_ok, sVOf_ok, sVSub_ok, sVDot_ok, s5Zero_ok, s5Read_ok, s5Add_ok, s5Scale_ok, s5Is_ok, S0_ok⟩
@[go_sem] def sVCross : Spec := spN 33 fun l => match l with
  | [([a1, a2, a3], K), ([b1, b2, b3], L)] => some (⟨.inl (cn [a2 * b3 - a3 * b2, a3 * b1 - a1 * b3, a1 * b2 - a2 * b1] (2 * (K + L) + 1))⟩, 1 ≤ K ∧ 1 ≤ L ∧ 4 * max K L + 3 ≤ 1073741824)
  | _ => none
set_option maxHeartbeats 8000000 in
theorem sVCross_ok : SpecOk Tryz.prog sVCross := SpecOk.mk' Tryz.func33 (by kernel_rfl) (by kernel_rfl) (spN_at fun l r p h hp => by
  split at h
  · rename_i a1 a2 a3 K b1 b2 b3 L
    cases h
    refine At.okT (fuel := 60) (hs := []) S1_ok Tryz.func33 (by kernel_rfl) ?_
    simp only [Tryz.f33, go_sem, Nat.reduceAdd, Nat.reduceSub, Nat.reduceMul, Int.reduceAdd, Int.reduceSub, Int.reduceToNat]
    rintro ⟨⟨d_a1, d_a2, d_a3⟩, ⟨d_b1, d_b2, d_b3⟩⟩
    replace d_a1 := d_a1 (by omega)
    replace d_a2 := d_a2 (by omega)
    replace d_a3 := d_a3 (by omega)
    replace d_b1 := d_b1 (by omega)
    replace d_b2 := d_b2 (by omega)
    replace d_b3 := d_b3 (by omega)
    and_intros
    all_goals first | with_reducible rfl | omega | (show Bd _ _; refine Bd.mono (by repeat' (with_reducible first | apply Bd.add | apply Bd.sub | apply Bd.mul | apply Bd.div | apply Bd.neg | apply Bd.ite | exact Bd.zero | exact Bd.one | exact Bd.two | assumption)) ?_; omega) | (first | with_reducible rfl | grind)
  · cases h)
end Go.Proofs.YtbobhhnhlgdkiaaGreat.Sy

/- Loops. -/
namespace Go.Proofs.YtbobhhnhlgdkiaaGreat.Sy
open Go Go.RowKit M Kahn
set_option maxRecDepth 100000

def TLe : List AV → List AV → Prop
  | [], [] => True
  | a :: l, b :: m => ALe a b ∧ TLe l m
  | _, _ => False
def BLe : List Bx → List Bx → Prop
  | [], [] => True
  | ⟨ty, l, none⟩ :: s, ⟨ty', l', none⟩ :: s' => ty = ty' ∧ LLe l l' ∧ BLe s s'
  | ⟨ty, l, some n⟩ :: s, ⟨ty', l', some n'⟩ :: s' => ty = ty' ∧ n = n' ∧ EsLe l l' ∧ BLe s s'
  | _, _ => False
def StLe (st st' : St) : Prop := TLe st.tm st'.tm ∧ BLe st.bx st'.bx
theorem TLe.get : ∀ {l m : List AV}, TLe l m → ∀ t, ALe (look l t) (look m t)
  | [], [], _, _ => trivial
  | a :: l, b :: m, h, 0 => h.1
  | a :: l, b :: m, h, t + 1 => by
    have := TLe.get h.2 t
    unfold look at this ⊢
    simpa using this
  | [], _ :: _, h, _ => h.elim
  | _ :: _, [], h, _ => h.elim
theorem TLe.len : ∀ {l m : List AV}, TLe l m → l.length = m.length
  | [], [], _ => rfl
  | _ :: _, _ :: _, h => by simp [TLe.len h.2]
  | [], _ :: _, h => h.elim
  | _ :: _, [], h => h.elim
theorem LfLe1.size {x y : D} (h : LfLe1 x y) : dsz x = dsz y := by
  unfold LfLe1 at h
  split at h <;> first | rfl | exact h.elim | skip
  rename_i hx
  unfold dsz
  split
  · exact (hx _ rfl).elim
  · rfl
theorem LLe1.size : ∀ {l m : List D}, LLe1 l m → lsize l = lsize m
  | [], [], _ => rfl
  | _ :: _, _ :: _, h => by rw [lsize, lsize, h.1.size, LLe1.size h.2]
  | [], _ :: _, h => h.elim
  | _ :: _, [], h => h.elim
theorem EsR.wide {n : Nat} : ∀ {l m : List D}, EsR l m → Wide n l → Wide n m := by
  intro l
  induction l with
  | nil => intro m h _; cases m with
    | nil => intro x hx; cases hx
    | cons _ _ => exact h.elim
  | cons x l ih =>
    intro m h hw
    unfold EsR at h
    split at h
    · rename_i heq; cases heq
    · rename_i heq
      cases heq
      intro y hy
      rcases List.mem_cons.1 hy with rfl | hy
      · obtain ⟨l', e, hl⟩ := hw _ (List.mem_cons_self ..)
        cases e
        exact ⟨_, rfl, by rw [← h.1.size]; exact hl⟩
      · exact ih h.2 (fun z hz => hw z (List.mem_cons_of_mem _ hz)) y hy
    · exact h.elim
theorem EsLe.wide {n : Nat} {l m : List D} (h : EsLe l m) (hw : Wide n l) : Wide n m := by
  rcases h with rfl | h
  · exact hw
  · exact h.wide hw
theorem BLe.len : ∀ {l m : List Bx}, BLe l m → l.length = m.length := by
  intro l
  induction l with
  | nil => intro m h; cases m with
    | nil => rfl
    | cons _ _ => exact h.elim
  | cons b l ih =>
    intro m h
    unfold BLe at h
    split at h
    · rename_i heq; cases heq
    · rename_i heq; cases heq; simp [ih h.2.2]
    · rename_i heq; cases heq; simp [ih h.2.2.2]
    · exact h.elim
theorem BLe.get {E : Env} {u : World} : ∀ {l m : List Bx}, BLe l m → ∀ (j : Nat) (b' : Bx), m[j]? = some b' → ∃ b, l[j]? = some b ∧ b'.row = b.row ∧ (b.l = [] → b.row ≠ none → b'.l = []) ∧ ∀ k g, Holds E u b k g → Holds E u b' k g := by
  intro l
  induction l with
  | nil => intro m h j b' hj; cases m with
    | nil => simp at hj
    | cons _ _ => exact h.elim
  | cons b l ih =>
    intro m h j b' hj
    unfold BLe at h
    split at h
    · rename_i heq; cases heq
    · rename_i ty l1 s ty' l2 s' heq
      cases heq
      cases j with
      | zero =>
        simp at hj; subst hj
        obtain ⟨rfl, h2, _⟩ := h
        exact ⟨_, rfl, rfl, fun _ hn => absurd rfl hn, fun k g ⟨vs, q1, q2⟩ => ⟨vs, q1, h2.is q2⟩⟩
      | succ j => exact ih h.2.2 j b' (by simpa using hj)
    · rename_i ty l1 n s ty' l2 n' s' heq
      cases heq
      cases j with
      | zero =>
        simp at hj; subst hj
        obtain ⟨rfl, rfl, h2, _⟩ := h
        have hl := h2.len
        refine ⟨_, rfl, rfl, fun e _ => ?_, fun k g ⟨q0, vs, q1, q2⟩ => ⟨h2.wide q0, vs, ?_, h2.is q2⟩⟩
        · simp only at e ⊢
          rw [e] at hl
          exact List.eq_nil_of_length_eq_zero hl.symm
        · simp only at q1 ⊢
          rw [← hl]; exact q1
      | succ j => exact ih h.2.2.2 j b' (by simpa using hj)
    · exact h.elim
theorem root_le {w0 : Start} {bx bx' : List Bx} {E : Env} {u : World} (hb : BLe bx bx') (W : WS w0 bx E u) (k g : Nat) (hk : w0.R k = some g) : E.β k = some g ∧ ∃ b, bx'[k]? = some b ∧ b.row = none := by
  obtain ⟨r1, b, r2, r3⟩ := W.root k g hk
  have hk' : k < bx'.length := by rw [← hb.len]; exact (List.getElem?_eq_some_iff.1 r2).1
  obtain ⟨b0, q1, q2, _⟩ := hb.get (E := E) (u := u) k _ (List.getElem?_eq_getElem hk')
  rw [r2] at q1; cases q1
  exact ⟨r1, _, List.getElem?_eq_getElem hk', q2.trans r3⟩
theorem Rel.le {w0 : Start} {st st' : St} {E : Env} {a : Act} {u : World} (R : Rel w0 st E a u) (hl : st.tm.length = st'.tm.length) (ht : ∀ t, ALe (look st.tm t) (look st'.tm t)) (hb : BLe st.bx st'.bx) : Rel w0 st' E a u := by
  refine ⟨⟨R.ws.nm, R.ws.old, R.ws.F, R.ws.bel, R.ws.low, R.ws.inj, fun k g hk => by rw [← hb.len]; exact R.ws.dom k g hk, fun k b g h1 h2 => ?_, fun k hk => ?_, root_le hb R.ws⟩, by rw [← hl]; exact R.size, fun t => (ht t).is (R.vals t), R.defers⟩
  · obtain ⟨b0, q1, _, _, q2⟩ := hb.get (E := E) (u := u) k b h1
    exact q2 k g (R.ws.cont k b0 g q1 h2)
  · obtain ⟨b, n, h1, h2, h3⟩ := R.ws.row k hk
    have hk' : k < st'.bx.length := by rw [← hb.len]; exact (List.getElem?_eq_some_iff.1 h1).1
    obtain ⟨b0, q1, q2, q3, _⟩ := hb.get (E := E) (u := u) k _ (List.getElem?_eq_getElem hk')
    rw [h1] at q1; cases q1
    exact ⟨_, n, List.getElem?_eq_getElem hk', by rw [q2]; exact h2, fun h => ⟨q3 (h3 h).1 (by rw [h2]; nofun), (h3 h).2⟩⟩
/-- Slots of which these are told. -/
def setAll : List AV → List (Nat × D) → List AV
  | tm, [] => tm
  | tm, (t, v) :: r => setAll (tm.set t ⟨.inl v⟩) r
def tmOf (N : Nat) (kv : List (Nat × D)) : List AV := setAll (List.replicate N ⟨.inl (.map [])⟩) kv
theorem setAll_len : ∀ (kv : List (Nat × D)) (tm : List AV), (setAll tm kv).length = tm.length
  | [], _ => rfl
  | (t, v) :: r, tm => by rw [setAll, setAll_len r, List.length_set]
theorem tmOf_len (N : Nat) (kv : List (Nat × D)) : (tmOf N kv).length = N := by rw [tmOf, setAll_len, List.length_replicate]
/-- What one round comes to. -/
def OkBody (keep : List Nat) (good : Exit → St → Prop) : Option (Exit × St × Prop × List Bool) → Prop
  | some (e, st1, p, []) => p ∧ match canon st1 keep with
    | some st2 => good e st2
    | none => False
  | _ => False
/-- Is the loop left? -/
def leaves : Exit → Bool
  | .normal => false
  | _ => true
section
variable {S : List Spec} {Lt : List LSpec} {N : Nat} {bl : List (Nat × Code)} {c : Code} {X : Type}
/-- **A loop**: from what is known ahead of a round, I x, a round leads to I y, with y less far, or out of the loop, as out x says. -/
theorem loop_rule (hS : AllOk Tryz.prog S) (hL : ∀ s ∈ Lt, LOk Tryz.prog N bl s) (hreg : regOk N c = true) (hb : ∀ q ∈ blocksOf c, getBlk bl q.1 = some q.2) (keep : List Nat) (I : X → St) (hN : ∀ x, (I x).tm.length = N) (Inv : X → Prop) (m : X → Nat) (out : X → Exit × St)
    (body : ∀ x, Inv x → ∃ fuel hs, OkBody keep (fun e st2 => (leaves e = false → e = .normal ∧ ∃ y, Inv y ∧ m y < m x ∧ StLe st2 (I y) ∧ out y = out x) ∧ (leaves e = true → e = (out x).1 ∧ StLe st2 (out x).2)) (exC tt0 S Lt fuel c (I x) hs)) :
    ∀ (n : Nat) (x : X), Inv x → m x < n → ∀ {w0 : Start} {E : Env} {a : Act} {u : World} {Q : Exit → Act → World → Prop}, (∀ k, w0.R k = none) → Rel w0 (I x) E a u → (∀ E' a' u', Rel w0 (out x).2 E' a' u' → Q (out x).1 a' u') → Code.rounds Tryz.prog c Q n a u
  | 0, _, _, h, _, _, _, _, _, _, _, _ => absurd h (Nat.not_lt_zero _)
  | n + 1, x, hx, hm, w0, E, a, u, Q, hw, R, hq => by
    obtain ⟨fuel, hs, h⟩ := body x hx
    rw [rounds_succ]
    unfold OkBody at h
    split at h
    · rename_i e st1 p he
      obtain ⟨hp, h⟩ := h
      split at h
      · rename_i st2 hcn
        refine (exC_sound tt0_ok hS.mem mixed hL (.inl hw) fuel).1 (hN x) hreg hb he hp R fun E' a' u' R' => ?_
        obtain ⟨E2, R2⟩ := R'.canon hw hcn
        cases hl : leaves e with
        | false =>
          obtain ⟨rfl, y, hy, hmy, hle, ho⟩ := h.1 hl
          exact loop_rule hS hL hreg hb keep I hN Inv m out body n y hy (by omega) hw (R2.le hle.1.len hle.1.get hle.2) (by rw [ho]; exact hq)
        | true =>
          obtain ⟨rfl, hle⟩ := h.2 hl
          have := hq E2 a' u' (R2.le hle.1.len hle.1.get hle.2)
          generalize (out x).1 = e at *
          cases e with
          | normal => cases hl
          | _ => exact this
      · exact h.elim
    · exact h.elim
/-- An exit, seen from outside the block. -/
def outB (id : Nat) : Exit → Exit
  | .exit k => match Nat.beq k id with
    | true => .normal
    | false => .exit k
  | e => e
theorem outB_is {id : Nat} {e : Exit} {Q : Exit → Act → World → Prop} {a : Act} {w : World} : Exit.inBlock id Q e a w = Q (outB id e) a w := by
  cases e with
  | exit k =>
    show (if k = id then Q .normal a w else Q (.exit k) a w) = _
    cases hb : Nat.beq k id with
    | true =>
      simp only [outB, hb]
      rw [if_pos (Nat.eq_of_beq_eq_true hb)]
    | false =>
      simp only [outB, hb]
      rw [if_neg (fun h : k = id => by subst h; rw [Nat.beq_refl] at hb; cases hb)]
  | _ => rfl
/-- What a loop comes to, from what is known ahead of its first round. -/
def lsp (id : Nat) (keep : List Nat) (ahead : St) (r : Exit × St) : LSpec := ⟨id, keep, fun st hs => some (outB id r.1, r.2, StLe st ahead, hs)⟩
theorem loop_ok (hS : AllOk Tryz.prog S) (hL : ∀ s ∈ Lt, LOk Tryz.prog N bl s) {id : Nat} (hg : getBlk bl id = some (.loop c)) (hreg : regOk N c = true) (hb : ∀ q ∈ blocksOf c, getBlk bl q.1 = some q.2) (keep : List Nat) (I : X → St) (hN : ∀ x, (I x).tm.length = N) (Inv : X → Prop) (m : X → Nat) (out : X → Exit × St) (hout : ∀ x, (out x).2.tm.length = N)
    (body : ∀ x, Inv x → ∃ fuel hs, OkBody keep (fun e st2 => (leaves e = false → e = .normal ∧ ∃ y, Inv y ∧ m y < m x ∧ StLe st2 (I y) ∧ out y = out x) ∧ (leaves e = true → e = (out x).1 ∧ StLe st2 (out x).2)) (exC tt0 S Lt fuel c (I x) hs)) (x0 : X) (h0 : Inv x0) :
    LOk Tryz.prog N bl (lsp id keep (I x0) (out x0)) := by
  intro c' hc' st e st' hs hs' p hl h hp
  simp only [lsp] at hc' h
  rw [hg] at hc'
  cases hc'
  cases h
  refine ⟨hout x0, fun w0 E a u Q hw R hq => wp_block (wp_loop_rounds (m x0 + 1) (loop_rule hS hL hreg hb keep I hN Inv m out body (m x0 + 1) x0 h0 (Nat.lt_succ_self _) hw (R.le hp.1.len hp.1.get hp.2) fun E' a' u' R' => ?_))⟩
  rw [show (lsp id keep (I x0) (out x0)).id = id from rfl, outB_is]
  exact hq E' a' u' R'
theorem getBlk_mem : ∀ {l : List (Nat × Code)} {k : Nat} {d : Code}, getBlk l k = some d → (k, d) ∈ l
  | [], _, _, h => by cases h
  | (j, c) :: l, k, d, h => by
    simp only [getBlk] at h
    split at h
    · rename_i hj
      cases h
      rw [Nat.eq_of_beq_eq_true hj]
      exact List.mem_cons_self ..
    · exact List.mem_cons_of_mem _ (getBlk_mem h)
theorem regOk_blk {N : Nat} : ∀ {c : Code}, regOk N c = true → ∀ q ∈ blocksOf c, regOk N q.2 = true
  | .seq a b, h, q, hq => by
    simp only [regOk, Bool.and_eq_true] at h
    rcases List.mem_append.1 hq with hq | hq
    · exact regOk_blk h.1 q hq
    · exact regOk_blk h.2 q hq
  | .cond _ a b, h, q, hq => by
    simp only [regOk, Bool.and_eq_true] at h
    rcases List.mem_append.1 hq with hq | hq
    · exact regOk_blk h.1 q hq
    · exact regOk_blk h.2 q hq
  | .block id c, h, q, hq => by
    simp only [regOk] at h
    rcases List.mem_cons.1 hq with rfl | hq
    · exact h
    · exact regOk_blk h q hq
  | .loop c, h, q, hq => by
    simp only [regOk] at h
    exact regOk_blk h q hq
  | .skip, _, _, hq => by cases hq
  | .label _, _, _, hq => by cases hq
  | .region _ _ _, _, _, hq => by cases hq
  | .exit _, _, _, hq => by cases hq
  | .ret, _, _, hq => by cases hq
  | .rangeFunc _ _ _ _, _, _, hq => by cases hq
  | .scope _, _, _, hq => by cases hq
  | .goto _, _, _, hq => by cases hq
  | .refuse _, _, _, hq => by cases hq
theorem blk_sub : ∀ {c : Code}, ∀ q ∈ blocksOf c, ∀ r ∈ blocksOf q.2, r ∈ blocksOf c
  | .seq a b, q, hq, r, hr => by
    rcases List.mem_append.1 hq with hq | hq
    · exact List.mem_append.2 (.inl (blk_sub q hq r hr))
    · exact List.mem_append.2 (.inr (blk_sub q hq r hr))
  | .cond _ a b, q, hq, r, hr => by
    rcases List.mem_append.1 hq with hq | hq
    · exact List.mem_append.2 (.inl (blk_sub q hq r hr))
    · exact List.mem_append.2 (.inr (blk_sub q hq r hr))
  | .block id c, q, hq, r, hr => by
    rcases List.mem_cons.1 hq with rfl | hq
    · exact List.mem_cons_of_mem _ hr
    · exact List.mem_cons_of_mem _ (blk_sub q hq r hr)
  | .loop c, q, hq, r, hr => blk_sub (c := c) q hq r hr
  | .skip, _, hq, _, _ => by cases hq
  | .label _, _, hq, _, _ => by cases hq
  | .region _ _ _, _, hq, _, _ => by cases hq
  | .exit _, _, hq, _, _ => by cases hq
  | .ret, _, hq, _, _ => by cases hq
  | .rangeFunc _ _ _ _, _, hq, _, _ => by cases hq
  | .scope _, _, hq, _, _ => by cases hq
  | .goto _, _, hq, _, _ => by cases hq
  | .refuse _, _, hq, _, _ => by cases hq
/-- Such a block of a function is a loop. -/
def isLoop (fn : Func) (id : Nat) : Bool := match fn.body with
  | some b => match getBlk (blocksOf b) id with
    | some (.loop _) => true
    | _ => false
  | none => false
/-- A loop more. -/
theorem LoopsOk.loop {fn : Func} {n : Nat} (hS : AllOk Tryz.prog S) (ho : fnOk fn n = true) (hL : LoopsOk fn n Lt) (id : Nat) (hi : isLoop fn id = true) (keep : List Nat) (I : X → St) (hN : ∀ x, (I x).tm.length = n + (fn.ntmps - n)) (Inv : X → Prop) (m : X → Nat) (out : X → Exit × St) (hout : ∀ x, (out x).2.tm.length = n + (fn.ntmps - n))
    (body : ∀ b c, fn.body = some b → getBlk (blocksOf b) id = some (.loop c) → ∀ x, Inv x → ∃ fuel hs, OkBody keep (fun e st2 => (leaves e = false → e = .normal ∧ ∃ y, Inv y ∧ m y < m x ∧ StLe st2 (I y) ∧ out y = out x) ∧ (leaves e = true → e = (out x).1 ∧ StLe st2 (out x).2)) (exC tt0 S Lt fuel c (I x) hs)) (x0 : X) (h0 : Inv x0) :
    LoopsOk fn n (lsp id keep (I x0) (out x0) :: Lt) := by
  intro b hb s hs
  rcases List.mem_cons.1 hs with rfl | hs
  · have hk : regOk (n + (fn.ntmps - n)) b = true ∧ onceB (blocksOf b) = true := by
      unfold fnOk at ho
      rw [hb] at ho
      simpa only [Bool.and_eq_true] using ho
    have hi' : ∃ c, getBlk (blocksOf b) id = some (.loop c) := by
      unfold isLoop at hi
      rw [hb] at hi
      simp only at hi
      split at hi
      · rename_i c h; exact ⟨c, h⟩
      · cases hi
    obtain ⟨c, hc⟩ := hi'
    have hm := getBlk_mem hc
    refine loop_ok hS (hL b hb) hc (by have := regOk_blk hk.1 _ hm; simpa only [regOk] using this) (fun q hq => onceB_spec hk.2 q (blk_sub _ hm q hq)) keep I hN Inv m out hout (body b c hb hc) x0 h0
  · exact hL b hb s hs
end
attribute [go_sem] TLe BLe StLe setAll tmOf OkBody leaves outB lsp
end Go.Proofs.YtbobhhnhlgdkiaaGreat.Sy

/- Lists of Vecs; vec.Sum, by a loop. -/
namespace Go.Proofs.YtbobhhnhlgdkiaaGreat.Sy
open Go Go.RowKit M Kahn
set_option maxRecDepth 1000000
set_option linter.unusedSimpArgs false
set_option linter.unusedVariables false

/-- A row that is made: the first i entries are laid, the others are as they began. -/
def part {α : Type} (f : α → D) (z : D) (vs : List α) (i : Nat) : List D := (vs.take i).map f ++ List.replicate (vs.length - i) z
section
variable {α : Type} {f : α → D} {z : D} {vs : List α} {i : Nat}
end
theorem sized_map {α : Type} {f : α → D} {n : Nat} (h : ∀ x, ∃ l, f x = .agg l ∧ lsize l = n) : ∀ vs : List α, sized n (vs.map f) = true
  | [] => rfl
  | v :: vs => by
    obtain ⟨l, e, hl⟩ := h v
    rw [List.map_cons, e]
    simp only [sized, sized_map h vs, Bool.and_true, hl]
    exact Nat.beq_refl n
abbrev V3 := Rat × Rat × Rat

end Go.Proofs.YtbobhhnhlgdkiaaGreat.Sy
