/- Contracts of the calls that reckon with Rats, as the runs take them. -/
import Derived.Test.YtbobhhnhlgdkiaaGreatJJ
import Derived.Test.YtbobhhnhlgdkiaaGreatJ9
import Derived.Test.YtbobhhnhlgdkiaaGreatJq
import Derived.Test.YtbobhhnhlgdkiaaGreatJc
import Derived.Test.YtbobhhnhlgdkiaaGreatJp
namespace Go.Proofs.YtbobhhnhlgdkiaaGreat.Sy
open Go Go.RowKit M Kahn
set_option maxRecDepth 100000

/-- Limbs that are written out. -/
def lmN : List D → Option (List Nat)
  | [] => some []
  | .held (.inl (_, x, _)) :: l => match lmN l with
    | some xs => some (x :: xs)
    | none => none
  | _ :: _ => none
theorem lmN_map : ∀ xs : List Nat, lmN (xs.map lmD) = some xs
  | [] => rfl
  | x :: xs => by rw [List.map_cons, lmD, lmN, lmN_map xs]
/-- The numbers of a struct of Rats (also of ones whose parts are told); of how many limbs they are at most. -/
def ratsL : List D → Option (List Rat × Nat)
  | [] => none
  | .held (.inr (.inl (.bool s))) :: .ptr (.slice xs _) :: .ptr (.slice ys _) :: l => match lmN xs, lmN ys with
    | some xs, some ys => match l with
      | [] => some ([rq s (val xs) (val ys)], max xs.length ys.length)
      | x :: r => match ratsL (x :: r) with
        | some (qs, M) => some (rq s (val xs) (val ys) :: qs, max (max xs.length ys.length) M)
        | none => none
    | _, _ => none
  | .held (.inl (q, K, _)) :: l => match l with
    | [] => some ([q], K)
    | x :: r => match ratsL (x :: r) with
      | some (qs, M) => some (q :: qs, max K M)
      | none => none
  | _ :: _ => none
def rats : D → Option (List Rat × Nat)
  | .agg l => ratsL l
  | _ => none
def agR (q : Rat) (K : Nat) : D := .agg [.held (.inl (q, K, true))]
theorem RL.monoK {u : World} {K K' : Nat} (hk : K ≤ K') : ∀ {rs : List RP} {qs : List Rat}, RL u K rs qs → RL u K' rs qs
  | [], [], h => h
  | [], _ :: _, h => h
  | _ :: _, [], h => h
  | _ :: _, _ :: _, h => ⟨h.1.mono hk, RL.monoK hk h.2⟩
theorem raw_is {E : Env} {u : World} {s : Bool} {ls ms sp sp' : List D} {xs ys : List Nat} {l : List D} {vs : List Value} (hx : lmN ls = some xs) (hy : lmN ms = some ys) (hc : Cells E u (.held (.inr (.inl (.bool s))) :: .ptr (.slice ls sp) :: .ptr (.slice ms sp') :: l) vs) :
    ∃ (r : RP) (b : List Value), vs = r.cells ++ b ∧ Qp u r (rq s (val xs) (val ys)) (max xs.length ys.length) ∧ Cells E u l b := by
  obtain ⟨a1, b1, rfl, h1, c1⟩ := Cells.cons_iff.1 hc
  obtain ⟨a2, b2, rfl, h2, c2⟩ := Cells.cons_iff.1 c1
  obtain ⟨a3, b3, rfl, h3, c3⟩ := Cells.cons_iff.1 c2
  obtain ⟨v1, rfl, _, k1⟩ := (LfIs.one_iff rfl).1 h1
  obtain ⟨v2, rfl, _, _, xs', no, nn, nc, e1, rfl, k2⟩ := (LfIs.one_iff rfl).1 h2
  obtain ⟨v3, rfl, _, _, ys', eo, en, ec, e2, rfl, k3⟩ := (LfIs.one_iff rfl).1 h3
  obtain rfl := VIs.val_iff.1 k1
  subst e1 e2
  rw [lmN_map] at hx hy
  cases hx; cases hy
  exact ⟨⟨s, no, nn, nc, eo, en, ec⟩, b3, rfl, ⟨⟨_, _, k2, k3, rfl⟩, by rw [k2.len]; exact Nat.le_max_left _ _, by rw [k3.len]; exact Nat.le_max_right _ _⟩, c3⟩
theorem ratsL_is {E : Env} {u : World} : ∀ {n : Nat} {l : List D} {qs : List Rat} {K : Nat} {vs : List Value}, l.length ≤ n → ratsL l = some (qs, K) → Cells E u l vs → ∃ rs, vs = RP.all rs ∧ RL u K rs qs := by
  intro n
  induction n with
  | zero => intro l qs K vs hn h; obtain rfl := List.eq_nil_of_length_eq_zero (Nat.le_zero.1 hn); simp only [ratsL] at h; cases h
  | succ n ih =>
    intro l qs K vs hn h hc
    unfold ratsL at h
    split at h
    · cases h
    · split at h
      · rename_i s ls sp ms sp' l _ _ xs ys hx hy
        obtain ⟨r, b, rfl, h3, h2⟩ := raw_is hx hy hc
        split at h
        · cases h
          obtain rfl := Cells.nil_iff.1 h2
          exact ⟨[r], rfl, h3, trivial⟩
        · split at h
          · rename_i qs' M hr
            cases h
            obtain ⟨rs, rfl, h4⟩ := ih (by simp at hn ⊢; omega) hr h2
            exact ⟨r :: rs, rfl, h3.mono (Nat.le_max_left _ _), RL.monoK (Nat.le_max_right _ _) h4⟩
          · cases h
      · cases h
    · rename_i q K' c l' _
      obtain ⟨a, b, rfl, h1, h2⟩ := Cells.cons_iff.1 hc
      obtain ⟨r, rfl, h3, _⟩ := LfIs.rat_iff.1 h1
      split at h
      · cases h
        obtain rfl := Cells.nil_iff.1 h2
        exact ⟨[r], rfl, h3, trivial⟩
      · split at h
        · rename_i qs' M hr
          cases h
          obtain ⟨rs, rfl, h4⟩ := ih (by simp at hn ⊢; omega) hr h2
          exact ⟨r :: rs, rfl, h3.mono (Nat.le_max_left _ _), RL.monoK (Nat.le_max_right _ _) h4⟩
        · cases h
    · cases h
theorem rats_is {E : Env} {u : World} {b : D} {qs : List Rat} {K : Nat} {v : Value} (h : rats b = some (qs, K)) (hi : VIs E u b v) : ∃ rs, v = .agg (RP.all rs).toArray ∧ RL u K rs qs := by
  unfold rats at h
  split at h
  · obtain ⟨vs, e, hc⟩ := VIs.agg_iff.1 hi
    obtain ⟨rs, h1, h2⟩ := ratsL_is (Nat.le_refl _) h hc
    exact ⟨rs, by rw [e, h1], h2⟩
  · cases h
theorem rat_is {E : Env} {u : World} {b : D} {q : Rat} {K : Nat} {v : Value} (h : rats b = some ([q], K)) (hi : VIs E u b v) : ∃ r : RP, v = .agg #[.bool r.s, .slice r.no r.nn r.nc, .slice r.eo r.en r.ec] ∧ Qp u r q K := by
  obtain ⟨rs, h1, h2⟩ := rats_is h hi
  match rs, h2 with
  | [r], h2 => exact ⟨r, h1, h2.1⟩
/-- Such structs, as runs begin with them. -/
def mkR (qs : List Rat) (K : Nat) : D := .agg (qs.map fun q => .held (.inl (q, K, false)))
theorem mkR_is {E : Env} {u : World} {rs : List RP} {qs : List Rat} {K : Nat} (h : RL u K rs qs) : VIs E u (mkR qs K) (.agg (RP.all rs).toArray) := by
  refine VIs.agg_iff.2 ⟨RP.all rs, rfl, ?_⟩
  induction rs generalizing qs with
  | nil => cases qs with
    | nil => exact Cells.nil
    | cons _ _ => exact h.elim
  | cons r rs ih => cases qs with
    | nil => exact h.elim
    | cons q qs => exact Cells.cons_iff.2 ⟨r.cells, RP.all rs, rfl, LfIs.rat_iff.2 ⟨r, rfl, h.1, nofun⟩, ih h.2⟩
theorem rats_mk {E : Env} {u : World} {b : D} {qs : List Rat} {K : Nat} {v : Value} (h : rats b = some (qs, K)) (hi : VIs E u b v) : VIs E u (mkR qs K) v := by
  obtain ⟨rs, h1, h2⟩ := rats_is h hi
  rw [h1]; exact mkR_is h2
theorem ag_is {E : Env} {u : World} {r : RP} {q : Rat} {K : Nat} (h : Cp u r q K) : VIs E u (agR q K) (.agg r.cells.toArray) := VIs.agg_iff.2 ⟨_, rfl, Cells.cons_iff.2 ⟨r.cells, [], by simp, LfIs.rat_iff.2 ⟨r, rfl, h.rd, fun _ => h⟩, Cells.nil⟩⟩
section
variable {E : Env} {w w' : World} {K : Nat} {q : Rat} {e : Ending}
theorem gq_is (h : Gq w K q e w') : ∃ v, e = .returned v ∧ AV.Is E w' ⟨.inl (agR q K)⟩ v ∧ Below w.heap.size w w' := by
  obtain ⟨s, no, nn, nc, eo, en, ec, h1, h2, h3⟩ := h
  exact ⟨_, h1, ag_is (r := ⟨s, no, nn, nc, eo, en, ec⟩) h2, h3⟩
theorem gqb_is {b : Bool} (h : Gqb w K q b e w') : ∃ v, e = .returned v ∧ AV.Is E w' ⟨.inr [agR q K, .held (.inr (.inl (.bool b)))]⟩ v ∧ Below w.heap.size w w' := by
  obtain ⟨s, no, nn, nc, eo, en, ec, h1, h2, h3⟩ := h
  exact ⟨_, h1, ⟨[_, _], rfl, _, _, rfl, ag_is (r := ⟨s, no, nn, nc, eo, en, ec⟩) h2, _, _, rfl, VIs.val_iff.2 rfl, rfl⟩, h3⟩
theorem gs_is (h : Gs3 w q e w') : ∃ v, e = .returned v ∧ AV.Is E w' ⟨.inl (.held (.inr (.inl (.int .i64 (qsgn q)))))⟩ v ∧ Below w.heap.size w w' := ⟨_, h.1, VIs.val_iff.2 rfl, h.2⟩
theorem gb_is {A : Prop} [Decidable A] (h : Gb w A e w') : ∃ v, e = .returned v ∧ AV.Is E w' ⟨.inl (.held (.inr (.inl (.bool (decide A)))))⟩ v ∧ Below w.heap.size w w' := by
  obtain ⟨r, h1, h2, h3⟩ := h
  refine ⟨_, h1, VIs.val_iff.2 ?_, h3⟩
  show Value.bool r = Value.bool (decide A)
  have := h2.out
  by_cases hA : A
  · rw [this.2 hA, decide_eq_true hA]
  · cases r with
    | true => exact absurd (this.1 rfl) hA
    | false => rw [decide_eq_false hA]
end
section
variable {P : Program} {f : Nat}
def RArg (r : RP) : Value := .agg #[.bool r.s, .slice r.no r.nn r.nc, .slice r.eo r.en r.ec]
def sp1 (f : Nat) (r : Rat → Nat → AV) (side : Nat → Prop) : Spec := ⟨f, fun xs => match xs with
  | [x] => match rats x with
    | some ([q], K) => some (r q K, side K)
    | _ => none
  | _ => none, nomem⟩
theorem sp1_at {r : Rat → Nat → AV} {side : Nat → Prop} (H : ∀ (w : World) (a : RP) (q : Rat) (K : Nat), Qp w a q K → side K → Calls P f #[RArg a] w fun e w' => ∀ E, ∃ v, e = .returned v ∧ (r q K).Is E w' v ∧ Below w.heap.size w w') :
    ∀ xs x p, (sp1 f r side).sem xs = some (x, p) → p → At P f xs x := by
  intro xs x p h hp w args F hF ha
  simp only [sp1] at h
  split at h
  · split at h
    · rename_i hr
      cases h
      obtain ⟨v, _, rfl, h1, rfl⟩ := ha
      obtain ⟨a, rfl, h2⟩ := rat_is hr h1
      exact Calls.mono (H w a _ _ h2 hp) fun _ _ k => k _
    · cases h
  · cases h
def sp2 (f : Nat) (r : Rat → Nat → Rat → Nat → AV) (side : Nat → Nat → Prop) : Spec := ⟨f, fun xs => match xs with
  | [x, y] => match rats x, rats y with
    | some ([q], K), some ([p], L) => some (r q K p L, side K L)
    | _, _ => none
  | _ => none, nomem⟩
theorem sp2_at {r : Rat → Nat → Rat → Nat → AV} {side : Nat → Nat → Prop} (H : ∀ (w : World) (a b : RP) (q p : Rat) (K L : Nat), Qp w a q K → Qp w b p L → side K L → Calls P f #[RArg a, RArg b] w fun e w' => ∀ E, ∃ v, e = .returned v ∧ (r q K p L).Is E w' v ∧ Below w.heap.size w w') :
    ∀ xs x p, (sp2 f r side).sem xs = some (x, p) → p → At P f xs x := by
  intro xs x p h hp w args F hF ha
  simp only [sp2] at h
  split at h
  · split at h
    · rename_i hr hr'
      cases h
      obtain ⟨v, _, rfl, h1, v', _, rfl, h1', rfl⟩ := ha
      obtain ⟨a, rfl, h2⟩ := rat_is hr h1
      obtain ⟨b, rfl, h2'⟩ := rat_is hr' h1'
      exact Calls.mono (H w a b _ _ _ _ h2 h2' hp) fun _ _ k => k _
    · cases h
  · cases h
/-- Are two canonical ones the same? -/
def spIs (f : Nat) : Spec := ⟨f, fun xs => match xs with
  | [.agg [.held (.inl (q, K, true))], .agg [.held (.inl (p, L, true))]] => some (⟨.inl (.held (.inr (.inl (.bool (decide (q = p))))))⟩, K ≤ 1099511627776 ∧ L ≤ 1099511627776)
  | _ => none, nomem⟩
theorem spIs_at (H : ∀ (w : World) (a b : RP) (q p : Rat) (K L : Nat), Cp w a q K → Cp w b p L → K ≤ 1099511627776 → L ≤ 1099511627776 → Calls P f #[RArg a, RArg b] w (Gb w (q = p))) : ∀ xs x p, (spIs f).sem xs = some (x, p) → p → At P f xs x := by
  intro xs x p h hp w args F hF ha
  simp only [spIs] at h
  split at h
  · cases h
    obtain ⟨v, _, rfl, h1, v', _, rfl, h1', rfl⟩ := ha
    obtain ⟨vs, rfl, c1⟩ := VIs.agg_iff.1 h1
    obtain ⟨vs', rfl, c1'⟩ := VIs.agg_iff.1 h1'
    obtain ⟨x1, x2, rfl, k1, k2⟩ := Cells.cons_iff.1 c1
    obtain ⟨y1, y2, rfl, k1', k2'⟩ := Cells.cons_iff.1 c1'
    obtain rfl := Cells.nil_iff.1 k2
    obtain rfl := Cells.nil_iff.1 k2'
    obtain ⟨a, rfl, _, k3⟩ := LfIs.rat_iff.1 k1
    obtain ⟨b, rfl, _, k3'⟩ := LfIs.rat_iff.1 k1'
    exact Calls.mono (H w a b _ _ _ _ (k3 rfl) (k3' rfl) hp.1 hp.2) fun e w' h => gb_is h
  · cases h
/-- Of two ints. -/
def spOf (f : Nat) : Spec := ⟨f, fun xs => match xs with
  | [.held (.inr (.inl (.int .i64 n))), .held (.inr (.inl (.int .i64 d)))] => some (⟨.inl (agR ((n : Rat) / (d : Rat)) 2)⟩, -9223372036854775808 ≤ n ∧ n ≤ 9223372036854775807 ∧ -9223372036854775808 ≤ d ∧ d ≤ 9223372036854775807)
  | _ => none, nomem⟩
theorem spOf_at (H : ∀ (w : World) (n d : Int), -9223372036854775808 ≤ n → n ≤ 9223372036854775807 → -9223372036854775808 ≤ d → d ≤ 9223372036854775807 → Calls P f #[.int .i64 n, .int .i64 d] w (Gq w 2 ((n : Rat) / (d : Rat)))) : ∀ xs x p, (spOf f).sem xs = some (x, p) → p → At P f xs x := by
  intro xs x p h hp w args F hF ha
  simp only [spOf] at h
  split at h
  · cases h
    obtain ⟨v, _, rfl, h1, v', _, rfl, h1', rfl⟩ := ha
    obtain rfl := VIs.val_iff.1 h1
    obtain rfl := VIs.val_iff.1 h1'
    exact Calls.mono (H w _ _ hp.1 hp.2.1 hp.2.2.1 hp.2.2.2) fun e w' h => gq_is h
  · cases h
def sp0 (f : Nat) (q : Rat) : Spec := ⟨f, fun xs => match xs with
  | [] => some (⟨.inl (agR q 1)⟩, True)
  | _ => none, nomem⟩
theorem sp0_at {q : Rat} (H : ∀ (w : World), Calls P f #[] w (Gq w 1 q)) : ∀ xs x p, (sp0 f q).sem xs = some (x, p) → p → At P f xs x := by
  intro xs x p h hp w args F hF ha
  simp only [sp0] at h
  split at h
  · cases h; cases ha
    exact Calls.mono (H w) fun e w' h => gq_is h
  · cases h
/-- Lists of Rats. -/
def rowE : List D → Option (List Rat × Nat)
  | [] => some ([], 1)
  | .agg [.held (.inl (q, K, _))] :: l => match rowE l with
    | some (qs, M) => some (q :: qs, max K M)
    | none => none
  | _ => none
def rowR : D → Option (List Rat × Nat)
  | .slice es _ => rowE es
  | .held (.inr (.inl (.slice none 0 0))) => some ([], 1)
  | _ => none
theorem rowE_is {E : Env} {u : World} : ∀ {es : List D} {qs : List Rat} {K : Nat} {vs : List Value}, rowE es = some (qs, K) → Els E u es vs → qs.length = es.length ∧ ∃ rs, vs = RP.all rs ∧ RL u K rs qs := by
  intro es
  induction es with
  | nil =>
    intro qs K vs h hc
    simp only [rowE] at h; cases h
    obtain rfl := Els.nil_iff.1 hc
    exact ⟨rfl, [], rfl, trivial⟩
  | cons x l ih =>
    intro qs K vs h hc
    obtain ⟨ps, a, b, rfl, rfl, h1, h2⟩ := Els.cons_iff.1 hc
    unfold rowE at h
    split at h
    · rename_i heq; cases heq
    · rename_i q K' c l' heq
      cases heq
      split at h
      · rename_i qs' M hr
        cases h
        obtain ⟨e, rs, rfl, h4⟩ := ih hr h2
        obtain ⟨x1, x2, rfl, k1, k2⟩ := Cells.cons_iff.1 h1
        obtain rfl := Cells.nil_iff.1 k2
        obtain ⟨r, rfl, h3, _⟩ := LfIs.rat_iff.1 k1
        exact ⟨by simp [e], r :: rs, by simp [RP.all], h3.mono (Nat.le_max_left _ _), RL.monoK (Nat.le_max_right _ _) h4⟩
      · cases h
    · cases h
theorem rowR_is {E : Env} {u : World} {b : D} {qs : List Rat} {K : Nat} {v : Value} (h : rowR b = some (qs, K)) (hi : VIs E u b v) : VL qs K v u := by
  unfold rowR at h
  split at h
  · rename_i es sp
    obtain ⟨ao, cap, e, hcap, hth⟩ := VIs.slice_iff.1 hi
    by_cases h0 : 0 < es.length
    · obtain ⟨b, o, vs, rfl, ho, hc, hr⟩ := hth h0
      obtain ⟨hl, rs, rfl, h2⟩ := rowE_is h hc
      exact ⟨_, cap, rs, by rw [e, hl], by omega, h2, fun _ => ⟨b, o, rfl, ho.1, hr⟩⟩
    · obtain rfl : es = [] := List.eq_nil_of_length_eq_zero (by omega)
      simp only [rowE] at h; cases h
      exact ⟨ao, cap, [], e, Nat.zero_le _, trivial, fun h => absurd h (Nat.lt_irrefl _)⟩
  · cases h
    rw [VIs.val_iff.1 hi]
    exact VL.nil _ _
  · cases h
def sumL : List Rat → Rat
  | [] => 0
  | a :: l => l.foldl (· + ·) a
def prodL : List Rat → Rat
  | [] => 1
  | a :: l => l.foldl (· * ·) a
theorem sumL_is : ∀ qs : List Rat, qsum qs = sumL qs
  | [] => rfl
  | a :: l => by
    have : ∀ (l : List Rat) (a : Rat), l.foldl (· + ·) a = a + qsum l := by
      intro l
      induction l with
      | nil => intro a; show a = a + 0; grind
      | cons b l ih => intro a; rw [List.foldl_cons, ih]; show a + b + qsum l = a + (b + qsum l); grind
    rw [sumL, this]; rfl
theorem prodL_is : ∀ qs : List Rat, qprod qs = prodL qs
  | [] => rfl
  | a :: l => by
    have : ∀ (l : List Rat) (a : Rat), l.foldl (· * ·) a = a * qprod l := by
      intro l
      induction l with
      | nil => intro a; show a = a * 1; grind
      | cons b l ih => intro a; rw [List.foldl_cons, ih]; show a * b * qprod l = a * (b * qprod l); grind
    rw [prodL, this]; rfl
def spL (f : Nat) (g : List Rat → Rat) (h : Nat → Nat → Nat) (side : Nat → Nat → Prop) : Spec := ⟨f, fun xs => match xs with
  | [x] => match rowR x with
    | some (qs, K) => some (⟨.inl (agR (g qs) (h qs.length K))⟩, side qs.length K)
    | _ => none
  | _ => none, nomem⟩
theorem spL_at {g : List Rat → Rat} {h : Nat → Nat → Nat} {side : Nat → Nat → Prop} (H : ∀ (w : World) (v : Value) (qs : List Rat) (K : Nat), VL qs K v w → side qs.length K → Calls P f #[v] w (Gq w (h qs.length K) (g qs))) : ∀ xs x p, (spL f g h side).sem xs = some (x, p) → p → At P f xs x := by
  intro xs x p h hp w args F hF ha
  simp only [spL] at h
  split at h
  · split at h
    · rename_i hr
      cases h
      obtain ⟨v, _, rfl, h1, rfl⟩ := ha
      exact Calls.mono (H w v _ _ (rowR_is hr h1) hp) fun e w' h => gq_is h
    · cases h
  · cases h
end
end Go.Proofs.YtbobhhnhlgdkiaaGreat.Sy

/- The types of the program, and the contracts of its calls that reckon with Rats. -/
namespace Go.Proofs.YtbobhhnhlgdkiaaGreat.Sy
open Go Go.RowKit M Kahn
set_option maxRecDepth 100000

theorem zRat (E : Env) (u : World) : LfIs E u (.held (.inl (0, 0, false))) [.bool false, .slice none 0 0, .slice none 0 0] :=
  LfIs.rat_iff.2 ⟨zRP, rfl, ⟨⟨[], [], Sl.nil _ _, Sl.nil _ _, rq_den0 _ _⟩, Nat.le_refl _, Nat.le_refl _⟩, nofun⟩
theorem zOne (E : Env) (u : World) {v : Value} (h : plain v = true) : LfIs E u (.held (.inr (.inl v))) [v] :=
  (LfIs.one_iff rfl).2 ⟨v, rfl, h, VIs.val_iff.2 rfl⟩
def fieldsB (P : Program) : List (Nat × Nat × Bool) → List Field → Bool
  | (o, s, r) :: l, f :: fs => Nat.beq f.offset o && (match P.info? f.type with
      | some i => Nat.beq i.size s
      | none => false) && !(Nat.beq s 0) && (match P.underlying f.type with
      | some d => d.isRow == r
      | none => false) && fieldsB P l fs
  | [], [] => true
  | _, _ => false
theorem fieldsB_spec {P : Program} : ∀ {l : List (Nat × Nat × Bool)} {fs : List Field}, fieldsB P l fs = true → FieldsOk P l fs
  | [], [], _ => trivial
  | [], _ :: _, h => by cases h
  | _ :: _, [], h => by cases h
  | (o, s, r) :: l, f :: fs, h => by
    simp only [fieldsB, Bool.and_eq_true] at h
    obtain ⟨⟨⟨⟨h1, h2⟩, h3⟩, h4⟩, h5⟩ := h
    refine ⟨⟨Nat.eq_of_beq_eq_true h1, ?_, ?_, ?_⟩, fieldsB_spec h5⟩
    · cases hi : P.info? f.type with
      | none => rw [hi] at h2; cases h2
      | some i => rw [hi] at h2; simp [Nat.eq_of_beq_eq_true h2]
    · intro e; subst e; simp at h3
    · cases hu : P.underlying f.type with
      | none => rw [hu] at h4; cases h4
      | some d => rw [hu] at h4; exact ⟨d, rfl, by simpa using h4⟩
def AllOk (P : Program) : List Spec → Prop
  | [] => True
  | s :: l => SpecOk P s ∧ AllOk P l
theorem AllOk.mem {P : Program} : ∀ {l : List Spec}, AllOk P l → ∀ s ∈ l, SpecOk P s
  | [], _, s, h => by cases h
  | x :: l, ⟨h1, h2⟩, s, h => by
    rcases List.mem_cons.1 h with rfl | h
    · exact h1
    · exact AllOk.mem h2 s h
theorem SpecOk.mk' {P : Program} {s : Spec} {fn : Func} (hf : P.funcs[s.f]? = some fn) (hn : (fn.name == "runtime.NumGoroutine") = false) (hb : fn.body.isSome = true) (h : ∀ xs r p, s.sem xs = some (r, p) → p → At P s.f xs r) (hm : s.mem = nomem := by rfl) : SpecOk P s :=
  SpecOk.of hf (by simpa using hn) (by intro e; rw [e] at hb; cases hb) h hm
theorem SpecOk.mkM {P : Program} {s : Spec} {fn : Func} (hf : P.funcs[s.f]? = some fn) (hn : (fn.name == "runtime.NumGoroutine") = false) (hb : fn.body.isSome = true) (h : MemOk P s) (hs : s.sem = fun _ => none := by rfl) : SpecOk P s :=
  SpecOk.ofM hf (by simpa using hn) (by intro e; rw [e] at hb; cases hb) h hs
theorem mixed : Tryz.prog.follows .mixedOrders = true := by kernel_rfl
def tt0 : TT := [(2, ⟨.inr (.inl (.int .i64 0, none))⟩),
  (3, ⟨.inr (.inl (.int .i64 0, none))⟩),
  (4, ⟨.inr (.inl (.bool false, none))⟩),
  (5, ⟨.inr (.inl (.int .u8 0, none))⟩),
  (9, ⟨.inr (.inl (.string ⟨#[]⟩, none))⟩),
  (12, ⟨.inr (.inl (.int .u64 0, none))⟩),
  (21, ⟨.inr (.inl (.int .i32 0, none))⟩),
  (22, ⟨.inr (.inl (.slice none 0 0, some 86))⟩),
  (24, ⟨.inl (3, [(0, 1, false), (1, 1, false), (2, 1, false)], [.held (.inl (0, 0, false))])⟩),
  (26, ⟨.inl (9, [(0, 3, true), (3, 3, true), (6, 3, true)], [.held (.inl (0, 0, false)), .held (.inl (0, 0, false)), .held (.inl (0, 0, false))])⟩),
  (28, ⟨.inl (18, [(0, 9, true), (9, 9, true)], [.held (.inl (0, 0, false)), .held (.inl (0, 0, false)), .held (.inl (0, 0, false)), .held (.inl (0, 0, false)), .held (.inl (0, 0, false)), .held (.inl (0, 0, false))])⟩),
  (30, ⟨.inl (7, [(0, 3, true), (3, 3, true), (6, 1, false)], [.held (.inl (0, 0, false)), .held (.inl (0, 0, false)), .held (.inr (.inl (.bool false)))])⟩),
  (38, ⟨.inl (27, [(0, 9, true), (9, 9, true), (18, 9, true)], [.held (.inl (0, 0, false)), .held (.inl (0, 0, false)), .held (.inl (0, 0, false)), .held (.inl (0, 0, false)), .held (.inl (0, 0, false)), .held (.inl (0, 0, false)), .held (.inl (0, 0, false)), .held (.inl (0, 0, false)), .held (.inl (0, 0, false))])⟩),
  (40, ⟨.inl (9, [(0, 3, true), (3, 3, true), (6, 3, true)], [.held (.inl (0, 0, false)), .held (.inl (0, 0, false)), .held (.inl (0, 0, false))])⟩),
  (48, ⟨.inr (.inr (3, 24, 9, [.held (.inl (0, 0, false)), .held (.inl (0, 0, false)), .held (.inl (0, 0, false))]))⟩),
  (49, ⟨.inr (.inr (3, 24, 9, [.held (.inl (0, 0, false)), .held (.inl (0, 0, false)), .held (.inl (0, 0, false))]))⟩),
  (54, ⟨.inr (.inl (.slice none 0 0, some 24))⟩),
  (73, ⟨.inr (.inl (.slice none 0 0, some 26))⟩),
  (74, ⟨.inr (.inl (.slice none 0 0, some 28))⟩),
  (84, ⟨.inr (.inl (.int .u64 0, none))⟩),
  (97, ⟨.inr (.inl (.int .u64 0, none))⟩),
  (128, ⟨.inr (.inr (3, 84, 3, [.held (.inr (.inl (.int .u64 0))), .held (.inr (.inl (.int .u64 0))), .held (.inr (.inl (.int .u64 0)))]))⟩)]
theorem tt0_ok : TTok Tryz.prog tt0 := ⟨⟨_, 8, Tryz.underlying2, rfl, by kernel_rfl, by decide, rfl, (fun d h => by cases h; exact Tryz.underlying2), nofun⟩,
  ⟨_, 8, Tryz.underlying3, rfl, by kernel_rfl, by decide, rfl, (fun d h => by cases h; exact Tryz.underlying3), nofun⟩,
  ⟨_, 1, Tryz.underlying4, rfl, by kernel_rfl, by decide, rfl, (fun d h => by cases h; exact Tryz.underlying4), nofun⟩,
  ⟨_, 1, Tryz.underlying5, rfl, by kernel_rfl, by decide, rfl, (fun d h => by cases h; exact Tryz.underlying5), nofun⟩,
  ⟨_, 16, Tryz.underlying9, rfl, by kernel_rfl, by decide, rfl, (fun d h => by cases h; exact Tryz.underlying9), nofun⟩,
  ⟨_, 8, Tryz.underlying12, rfl, by kernel_rfl, by decide, rfl, (fun d h => by cases h; exact Tryz.underlying12), nofun⟩,
  ⟨_, 4, Tryz.underlying21, rfl, by kernel_rfl, by decide, rfl, (fun d h => by cases h; exact Tryz.underlying21), nofun⟩,
  ⟨_, 24, Tryz.underlying22, rfl, by kernel_rfl, by decide, rfl, (fun d h => by cases h), (fun e h => by cases h; exact Tryz.underlying22)⟩,
  ⟨_, [.bool false, .slice none 0 0, .slice none 0 0], 56, Tryz.underlying24, by kernel_rfl, ⟨by decide, by decide, rfl, rfl⟩, fun E u => Cells.cons_iff.2 ⟨[.bool false, .slice none 0 0, .slice none 0 0], _, rfl, zRat E u, Cells.nil⟩, fieldsB_spec (by kernel_rfl), fun h => absurd h (by decide)⟩,
  ⟨_, [.bool false, .slice none 0 0, .slice none 0 0, .bool false, .slice none 0 0, .slice none 0 0, .bool false, .slice none 0 0, .slice none 0 0], 168, Tryz.underlying26, by kernel_rfl, ⟨by decide, by decide, rfl, rfl⟩, fun E u => Cells.cons_iff.2 ⟨[.bool false, .slice none 0 0, .slice none 0 0], _, rfl, zRat E u, Cells.cons_iff.2 ⟨[.bool false, .slice none 0 0, .slice none 0 0], _, rfl, zRat E u, Cells.cons_iff.2 ⟨[.bool false, .slice none 0 0, .slice none 0 0], _, rfl, zRat E u, Cells.nil⟩⟩⟩, fieldsB_spec (by kernel_rfl), fun h => absurd h (by decide)⟩,
  ⟨_, [.bool false, .slice none 0 0, .slice none 0 0, .bool false, .slice none 0 0, .slice none 0 0, .bool false, .slice none 0 0, .slice none 0 0, .bool false, .slice none 0 0, .slice none 0 0, .bool false, .slice none 0 0, .slice none 0 0, .bool false, .slice none 0 0, .slice none 0 0], 336, Tryz.underlying28, by kernel_rfl, ⟨by decide, by decide, rfl, rfl⟩, fun E u => Cells.cons_iff.2 ⟨[.bool false, .slice none 0 0, .slice none 0 0], _, rfl, zRat E u, Cells.cons_iff.2 ⟨[.bool false, .slice none 0 0, .slice none 0 0], _, rfl, zRat E u, Cells.cons_iff.2 ⟨[.bool false, .slice none 0 0, .slice none 0 0], _, rfl, zRat E u, Cells.cons_iff.2 ⟨[.bool false, .slice none 0 0, .slice none 0 0], _, rfl, zRat E u, Cells.cons_iff.2 ⟨[.bool false, .slice none 0 0, .slice none 0 0], _, rfl, zRat E u, Cells.cons_iff.2 ⟨[.bool false, .slice none 0 0, .slice none 0 0], _, rfl, zRat E u, Cells.nil⟩⟩⟩⟩⟩⟩, fieldsB_spec (by kernel_rfl), fun h => absurd h (by decide)⟩,
  ⟨_, [.bool false, .slice none 0 0, .slice none 0 0, .bool false, .slice none 0 0, .slice none 0 0, .bool false], 120, Tryz.underlying30, by kernel_rfl, ⟨by decide, by decide, rfl, rfl⟩, fun E u => Cells.cons_iff.2 ⟨[.bool false, .slice none 0 0, .slice none 0 0], _, rfl, zRat E u, Cells.cons_iff.2 ⟨[.bool false, .slice none 0 0, .slice none 0 0], _, rfl, zRat E u, Cells.cons_iff.2 ⟨[.bool false], _, rfl, zOne E u rfl, Cells.nil⟩⟩⟩, fieldsB_spec (by kernel_rfl), fun h => absurd h (by decide)⟩,
  ⟨_, [.bool false, .slice none 0 0, .slice none 0 0, .bool false, .slice none 0 0, .slice none 0 0, .bool false, .slice none 0 0, .slice none 0 0, .bool false, .slice none 0 0, .slice none 0 0, .bool false, .slice none 0 0, .slice none 0 0, .bool false, .slice none 0 0, .slice none 0 0, .bool false, .slice none 0 0, .slice none 0 0, .bool false, .slice none 0 0, .slice none 0 0, .bool false, .slice none 0 0, .slice none 0 0], 504, Tryz.underlying38, by kernel_rfl, ⟨by decide, by decide, rfl, rfl⟩, fun E u => Cells.cons_iff.2 ⟨[.bool false, .slice none 0 0, .slice none 0 0], _, rfl, zRat E u, Cells.cons_iff.2 ⟨[.bool false, .slice none 0 0, .slice none 0 0], _, rfl, zRat E u, Cells.cons_iff.2 ⟨[.bool false, .slice none 0 0, .slice none 0 0], _, rfl, zRat E u, Cells.cons_iff.2 ⟨[.bool false, .slice none 0 0, .slice none 0 0], _, rfl, zRat E u, Cells.cons_iff.2 ⟨[.bool false, .slice none 0 0, .slice none 0 0], _, rfl, zRat E u, Cells.cons_iff.2 ⟨[.bool false, .slice none 0 0, .slice none 0 0], _, rfl, zRat E u, Cells.cons_iff.2 ⟨[.bool false, .slice none 0 0, .slice none 0 0], _, rfl, zRat E u, Cells.cons_iff.2 ⟨[.bool false, .slice none 0 0, .slice none 0 0], _, rfl, zRat E u, Cells.cons_iff.2 ⟨[.bool false, .slice none 0 0, .slice none 0 0], _, rfl, zRat E u, Cells.nil⟩⟩⟩⟩⟩⟩⟩⟩⟩, fieldsB_spec (by kernel_rfl), fun h => absurd h (by decide)⟩,
  ⟨_, [.bool false, .slice none 0 0, .slice none 0 0, .bool false, .slice none 0 0, .slice none 0 0, .bool false, .slice none 0 0, .slice none 0 0], 168, Tryz.underlying40, by kernel_rfl, ⟨by decide, by decide, rfl, rfl⟩, fun E u => Cells.cons_iff.2 ⟨[.bool false, .slice none 0 0, .slice none 0 0], _, rfl, zRat E u, Cells.cons_iff.2 ⟨[.bool false, .slice none 0 0, .slice none 0 0], _, rfl, zRat E u, Cells.cons_iff.2 ⟨[.bool false, .slice none 0 0, .slice none 0 0], _, rfl, zRat E u, Cells.nil⟩⟩⟩, fieldsB_spec (by kernel_rfl), fun h => absurd h (by decide)⟩,
  ⟨[.bool false, .slice none 0 0, .slice none 0 0, .bool false, .slice none 0 0, .slice none 0 0, .bool false, .slice none 0 0, .slice none 0 0], 168, 3, Tryz.underlying48, by kernel_rfl, ⟨by decide, by decide, rfl, rfl⟩, fun E u => Cells.cons_iff.2 ⟨[.bool false, .slice none 0 0, .slice none 0 0], _, rfl, zRat E u, Cells.cons_iff.2 ⟨[.bool false, .slice none 0 0, .slice none 0 0], _, rfl, zRat E u, Cells.cons_iff.2 ⟨[.bool false, .slice none 0 0, .slice none 0 0], _, rfl, zRat E u, Cells.nil⟩⟩⟩, by kernel_rfl⟩,
  ⟨[.bool false, .slice none 0 0, .slice none 0 0, .bool false, .slice none 0 0, .slice none 0 0, .bool false, .slice none 0 0, .slice none 0 0], 168, 3, Tryz.underlying49, by kernel_rfl, ⟨by decide, by decide, rfl, rfl⟩, fun E u => Cells.cons_iff.2 ⟨[.bool false, .slice none 0 0, .slice none 0 0], _, rfl, zRat E u, Cells.cons_iff.2 ⟨[.bool false, .slice none 0 0, .slice none 0 0], _, rfl, zRat E u, Cells.cons_iff.2 ⟨[.bool false, .slice none 0 0, .slice none 0 0], _, rfl, zRat E u, Cells.nil⟩⟩⟩, by kernel_rfl⟩,
  ⟨_, 24, Tryz.underlying54, rfl, by kernel_rfl, by decide, rfl, (fun d h => by cases h), (fun e h => by cases h; exact Tryz.underlying54)⟩,
  ⟨_, 24, Tryz.underlying73, rfl, by kernel_rfl, by decide, rfl, (fun d h => by cases h), (fun e h => by cases h; exact Tryz.underlying73)⟩,
  ⟨_, 24, Tryz.underlying74, rfl, by kernel_rfl, by decide, rfl, (fun d h => by cases h), (fun e h => by cases h; exact Tryz.underlying74)⟩,
  ⟨_, 8, Tryz.underlying84, rfl, by kernel_rfl, by decide, rfl, (fun d h => by cases h; exact Tryz.underlying84), nofun⟩,
  ⟨_, 8, Tryz.underlying97, rfl, by kernel_rfl, by decide, rfl, (fun d h => by cases h; exact Tryz.underlying97), nofun⟩,
  ⟨[.int .u64 0, .int .u64 0, .int .u64 0], 24, 1, Tryz.underlying128, by kernel_rfl, ⟨by decide, by decide, rfl, rfl⟩, fun E u => Cells.cons_iff.2 ⟨[.int .u64 0], _, rfl, zOne E u rfl, Cells.cons_iff.2 ⟨[.int .u64 0], _, rfl, zOne E u rfl, Cells.cons_iff.2 ⟨[.int .u64 0], _, rfl, zOne E u rfl, Cells.nil⟩⟩⟩, by kernel_rfl⟩, trivial⟩
def S0 : List Spec := [sp1 50 (fun q K => ⟨.inl (agR (q) (K))⟩) (fun K => 1 ≤ K ∧ K ≤ 17179869184),
  sp1 39 (fun q K => ⟨.inl (agR (-q) (K))⟩) (fun K => 1 ≤ K ∧ K ≤ 17179869184),
  sp1 37 (fun q _ => ⟨.inl (.held (.inr (.inl (.int .i64 (qsgn (q))))))⟩) (fun K => K ≤ 17179869184),
  sp2 53 (fun q K p L => ⟨.inl (agR (q - p) (K + L + 1))⟩) (fun K L => 1 ≤ K ∧ 1 ≤ L ∧ K + L + 1 ≤ 1073741824),
  sp2 36 (fun q K p L => ⟨.inr [agR (q / p) (K + L), .held (.inr (.inl (.bool (decide (p ≠ 0)))))]⟩) (fun K L => 1 ≤ K ∧ 1 ≤ L ∧ K + L + 1 ≤ 1073741824),
  sp2 14 (fun q _ p _ => ⟨.inl (.held (.inr (.inl (.int .i64 (qsgn (q - p))))))⟩) (fun K L => 1 ≤ K ∧ 1 ≤ L ∧ K + L + 1 ≤ 4294967296),
  spOf 17,
  spL 40 sumL (fun n K => n * (K + 1) + 1) (fun n K => 1 ≤ K ∧ (n + 1) * (K + 1) ≤ 4294967296 ∧ n ≤ 3),
  spL 63 prodL (fun n K => n * K + 1) (fun n K => 1 ≤ K ∧ (n + 1) * (K + 1) ≤ 4294967296),
  sp1 58 (fun q K => ⟨.inl (agR (q) (K))⟩) (fun K => 1 ≤ K ∧ K ≤ 17179869184),
  sp1 80 (fun q K => ⟨.inl (agR (-q) (K))⟩) (fun K => 1 ≤ K ∧ K ≤ 17179869184),
  sp1 54 (fun q _ => ⟨.inl (.held (.inr (.inl (.int .i64 (qsgn (q))))))⟩) (fun K => K ≤ 17179869184),
  sp2 70 (fun q K p L => ⟨.inl (agR (q + p) (K + L + 1))⟩) (fun K L => 1 ≤ K ∧ 1 ≤ L ∧ K + L + 1 ≤ 17179869184),
  sp2 56 (fun q K p L => ⟨.inl (agR (q - p) (K + L + 1))⟩) (fun K L => 1 ≤ K ∧ 1 ≤ L ∧ K + L + 1 ≤ 17179869184),
  sp2 71 (fun q K p L => ⟨.inl (agR (q * p) (K + L))⟩) (fun K L => 1 ≤ K ∧ K + L + 1 ≤ 17179869184),
  sp2 79 (fun q K p L => ⟨.inr [agR (q / p) (K + L), .held (.inr (.inl (.bool (decide (p ≠ 0)))))]⟩) (fun K L => 1 ≤ K ∧ 1 ≤ L ∧ K + L + 1 ≤ 17179869184),
  sp2 57 (fun q _ p _ => ⟨.inl (.held (.inr (.inl (.int .i64 (qsgn (q - p))))))⟩) (fun K L => 1 ≤ K ∧ 1 ≤ L ∧ K + L + 1 ≤ 17179869184),
  sp2 55 (fun q K p L => ⟨.inl (agR (q / p) (K + L))⟩) (fun K L => 1 ≤ K ∧ 1 ≤ L ∧ K + L + 1 ≤ 17179869184),
  spOf 26,
  sp0 19 0,
  sp0 27 1,
  spIs 25]
theorem S0_ok : AllOk Tryz.prog S0 := ⟨SpecOk.mk' Tryz.func50 (by kernel_rfl) (by kernel_rfl) (sp1_at fun w a q K h hs => Calls.mono (ratRead_k h hs.1 hs.2) fun e w' h _ => gq_is h),
  SpecOk.mk' Tryz.func39 (by kernel_rfl) (by kernel_rfl) (sp1_at fun w a q K h hs => Calls.mono (ratNeg_k h hs.1 hs.2) fun e w' h _ => gq_is h),
  SpecOk.mk' Tryz.func37 (by kernel_rfl) (by kernel_rfl) (sp1_at fun w a q K h hs => Calls.mono (ratSign_k h hs) fun e w' h _ => gs_is h),
  SpecOk.mk' Tryz.func53 (by kernel_rfl) (by kernel_rfl) (sp2_at fun w a b q p K L h h' hs => Calls.mono (ratSub_k h h' hs.1 hs.2.1 hs.2.2) fun e w' h _ => gq_is h),
  SpecOk.mk' Tryz.func36 (by kernel_rfl) (by kernel_rfl) (sp2_at fun w a b q p K L h h' hs => Calls.mono (ratDiv_k h h' hs.1 hs.2.1 hs.2.2) fun e w' h _ => gqb_is h),
  SpecOk.mk' Tryz.func14 (by kernel_rfl) (by kernel_rfl) (sp2_at fun w a b q p K L h h' hs => Calls.mono (ratCmp_k h h' hs.1 hs.2.1 hs.2.2) fun e w' h _ => gs_is h),
  SpecOk.mk' Tryz.func17 (by kernel_rfl) (by kernel_rfl) (spOf_at fun w n d h1 h2 h3 h4 => ratOf_k n d h1 h2 h3 h4),
  SpecOk.mk' Tryz.func40 (by kernel_rfl) (by kernel_rfl) (spL_at fun w v qs K h hs => by rw [← sumL_is]; exact ratSum_k h hs.1 hs.2.1 hs.2.2),
  SpecOk.mk' Tryz.func63 (by kernel_rfl) (by kernel_rfl) (spL_at fun w v qs K h hs => by rw [← prodL_is]; exact ratProduct_k h hs.1 hs.2),
  SpecOk.mk' Tryz.func58 (by kernel_rfl) (by kernel_rfl) (sp1_at fun w a q K h hs => Calls.mono (read3_any w a.s a.no a.nn a.nc a.eo a.en a.ec K q h hs.1 hs.2) fun e w' h _ => gq_is h),
  SpecOk.mk' Tryz.func80 (by kernel_rfl) (by kernel_rfl) (sp1_at fun w a q K h hs => Calls.mono (neg3_any w a.s a.no a.nn a.nc a.eo a.en a.ec K q h hs.1 hs.2) fun e w' h _ => gq_is h),
  SpecOk.mk' Tryz.func54 (by kernel_rfl) (by kernel_rfl) (sp1_at fun w a q K h hs => Calls.mono (sign3_any w a.s a.no a.nn a.nc a.eo a.en a.ec K q h hs) fun e w' h _ => gs_is h),
  SpecOk.mk' Tryz.func70 (by kernel_rfl) (by kernel_rfl) (sp2_at fun w a b q p K L h h' hs => Calls.mono (add3_any w a.s a.no a.nn a.nc a.eo a.en a.ec b.s b.no b.nn b.nc b.eo b.en b.ec K L q p h h' hs.1 hs.2.1 hs.2.2) fun e w' h _ => gq_is h),
  SpecOk.mk' Tryz.func56 (by kernel_rfl) (by kernel_rfl) (sp2_at fun w a b q p K L h h' hs => Calls.mono (sub3_any w a.s a.no a.nn a.nc a.eo a.en a.ec b.s b.no b.nn b.nc b.eo b.en b.ec K L q p h h' hs.1 hs.2.1 hs.2.2) fun e w' h _ => gq_is h),
  SpecOk.mk' Tryz.func71 (by kernel_rfl) (by kernel_rfl) (sp2_at fun w a b q p K L h h' hs => Calls.mono (mul3_any w a.s a.no a.nn a.nc a.eo a.en a.ec b.s b.no b.nn b.nc b.eo b.en b.ec K L q p h h' hs.1 hs.2) fun e w' h _ => gq_is h),
  SpecOk.mk' Tryz.func79 (by kernel_rfl) (by kernel_rfl) (sp2_at fun w a b q p K L h h' hs => Calls.mono (div3_any w a.s a.no a.nn a.nc a.eo a.en a.ec b.s b.no b.nn b.nc b.eo b.en b.ec K L q p h h' hs.1 hs.2.1 hs.2.2) fun e w' h _ => gqb_is h),
  SpecOk.mk' Tryz.func57 (by kernel_rfl) (by kernel_rfl) (sp2_at fun w a b q p K L h h' hs => Calls.mono (cmp3_any w a.s a.no a.nn a.nc a.eo a.en a.ec b.s b.no b.nn b.nc b.eo b.en b.ec K L q p h h' hs.1 hs.2.1 hs.2.2) fun e w' h _ => gs_is h),
  SpecOk.mk' Tryz.func55 (by kernel_rfl) (by kernel_rfl) (sp2_at fun w a b q p K L h h' hs => Calls.mono (over3_any (a := a) (b := b) h h' hs.1 hs.2.1 hs.2.2) fun e w' h _ => gq_is h),
  SpecOk.mk' Tryz.func26 (by kernel_rfl) (by kernel_rfl) (spOf_at fun w n d h1 h2 h3 h4 => of3_any w n d h1 h2 h3 h4),
  SpecOk.mk' Tryz.func19 (by kernel_rfl) (by kernel_rfl) (sp0_at fun w => zero3_any w),
  SpecOk.mk' Tryz.func27 (by kernel_rfl) (by kernel_rfl) (sp0_at fun w => one3_any w),
  SpecOk.mk' Tryz.func25 (by kernel_rfl) (by kernel_rfl) (spIs_at fun w a b q p K L h h' hK hL => Calls.mono (is3_any w a.s a.no a.nn a.nc a.eo a.en a.ec b.s b.no b.nn b.nc b.eo b.en b.ec _ _ _ _ h.num h.den h'.num h'.den (by have := h.ln; omega) (by have := h.ld; omega) (by have := h'.ln; omega) (by have := h'.ld; omega)) fun e w' ⟨r, h1, h2, h3⟩ => ⟨r, h1, show r = true ↔ q = p from h2.out.trans (cq_iff h h'), h3⟩), trivial⟩
end Go.Proofs.YtbobhhnhlgdkiaaGreat.Sy

/- Runs, and what follows of them. -/
namespace Go.Proofs.YtbobhhnhlgdkiaaGreat.Sy
open Go Go.RowKit M Kahn
set_option maxRecDepth 100000

/-- The one says as much as the other: parts, structs' parts, entries. -/
def LfLe1 : D → D → Prop
  | .held (.inl (q, K, c)), .held (.inl (q', K', c')) => q = q' ∧ K ≤ K' ∧ (c' = true → c = true)
  | .held (.inl _), _ => False
  | .held (.inr (.inl v)), .held (.inr (.inl v')) => v = v'
  | .held (.inr (.inr x)), .held (.inr (.inr y)) => x = y
  | .slice es _, .slice es' _ => es = es'
  | .ptr x, .ptr y => x = y
  | _, .map _ => True
  | _, _ => False
def LLe1 : List D → List D → Prop
  | [], [] => True
  | x :: l, y :: m => LfLe1 x y ∧ LLe1 l m
  | _, _ => False
def EsR : List D → List D → Prop
  | [], [] => True
  | .agg l :: r, .agg m :: s => LLe1 l m ∧ EsR r s
  | _, _ => False
/-- Entries: the same, or one by one. -/
def EsLe (es es' : List D) : Prop := es = es' ∨ EsR es es'
def LfLe : D → D → Prop
  | .held (.inl (q, K, c)), .held (.inl (q', K', c')) => q = q' ∧ K ≤ K' ∧ (c' = true → c = true)
  | .held (.inl _), _ => False
  | .held (.inr (.inl v)), .held (.inr (.inl v')) => v = v'
  | .held (.inr (.inr x)), .held (.inr (.inr y)) => x = y
  | .slice es _, .slice es' _ => EsLe es es'
  | .held (.inr (.inl (.slice none 0 0))), .slice es _ => es = []
  | .ptr x, .ptr y => x = y
  | _, .map _ => True
  | _, _ => False
def LLe : List D → List D → Prop
  | [], [] => True
  | x :: l, y :: m => LfLe x y ∧ LLe l m
  | _, _ => False
def VLe : D → D → Prop
  | _, .map _ => True
  | .agg l, .agg m => LLe l m
  | .agg _, _ => False
  | .held (.inl _), _ => False
  | x, y => LfLe x y
def DsLe : List D → List D → Prop
  | [], [] => True
  | x :: l, y :: m => VLe x y ∧ DsLe l m
  | _, _ => False
def ALe : AV → AV → Prop
  | ⟨.inl a⟩, ⟨.inl b⟩ => VLe a b
  | ⟨.inr l⟩, ⟨.inr m⟩ => DsLe l m
  | _, _ => False
section
variable {E : Env} {u : World}
theorem one_of {x : D} (h : ∀ val, x = .held (.inl val) → False) : one x = true := by
  unfold one
  split
  · exact (h _ rfl).elim
  · rfl
theorem LfLe1.is {x y : D} {vs : List Value} (h : LfLe1 x y) (hi : LfIs E u x vs) : LfIs E u y vs := by
  unfold LfLe1 at h
  split at h
  · obtain ⟨rfl, h2, h3⟩ := h
    obtain ⟨r, e, h4, h5⟩ := LfIs.rat_iff.1 hi
    exact LfIs.rat_iff.2 ⟨r, e, h4.mono h2, fun hc => (h5 (h3 hc)).mono h2⟩
  · exact h.elim
  · subst h; exact hi
  · subst h; exact hi
  · subst h
    obtain ⟨v, e1, e2, e3⟩ := (LfIs.one_iff rfl).1 hi
    exact (LfIs.one_iff rfl).2 ⟨v, e1, e2, VIs.slice_iff.2 (VIs.slice_iff.1 e3)⟩
  · subst h; exact hi
  · rename_i hx
    have ho : one x = true := one_of hx
    obtain ⟨v, e1, e2, _⟩ := (LfIs.one_iff ho).1 hi
    exact (LfIs.one_iff rfl).2 ⟨v, e1, e2, 0, trivial⟩
  · exact h.elim
theorem LLe1.is : ∀ {l m : List D} {vs : List Value}, LLe1 l m → Cells E u l vs → Cells E u m vs
  | [], [], _, _, h => h
  | _ :: _, _ :: _, _, h, hc => by
    obtain ⟨a, b, e, h1, h2⟩ := Cells.cons_iff.1 hc
    exact Cells.cons_iff.2 ⟨a, b, e, h.1.is h1, LLe1.is h.2 h2⟩
  | [], _ :: _, _, h, _ => h.elim
  | _ :: _, [], _, h, _ => h.elim
theorem EsR.is : ∀ {l m : List D} {vs : List Value}, EsR l m → Els E u l vs → Els E u m vs := by
  intro l
  induction l with
  | nil => intro m vs h hc; cases m with
    | nil => exact hc
    | cons _ _ => exact h.elim
  | cons x l ih =>
    intro m vs h hc
    unfold EsR at h
    split at h
    · rename_i heq; cases heq
    · rename_i heq
      cases heq
      obtain ⟨ps, a, b, e0, e, h1, h2⟩ := Els.cons_iff.1 hc
      cases e0
      exact Els.cons_iff.2 ⟨_, a, b, rfl, e, h.1.is h1, ih h.2 h2⟩
    · exact h.elim
theorem EsR.len : ∀ {l m : List D}, EsR l m → l.length = m.length := by
  intro l
  induction l with
  | nil => intro m h; cases m with
    | nil => rfl
    | cons _ _ => exact h.elim
  | cons x l ih =>
    intro m h
    unfold EsR at h
    split at h
    · rename_i heq; cases heq
    · rename_i heq; cases heq; simp [ih h.2]
    · exact h.elim
theorem EsLe.is {l m : List D} {vs : List Value} (h : EsLe l m) (hc : Els E u l vs) : Els E u m vs := by
  rcases h with rfl | h
  · exact hc
  · exact h.is hc
theorem EsLe.len {l m : List D} (h : EsLe l m) : l.length = m.length := by
  rcases h with rfl | h
  · rfl
  · exact h.len
theorem slice_le {es es' sp sp' : List D} {v : Value} (h : EsLe es es') (hi : VIs E u (.slice es sp) v) : VIs E u (.slice es' sp') v := by
  obtain ⟨ao, cap, e1, e2, e3⟩ := VIs.slice_iff.1 hi
  have hl := h.len
  refine VIs.slice_iff.2 ⟨ao, cap, by rw [← hl]; exact e1, by rw [← hl]; exact e2, fun h0 => ?_⟩
  obtain ⟨c, o, vs, k1, k2, k3, k4⟩ := e3 (by omega)
  exact ⟨c, o, vs, k1, k2, h.is k3, k4⟩
theorem LfLe.one {x y : D} (h : LfLe x y) (ho : Sy.one x = true) : Sy.one y = true := by
  unfold LfLe at h
  split at h <;> first | exact h.elim | rfl | cases ho | skip
theorem LfLe.val {x y : D} {v : Value} (h : LfLe x y) (ho : Sy.one x = true) (hi : VIs E u x v) : VIs E u y v := by
  unfold LfLe at h
  split at h
  · cases ho
  · exact h.elim
  · subst h; exact hi
  · subst h; exact hi
  · exact slice_le h hi
  · subst h
    exact VIs.slice_iff.2 ⟨none, 0, VIs.val_iff.1 hi, Nat.le_refl _, fun h => absurd h (Nat.lt_irrefl _)⟩
  · subst h; exact hi
  · exact ⟨0, trivial⟩
  · exact h.elim
theorem LfLe.is {x y : D} {vs : List Value} (h : LfLe x y) (hi : LfIs E u x vs) : LfIs E u y vs := by
  by_cases ho : Sy.one x = true
  · obtain ⟨v, e1, e2, e3⟩ := (LfIs.one_iff ho).1 hi
    exact (LfIs.one_iff (h.one ho)).2 ⟨v, e1, e2, h.val ho e3⟩
  · unfold LfLe at h
    split at h
    · obtain ⟨rfl, h2, h3⟩ := h
      obtain ⟨r, e, h4, h5⟩ := LfIs.rat_iff.1 hi
      exact LfIs.rat_iff.2 ⟨r, e, h4.mono h2, fun hc => (h5 (h3 hc)).mono h2⟩
    · exact h.elim
    · exact absurd rfl ho
    · exact absurd rfl ho
    · exact absurd rfl ho
    · exact absurd rfl ho
    · exact absurd rfl ho
    · rename_i hx
      exact absurd (one_of hx) ho
    · exact h.elim
theorem LLe.is : ∀ {l m : List D} {vs : List Value}, LLe l m → Cells E u l vs → Cells E u m vs
  | [], [], _, _, h => h
  | _ :: _, _ :: _, _, h, hc => by
    obtain ⟨a, b, e, h1, h2⟩ := Cells.cons_iff.1 hc
    exact Cells.cons_iff.2 ⟨a, b, e, h.1.is h1, LLe.is h.2 h2⟩
  | [], _ :: _, _, h, _ => h.elim
  | _ :: _, [], _, h, _ => h.elim
theorem VLe.is {x y : D} {v : Value} (h : VLe x y) (hi : VIs E u x v) : VIs E u y v := by
  unfold VLe at h
  split at h
  · exact ⟨0, trivial⟩
  · obtain ⟨vs, e, hc⟩ := VIs.agg_iff.1 hi
    exact VIs.agg_iff.2 ⟨vs, e, h.is hc⟩
  · exact h.elim
  · exact h.elim
  · exact h.val (one_of (by assumption)) hi
theorem DsLe.is : ∀ {l m : List D} {vs : List Value}, DsLe l m → AllIs E u l vs → AllIs E u m vs
  | [], [], _, _, h => h
  | _ :: _, _ :: _, _, h, ⟨v, r, e, h1, h2⟩ => ⟨v, r, e, h.1.is h1, DsLe.is h.2 h2⟩
  | [], _ :: _, _, h, _ => h.elim
  | _ :: _, [], _, h, _ => h.elim
theorem ALe.is : ∀ {a b : AV} {v : Value}, ALe a b → a.Is E u v → b.Is E u v
  | ⟨.inl _⟩, ⟨.inl _⟩, _, h, hi => VLe.is h hi
  | ⟨.inr _⟩, ⟨.inr _⟩, _, h, ⟨vs, e, hi⟩ => ⟨vs, e, DsLe.is h hi⟩
  | ⟨.inl _⟩, ⟨.inr _⟩, _, h, _ => h.elim
  | ⟨.inr _⟩, ⟨.inl _⟩, _, h, _ => h.elim
end
/-- What a run has come to says as much as is asked, under what it asks. -/
def OkRun (r : AV) : Option (AV × Prop) → Prop
  | some (r', p) => ALe r' r ∧ p
  | none => False
/-- The loops of a function are as they are told. -/
def LoopsOk (fn : Func) (n : Nat) (Lt : List LSpec) : Prop := ∀ c, fn.body = some c → ∀ s ∈ Lt, LOk Tryz.prog (n + (fn.ntmps - n)) (blocksOf c) s
theorem LoopsOk.nil {fn : Func} {n : Nat} : LoopsOk fn n [] := fun _ _ _ h => by cases h
theorem At.okL {S : List Spec} {Lt : List LSpec} {f fuel : Nat} {fn : Func} {xs : List D} {hs : List Bool} {r : AV} (hS : AllOk Tryz.prog S) (hf : Tryz.prog.funcs[f]? = some fn) (ho : fnOk fn xs.length = true) (hL : LoopsOk fn xs.length Lt) (h : OkRun r (exF tt0 S Lt fuel fn xs hs)) : At Tryz.prog f xs r := by
  unfold OkRun at h
  split at h
  · rename_i r' p he
    exact (At.run tt0_ok hS.mem mixed hf ho hL he h.2).to fun E w v hi => h.1.is hi
  · exact h.elim
theorem At.ok {S : List Spec} {f fuel : Nat} {fn : Func} {xs : List D} {hs : List Bool} {r : AV} (hS : AllOk Tryz.prog S) (hf : Tryz.prog.funcs[f]? = some fn) (ho : fnOk fn xs.length = true) (h : OkRun r (exF tt0 S [] fuel fn xs hs)) : At Tryz.prog f xs r :=
  At.okL hS hf ho LoopsOk.nil h
/-- The canonical struct of these numbers. -/
def cn (qs : List Rat) (K : Nat) : D := .agg (qs.map fun q => .held (.inl (q, K, true)))
/-- Contracts over structs of canonical Rats. -/
def ratsC : List D → Option (List Rat × Nat)
  | [] => none
  | .held (.inl (q, K, true)) :: l => match l with
    | [] => some ([q], K)
    | x :: r => match ratsC (x :: r) with
      | some (qs, M) => some (q :: qs, max K M)
      | none => none
  | _ :: _ => none
def ratsCs : List D → Option (List (List Rat × Nat))
  | [] => some []
  | .agg x :: l => match ratsC x, ratsCs l with
    | some a, some r => some (a :: r)
    | _, _ => none
  | _ :: _ => none
theorem ratsC_is {E : Env} {u : World} : ∀ {l : List D} {qs : List Rat} {K : Nat} {vs : List Value}, ratsC l = some (qs, K) → Cells E u l vs → ∀ M, K ≤ M → Cells E u (qs.map fun q => .held (.inl (q, M, true))) vs := by
  intro l
  induction l with
  | nil => intro qs K vs h; simp only [ratsC] at h; cases h
  | cons x l ih =>
    intro qs K vs h hc M hM
    obtain ⟨a, b, rfl, h1, h2⟩ := Cells.cons_iff.1 hc
    unfold ratsC at h
    split at h
    · rename_i heq; cases heq
    · rename_i q K' l' heq
      cases heq
      obtain ⟨r, rfl, h3, h4⟩ := LfIs.rat_iff.1 h1
      split at h
      · cases h
        obtain rfl := Cells.nil_iff.1 h2
        exact Cells.cons_iff.2 ⟨r.cells, [], rfl, LfIs.rat_iff.2 ⟨r, rfl, h3.mono hM, fun _ => (h4 rfl).mono hM⟩, Cells.nil⟩
      · split at h
        · rename_i qs' M' hr
          cases h
          exact Cells.cons_iff.2 ⟨r.cells, b, rfl, LfIs.rat_iff.2 ⟨r, rfl, h3.mono (by omega), fun _ => (h4 rfl).mono (by omega)⟩, ih hr h2 M (by omega)⟩
        · cases h
    · cases h
theorem ratsCs_is {E : Env} {u : World} : ∀ {xs : List D} {l : List (List Rat × Nat)} {vs : List Value}, ratsCs xs = some l → AllIs E u xs vs → AllIs E u (l.map fun x => cn x.1 x.2) vs := by
  intro xs
  induction xs with
  | nil => intro l vs h hi; simp only [ratsCs] at h; cases h; exact hi
  | cons x xs ih =>
    intro l vs h ⟨v, r, e, h1, h2⟩
    unfold ratsCs at h
    split at h
    · rename_i heq; cases heq
    · rename_i y xs' heq
      cases heq
      split at h
      · rename_i a r' ha hr
        cases h
        obtain ⟨ws, e1, hc⟩ := VIs.agg_iff.1 h1
        exact ⟨v, r, e, VIs.agg_iff.2 ⟨ws, e1, ratsC_is ha hc _ (Nat.le_refl _)⟩, ih hr h2⟩
      · cases h
    · cases h
def spC (f : Nat) (g : List (List Rat × Nat) → Option (AV × Prop)) : Spec := ⟨f, fun xs => match ratsCs xs with
  | some l => g l
  | none => none, nomem⟩
theorem spC_at {P : Program} {f : Nat} {g : List (List Rat × Nat) → Option (AV × Prop)} (H : ∀ l r p, g l = some (r, p) → p → At P f (l.map fun x => cn x.1 x.2) r) : ∀ xs r p, (spC f g).sem xs = some (r, p) → p → At P f xs r := by
  intro xs r p h hp
  simp only [spC] at h
  split at h
  · rename_i l hl
    exact (H l r p h hp).weak fun E w args ha => ratsCs_is hl ha
  · cases h
/-- Contracts over structs of Rats. -/
def ratsAll : List D → Option (List (List Rat × Nat))
  | [] => some []
  | x :: l => match rats x, ratsAll l with
    | some a, some r => some (a :: r)
    | _, _ => none
def spN (f : Nat) (g : List (List Rat × Nat) → Option (AV × Prop)) : Spec := ⟨f, fun xs => match ratsAll xs with
  | some l => g l
  | none => none, nomem⟩
theorem ratsAll_is {E : Env} {u : World} : ∀ {xs : List D} {l : List (List Rat × Nat)} {vs : List Value}, ratsAll xs = some l → AllIs E u xs vs → AllIs E u (l.map fun x => mkR x.1 x.2) vs
  | [], _, _, h, hi => by simp only [ratsAll] at h; cases h; exact hi
  | x :: xs, _, _, h, ⟨v, r, e, h1, h2⟩ => by
    simp only [ratsAll] at h
    split at h
    · rename_i ha hr
      cases h
      exact ⟨v, r, e, rats_mk ha h1, ratsAll_is hr h2⟩
    · cases h
theorem spN_at {P : Program} {f : Nat} {g : List (List Rat × Nat) → Option (AV × Prop)} (H : ∀ l r p, g l = some (r, p) → p → At P f (l.map fun x => mkR x.1 x.2) r) : ∀ xs r p, (spN f g).sem xs = some (r, p) → p → At P f xs r := by
  intro xs r p h hp
  simp only [spN] at h
  split at h
  · rename_i l hl
    exact (H l r p h hp).weak fun E w args ha => ratsAll_is hl ha
  · cases h
/-- Contracts of functions that write a box of Rats. -/
def OkM (l' : List D) : Option (List D × Prop) → Prop
  | some (l1, p) => LLe l1 l' ∧ p
  | none => False
theorem MAt.ok {S : List Spec} {f o fuel : Nat} {ty : TypeId} {fn : Func} {l xs l' : List D} {hs : List Bool} (hS : AllOk Tryz.prog S) (hf : Tryz.prog.funcs[f]? = some fn) (ho : fnOk fn (xs.length + 1) = true) (h : OkM l' (exM tt0 S fuel fn o ty l xs hs)) : MAt Tryz.prog f o ty l xs ⟨.inr []⟩ l' := by
  unfold OkM at h
  split at h
  · rename_i l1 p he
    intro w args vs g F h1 h2 h3 h4 h5
    exact Calls.mono (MAt.run tt0_ok hS.mem mixed hf ho he h.2 w args vs g F h1 h2 h3 h4 h5) fun e w' ⟨v, vs', k1, k2, k3, k4, k5⟩ => ⟨v, vs', k1, k2, k3, k4, h.1.is k5⟩
  · exact h.elim
def mkL (qs : List Rat) (K : Nat) : List D := qs.map fun q => .held (.inl (q, K, false))
def spM (f : Nat) (g : TypeId → List Rat × Nat → List (List Rat × Nat) → Option (List D × Prop)) : Spec := ⟨f, fun _ => none, fun o ty l xs => match Nat.beq o 0, rats (.agg l), ratsAll xs with
  | true, some a, some r => match g ty a r with
    | some (l', p) => some (⟨.inr []⟩, l', p)
    | none => none
  | _, _, _ => none⟩
theorem spM_at {P : Program} {f : Nat} {g : TypeId → List Rat × Nat → List (List Rat × Nat) → Option (List D × Prop)} (H : ∀ ty a r l' p, g ty a r = some (l', p) → p → MAt P f 0 ty (mkL a.1 a.2) (r.map fun x => mkR x.1 x.2) ⟨.inr []⟩ l') : MemOk P (spM f g) := by
  intro o ty l xs r l' p h hp
  simp only [spM] at h
  split at h
  · rename_i a b ho ha hb
    have ho := Nat.eq_of_beq_eq_true ho
    subst ho
    split at h
    · rename_i hg
      cases h
      intro w args vs g F h1 h2 h3 h4 h5
      obtain ⟨ws, e, h4'⟩ := VIs.agg_iff.1 (rats_mk ha (VIs.agg_iff.2 ⟨vs, rfl, h4⟩))
      have : vs = ws := by simpa using e
      subst this
      exact H _ _ _ _ _ hg hp w args vs g F h1 h2 h3 h4' (ratsAll_is hb h5)
    · cases h
  · cases h
attribute [go_sem] depB waitB stepW notIn exM endM spM mkL OkM nomem S0 exF exC exR run step wantO want ev ev1 ev2 bin2 str2 agg2 eqA arithK sameK bnd TT.desc descOf evB evH look rdO app putT TT.at TT.wide TT.one TT.ent TT.zero TT.elem tt0 find findL args head headN hdN mixN mixA mixOp lessN isApp eatOf eatL chkE chk3 chk4 memL finT kil1 kilL kilV kilD kilA kilT at' wantA avOf bxOf nwOf ptOf ldOf touch boxesOf boxOf boxOf1 boxOfL reads rdsOf wfind putW mid cut lsize dsz lay cellD one fillA rowA cmpI eqB arithI sized tell tellB tellL chk1 chk2 noPt noNw allPuts resA resA1 oneOf av1 handed handed1 handedP handedL noXA noXV noXL noXD noX all' AV.flat flatV flat1 flatL flatD isNil newRef killT killA killV kill1 killL killD killB killX partOf putAt entsOf canon nameT nameA nameV nameL name1 nameB add pos ren1 renL renV renA renX pick keepT mkR cn agR rats ratsL lmN lmN_map ratsAll rowR rowE sp1 sp2 spL spOf spIs sp0 spN spC ratsC ratsCs sumL prodL plain undef OkRun ALe VLe DsLe LLe LfLe LLe1 LfLe1 EsLe EsR List.map List.length_cons List.length_nil List.replicate List.append_eq List.cons_append List.nil_append List.append_nil Int.toNat_zero Int.toNat_one Nat.beq Nat.ble Nat.blt Nat.beq_refl List.getElem?_cons_zero List.getElem?_cons_succ List.getElem?_nil List.set List.all Bool.and_true Bool.true_and Bool.and_self Bool.not_true Bool.not_false Bool.or_true Bool.true_or Bool.or_false List.flatten List.foldl List.take List.drop Nat.max_self true_and and_true and_self true_implies implies_true forall_const Option.map_some Option.map_none Option.toList true_or
end Go.Proofs.YtbobhhnhlgdkiaaGreat.Sy

/- How long numbers are, by their values. -/
namespace Go.Proofs.YtbobhhnhlgdkiaaGreat.Sy
open Go Go.RowKit M Kahn
set_option maxRecDepth 100000

/-- The numerator and the denominator have at most K limbs. -/
structure Bd (q : Rat) (K : Nat) : Prop where
  n : q.num.natAbs < Bp K
  d : q.den < Bp K
section
variable {q p : Rat} {K L : Nat}
theorem Bd.of {s : Bool} {n d : Nat} (hn : n < Bp K) (hd : d < Bp K) (hK : 1 ≤ K) : Bd (rq s n d) K := ⟨(num_bd hn hd hK).1, (num_bd hn hd hK).2⟩
theorem Bd.pos (h : Bd q K) : 1 ≤ K := by
  have h1 := h.d
  have h2 := q.den_pos
  rcases Nat.eq_zero_or_pos K with rfl | hk
  · rw [Bp_zero] at h1; omega
  · exact hk
theorem Bd.mono (h : Bd q K) (hk : K ≤ L) : Bd q L := ⟨Nat.lt_of_lt_of_le h.n (Bp_mono hk), Nat.lt_of_lt_of_le h.d (Bp_mono hk)⟩
theorem Bd.mul (h : Bd q K) (h' : Bd p L) : Bd (q * p) (K + L) := by
  have m1 := Nat.mul_lt_mul'' h.n h'.n
  have m2 := Nat.mul_lt_mul'' h.d h'.d
  rw [← Bp_add] at m1 m2
  have := h.pos
  rw [← rq_self q, ← rq_self p, rq_mul]
  exact Bd.of m1 m2 (by omega)
theorem Bd.add (h : Bd q K) (h' : Bd p L) : Bd (q + p) (K + L + 1) := by
  have m1 := Nat.mul_lt_mul'' h.n h'.d
  have m2 := Nat.mul_lt_mul'' h'.n h.d
  have m3 := Nat.mul_lt_mul'' h.d h'.d
  rw [Nat.mul_comm (Bp L) (Bp K)] at m2
  rw [← Bp_add] at m1 m2 m3
  have hB := Bp_succ (K + L)
  have hp : 0 < Bp (K + L) := Bp_pos _
  have hs := rq_add_any (s := decide (q.num < 0)) (t := decide (p.num < 0)) (X := q.num.natAbs) (U := p.num.natAbs) (Nat.ne_of_gt q.den_pos) (Nat.ne_of_gt p.den_pos) (psg_pab (decide (q.num < 0)) (decide (p.num < 0)) (q.num.natAbs * p.den) (p.num.natAbs * q.den))
  rw [rq_self, rq_self] at hs
  rw [← hs]
  refine Bd.of ?_ (by omega) (by omega)
  have : pab (decide (q.num < 0)) (decide (p.num < 0)) (q.num.natAbs * p.den) (p.num.natAbs * q.den) ≤ q.num.natAbs * p.den + p.num.natAbs * q.den := by unfold pab; split <;> (try split) <;> omega
  omega
theorem Bd.neg (h : Bd q K) : Bd (-q) K := ⟨by rw [Rat.neg_num, Int.natAbs_neg]; exact h.n, by rw [Rat.neg_den]; exact h.d⟩
theorem Bd.sub (h : Bd q K) (h' : Bd p L) : Bd (q - p) (K + L + 1) := by rw [Rat.sub_eq_add_neg]; exact h.add h'.neg
theorem Bd.inv (h : Bd q K) : Bd q⁻¹ K := by
  rw [← rq_self q, rq_inv]
  exact Bd.of h.d h.n h.pos
theorem Bd.div (h : Bd q K) (h' : Bd p L) : Bd (q / p) (K + L) := by rw [Rat.div_def]; exact h.mul h'.inv
theorem Bd.zero : Bd 0 1 := ⟨by decide +kernel, by decide +kernel⟩
theorem Bd.one : Bd 1 1 := ⟨by decide +kernel, by decide +kernel⟩
theorem Bd.two : Bd 2 1 := ⟨by decide +kernel, by decide +kernel⟩
theorem Bd.ite {c : Prop} [Decidable c] {x y : Rat} (h : Bd x K) (h' : Bd y K) : Bd (if c then x else y) K := by split <;> assumption

/-- What is known of the numbers that came in. -/
def lfB : D → Prop
  | .held (.inl (q, K, _)) => 1 ≤ K → Bd q K
  | _ => True
def lsB : List D → Prop
  | [] => True
  | x :: l => lfB x ∧ lsB l
def bvB : D → Prop
  | .agg l => lsB l
  | _ => True
def bvsB : List D → Prop
  | [] => True
  | x :: l => bvB x ∧ bvsB l
theorem qn_bd {w : World} {s : Bool} {no : Option Addr} {nn nc : Nat} {eo : Option Addr} {en ec : Nat} (h : Qn w s no nn nc eo en ec q K) (hK : 1 ≤ K) : Bd q K := by
  obtain ⟨xs, ys, h1, h2, h3⟩ := h.there
  rw [← h3]
  exact Bd.of (h1.bd h.ln) (h2.bd h.ld) hK
theorem LfIs.bd {E : Env} {u : World} {x : D} {vs : List Value} (h : LfIs E u x vs) : lfB x := by
  unfold lfB
  split
  · obtain ⟨r, _, h1, _⟩ := LfIs.rat_iff.1 h
    exact fun hK => qn_bd h1 hK
  · trivial
theorem Cells.bd {E : Env} {u : World} : ∀ {l : List D} {vs : List Value}, Cells E u l vs → lsB l
  | [], _, _ => trivial
  | _ :: _, _, h => by
    obtain ⟨a, b, _, h1, h2⟩ := Cells.cons_iff.1 h
    exact ⟨h1.bd, Cells.bd h2⟩
theorem VIs.bd {E : Env} {u : World} {b : D} {v : Value} (h : VIs E u b v) : bvB b := by
  unfold bvB
  split
  · obtain ⟨vs, _, hc⟩ := VIs.agg_iff.1 h
    exact hc.bd
  · trivial
theorem AllIs.bd {E : Env} {u : World} : ∀ {l : List D} {vs : List Value}, AllIs E u l vs → bvsB l
  | [], _, _ => trivial
  | _ :: _, _, ⟨_, _, _, h1, h2⟩ => ⟨h1.bd, AllIs.bd h2⟩

/-- The one says as much as the other, by its values. -/
def LfT : D → D → Prop
  | .held (.inl (q, _, c)), .held (.inl (q', K', _)) => q = q' ∧ c = true ∧ Bd q' K'
  | .held (.inl _), _ => False
  | x, y => LfLe x y
def LT : List D → List D → Prop
  | [], [] => True
  | x :: l, y :: m => LfT x y ∧ LT l m
  | _, _ => False
def VT : D → D → Prop
  | _, .map _ => True
  | .agg l, .agg m => LT l m
  | .agg _, _ => False
  | .held (.inl _), _ => False
  | x, y => LfLe x y
def DsT : List D → List D → Prop
  | [], [] => True
  | x :: l, y :: m => VT x y ∧ DsT l m
  | _, _ => False
def ATg : AV → AV → Prop
  | ⟨.inl a⟩, ⟨.inl b⟩ => VT a b
  | ⟨.inr l⟩, ⟨.inr m⟩ => DsT l m
  | _, _ => False
section
variable {E : Env} {u : World}
theorem LfT.is {x y : D} {vs : List Value} (h : LfT x y) (hi : LfIs E u x vs) : LfIs E u y vs := by
  unfold LfT at h
  split at h
  · obtain ⟨rfl, hc, hb⟩ := h
    obtain ⟨r, e, _, h5⟩ := LfIs.rat_iff.1 hi
    have h6 := Cq.tight (h5 hc) hb.n hb.d
    exact LfIs.rat_iff.2 ⟨r, e, h6.rd, fun _ => h6⟩
  · exact h.elim
  · exact h.is hi
theorem LT.is : ∀ {l m : List D} {vs : List Value}, LT l m → Cells E u l vs → Cells E u m vs
  | [], [], _, _, h => h
  | _ :: _, _ :: _, _, h, hc => by
    obtain ⟨a, b, e, h1, h2⟩ := Cells.cons_iff.1 hc
    exact Cells.cons_iff.2 ⟨a, b, e, h.1.is h1, LT.is h.2 h2⟩
  | [], _ :: _, _, h, _ => h.elim
  | _ :: _, [], _, h, _ => h.elim
theorem VT.is {x y : D} {v : Value} (h : VT x y) (hi : VIs E u x v) : VIs E u y v := by
  unfold VT at h
  split at h
  · exact ⟨0, trivial⟩
  · obtain ⟨vs, e, hc⟩ := VIs.agg_iff.1 hi
    exact VIs.agg_iff.2 ⟨vs, e, h.is hc⟩
  · exact h.elim
  · exact h.elim
  · exact h.val (one_of (by assumption)) hi
theorem DsT.is : ∀ {l m : List D} {vs : List Value}, DsT l m → AllIs E u l vs → AllIs E u m vs
  | [], [], _, _, h => h
  | _ :: _, _ :: _, _, h, ⟨v, r, e, h1, h2⟩ => ⟨v, r, e, h.1.is h1, DsT.is h.2 h2⟩
  | [], _ :: _, _, h, _ => h.elim
  | _ :: _, [], _, h, _ => h.elim
theorem ATg.is : ∀ {a b : AV} {v : Value}, ATg a b → a.Is E u v → b.Is E u v
  | ⟨.inl _⟩, ⟨.inl _⟩, _, h, hi => VT.is h hi
  | ⟨.inr _⟩, ⟨.inr _⟩, _, h, ⟨vs, e, hi⟩ => ⟨vs, e, DsT.is h hi⟩
  | ⟨.inl _⟩, ⟨.inr _⟩, _, h, _ => h.elim
  | ⟨.inr _⟩, ⟨.inl _⟩, _, h, _ => h.elim
end
def OkRunT (r : AV) : Option (AV × Prop) → Prop
  | some (r', p) => ATg r' r ∧ p
  | none => False
theorem At.okTL {S : List Spec} {Lt : List LSpec} {f fuel : Nat} {fn : Func} {xs : List D} {hs : List Bool} {r : AV} (hS : AllOk Tryz.prog S) (hf : Tryz.prog.funcs[f]? = some fn) (ho : fnOk fn xs.length = true) (hL : LoopsOk fn xs.length Lt) (h : bvsB xs → OkRunT r (exF tt0 S Lt fuel fn xs hs)) : At Tryz.prog f xs r := by
  intro w args F hF ha
  have h := h ha.bd
  unfold OkRunT at h
  split at h
  · rename_i r' p he
    exact (At.run tt0_ok hS.mem mixed hf ho hL he h.2).to (fun E w v hi => h.1.is hi) w args F hF ha
  · exact h.elim
theorem At.okT {S : List Spec} {f fuel : Nat} {fn : Func} {xs : List D} {hs : List Bool} {r : AV} (hS : AllOk Tryz.prog S) (hf : Tryz.prog.funcs[f]? = some fn) (ho : fnOk fn xs.length = true) (h : bvsB xs → OkRunT r (exF tt0 S [] fuel fn xs hs)) : At Tryz.prog f xs r :=
  At.okTL hS hf ho LoopsOk.nil h
end
attribute [go_sem] OkRunT ATg VT DsT LT LfT bvsB bvB lsB lfB
end Go.Proofs.YtbobhhnhlgdkiaaGreat.Sy
