/- Contracts of the calls that reckon with Rats, as the runs take them. -/
import Derived.Test.YtmoicmjljflcgaaGreatJv
import Derived.Test.YtmoicmjljflcgaaGreatJ9
import Derived.Test.YtmoicmjljflcgaaGreatJc
import Derived.Test.YtmoicmjljflcgaaGreatJp
import Derived.Test.YtmoicmjljflcgaaGreatJq
namespace Go.Proofs.YtmoicmjljflcgaaGreat.Sym
open Go Go.RowKit M Kahn
set_option maxRecDepth 100000

/-- The numbers of a struct of Rats; of how many limbs they are at most. -/
def ratsL : List Lf → Option (List Rat × Nat)
  | [] => none
  | [⟨.inl (q, K, _)⟩] => some ([q], K)
  | ⟨.inl (q, K, _)⟩ :: x :: l => match ratsL (x :: l) with
    | some (qs, M) => some (q :: qs, max K M)
    | none => none
  | ⟨.inr _⟩ :: _ => none
def rats : BV → Option (List Rat × Nat)
  | ⟨some (.inr (.inl l))⟩ => ratsL l
  | _ => none
def agR (q : Rat) (K : Nat) : BV := ⟨some (.inr (.inl [⟨.inl (q, K, true)⟩]))⟩
theorem LfIs.read {u : World} {q : Rat} {K K' : Nat} {c : Bool} {vs : List Value} (h : LfIs u (⟨.inl (q, K, c)⟩) vs) (hk : K ≤ K') : ∃ r : RP, vs = r.cells ∧ Qp u r q K' := by
  cases c with
  | true => obtain ⟨r, h1, h2⟩ := h; exact ⟨r, h1, h2.rd.mono hk⟩
  | false => obtain ⟨r, h1, h2⟩ := h; exact ⟨r, h1, h2.mono hk⟩
theorem RL.monoK {u : World} {K K' : Nat} (hk : K ≤ K') : ∀ {rs : List RP} {qs : List Rat}, RL u K rs qs → RL u K' rs qs
  | [], [], h => h
  | [], _ :: _, h => h
  | _ :: _, [], h => h
  | _ :: _, _ :: _, h => ⟨h.1.mono hk, RL.monoK hk h.2⟩
theorem ratsL_is {u : World} : ∀ {l : List Lf} {qs : List Rat} {K : Nat} {vs : List Value}, ratsL l = some (qs, K) → Cells u l vs → ∃ rs, vs = RP.all rs ∧ RL u K rs qs
  | [], _, _, _, h, _ => by cases h
  | [⟨.inl (q, K, c)⟩], _, _, _, h, ⟨a, b, e, h1, h2⟩ => by
    simp only [ratsL] at h; cases h; cases h2
    obtain ⟨r, h3, h4⟩ := h1.read (Nat.le_refl _)
    exact ⟨[r], by rw [e, h3]; rfl, h4, trivial⟩
  | ⟨.inl (q, K, c)⟩ :: x :: l, qs, M, vs, h, ⟨a, b, e, h1, h2⟩ => by
    simp only [ratsL] at h
    split at h
    · rename_i qs' M' h3
      cases h
      obtain ⟨rs, h4, h5⟩ := ratsL_is h3 h2
      obtain ⟨r, h6, h7⟩ := h1.read (Nat.le_max_left K M')
      exact ⟨r :: rs, by rw [e, h4, h6]; rfl, h7, RL.monoK (Nat.le_max_right K M') h5⟩
    · cases h
  | ⟨.inr _⟩ :: _, _, _, _, h, _ => by simp only [ratsL] at h; cases h
theorem rats_is {β : Nat → Option Nat} {u : World} {b : BV} {qs : List Rat} {K : Nat} {v : Value} (h : rats b = some (qs, K)) (hi : b.Is β u v) : ∃ rs, v = .agg (RP.all rs).toArray ∧ RL u K rs qs := by
  unfold rats at h
  split at h
  · obtain ⟨vs, e, hc⟩ := hi
    obtain ⟨rs, h1, h2⟩ := ratsL_is h hc
    exact ⟨rs, by rw [e, h1], h2⟩
  · cases h
theorem rat_is {β : Nat → Option Nat} {u : World} {b : BV} {q : Rat} {K : Nat} {v : Value} (h : rats b = some ([q], K)) (hi : b.Is β u v) : ∃ r : RP, v = .agg #[.bool r.s, .slice r.no r.nn r.nc, .slice r.eo r.en r.ec] ∧ Qp u r q K := by
  obtain ⟨rs, h1, h2⟩ := rats_is h hi
  match rs, h2 with
  | [r], h2 => exact ⟨r, h1, h2.1⟩
/-- Such structs, as runs begin with them. -/
def mkR (qs : List Rat) (K : Nat) : BV := ⟨some (.inr (.inl (qs.map fun q => ⟨.inl (q, K, false)⟩)))⟩
theorem mkR_is {β : Nat → Option Nat} {u : World} {rs : List RP} {qs : List Rat} {K : Nat} (h : RL u K rs qs) : (mkR qs K).Is β u (.agg (RP.all rs).toArray) := by
  refine ⟨RP.all rs, rfl, ?_⟩
  induction rs generalizing qs with
  | nil => cases qs with
    | nil => rfl
    | cons _ _ => exact h.elim
  | cons r rs ih => cases qs with
    | nil => exact h.elim
    | cons q qs => exact ⟨r.cells, RP.all rs, rfl, ⟨r, rfl, h.1⟩, ih h.2⟩
theorem rats_mk {β : Nat → Option Nat} {u : World} {b : BV} {qs : List Rat} {K : Nat} {v : Value} (h : rats b = some (qs, K)) (hi : b.Is β u v) : (mkR qs K).Is β u v := by
  obtain ⟨rs, h1, h2⟩ := rats_is h hi
  rw [h1]; exact mkR_is h2
theorem gq_is {w w' : World} {K : Nat} {q : Rat} {e : Ending} (h : Gq w K q e w') : ∃ v, e = .returned v ∧ AV.Is nob w' ⟨.inl (agR q K)⟩ v ∧ Below w.heap.size w w' := by
  obtain ⟨s, no, nn, nc, eo, en, ec, h1, h2, h3⟩ := h
  exact ⟨_, h1, ⟨_, rfl, RP.cells ⟨s, no, nn, nc, eo, en, ec⟩, [], rfl, ⟨⟨s, no, nn, nc, eo, en, ec⟩, rfl, h2⟩, rfl⟩, h3⟩
theorem gqb_is {w w' : World} {K : Nat} {q : Rat} {b : Bool} {e : Ending} (h : Gqb w K q b e w') : ∃ v, e = .returned v ∧ AV.Is nob w' ⟨.inr [agR q K, ⟨some (.inl (.bool b))⟩]⟩ v ∧ Below w.heap.size w w' := by
  obtain ⟨s, no, nn, nc, eo, en, ec, h1, h2, h3⟩ := h
  exact ⟨_, h1, ⟨[_, _], rfl, _, _, rfl, ⟨_, rfl, RP.cells ⟨s, no, nn, nc, eo, en, ec⟩, [], rfl, ⟨⟨s, no, nn, nc, eo, en, ec⟩, rfl, h2⟩, rfl⟩, _, _, rfl, rfl, rfl⟩, h3⟩
theorem gs_is {w w' : World} {q : Rat} {e : Ending} (h : Gs3 w q e w') : ∃ v, e = .returned v ∧ AV.Is nob w' ⟨.inl ⟨some (.inl (.int .i64 (qsgn q)))⟩⟩ v ∧ Below w.heap.size w w' := ⟨_, h.1, rfl, h.2⟩
theorem gb_is {w w' : World} {A : Prop} [Decidable A] {e : Ending} (h : Gb w A e w') : ∃ v, e = .returned v ∧ AV.Is nob w' ⟨.inl ⟨some (.inl (.bool (decide A)))⟩⟩ v ∧ Below w.heap.size w w' := by
  obtain ⟨r, h1, h2, h3⟩ := h
  refine ⟨_, h1, ?_, h3⟩
  show Value.bool r = Value.bool (decide A)
  have := h2.out
  by_cases hA : A
  · rw [this.2 hA, decide_eq_true hA]
  · cases r with
    | true => exact absurd (this.1 rfl) hA
    | false => rw [decide_eq_false hA]
section
variable {P : Program} {f : Nat}
def RArg (r : RP) : Value := .agg #[.bool r.s, .slice r.no r.nn r.nc, .slice r.eo r.en r.ec]
def sp1 (f : Nat) (r : Rat → Nat → AV) (side : Nat → Prop) : Spec := ⟨f, fun xs => match xs with
  | [x] => match rats x with
    | some ([q], K) => some (r q K, side K)
    | _ => none
  | _ => none⟩
theorem sp1_at {r : Rat → Nat → AV} {side : Nat → Prop} (H : ∀ (w : World) (a : RP) (q : Rat) (K : Nat), Qp w a q K → side K → Calls P f #[RArg a] w fun e w' => ∃ v, e = .returned v ∧ (r q K).Is nob w' v ∧ Below w.heap.size w w') :
    ∀ xs x p, (sp1 f r side).sem xs = some (x, p) → p → At P f xs x := by
  intro xs x p h hp w args ha
  simp only [sp1] at h
  split at h
  · split at h
    · rename_i hr
      cases h
      obtain ⟨v, _, rfl, h1, rfl⟩ := ha
      obtain ⟨a, rfl, h2⟩ := rat_is hr h1
      exact H w a _ _ h2 hp
    · cases h
  · cases h
def sp2 (f : Nat) (r : Rat → Nat → Rat → Nat → AV) (side : Nat → Nat → Prop) : Spec := ⟨f, fun xs => match xs with
  | [x, y] => match rats x, rats y with
    | some ([q], K), some ([p], L) => some (r q K p L, side K L)
    | _, _ => none
  | _ => none⟩
theorem sp2_at {r : Rat → Nat → Rat → Nat → AV} {side : Nat → Nat → Prop} (H : ∀ (w : World) (a b : RP) (q p : Rat) (K L : Nat), Qp w a q K → Qp w b p L → side K L → Calls P f #[RArg a, RArg b] w fun e w' => ∃ v, e = .returned v ∧ (r q K p L).Is nob w' v ∧ Below w.heap.size w w') :
    ∀ xs x p, (sp2 f r side).sem xs = some (x, p) → p → At P f xs x := by
  intro xs x p h hp w args ha
  simp only [sp2] at h
  split at h
  · split at h
    · rename_i hr hr'
      cases h
      obtain ⟨v, _, rfl, h1, v', _, rfl, h1', rfl⟩ := ha
      obtain ⟨a, rfl, h2⟩ := rat_is hr h1
      obtain ⟨b, rfl, h2'⟩ := rat_is hr' h1'
      exact H w a b _ _ _ _ h2 h2' hp
    · cases h
  · cases h
/-- Are two canonical ones the same? -/
def spIs (f : Nat) : Spec := ⟨f, fun xs => match xs with
  | [⟨some (.inr (.inl [⟨.inl (q, K, true)⟩]))⟩, ⟨some (.inr (.inl [⟨.inl (p, L, true)⟩]))⟩] => some (⟨.inl (⟨some (.inl (.bool (decide (q = p))))⟩)⟩, K ≤ 1099511627776 ∧ L ≤ 1099511627776)
  | _ => none⟩
theorem spIs_at (H : ∀ (w : World) (a b : RP) (q p : Rat) (K L : Nat), Cp w a q K → Cp w b p L → K ≤ 1099511627776 → L ≤ 1099511627776 → Calls P f #[RArg a, RArg b] w (Gb w (q = p))) : ∀ xs x p, (spIs f).sem xs = some (x, p) → p → At P f xs x := by
  intro xs x p h hp w args ha
  simp only [spIs] at h
  split at h
  · cases h
    obtain ⟨v, _, rfl, ⟨vs, rfl, c1, _, rfl, ⟨a, rfl, k1⟩, rfl⟩, v', _, rfl, ⟨vs', rfl, c1', _, rfl, ⟨b, rfl, k1'⟩, rfl⟩, rfl⟩ := ha
    exact Calls.mono (H w a b _ _ _ _ k1 k1' hp.1 hp.2) fun e w' h => gb_is h
  · cases h
/-- Of two ints. -/
def spOf (f : Nat) : Spec := ⟨f, fun xs => match xs with
  | [⟨some (.inl (.int .i64 n))⟩, ⟨some (.inl (.int .i64 d))⟩] => some (⟨.inl (agR ((n : Rat) / (d : Rat)) 2)⟩, -9223372036854775808 ≤ n ∧ n ≤ 9223372036854775807 ∧ -9223372036854775808 ≤ d ∧ d ≤ 9223372036854775807)
  | _ => none⟩
theorem spOf_at (H : ∀ (w : World) (n d : Int), -9223372036854775808 ≤ n → n ≤ 9223372036854775807 → -9223372036854775808 ≤ d → d ≤ 9223372036854775807 → Calls P f #[.int .i64 n, .int .i64 d] w (Gq w 2 ((n : Rat) / (d : Rat)))) : ∀ xs x p, (spOf f).sem xs = some (x, p) → p → At P f xs x := by
  intro xs x p h hp w args ha
  simp only [spOf] at h
  split at h
  · cases h
    obtain ⟨v, _, rfl, rfl, v', _, rfl, rfl, rfl⟩ := ha
    exact Calls.mono (H w _ _ hp.1 hp.2.1 hp.2.2.1 hp.2.2.2) fun e w' h => gq_is h
  · cases h
def sp0 (f : Nat) (q : Rat) : Spec := ⟨f, fun xs => match xs with
  | [] => some (⟨.inl (agR q 1)⟩, True)
  | _ => none⟩
theorem sp0_at {q : Rat} (H : ∀ (w : World), Calls P f #[] w (Gq w 1 q)) : ∀ xs x p, (sp0 f q).sem xs = some (x, p) → p → At P f xs x := by
  intro xs x p h hp w args ha
  simp only [sp0] at h
  split at h
  · cases h; cases ha
    exact Calls.mono (H w) fun e w' h => gq_is h
  · cases h
/-- Lists of Rats. -/
def rowR : BV → Option (List Rat × Nat)
  | ⟨some (.inr (.inr (.inr (.inr ls))))⟩ => match ls.all (fun l => Nat.beq l.length 1) with
    | true => ratsL ls.flatten
    | false => none
  | ⟨some (.inl (.slice none 0 0))⟩ => some ([], 1)
  | _ => none
theorem flat_len {α : Type} : ∀ {ls : List (List α)}, ls.all (fun l => Nat.beq l.length 1) = true → ls.flatten.length = ls.length
  | [], _ => rfl
  | l :: ls, h => by
    rw [List.all_cons, Bool.and_eq_true] at h
    rw [List.flatten_cons, List.length_append, flat_len h.2, Nat.eq_of_beq_eq_true h.1, List.length_cons, Nat.add_comm]
theorem ratsL_len : ∀ {l : List Lf} {qs : List Rat} {K : Nat}, ratsL l = some (qs, K) → qs.length = l.length
  | [], _, _, h => by cases h
  | [⟨.inl (_, _, _)⟩], _, _, h => by simp only [ratsL] at h; cases h; rfl
  | ⟨.inl (_, _, _)⟩ :: x :: l, _, _, h => by
    simp only [ratsL] at h
    split at h
    · rename_i h3; cases h; simp [ratsL_len h3]
    · cases h
  | ⟨.inr _⟩ :: _, _, _, h => by simp only [ratsL] at h; cases h
theorem rowR_is {β : Nat → Option Nat} {u : World} {b : BV} {qs : List Rat} {K : Nat} {v : Value} (h : rowR b = some (qs, K)) (hi : b.Is β u v) : VL qs K v u := by
  unfold rowR at h
  split at h
  · rename_i ls
    split at h
    · rename_i hall
      obtain ⟨ao, cap, e, hcap, hth⟩ := hi
      have hl : qs.length = ls.length := by rw [ratsL_len h, flat_len hall]
      by_cases h0 : 0 < ls.length
      · obtain ⟨b, o, vs, rfl, ho, hc, hr⟩ := hth h0
        obtain ⟨rs, rfl, h2⟩ := ratsL_is h hc
        exact ⟨_, cap, rs, by rw [e, hl], by omega, h2, fun _ => ⟨b, o, rfl, ho.1, hr⟩⟩
      · have : ls = [] := List.eq_nil_of_length_eq_zero (by omega)
        subst this
        cases h
    · cases h
  · cases h
    have hi : v = .slice none 0 0 := hi
    rw [hi]
    exact VL.nil _ _
  · cases h
def sumL : List Rat → Rat
  | [] => 0
  | a :: l => l.foldl (· + ·) a
def prodL : List Rat → Rat
  | [] => 1
  | a :: l => l.foldl (· * ·) a
theorem sumL_is : ∀ qs : List Rat, qsum qs = sumL qs
  | [] => rfl
  | a :: l => by
    have : ∀ (l : List Rat) (a : Rat), l.foldl (· + ·) a = a + qsum l := by
      intro l
      induction l with
      | nil => intro a; show a = a + 0; grind
      | cons b l ih => intro a; rw [List.foldl_cons, ih]; show a + b + qsum l = a + (b + qsum l); grind
    rw [sumL, this]; rfl
theorem prodL_is : ∀ qs : List Rat, qprod qs = prodL qs
  | [] => rfl
  | a :: l => by
    have : ∀ (l : List Rat) (a : Rat), l.foldl (· * ·) a = a * qprod l := by
      intro l
      induction l with
      | nil => intro a; show a = a * 1; grind
      | cons b l ih => intro a; rw [List.foldl_cons, ih]; show a * b * qprod l = a * (b * qprod l); grind
    rw [prodL, this]; rfl
def spL (f : Nat) (g : List Rat → Rat) (h : Nat → Nat → Nat) (side : Nat → Nat → Prop) : Spec := ⟨f, fun xs => match xs with
  | [x] => match rowR x with
    | some (qs, K) => some (⟨.inl (agR (g qs) (h qs.length K))⟩, side qs.length K)
    | _ => none
  | _ => none⟩
theorem spL_at {g : List Rat → Rat} {h : Nat → Nat → Nat} {side : Nat → Nat → Prop} (H : ∀ (w : World) (v : Value) (qs : List Rat) (K : Nat), VL qs K v w → side qs.length K → Calls P f #[v] w (Gq w (h qs.length K) (g qs))) : ∀ xs x p, (spL f g h side).sem xs = some (x, p) → p → At P f xs x := by
  intro xs x p h hp w args ha
  simp only [spL] at h
  split at h
  · split at h
    · rename_i hr
      cases h
      obtain ⟨v, _, rfl, h1, rfl⟩ := ha
      exact Calls.mono (H w v _ _ (rowR_is hr h1) hp) fun e w' h => gq_is h
    · cases h
  · cases h
end
end Go.Proofs.YtmoicmjljflcgaaGreat.Sym

/- The types of the program, and the contracts of its calls that reckon with Rats. -/
namespace Go.Proofs.YtmoicmjljflcgaaGreat.Sym
open Go Go.RowKit M Kahn
set_option maxRecDepth 100000

theorem zRat (u : World) : LfIs u ⟨.inl (0, 0, false)⟩ [.bool false, .slice none 0 0, .slice none 0 0] :=
  ⟨zRP, rfl, ⟨[], [], Sl.nil _ _, Sl.nil _ _, rq_den0 _ _⟩, Nat.le_refl _, Nat.le_refl _⟩
def fieldsB (P : Program) : List (Nat × Nat × Bool) → List Field → Bool
  | (o, s, r) :: l, f :: fs => Nat.beq f.offset o && (match P.info? f.type with
      | some i => Nat.beq i.size s
      | none => false) && !(Nat.beq s 0) && (match P.underlying f.type with
      | some d => d.isRow == r
      | none => false) && fieldsB P l fs
  | [], [] => true
  | _, _ => false
theorem fieldsB_spec {P : Program} : ∀ {l : List (Nat × Nat × Bool)} {fs : List Field}, fieldsB P l fs = true → FieldsOk P l fs
  | [], [], _ => trivial
  | [], _ :: _, h => by cases h
  | _ :: _, [], h => by cases h
  | (o, s, r) :: l, f :: fs, h => by
    simp only [fieldsB, Bool.and_eq_true] at h
    obtain ⟨⟨⟨⟨h1, h2⟩, h3⟩, h4⟩, h5⟩ := h
    refine ⟨⟨Nat.eq_of_beq_eq_true h1, ?_, ?_, ?_⟩, fieldsB_spec h5⟩
    · cases hi : P.info? f.type with
      | none => rw [hi] at h2; cases h2
      | some i => rw [hi] at h2; simp [Nat.eq_of_beq_eq_true h2]
    · intro e; subst e; simp at h3
    · cases hu : P.underlying f.type with
      | none => rw [hu] at h4; cases h4
      | some d => rw [hu] at h4; exact ⟨d, rfl, by simpa using h4⟩
def AllOk (P : Program) : List Spec → Prop
  | [] => True
  | s :: l => SpecOk P s ∧ AllOk P l
theorem AllOk.mem {P : Program} : ∀ {l : List Spec}, AllOk P l → ∀ s ∈ l, SpecOk P s
  | [], _, s, h => by cases h
  | x :: l, ⟨h1, h2⟩, s, h => by
    rcases List.mem_cons.1 h with rfl | h
    · exact h1
    · exact AllOk.mem h2 s h
theorem SpecOk.mk' {P : Program} {s : Spec} {fn : Func} (hf : P.funcs[s.f]? = some fn) (hn : (fn.name == "runtime.NumGoroutine") = false) (hb : fn.body.isSome = true) (h : ∀ xs r p, s.sem xs = some (r, p) → p → At P s.f xs r) : SpecOk P s :=
  SpecOk.of hf (by simpa using hn) (by intro e; rw [e] at hb; cases hb) h
theorem mixed : Tryz.prog.follows .mixedOrders = true := by kernel_rfl
def tt0 : TT := [(24, ⟨.inl (3, [(0, 1, false), (1, 1, false), (2, 1, false)], [⟨.inl (0, 0, false)⟩])⟩),
  (26, ⟨.inl (9, [(0, 3, true), (3, 3, true), (6, 3, true)], [⟨.inl (0, 0, false)⟩, ⟨.inl (0, 0, false)⟩, ⟨.inl (0, 0, false)⟩])⟩),
  (28, ⟨.inl (27, [(0, 9, true), (9, 9, true), (18, 9, true)], [⟨.inl (0, 0, false)⟩, ⟨.inl (0, 0, false)⟩, ⟨.inl (0, 0, false)⟩, ⟨.inl (0, 0, false)⟩, ⟨.inl (0, 0, false)⟩, ⟨.inl (0, 0, false)⟩, ⟨.inl (0, 0, false)⟩, ⟨.inl (0, 0, false)⟩, ⟨.inl (0, 0, false)⟩])⟩),
  (39, ⟨.inl (9, [(0, 3, true), (3, 3, true), (6, 3, true)], [⟨.inl (0, 0, false)⟩, ⟨.inl (0, 0, false)⟩, ⟨.inl (0, 0, false)⟩])⟩),
  (4, ⟨.inr (.inl (.bool false))⟩),
  (3, ⟨.inr (.inl (.int .i64 0))⟩),
  (66, ⟨.inr (.inr (.inl 24))⟩),
  (75, ⟨.inr (.inr (.inl 26))⟩)]
theorem tt0_ok : TTok Tryz.prog tt0 := ⟨⟨_, [.bool false, .slice none 0 0, .slice none 0 0], Tryz.underlying24, by kernel_rfl, fun u => ⟨[.bool false, .slice none 0 0, .slice none 0 0], _, rfl, zRat u, rfl⟩, fieldsB_spec (by kernel_rfl)⟩,
  ⟨_, [.bool false, .slice none 0 0, .slice none 0 0, .bool false, .slice none 0 0, .slice none 0 0, .bool false, .slice none 0 0, .slice none 0 0], Tryz.underlying26, by kernel_rfl, fun u => ⟨[.bool false, .slice none 0 0, .slice none 0 0], _, rfl, zRat u, ⟨[.bool false, .slice none 0 0, .slice none 0 0], _, rfl, zRat u, ⟨[.bool false, .slice none 0 0, .slice none 0 0], _, rfl, zRat u, rfl⟩⟩⟩, fieldsB_spec (by kernel_rfl)⟩,
  ⟨_, [.bool false, .slice none 0 0, .slice none 0 0, .bool false, .slice none 0 0, .slice none 0 0, .bool false, .slice none 0 0, .slice none 0 0, .bool false, .slice none 0 0, .slice none 0 0, .bool false, .slice none 0 0, .slice none 0 0, .bool false, .slice none 0 0, .slice none 0 0, .bool false, .slice none 0 0, .slice none 0 0, .bool false, .slice none 0 0, .slice none 0 0, .bool false, .slice none 0 0, .slice none 0 0], Tryz.underlying28, by kernel_rfl, fun u => ⟨[.bool false, .slice none 0 0, .slice none 0 0], _, rfl, zRat u, ⟨[.bool false, .slice none 0 0, .slice none 0 0], _, rfl, zRat u, ⟨[.bool false, .slice none 0 0, .slice none 0 0], _, rfl, zRat u, ⟨[.bool false, .slice none 0 0, .slice none 0 0], _, rfl, zRat u, ⟨[.bool false, .slice none 0 0, .slice none 0 0], _, rfl, zRat u, ⟨[.bool false, .slice none 0 0, .slice none 0 0], _, rfl, zRat u, ⟨[.bool false, .slice none 0 0, .slice none 0 0], _, rfl, zRat u, ⟨[.bool false, .slice none 0 0, .slice none 0 0], _, rfl, zRat u, ⟨[.bool false, .slice none 0 0, .slice none 0 0], _, rfl, zRat u, rfl⟩⟩⟩⟩⟩⟩⟩⟩⟩, fieldsB_spec (by kernel_rfl)⟩,
  ⟨_, [.bool false, .slice none 0 0, .slice none 0 0, .bool false, .slice none 0 0, .slice none 0 0, .bool false, .slice none 0 0, .slice none 0 0], Tryz.underlying39, by kernel_rfl, fun u => ⟨[.bool false, .slice none 0 0, .slice none 0 0], _, rfl, zRat u, ⟨[.bool false, .slice none 0 0, .slice none 0 0], _, rfl, zRat u, ⟨[.bool false, .slice none 0 0, .slice none 0 0], _, rfl, zRat u, rfl⟩⟩⟩, fieldsB_spec (by kernel_rfl)⟩,
  ⟨_, Tryz.underlying4, rfl, by kernel_rfl, rfl, fun h => Tryz.underlying4⟩,
  ⟨_, Tryz.underlying3, rfl, by kernel_rfl, rfl, fun h => by cases h⟩,
  Tryz.underlying66,
  Tryz.underlying75, trivial⟩
def S0 : List Spec := [sp1 55 (fun q K => ⟨.inl (agR q K)⟩) (fun K => 1 ≤ K ∧ K ≤ 17179869184),
  sp1 42 (fun q K => ⟨.inl (agR (-q) K)⟩) (fun K => 1 ≤ K ∧ K ≤ 17179869184),
  sp1 52 (fun q K => ⟨.inr [agR (qsqrt q) K, ⟨some (.inl (.bool (qsq q)))⟩]⟩) (fun K => 1 ≤ K ∧ K ≤ 17179869184),
  sp1 40 (fun q _ => ⟨.inl ⟨some (.inl (.int .i64 (qsgn q)))⟩⟩) (fun K => K ≤ 17179869184),
  sp2 65 (fun q K p L => ⟨.inl (agR (q - p) (K + L + 1))⟩) (fun K L => 1 ≤ K ∧ 1 ≤ L ∧ K + L + 1 ≤ 1073741824),
  sp2 39 (fun q K p L => ⟨.inr [agR (q / p) (K + L), ⟨some (.inl (.bool (decide (p ≠ 0))))⟩]⟩) (fun K L => 1 ≤ K ∧ 1 ≤ L ∧ K + L + 1 ≤ 1073741824),
  sp2 43 (fun q _ p _ => ⟨.inl ⟨some (.inl (.int .i64 (qsgn (q - p))))⟩⟩) (fun K L => 1 ≤ K ∧ 1 ≤ L ∧ K + L + 1 ≤ 4294967296),
  spOf 21,
  spL 44 sumL (fun n K => n * (K + 1) + 1) (fun n K => 1 ≤ K ∧ (n + 1) * (K + 1) ≤ 4294967296 ∧ n ≤ 3),
  spL 20 prodL (fun n K => n * K + 1) (fun n K => 1 ≤ K ∧ (n + 1) * (K + 1) ≤ 4294967296),
  sp1 60 (fun q K => ⟨.inl (agR q K)⟩) (fun K => 1 ≤ K ∧ K ≤ 17179869184),
  sp1 86 (fun q K => ⟨.inl (agR (-q) K)⟩) (fun K => 1 ≤ K ∧ K ≤ 17179869184),
  sp1 57 (fun q K => ⟨.inr [agR (qsqrt q) K, ⟨some (.inl (.bool (qsq q)))⟩]⟩) (fun K => 1 ≤ K ∧ K ≤ 17179869184),
  sp1 46 (fun q _ => ⟨.inl ⟨some (.inl (.int .i64 (qsgn q)))⟩⟩) (fun K => K ≤ 17179869184),
  sp2 50 (fun q K p L => ⟨.inl (agR (q + p) (K + L + 1))⟩) (fun K L => 1 ≤ K ∧ 1 ≤ L ∧ K + L + 1 ≤ 17179869184),
  sp2 64 (fun q K p L => ⟨.inl (agR (q - p) (K + L + 1))⟩) (fun K L => 1 ≤ K ∧ 1 ≤ L ∧ K + L + 1 ≤ 17179869184),
  sp2 23 (fun q K p L => ⟨.inl (agR (q * p) (K + L))⟩) (fun K L => 1 ≤ K ∧ K + L + 1 ≤ 17179869184),
  sp2 72 (fun q K p L => ⟨.inr [agR (q / p) (K + L), ⟨some (.inl (.bool (decide (p ≠ 0))))⟩]⟩) (fun K L => 1 ≤ K ∧ 1 ≤ L ∧ K + L + 1 ≤ 17179869184),
  sp2 49 (fun q _ p _ => ⟨.inl ⟨some (.inl (.int .i64 (qsgn (q - p))))⟩⟩) (fun K L => 1 ≤ K ∧ 1 ≤ L ∧ K + L + 1 ≤ 17179869184),
  sp2 48 (fun q K p L => ⟨.inl (agR (q / p) (K + L))⟩) (fun K L => 1 ≤ K ∧ 1 ≤ L ∧ K + L + 1 ≤ 17179869184),
  spOf 24,
  sp0 59 0,
  sp0 51 1,
  spIs 11]
theorem S0_ok : AllOk Tryz.prog S0 := ⟨SpecOk.mk' Tryz.func55 (by kernel_rfl) (by kernel_rfl) (sp1_at fun w a q K h hs => Calls.mono (ratRead_k h hs.1 hs.2) fun e w' h => gq_is h),
  SpecOk.mk' Tryz.func42 (by kernel_rfl) (by kernel_rfl) (sp1_at fun w a q K h hs => Calls.mono (ratNeg_k h hs.1 hs.2) fun e w' h => gq_is h),
  SpecOk.mk' Tryz.func52 (by kernel_rfl) (by kernel_rfl) (sp1_at fun w a q K h hs => Calls.mono (ratSqrt_k h hs.1 hs.2) fun e w' h => gqb_is h),
  SpecOk.mk' Tryz.func40 (by kernel_rfl) (by kernel_rfl) (sp1_at fun w a q K h hs => Calls.mono (ratSign_k h hs) fun e w' h => gs_is h),
  SpecOk.mk' Tryz.func65 (by kernel_rfl) (by kernel_rfl) (sp2_at fun w a b q p K L h h' hs => Calls.mono (ratSub_k h h' hs.1 hs.2.1 hs.2.2) fun e w' h => gq_is h),
  SpecOk.mk' Tryz.func39 (by kernel_rfl) (by kernel_rfl) (sp2_at fun w a b q p K L h h' hs => Calls.mono (ratDiv_k h h' hs.1 hs.2.1 hs.2.2) fun e w' h => gqb_is h),
  SpecOk.mk' Tryz.func43 (by kernel_rfl) (by kernel_rfl) (sp2_at fun w a b q p K L h h' hs => Calls.mono (ratCmp_k h h' hs.1 hs.2.1 hs.2.2) fun e w' h => gs_is h),
  SpecOk.mk' Tryz.func21 (by kernel_rfl) (by kernel_rfl) (spOf_at fun w n d h1 h2 h3 h4 => ratOf_k n d h1 h2 h3 h4),
  SpecOk.mk' Tryz.func44 (by kernel_rfl) (by kernel_rfl) (spL_at fun w v qs K h hs => by rw [← sumL_is]; exact ratSum_k h hs.1 hs.2.1 hs.2.2),
  SpecOk.mk' Tryz.func20 (by kernel_rfl) (by kernel_rfl) (spL_at fun w v qs K h hs => by rw [← prodL_is]; exact ratProduct_k h hs.1 hs.2),
  SpecOk.mk' Tryz.func60 (by kernel_rfl) (by kernel_rfl) (sp1_at fun w a q K h hs => Calls.mono (read3_any w a.s a.no a.nn a.nc a.eo a.en a.ec K q h hs.1 hs.2) fun e w' h => gq_is h),
  SpecOk.mk' Tryz.func86 (by kernel_rfl) (by kernel_rfl) (sp1_at fun w a q K h hs => Calls.mono (neg3_any w a.s a.no a.nn a.nc a.eo a.en a.ec K q h hs.1 hs.2) fun e w' h => gq_is h),
  SpecOk.mk' Tryz.func57 (by kernel_rfl) (by kernel_rfl) (sp1_at fun w a q K h hs => Calls.mono (sqrt3_any w a.s a.no a.nn a.nc a.eo a.en a.ec K q h hs.1 hs.2) fun e w' h => gqb_is h),
  SpecOk.mk' Tryz.func46 (by kernel_rfl) (by kernel_rfl) (sp1_at fun w a q K h hs => Calls.mono (sign3_any w a.s a.no a.nn a.nc a.eo a.en a.ec K q h hs) fun e w' h => gs_is h),
  SpecOk.mk' Tryz.func50 (by kernel_rfl) (by kernel_rfl) (sp2_at fun w a b q p K L h h' hs => Calls.mono (add3_any w a.s a.no a.nn a.nc a.eo a.en a.ec b.s b.no b.nn b.nc b.eo b.en b.ec K L q p h h' hs.1 hs.2.1 hs.2.2) fun e w' h => gq_is h),
  SpecOk.mk' Tryz.func64 (by kernel_rfl) (by kernel_rfl) (sp2_at fun w a b q p K L h h' hs => Calls.mono (sub3_any w a.s a.no a.nn a.nc a.eo a.en a.ec b.s b.no b.nn b.nc b.eo b.en b.ec K L q p h h' hs.1 hs.2.1 hs.2.2) fun e w' h => gq_is h),
  SpecOk.mk' Tryz.func23 (by kernel_rfl) (by kernel_rfl) (sp2_at fun w a b q p K L h h' hs => Calls.mono (mul3_any w a.s a.no a.nn a.nc a.eo a.en a.ec b.s b.no b.nn b.nc b.eo b.en b.ec K L q p h h' hs.1 hs.2) fun e w' h => gq_is h),
  SpecOk.mk' Tryz.func72 (by kernel_rfl) (by kernel_rfl) (sp2_at fun w a b q p K L h h' hs => Calls.mono (div3_any w a.s a.no a.nn a.nc a.eo a.en a.ec b.s b.no b.nn b.nc b.eo b.en b.ec K L q p h h' hs.1 hs.2.1 hs.2.2) fun e w' h => gqb_is h),
  SpecOk.mk' Tryz.func49 (by kernel_rfl) (by kernel_rfl) (sp2_at fun w a b q p K L h h' hs => Calls.mono (cmp3_any w a.s a.no a.nn a.nc a.eo a.en a.ec b.s b.no b.nn b.nc b.eo b.en b.ec K L q p h h' hs.1 hs.2.1 hs.2.2) fun e w' h => gs_is h),
  SpecOk.mk' Tryz.func48 (by kernel_rfl) (by kernel_rfl) (sp2_at fun w a b q p K L h h' hs => Calls.mono (over3_any (a := a) (b := b) h h' hs.1 hs.2.1 hs.2.2) fun e w' h => gq_is h),
  SpecOk.mk' Tryz.func24 (by kernel_rfl) (by kernel_rfl) (spOf_at fun w n d h1 h2 h3 h4 => of3_any w n d h1 h2 h3 h4),
  SpecOk.mk' Tryz.func59 (by kernel_rfl) (by kernel_rfl) (sp0_at fun w => zero3_any w),
  SpecOk.mk' Tryz.func51 (by kernel_rfl) (by kernel_rfl) (sp0_at fun w => one3_any w),
  SpecOk.mk' Tryz.func11 (by kernel_rfl) (by kernel_rfl) (spIs_at fun w a b q p K L h h' hK hL => Calls.mono (is3_any w a.s a.no a.nn a.nc a.eo a.en a.ec b.s b.no b.nn b.nc b.eo b.en b.ec _ _ _ _ h.num h.den h'.num h'.den (by have := h.ln; omega) (by have := h.ld; omega) (by have := h'.ln; omega) (by have := h'.ld; omega)) fun e w' ⟨r, h1, h2, h3⟩ => ⟨r, h1, show r = true ↔ q = p from h2.out.trans (cq_iff h h'), h3⟩), trivial⟩
end Go.Proofs.YtmoicmjljflcgaaGreat.Sym

/- Runs, and what follows of them. -/
namespace Go.Proofs.YtmoicmjljflcgaaGreat.Sym
open Go Go.RowKit M Kahn
set_option maxRecDepth 100000

/-- The one says as much as the other. -/
def LfLe : Lf → Lf → Prop
  | ⟨.inl (q, K, c)⟩, ⟨.inl (q', K', c')⟩ => q = q' ∧ K ≤ K' ∧ (c' = true → c = true)
  | ⟨.inr v⟩, ⟨.inr v'⟩ => v = v'
  | _, _ => False
def LLe : List Lf → List Lf → Prop
  | [], [] => True
  | x :: l, y :: m => LfLe x y ∧ LLe l m
  | _, _ => False
def BLe : BV → BV → Prop
  | _, ⟨none⟩ => True
  | ⟨some (.inl v)⟩, ⟨some (.inl v')⟩ => v = v'
  | ⟨some (.inr (.inl l))⟩, ⟨some (.inr (.inl m))⟩ => LLe l m
  | _, _ => False
def BsLe : List BV → List BV → Prop
  | [], [] => True
  | x :: l, y :: m => BLe x y ∧ BsLe l m
  | _, _ => False
def ALe : AV → AV → Prop
  | ⟨.inl a⟩, ⟨.inl b⟩ => BLe a b
  | ⟨.inr l⟩, ⟨.inr m⟩ => BsLe l m
  | _, _ => False
theorem LfLe.is {u : World} : ∀ {x y : Lf} {vs : List Value}, LfLe x y → LfIs u x vs → LfIs u y vs
  | ⟨.inl (q, K, true)⟩, ⟨.inl (q', K', true)⟩, _, ⟨h1, h2, _⟩, ⟨r, e, h⟩ => by subst h1; exact ⟨r, e, h.mono h2⟩
  | ⟨.inl (q, K, true)⟩, ⟨.inl (q', K', false)⟩, _, ⟨h1, h2, _⟩, ⟨r, e, h⟩ => by subst h1; exact ⟨r, e, h.rd.mono h2⟩
  | ⟨.inl (q, K, false)⟩, ⟨.inl (q', K', false)⟩, _, ⟨h1, h2, _⟩, ⟨r, e, h⟩ => by subst h1; exact ⟨r, e, h.mono h2⟩
  | ⟨.inl (q, K, false)⟩, ⟨.inl (q', K', true)⟩, _, ⟨_, _, h3⟩, _ => by have := h3 rfl; cases this
  | ⟨.inr v⟩, ⟨.inr v'⟩, _, h, h' => by have h : v = v' := h; subst h; exact h'
  | ⟨.inl _⟩, ⟨.inr _⟩, _, h, _ => h.elim
  | ⟨.inr _⟩, ⟨.inl _⟩, _, h, _ => h.elim
theorem LLe.is {u : World} : ∀ {l m : List Lf} {vs : List Value}, LLe l m → Cells u l vs → Cells u m vs
  | [], [], _, _, h => h
  | _ :: _, _ :: _, _, h, ⟨a, b, e, h1, h2⟩ => ⟨a, b, e, h.1.is h1, LLe.is h.2 h2⟩
  | [], _ :: _, _, h, _ => h.elim
  | _ :: _, [], _, h, _ => h.elim
theorem BLe.is {β : Nat → Option Nat} {u : World} {a b : BV} {v : Value} (h : BLe a b) (hi : a.Is β u v) : b.Is β u v := by
  unfold BLe at h
  split at h
  · trivial
  · subst h; exact hi
  · obtain ⟨vs, e, hc⟩ := hi
    exact ⟨vs, e, h.is hc⟩
  · exact h.elim
theorem BsLe.is {β : Nat → Option Nat} {u : World} : ∀ {l m : List BV} {vs : List Value}, BsLe l m → AllIs β u l vs → AllIs β u m vs
  | [], [], _, _, h => h
  | _ :: _, _ :: _, _, h, ⟨v, r, e, h1, h2⟩ => ⟨v, r, e, h.1.is h1, BsLe.is h.2 h2⟩
  | [], _ :: _, _, h, _ => h.elim
  | _ :: _, [], _, h, _ => h.elim
theorem ALe.is {β : Nat → Option Nat} {u : World} : ∀ {a b : AV} {v : Value}, ALe a b → a.Is β u v → b.Is β u v
  | ⟨.inl _⟩, ⟨.inl _⟩, _, h, hi => BLe.is h hi
  | ⟨.inr _⟩, ⟨.inr _⟩, _, h, ⟨vs, e, hi⟩ => ⟨vs, e, BsLe.is h hi⟩
  | ⟨.inl _⟩, ⟨.inr _⟩, _, h, _ => h.elim
  | ⟨.inr _⟩, ⟨.inl _⟩, _, h, _ => h.elim
/-- What a run has come to says as much as is asked, under what it asks. -/
def OkRun (r : AV) : Option (AV × Prop) → Prop
  | some (r', p) => ALe r' r ∧ p
  | none => False
theorem At.ok {S : List Spec} {f fuel : Nat} {fn : Func} {xs : List BV} {hs : List Bool} {r : AV} (hS : AllOk Tryz.prog S) (hf : Tryz.prog.funcs[f]? = some fn) (ho : fnOk fn xs.length = true) (h : OkRun r (exF tt0 S fuel fn xs hs)) : At Tryz.prog f xs r := by
  unfold OkRun at h
  split at h
  · rename_i r' p he
    exact (At.run tt0_ok hS.mem mixed hf ho he h.2).to fun w v hi => h.1.is hi
  · exact h.elim
/-- The canonical struct of these numbers. -/
def cn (qs : List Rat) (K : Nat) : BV := ⟨some (.inr (.inl (qs.map fun q => ⟨.inl (q, K, true)⟩)))⟩
/-- Contracts over structs of canonical Rats. -/
def ratsC : List Lf → Option (List Rat × Nat)
  | [] => none
  | [⟨.inl (q, K, true)⟩] => some ([q], K)
  | ⟨.inl (q, K, true)⟩ :: x :: l => match ratsC (x :: l) with
    | some (qs, M) => some (q :: qs, max K M)
    | none => none
  | _ => none
def ratsCs : List BV → Option (List (List Rat × Nat))
  | [] => some []
  | ⟨some (.inr (.inl x))⟩ :: l => match ratsC x, ratsCs l with
    | some a, some r => some (a :: r)
    | _, _ => none
  | _ => none
theorem ratsC_is {u : World} : ∀ {l : List Lf} {qs : List Rat} {K : Nat} {vs : List Value}, ratsC l = some (qs, K) → Cells u l vs → ∀ M, K ≤ M → Cells u (qs.map fun q => ⟨.inl (q, M, true)⟩) vs := by
  intro l
  induction l with
  | nil => intro qs K vs h; cases h
  | cons x l ih =>
    intro qs K vs h ⟨a, b, e, h1, h2⟩ M hM
    unfold ratsC at h
    split at h
    · cases h
    · rename_i q K' heq
      cases h
      cases heq
      cases h2
      obtain ⟨r, h3, h4⟩ := h1
      exact ⟨a, [], e, ⟨r, h3, h4.mono hM⟩, rfl⟩
    · rename_i q K' y l' heq
      cases heq
      split at h
      · rename_i qs' M' h3
        cases h
        obtain ⟨r, h6, h7⟩ := h1
        exact ⟨a, b, e, ⟨r, h6, h7.mono (by omega)⟩, ih h3 h2 M (by omega)⟩
      · cases h
    · cases h
theorem ratsCs_is {β : Nat → Option Nat} {u : World} : ∀ {xs : List BV} {l : List (List Rat × Nat)} {vs : List Value}, ratsCs xs = some l → AllIs β u xs vs → AllIs β u (l.map fun x => cn x.1 x.2) vs := by
  intro xs
  induction xs with
  | nil => intro l vs h hi; cases h; exact hi
  | cons x xs ih =>
    intro l vs h ⟨v, r, e, h1, h2⟩
    unfold ratsCs at h
    split at h
    · rename_i heq; cases heq
    · rename_i y xs' heq
      cases heq
      split at h
      · rename_i a r' ha hr
        cases h
        obtain ⟨ws, e1, hc⟩ := h1
        exact ⟨v, r, e, ⟨ws, e1, ratsC_is ha hc _ (Nat.le_refl _)⟩, ih hr h2⟩
      · cases h
    · cases h
def spC (f : Nat) (g : List (List Rat × Nat) → Option (AV × Prop)) : Spec := ⟨f, fun xs => match ratsCs xs with
  | some l => g l
  | none => none⟩
theorem spC_at {P : Program} {f : Nat} {g : List (List Rat × Nat) → Option (AV × Prop)} (H : ∀ l r p, g l = some (r, p) → p → At P f (l.map fun x => cn x.1 x.2) r) : ∀ xs r p, (spC f g).sem xs = some (r, p) → p → At P f xs r := by
  intro xs r p h hp
  simp only [spC] at h
  split at h
  · rename_i l hl
    exact (H l r p h hp).weak fun w args ha => ratsCs_is hl ha
  · cases h
/-- Contracts over structs of Rats. -/
def ratsAll : List BV → Option (List (List Rat × Nat))
  | [] => some []
  | x :: l => match rats x, ratsAll l with
    | some a, some r => some (a :: r)
    | _, _ => none
def spN (f : Nat) (g : List (List Rat × Nat) → Option (AV × Prop)) : Spec := ⟨f, fun xs => match ratsAll xs with
  | some l => g l
  | none => none⟩
theorem ratsAll_is {β : Nat → Option Nat} {u : World} : ∀ {xs : List BV} {l : List (List Rat × Nat)} {vs : List Value}, ratsAll xs = some l → AllIs β u xs vs → AllIs β u (l.map fun x => mkR x.1 x.2) vs
  | [], _, _, h, hi => by simp only [ratsAll] at h; cases h; exact hi
  | x :: xs, _, _, h, ⟨v, r, e, h1, h2⟩ => by
    simp only [ratsAll] at h
    split at h
    · rename_i ha hr
      cases h
      exact ⟨v, r, e, rats_mk ha h1, ratsAll_is hr h2⟩
    · cases h
theorem spN_at {P : Program} {f : Nat} {g : List (List Rat × Nat) → Option (AV × Prop)} (H : ∀ l r p, g l = some (r, p) → p → At P f (l.map fun x => mkR x.1 x.2) r) : ∀ xs r p, (spN f g).sem xs = some (r, p) → p → At P f xs r := by
  intro xs r p h hp
  simp only [spN] at h
  split at h
  · rename_i l hl
    exact (H l r p h hp).weak fun w args ha => ratsAll_is hl ha
  · cases h
attribute [go_sem] S0 exF exC exR run step wantO want ev look rdO app putT TT.at tt0 find args head wantA avOf bxOf nwOf ptOf ldOf touch reads rdsOf wfind putW mid cut lsize Lf.size lay fillA rowA cmpI eqB sized tell tellB tellL chk1 chk2 noPt noNw allPuts resA resA1 oneOf av1 mkR cn agR rats ratsL ratsAll rowR sp1 sp2 spL spOf spIs sp0 spN sumL prodL plain undef BV.into BV.free AV.free OkRun ALe BLe BsLe LLe LfLe List.map List.length_cons List.length_nil List.replicate List.append_eq List.cons_append List.nil_append List.append_nil Int.toNat_zero Int.toNat_one Nat.beq Nat.ble Nat.beq_refl List.getElem?_cons_zero List.getElem?_cons_succ List.getElem?_nil List.set List.all Bool.and_true Bool.true_and Bool.and_self Bool.not_true Bool.not_false List.flatten List.foldl List.take List.drop Nat.max_self true_and and_true and_self true_implies implies_true forall_const spC ratsC ratsCs
end Go.Proofs.YtmoicmjljflcgaaGreat.Sym

/- How long numbers are, by their values. -/
namespace Go.Proofs.YtmoicmjljflcgaaGreat.Sym
open Go Go.RowKit M Kahn
set_option maxRecDepth 100000

/-- The numerator and the denominator have at most K limbs. -/
structure Bd (q : Rat) (K : Nat) : Prop where
  n : q.num.natAbs < Bp K
  d : q.den < Bp K
section
variable {q p : Rat} {K L : Nat}
theorem Bd.of {s : Bool} {n d : Nat} (hn : n < Bp K) (hd : d < Bp K) (hK : 1 ≤ K) : Bd (rq s n d) K := ⟨(num_bd hn hd hK).1, (num_bd hn hd hK).2⟩
theorem Bd.pos (h : Bd q K) : 1 ≤ K := by
  have h1 := h.d
  have h2 := q.den_pos
  rcases Nat.eq_zero_or_pos K with rfl | hk
  · rw [Bp_zero] at h1; omega
  · exact hk
theorem Bd.mono (h : Bd q K) (hk : K ≤ L) : Bd q L := ⟨Nat.lt_of_lt_of_le h.n (Bp_mono hk), Nat.lt_of_lt_of_le h.d (Bp_mono hk)⟩
theorem Bd.mul (h : Bd q K) (h' : Bd p L) : Bd (q * p) (K + L) := by
  have m1 := Nat.mul_lt_mul'' h.n h'.n
  have m2 := Nat.mul_lt_mul'' h.d h'.d
  rw [← Bp_add] at m1 m2
  have := h.pos
  rw [← rq_self q, ← rq_self p, rq_mul]
  exact Bd.of m1 m2 (by omega)
theorem Bd.add (h : Bd q K) (h' : Bd p L) : Bd (q + p) (K + L + 1) := by
  have m1 := Nat.mul_lt_mul'' h.n h'.d
  have m2 := Nat.mul_lt_mul'' h'.n h.d
  have m3 := Nat.mul_lt_mul'' h.d h'.d
  rw [Nat.mul_comm (Bp L) (Bp K)] at m2
  rw [← Bp_add] at m1 m2 m3
  have hB := Bp_succ (K + L)
  have hp : 0 < Bp (K + L) := Bp_pos _
  have hs := rq_add_any (s := decide (q.num < 0)) (t := decide (p.num < 0)) (X := q.num.natAbs) (U := p.num.natAbs) (Nat.ne_of_gt q.den_pos) (Nat.ne_of_gt p.den_pos) (psg_pab (decide (q.num < 0)) (decide (p.num < 0)) (q.num.natAbs * p.den) (p.num.natAbs * q.den))
  rw [rq_self, rq_self] at hs
  rw [← hs]
  refine Bd.of ?_ (by omega) (by omega)
  have : pab (decide (q.num < 0)) (decide (p.num < 0)) (q.num.natAbs * p.den) (p.num.natAbs * q.den) ≤ q.num.natAbs * p.den + p.num.natAbs * q.den := by unfold pab; split <;> (try split) <;> omega
  omega
theorem Bd.neg (h : Bd q K) : Bd (-q) K := ⟨by rw [Rat.neg_num, Int.natAbs_neg]; exact h.n, by rw [Rat.neg_den]; exact h.d⟩
theorem Bd.sub (h : Bd q K) (h' : Bd p L) : Bd (q - p) (K + L + 1) := by rw [Rat.sub_eq_add_neg]; exact h.add h'.neg
theorem Bd.inv (h : Bd q K) : Bd q⁻¹ K := by
  rw [← rq_self q, rq_inv]
  exact Bd.of h.d h.n h.pos
theorem Bd.div (h : Bd q K) (h' : Bd p L) : Bd (q / p) (K + L) := by rw [Rat.div_def]; exact h.mul h'.inv
theorem Bd.zero : Bd 0 1 := ⟨by decide +kernel, by decide +kernel⟩
theorem Bd.one : Bd 1 1 := ⟨by decide +kernel, by decide +kernel⟩
theorem Bd.two : Bd 2 1 := ⟨by decide +kernel, by decide +kernel⟩
theorem Bd.ite {c : Prop} [Decidable c] {x y : Rat} (h : Bd x K) (h' : Bd y K) : Bd (if c then x else y) K := by split <;> assumption

/-- What is known of the numbers that came in. -/
def lfB : Lf → Prop
  | ⟨.inl (q, K, _)⟩ => 1 ≤ K → Bd q K
  | ⟨.inr _⟩ => True
def lsB : List Lf → Prop
  | [] => True
  | x :: l => lfB x ∧ lsB l
def bvB : BV → Prop
  | ⟨some (.inr (.inl l))⟩ => lsB l
  | _ => True
def bvsB : List BV → Prop
  | [] => True
  | x :: l => bvB x ∧ bvsB l
theorem qn_bd {w : World} {s : Bool} {no : Option Addr} {nn nc : Nat} {eo : Option Addr} {en ec : Nat} (h : Qn w s no nn nc eo en ec q K) (hK : 1 ≤ K) : Bd q K := by
  obtain ⟨xs, ys, h1, h2, h3⟩ := h.there
  rw [← h3]
  exact Bd.of (h1.bd h.ln) (h2.bd h.ld) hK
theorem LfIs.bd {u : World} : ∀ {x : Lf} {vs : List Value}, LfIs u x vs → lfB x
  | ⟨.inl (_, _, true)⟩, _, ⟨_, _, h⟩ => fun hK => qn_bd h.rd hK
  | ⟨.inl (_, _, false)⟩, _, ⟨_, _, h⟩ => fun hK => qn_bd h hK
  | ⟨.inr _⟩, _, _ => trivial
theorem Cells.bd {u : World} : ∀ {l : List Lf} {vs : List Value}, Cells u l vs → lsB l
  | [], _, _ => trivial
  | _ :: _, _, ⟨_, _, _, h1, h2⟩ => ⟨h1.bd, Cells.bd h2⟩
theorem BV.Is.bd {β : Nat → Option Nat} {u : World} : ∀ {b : BV} {v : Value}, b.Is β u v → bvB b
  | ⟨none⟩, _, _ => trivial
  | ⟨some (.inl _)⟩, _, _ => trivial
  | ⟨some (.inr (.inl _))⟩, _, ⟨_, _, h⟩ => h.bd
  | ⟨some (.inr (.inr (.inl (_, _))))⟩, _, _ => trivial
  | ⟨some (.inr (.inr (.inr (.inl _))))⟩, _, _ => trivial
  | ⟨some (.inr (.inr (.inr (.inr _))))⟩, _, _ => trivial
theorem AllIs.bd {β : Nat → Option Nat} {u : World} : ∀ {l : List BV} {vs : List Value}, AllIs β u l vs → bvsB l
  | [], _, _ => trivial
  | _ :: _, _, ⟨_, _, _, h1, h2⟩ => ⟨h1.bd, AllIs.bd h2⟩

/-- The one says as much as the other, by its values. -/
def LfT : Lf → Lf → Prop
  | ⟨.inl (q, _, c)⟩, ⟨.inl (q', K', _)⟩ => q = q' ∧ c = true ∧ Bd q' K'
  | ⟨.inr v⟩, ⟨.inr v'⟩ => v = v'
  | _, _ => False
def LT : List Lf → List Lf → Prop
  | [], [] => True
  | x :: l, y :: m => LfT x y ∧ LT l m
  | _, _ => False
def BT : BV → BV → Prop
  | _, ⟨none⟩ => True
  | ⟨some (.inl v)⟩, ⟨some (.inl v')⟩ => v = v'
  | ⟨some (.inr (.inl l))⟩, ⟨some (.inr (.inl m))⟩ => LT l m
  | _, _ => False
def BsT : List BV → List BV → Prop
  | [], [] => True
  | x :: l, y :: m => BT x y ∧ BsT l m
  | _, _ => False
def ATg : AV → AV → Prop
  | ⟨.inl a⟩, ⟨.inl b⟩ => BT a b
  | ⟨.inr l⟩, ⟨.inr m⟩ => BsT l m
  | _, _ => False
theorem LfT.is {u : World} : ∀ {x y : Lf} {vs : List Value}, LfT x y → LfIs u x vs → LfIs u y vs
  | ⟨.inl (q, K, true)⟩, ⟨.inl (q', K', true)⟩, _, ⟨h1, _, h2⟩, ⟨r, e, h⟩ => by subst h1; exact ⟨r, e, Cq.tight h h2.n h2.d⟩
  | ⟨.inl (q, K, true)⟩, ⟨.inl (q', K', false)⟩, _, ⟨h1, _, h2⟩, ⟨r, e, h⟩ => by subst h1; exact ⟨r, e, (Cq.tight h h2.n h2.d).rd⟩
  | ⟨.inl (q, K, false)⟩, ⟨.inl (q', K', _)⟩, _, ⟨_, h, _⟩, _ => by cases h
  | ⟨.inr v⟩, ⟨.inr v'⟩, _, h, h' => by have h : v = v' := h; subst h; exact h'
  | ⟨.inl _⟩, ⟨.inr _⟩, _, h, _ => h.elim
  | ⟨.inr _⟩, ⟨.inl _⟩, _, h, _ => h.elim
theorem LT.is {u : World} : ∀ {l m : List Lf} {vs : List Value}, LT l m → Cells u l vs → Cells u m vs
  | [], [], _, _, h => h
  | _ :: _, _ :: _, _, h, ⟨a, b, e, h1, h2⟩ => ⟨a, b, e, h.1.is h1, LT.is h.2 h2⟩
  | [], _ :: _, _, h, _ => h.elim
  | _ :: _, [], _, h, _ => h.elim
theorem BT.is {β : Nat → Option Nat} {u : World} {a b : BV} {v : Value} (h : BT a b) (hi : a.Is β u v) : b.Is β u v := by
  unfold BT at h
  split at h
  · trivial
  · subst h; exact hi
  · obtain ⟨vs, e, hc⟩ := hi
    exact ⟨vs, e, h.is hc⟩
  · exact h.elim
theorem BsT.is {β : Nat → Option Nat} {u : World} : ∀ {l m : List BV} {vs : List Value}, BsT l m → AllIs β u l vs → AllIs β u m vs
  | [], [], _, _, h => h
  | _ :: _, _ :: _, _, h, ⟨v, r, e, h1, h2⟩ => ⟨v, r, e, h.1.is h1, BsT.is h.2 h2⟩
  | [], _ :: _, _, h, _ => h.elim
  | _ :: _, [], _, h, _ => h.elim
theorem ATg.is {β : Nat → Option Nat} {u : World} : ∀ {a b : AV} {v : Value}, ATg a b → a.Is β u v → b.Is β u v
  | ⟨.inl _⟩, ⟨.inl _⟩, _, h, hi => BT.is h hi
  | ⟨.inr _⟩, ⟨.inr _⟩, _, h, ⟨vs, e, hi⟩ => ⟨vs, e, BsT.is h hi⟩
  | ⟨.inl _⟩, ⟨.inr _⟩, _, h, _ => h.elim
  | ⟨.inr _⟩, ⟨.inl _⟩, _, h, _ => h.elim
def OkRunT (r : AV) : Option (AV × Prop) → Prop
  | some (r', p) => ATg r' r ∧ p
  | none => False
theorem At.okT {S : List Spec} {f fuel : Nat} {fn : Func} {xs : List BV} {hs : List Bool} {r : AV} (hS : AllOk Tryz.prog S) (hf : Tryz.prog.funcs[f]? = some fn) (ho : fnOk fn xs.length = true) (h : bvsB xs → OkRunT r (exF tt0 S fuel fn xs hs)) : At Tryz.prog f xs r := by
  intro w args ha
  have h := h ha.bd
  unfold OkRunT at h
  split at h
  · rename_i r' p he
    exact (At.run tt0_ok hS.mem mixed hf ho he h.2).to (fun w v hi => h.1.is hi) w args ha
  · exact h.elim
end
attribute [go_sem] OkRunT ATg BT BsT LT LfT bvsB bvB lsB lfB
end Go.Proofs.YtmoicmjljflcgaaGreat.Sym
