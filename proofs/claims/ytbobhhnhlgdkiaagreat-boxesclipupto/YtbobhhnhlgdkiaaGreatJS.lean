/- penumbraref10, by runs 2: loops. -/
import Derived.Test.YtbobhhnhlgdkiaaGreatJQ
import Derived.Test.YtbobhhnhlgdkiaaGreatJP
namespace Go.Proofs.YtbobhhnhlgdkiaaGreat.Sy
open Go Go.RowKit M Kahn
set_option maxRecDepth 1000000
set_option linter.unusedSimpArgs false
set_option linter.unusedVariables false

/-- Two boxes, joined; any number of them. -/
def jn (a b : B6) : B6 := ((mn a.1.1 b.1.1, mn a.1.2.1 b.1.2.1, mn a.1.2.2 b.1.2.2), (mx a.2.1 b.2.1, mx a.2.2.1 b.2.2.1, mx a.2.2.2 b.2.2.2))
def jns : List B6 → B6
  | [] => ((0, 0, 0), (0, 0, 0))
  | b :: l => l.foldl jn (jn b b)
theorem jns_one {bs : List B6} {b : B6} (h : bs[0]? = some b) : jns (bs.take 1) = jn b b := by
  cases bs with
  | nil => simp at h
  | cons x l => simp at h; subst h; rfl
theorem jns_take {bs : List B6} {i : Nat} {b : B6} (h : bs[i]? = some b) (h1 : 1 ≤ i) : jns (bs.take (i + 1)) = jn (jns (bs.take i)) b := by
  cases bs with
  | nil => simp at h
  | cons x l =>
    obtain ⟨j, rfl⟩ : ∃ j, i = j + 1 := ⟨i - 1, by omega⟩
    simp only [List.getElem?_cons_succ] at h
    simp only [List.take_succ_cons, jns]
    rw [List.take_add_one, h, List.foldl_append]
    rfl
def jlI (K : Nat) (bs : List B6) (i : Nat) : St := ⟨tmOf 31 [(0, .slice (bs.map (eG encB K)) []), (2, .held (.inr (.inr (.inr (.inl (0, 0)))))), (3, .held (.inr (.inr (.inr (.inl (1, 0)))))), (4, .held (.inr (.inl (.int .i64 (i : Int)))))], [⟨28, [.held (.inl (0, 0, false)), .held (.inl (0, 0, false)), .held (.inl (0, 0, false)), .held (.inl (0, 0, false)), .held (.inl (0, 0, false)), .held (.inl (0, 0, false))], none⟩, ⟨28, [.held (.inl ((jns (bs.take (i))).1.1, K, true)), .held (.inl ((jns (bs.take (i))).1.2.1, K, true)), .held (.inl ((jns (bs.take (i))).1.2.2, K, true)), .held (.inl ((jns (bs.take (i))).2.1, K, true)), .held (.inl ((jns (bs.take (i))).2.2.1, K, true)), .held (.inl ((jns (bs.take (i))).2.2.2, K, true))], none⟩]⟩
def jlO (K : Nat) (bs : List B6) (i : Nat) : Exit × St := (.exit 0, ⟨tmOf 31 [(0, .slice (bs.map (eG encB K)) []), (2, .held (.inr (.inr (.inr (.inl (0, 0)))))), (3, .held (.inr (.inr (.inr (.inl (1, 0)))))), (4, .held (.inr (.inl (.int .i64 (bs.length : Int)))))], [⟨28, [.held (.inl (0, 0, false)), .held (.inl (0, 0, false)), .held (.inl (0, 0, false)), .held (.inl (0, 0, false)), .held (.inl (0, 0, false)), .held (.inl (0, 0, false))], none⟩, ⟨28, [.held (.inl ((jns (bs.take (bs.length))).1.1, K, true)), .held (.inl ((jns (bs.take (bs.length))).1.2.1, K, true)), .held (.inl ((jns (bs.take (bs.length))).1.2.2, K, true)), .held (.inl ((jns (bs.take (bs.length))).2.1, K, true)), .held (.inl ((jns (bs.take (bs.length))).2.2.1, K, true)), .held (.inl ((jns (bs.take (bs.length))).2.2.2, K, true))], none⟩]⟩)
set_option maxHeartbeats 16000000 in
theorem jl_loop (K : Nat) (bs : List B6) (K1 : 1 ≤ K) (hK : 2 * K + 1 ≤ 17179869184) (hl : 1 ≤ bs.length) (hm : bs.length ≤ 4194304) : LoopsOk Tryz.f61 1 (lsp 0 [0, 2, 3, 4] (jlI K bs (1)) (jlO K bs (1)) :: []) := by
  refine LoopsOk.count S21_ok (by kernel_rfl) LoopsOk.nil 0 (by kernel_rfl) [0, 2, 3, 4] (1) (bs.length) (jlI K bs) (fun i => by rw [jlI, tmOf_len]; kernel_rfl) (jlO K bs) (fun i => by rw [jlO, tmOf_len]; kernel_rfl) (by omega) ?_
  intro b c hb hc i h1 h2
  simp only [Tryz.f61, Option.some.injEq] at hb
  subst hb
  simp only [blocksOf, getBlk, Nat.beq, List.cons_append, List.nil_append, Option.some.injEq, Code.loop.injEq] at hc
  subst hc
  have hn : ((i : Int)).toNat = i := Int.toNat_natCast i
  have hw : i < 4294967296 → IntKind.i64.wrap ((i : Int) + 1) = ((i + 1 : Nat) : Int) := fun h => by rw [IntKind.wrap_i64]; omega
  by_cases h : i < bs.length
  · replace hw := hw (by omega)
    obtain ⟨x, hx⟩ : ∃ x, bs[i]? = some x := ⟨_, List.getElem?_eq_getElem h⟩
    have hv : (bs.map (eG encB K))[i]? = some (.agg [.held (.inl (x.1.1, K, false)), .held (.inl (x.1.2.1, K, false)), .held (.inl (x.1.2.2, K, false)), .held (.inl (x.2.1, K, false)), .held (.inl (x.2.2.1, K, false)), .held (.inl (x.2.2.2, K, false))]) := by rw [List.getElem?_map, hx]; rfl
    have hz : sized 18 (bs.map (eG encB K)) = true := sized_eG (e := encB) bs
    have hj := jns_take hx (by omega)
    refine ⟨60, [true], ?_⟩
    simp (maxSteps := 10000000) only [jlI, jlO, go_sem, List.length_map, hv, hz, hj, jn, Nat.max_self, Round, reduceCtorEq, false_and, or_false, false_or, true_and, and_true, Bool.false_eq_true, decide_eq_true_eq, decide_eq_false_iff_not, hn, hw, Nat.reduceAdd, Nat.reduceSub, Nat.reduceMul, Int.reduceAdd, Int.reduceSub, Int.reduceToNat]
    and_intros
    all_goals first | with_reducible rfl | omega | assumption | exact .inl rfl | (grind)
  · have he : i = bs.length := by omega
    clear hw
    refine ⟨60, [false], ?_⟩
    simp (maxSteps := 10000000) only [jlI, jlO, go_sem, List.length_map, he, Round, reduceCtorEq, false_and, or_false, false_or, true_and, and_true, Bool.false_eq_true, decide_eq_true_eq, decide_eq_false_iff_not, Nat.reduceAdd, Nat.reduceSub, Nat.reduceMul, Int.reduceAdd, Int.reduceSub, Int.reduceToNat]
    and_intros
    all_goals first | with_reducible rfl | omega | assumption | exact .inl rfl | (grind)
@[go_sem] def sJoin10 : Spec := ⟨61, fun xs => match xs with
  | [x] => match rowG encB x with
    | some (bs, K) => some (⟨.inl (cn [(jns bs).1.1, (jns bs).1.2.1, (jns bs).1.2.2, (jns bs).2.1, (jns bs).2.2.1, (jns bs).2.2.2] (K))⟩, 1 ≤ K ∧ 2 * K + 1 ≤ 17179869184 ∧ bs.length ≤ 4194304)
    | _ => none
  | _ => none, nomem⟩
set_option maxHeartbeats 16000000 in
theorem sJoin10_ok : SpecOk Tryz.prog sJoin10 := SpecOk.mk' Tryz.func61 (by kernel_rfl) (by kernel_rfl) (fun xs r p h hp => by
  simp only [sJoin10] at h
  split at h
  · split at h
    · rename_i x bs K hr
      cases h
      obtain ⟨K1, K2, hm⟩ := hp
      refine At.weak (ys := [.slice (bs.map (eG encB K)) []]) ?_ fun E w args ⟨v, r, e, h1, h2⟩ => ⟨v, r, e, rowG_mk hr h1, h2⟩
      by_cases h0 : bs.length = 0
      · obtain rfl := List.eq_nil_of_length_eq_zero h0
        simp only [jns]
        refine At.okL (fuel := 60) (hs := [true]) S21_ok Tryz.func61 (by kernel_rfl) LoopsOk.nil ?_
        simp (maxSteps := 10000000) only [Tryz.f61, go_sem, List.map_nil, decide_eq_true_eq, decide_eq_false_iff_not, ne_eq, not_true_eq_false, not_false_eq_true, Decidable.not_not, beq_iff_eq, beq_eq_false_iff_ne, bne_eq_false_iff_eq, bne_iff_ne, qsgn_zero, qsgn_le, qsgn_lt, qsgn_gt, qsgn_ge, Nat.reduceAdd, Nat.reduceSub, Nat.reduceMul, Int.reduceAdd, Int.reduceSub, Int.reduceToNat]
        and_intros
        all_goals first | with_reducible rfl | omega | assumption | exact .inl rfl | (grind)
      · obtain ⟨x0, hx⟩ : ∃ x, bs[0]? = some x := ⟨_, List.getElem?_eq_getElem (by omega)⟩
        have hv : (bs.map (eG encB K))[0]? = some (.agg [.held (.inl (x0.1.1, K, false)), .held (.inl (x0.1.2.1, K, false)), .held (.inl (x0.1.2.2, K, false)), .held (.inl (x0.2.1, K, false)), .held (.inl (x0.2.2.1, K, false)), .held (.inl (x0.2.2.2, K, false))]) := by rw [List.getElem?_map, hx]; rfl
        have hz : sized 18 (bs.map (eG encB K)) = true := sized_eG (e := encB) bs
        have hj := jns_one hx
        have hf : ((bs.length : Int) == 0) = false := by rw [beq_eq_false_iff_ne]; omega
        refine At.okL (fuel := 60) (hs := [false]) S21_ok Tryz.func61 (by kernel_rfl) (jl_loop K bs K1 K2 (by omega) hm) ?_
        simp (maxSteps := 10000000) only [Tryz.f61, go_sem, jlI, jlO, List.length_map, hv, hz, hj, jn, hf, List.take_length, Round, reduceCtorEq, false_and, or_false, false_or, true_and, and_true, Bool.false_eq_true, decide_eq_true_eq, decide_eq_false_iff_not, decide_eq_true_eq, decide_eq_false_iff_not, ne_eq, not_true_eq_false, not_false_eq_true, Decidable.not_not, beq_iff_eq, beq_eq_false_iff_ne, bne_eq_false_iff_eq, bne_iff_ne, qsgn_zero, qsgn_le, qsgn_lt, qsgn_gt, qsgn_ge, Nat.reduceAdd, Nat.reduceSub, Nat.reduceMul, Int.reduceAdd, Int.reduceSub, Int.reduceToNat]
        and_intros
        all_goals first | with_reducible rfl | omega | assumption | exact .inl rfl | (grind)
    · cases h
  · cases h)
@[go_sem] def S22 : List Spec := sJoin10 :: S21
theorem S22_ok : AllOk Tryz.prog S22 := ⟨sJoin10_ok, S21_ok⟩
/-- A point, as a box. -/
def dbl (v : V3) : B6 := (v, v)
def alI (K : Nat) (vs : List V3) (i : Nat) : St := ⟨tmOf 26 [(0, .slice (vs.map (eG encV K)) []), (2, .held (.inr (.inr (.inr (.inl (0, 0)))))), (3, .held (.inr (.inr (.inl 1)))), (4, .held (.inr (.inl (.int .i64 (i : Int)))))], [⟨28, [.held (.inl (0, 0, false)), .held (.inl (0, 0, false)), .held (.inl (0, 0, false)), .held (.inl (0, 0, false)), .held (.inl (0, 0, false)), .held (.inl (0, 0, false))], none⟩, ⟨28, (((vs.take (i)).map dbl).map (eG encB K)), some 18⟩]⟩
def alO (K : Nat) (vs : List V3) (i : Nat) : Exit × St := (.exit 0, ⟨tmOf 26 [(0, .slice (vs.map (eG encV K)) []), (2, .held (.inr (.inr (.inr (.inl (0, 0)))))), (3, .held (.inr (.inr (.inl 1)))), (4, .held (.inr (.inl (.int .i64 (vs.length : Int)))))], [⟨28, [.held (.inl (0, 0, false)), .held (.inl (0, 0, false)), .held (.inl (0, 0, false)), .held (.inl (0, 0, false)), .held (.inl (0, 0, false)), .held (.inl (0, 0, false))], none⟩, ⟨28, (((vs.take (vs.length)).map dbl).map (eG encB K)), some 18⟩]⟩)
set_option maxHeartbeats 16000000 in
theorem al_loop (K : Nat) (vs : List V3) (K1 : 1 ≤ K) (hm : vs.length ≤ 4194304) : LoopsOk Tryz.f29 1 (lsp 0 [0, 2, 3, 4] (alI K vs (0)) (alO K vs (0)) :: []) := by
  refine LoopsOk.count S22_ok (by kernel_rfl) LoopsOk.nil 0 (by kernel_rfl) [0, 2, 3, 4] (0) (vs.length) (alI K vs) (fun i => by rw [alI, tmOf_len]; kernel_rfl) (alO K vs) (fun i => by rw [alO, tmOf_len]; kernel_rfl) (by omega) ?_
  intro b c hb hc i h1 h2
  simp only [Tryz.f29, Option.some.injEq] at hb
  subst hb
  simp only [blocksOf, getBlk, Nat.beq, List.cons_append, List.nil_append, Option.some.injEq, Code.loop.injEq] at hc
  subst hc
  have hn : ((i : Int)).toNat = i := Int.toNat_natCast i
  have hw : i < 4294967296 → IntKind.i64.wrap ((i : Int) + 1) = ((i + 1 : Nat) : Int) := fun h => by rw [IntKind.wrap_i64]; omega
  by_cases h : i < vs.length
  · replace hw := hw (by omega)
    obtain ⟨x, hx⟩ : ∃ x, vs[i]? = some x := ⟨_, List.getElem?_eq_getElem h⟩
    have hv : (vs.map (eG encV K))[i]? = some (.agg [.held (.inl (x.1, K, false)), .held (.inl (x.2.1, K, false)), .held (.inl (x.2.2, K, false))]) := by rw [List.getElem?_map, hx]; rfl
    have hz : sized 9 (vs.map (eG encV K)) = true := sized_eG (e := encV) vs
    have ha : (((vs.take (i)).map dbl).map (eG encB K)) ++ [(.agg [.held (.inl (x.1, K, false)), .held (.inl (x.2.1, K, false)), .held (.inl (x.2.2, K, false)), .held (.inl (x.1, K, false)), .held (.inl (x.2.1, K, false)), .held (.inl (x.2.2, K, false))])] = (((vs.take (i + 1)).map dbl).map (eG encB K)) := by rw [List.take_add_one, hx, List.map_append, List.map_append]; rfl
    refine ⟨60, [true], ?_⟩
    simp (maxSteps := 10000000) only [alI, alO, go_sem, List.length_map, List.length_take, hv, hz, ha, Round, reduceCtorEq, false_and, or_false, false_or, true_and, and_true, Bool.false_eq_true, decide_eq_true_eq, decide_eq_false_iff_not, hn, hw, Nat.reduceAdd, Nat.reduceSub, Nat.reduceMul, Int.reduceAdd, Int.reduceSub, Int.reduceToNat]
    and_intros
    all_goals first | with_reducible rfl | omega | assumption | exact .inl rfl | (grind)
  · have he : i = vs.length := by omega
    clear hw
    refine ⟨60, [false], ?_⟩
    simp (maxSteps := 10000000) only [alI, alO, go_sem, List.length_map, he, Round, reduceCtorEq, false_and, or_false, false_or, true_and, and_true, Bool.false_eq_true, decide_eq_true_eq, decide_eq_false_iff_not, Nat.reduceAdd, Nat.reduceSub, Nat.reduceMul, Int.reduceAdd, Int.reduceSub, Int.reduceToNat]
    and_intros
    all_goals first | with_reducible rfl | omega | assumption | exact .inl rfl | (grind)
@[go_sem] def sAround10 : Spec := ⟨29, fun xs => match xs with
  | [x] => match rowG encV x with
    | some (vs, K) => some (⟨.inl (cn [(jns (vs.map dbl)).1.1, (jns (vs.map dbl)).1.2.1, (jns (vs.map dbl)).1.2.2, (jns (vs.map dbl)).2.1, (jns (vs.map dbl)).2.2.1, (jns (vs.map dbl)).2.2.2] (K))⟩, 1 ≤ K ∧ 2 * K + 1 ≤ 17179869184 ∧ vs.length ≤ 4194304)
    | _ => none
  | _ => none, nomem⟩
set_option maxHeartbeats 16000000 in
theorem sAround10_ok : SpecOk Tryz.prog sAround10 := SpecOk.mk' Tryz.func29 (by kernel_rfl) (by kernel_rfl) (fun xs r p h hp => by
  simp only [sAround10] at h
  split at h
  · split at h
    · rename_i x vs K hr
      cases h
      obtain ⟨K1, K2, hm⟩ := hp
      refine At.weak (ys := [.slice (vs.map (eG encV K)) []]) ?_ fun E w args ⟨v, r, e, h1, h2⟩ => ⟨v, r, e, rowG_mk hr h1, h2⟩
      obtain ⟨K', hk1, hk2, hrow⟩ := rowG_map (e := encB) (sp := []) (by decide) K1 (vs.map dbl)
      simp only [rowG] at hrow
      refine At.okL (fuel := 60) (hs := []) S22_ok Tryz.func29 (by kernel_rfl) (al_loop K vs K1 hm) ?_
      simp (maxSteps := 10000000) only [Tryz.f29, go_sem, alI, alO, rowG, hrow, List.take_zero, List.map_nil, List.length_map, List.take_length, Round, reduceCtorEq, false_and, or_false, false_or, true_and, and_true, Bool.false_eq_true, decide_eq_true_eq, decide_eq_false_iff_not, decide_eq_true_eq, decide_eq_false_iff_not, ne_eq, not_true_eq_false, not_false_eq_true, Decidable.not_not, beq_iff_eq, beq_eq_false_iff_ne, bne_eq_false_iff_eq, bne_iff_ne, qsgn_zero, qsgn_le, qsgn_lt, qsgn_gt, qsgn_ge, Nat.reduceAdd, Nat.reduceSub, Nat.reduceMul, Int.reduceAdd, Int.reduceSub, Int.reduceToNat]
      and_intros
      all_goals first | with_reducible rfl | omega | assumption | exact .inl rfl | (grind)
    · cases h
  · cases h)
@[go_sem] def S23 : List Spec := sAround10 :: S22
theorem S23_ok : AllOk Tryz.prog S23 := ⟨sAround10_ok, S22_ok⟩
end Go.Proofs.YtbobhhnhlgdkiaaGreat.Sy

/- penumbraref10.Clip, by runs 2. -/
namespace Go.Proofs.YtbobhhnhlgdkiaaGreat.Sy
open Go Go.RowKit M Kahn
set_option maxRecDepth 1000000
set_option linter.unusedSimpArgs false
set_option linter.unusedVariables false

theorem EsR.app : ∀ {a b c d : List D}, EsR a b → EsR c d → EsR (a ++ c) (b ++ d) := by
  intro a
  induction a with
  | nil => intro b c d h h'; cases b with
    | nil => exact h'
    | cons _ _ => exact h.elim
  | cons x a ih =>
    intro b c d h h'
    unfold EsR at h
    split at h
    · rename_i heq; cases heq
    · rename_i heq
      cases heq
      exact ⟨h.1, ih h.2 h'⟩
    · exact h.elim
theorem EsR.mapC {K K' : Nat} (h : K ≤ K') : ∀ l : List Rat, EsR (l.map (eC K)) (l.map (eG encR K'))
  | [] => trivial
  | _ :: l => ⟨⟨⟨rfl, h, nofun⟩, trivial⟩, EsR.mapC h l⟩
theorem sized_eC {K : Nat} (l : List Rat) : sized 3 (l.map (eC K)) = true := sized_map (f := eC K) (n := 3) (fun q => ⟨_, rfl, rfl⟩) l
theorem sized_eR {K : Nat} (l : List Rat) : sized 3 (l.map (eG encR K)) = true := sized_eG (e := encR) l
theorem edl1_len (x : Rat) : (edl1 x).length ≤ 1 := by unfold edl1; split <;> simp
theorem edl_len (o d a b : Rat) : (edl o d a b).length ≤ 2 := by
  unfold edl
  split
  · simp
  · rw [List.length_append]
    have := edl1_len ((a - o) / d)
    have := edl1_len ((b - o) / d)
    omega
/-- Is a point in a box? -/
def inB (b : B6) (p : V3) : Bool := btw p.1 b.1.1 b.2.1 && btw p.2.1 b.1.2.1 b.2.2.1 && btw p.2.2 b.1.2.2 b.2.2.2
/-- A place on a ray. -/
def onR (o d : V3) (s : Rat) : V3 := (o.1 + s * d.1, o.2.1 + s * d.2.1, o.2.2 + s * d.2.2)
/-- The places at which the ray comes to a side's plane, and 0. -/
def cl0 (o d : V3) (b : B6) : List Rat := 0 :: (edl o.1 d.1 b.1.1 b.2.1 ++ edl o.2.1 d.2.1 b.1.2.1 b.2.2.1 ++ edl o.2.2 d.2.2 b.1.2.2 b.2.2.2)
/-- Of places, the least and the greatest one that is held; whether one is. -/
def cst (h : Rat → Bool) (x : Bool × Rat × Rat) (s : Rat) : Bool × Rat × Rat := if h s then (true, mn (if x.1 then x.2.1 else s) s, mx (if x.1 then x.2.2 else s) s) else x
def cf (h : Rat → Bool) (l : List Rat) : Bool × Rat × Rat := l.foldl (cst h) (false, 0, 0)
theorem cf_take {h : Rat → Bool} {l : List Rat} {i : Nat} {s : Rat} (hs : l[i]? = some s) : cf h (l.take (i + 1)) = cst h (cf h (l.take i)) s := by
  unfold cf
  rw [List.take_add_one, hs, List.foldl_append]
  rfl
theorem cst_no {h : Rat → Bool} {x : Bool × Rat × Rat} {s : Rat} (e : h s = false) : cst h x s = x := by unfold cst; rw [e]; rfl
theorem cst_first {h : Rat → Bool} {x : Bool × Rat × Rat} {s : Rat} (e : h s = true) (e' : x.1 = false) : cst h x s = (true, mn s s, mx s s) := by unfold cst; rw [e, e']; rfl
theorem cst_more {h : Rat → Bool} {x : Bool × Rat × Rat} {s : Rat} (e : h s = true) (e' : x.1 = true) : cst h x s = (true, mn x.2.1 s, mx x.2.2 s) := by unfold cst; rw [e, e']; rfl
/-- Does a ray stand still? -/
def still (d : V3) : Bool := decide (d.1 = 0 ∧ d.2.1 = 0 ∧ d.2.2 = 0)
def clI (K L M : Nat) (o d : V3) (b : B6) (l : List Rat) (i : Nat) : St := ⟨tmOf 108 [(3, .held (.inr (.inr (.inr (.inl (0, 0)))))), (4, .held (.inr (.inr (.inr (.inl (1, 0)))))), (5, .held (.inr (.inr (.inr (.inl (2, 0)))))), (6, .held (.inr (.inr (.inr (.inl (3, 0)))))), (7, .held (.inr (.inl (.bool false)))), (8, .held (.inr (.inr (.inl 4)))), (9, .held (.inr (.inr (.inr (.inl (5, 0)))))), (10, .held (.inr (.inl (.bool (cf (fun s => inB b (onR o d s)) (l.take (i))).1)))), (11, .held (.inr (.inl (.int .i64 (i : Int)))))], [⟨26, [.held (.inl (o.1, K, false)), .held (.inl (o.2.1, K, false)), .held (.inl (o.2.2, K, false))], none⟩, ⟨26, [.held (.inl (d.1, L, false)), .held (.inl (d.2.1, L, false)), .held (.inl (d.2.2, L, false))], none⟩, ⟨28, [.held (.inl (b.1.1, M, false)), .held (.inl (b.1.2.1, M, false)), .held (.inl (b.1.2.2, M, false)), .held (.inl (b.2.1, M, false)), .held (.inl (b.2.2.1, M, false)), .held (.inl (b.2.2.2, M, false))], none⟩, ⟨30, [.held (.inl (0, 0, false)), .held (.inl (0, 0, false)), .held (.inr (.inl (.bool false)))], none⟩, ⟨24, l.map (eG encR (K + L + M + 1)), some 3⟩, ⟨30, [.held (.inl ((cf (fun s => inB b (onR o d s)) (l.take (i))).2.1, (K + L + M + 1), true)), .held (.inl ((cf (fun s => inB b (onR o d s)) (l.take (i))).2.2, (K + L + M + 1), true)), .held (.inr (.inl (.bool false)))], none⟩]⟩
def clO (K L M : Nat) (o d : V3) (b : B6) (l : List Rat) (i : Nat) : Exit × St := (.exit 0, ⟨tmOf 108 [(3, .held (.inr (.inr (.inr (.inl (0, 0)))))), (4, .held (.inr (.inr (.inr (.inl (1, 0)))))), (5, .held (.inr (.inr (.inr (.inl (2, 0)))))), (6, .held (.inr (.inr (.inr (.inl (3, 0)))))), (7, .held (.inr (.inl (.bool false)))), (8, .held (.inr (.inr (.inl 4)))), (9, .held (.inr (.inr (.inr (.inl (5, 0)))))), (10, .held (.inr (.inl (.bool (cf (fun s => inB b (onR o d s)) (l.take (l.length))).1)))), (11, .held (.inr (.inl (.int .i64 (l.length : Int)))))], [⟨26, [.held (.inl (o.1, K, false)), .held (.inl (o.2.1, K, false)), .held (.inl (o.2.2, K, false))], none⟩, ⟨26, [.held (.inl (d.1, L, false)), .held (.inl (d.2.1, L, false)), .held (.inl (d.2.2, L, false))], none⟩, ⟨28, [.held (.inl (b.1.1, M, false)), .held (.inl (b.1.2.1, M, false)), .held (.inl (b.1.2.2, M, false)), .held (.inl (b.2.1, M, false)), .held (.inl (b.2.2.1, M, false)), .held (.inl (b.2.2.2, M, false))], none⟩, ⟨30, [.held (.inl (0, 0, false)), .held (.inl (0, 0, false)), .held (.inr (.inl (.bool false)))], none⟩, ⟨24, l.map (eG encR (K + L + M + 1)), some 3⟩, ⟨30, [.held (.inl ((cf (fun s => inB b (onR o d s)) (l.take (l.length))).2.1, (K + L + M + 1), true)), .held (.inl ((cf (fun s => inB b (onR o d s)) (l.take (l.length))).2.2, (K + L + M + 1), true)), .held (.inr (.inl (.bool false)))], none⟩]⟩)
set_option maxHeartbeats 16000000 in
theorem cl_loop (K L M : Nat) (o d : V3) (b : B6) (l : List Rat) (K1 : 1 ≤ K) (L1 : 1 ≤ L) (M1 : 1 ≤ M) (hK : 16 * (K + L + M) + 16 ≤ 17179869184) (hm : l.length ≤ 1048576) : LoopsOk Tryz.f6 3 (lsp 0 [3, 4, 5, 6, 7, 8, 9, 10, 11] (clI K L M o d b l 0) (clO K L M o d b l 0) :: []) := by
  refine LoopsOk.count S23_ok (by kernel_rfl) LoopsOk.nil 0 (by kernel_rfl) [3, 4, 5, 6, 7, 8, 9, 10, 11] 0 (l.length) (clI K L M o d b l) (fun i => by rw [clI, tmOf_len]; kernel_rfl) (clO K L M o d b l) (fun i => by rw [clO, tmOf_len]; kernel_rfl) (by omega) ?_
  intro b' c hb hc i h1 h2
  simp only [Tryz.f6, Option.some.injEq] at hb
  subst hb
  simp only [blocksOf, getBlk, Nat.beq, List.cons_append, List.nil_append, Option.some.injEq, Code.loop.injEq] at hc
  subst hc
  have hn : ((i : Int)).toNat = i := Int.toNat_natCast i
  have hw : i < 4294967296 → IntKind.i64.wrap ((i : Int) + 1) = ((i + 1 : Nat) : Int) := fun h => by rw [IntKind.wrap_i64]; omega
  by_cases h : i < l.length
  · replace hw := hw (by omega)
    obtain ⟨s, hx⟩ : ∃ s, l[i]? = some s := ⟨_, List.getElem?_eq_getElem h⟩
    have hv : (l.map (eG encR (K + L + M + 1)))[i]? = some (.agg [.held (.inl (s, (K + L + M + 1), false))]) := by rw [List.getElem?_map, hx]; rfl
    have hz : sized 3 (l.map (eG encR (K + L + M + 1))) = true := sized_eR l
    have hc := cf_take (h := (fun s => inB b (onR o d s))) hx
    have hh : inB b (onR o d s) = (btw (o.1 + s * d.1) b.1.1 b.2.1 && btw (o.2.1 + s * d.2.1) b.1.2.1 b.2.2.1 && btw (o.2.2 + s * d.2.2) b.1.2.2 b.2.2.2) := rfl
    cases hI : inB b (onR o d s) with
    | false =>
      rw [cst_no hI] at hc
      rw [hI] at hh
      replace hh := hh.symm
      refine ⟨60, [true, false], ?_⟩
      simp (maxSteps := 10000000) only [clI, clO, go_sem, List.length_map, hv, hz, hc, hh, Round, reduceCtorEq, false_and, or_false, false_or, true_and, and_true, Bool.false_eq_true, decide_eq_true_eq, decide_eq_false_iff_not, hn, hw, Nat.reduceAdd, Nat.reduceSub, Nat.reduceMul, Int.reduceAdd, Int.reduceSub, Int.reduceToNat]
      and_intros
      all_goals first | with_reducible rfl | omega | assumption | exact .inl rfl | (grind)
    | true =>
      rw [hI] at hh
      replace hh := hh.symm
      cases hM : (cf (fun s => inB b (onR o d s)) (l.take (i))).1 with
      | false =>
        rw [cst_first hI hM] at hc
        refine ⟨60, [true, true], ?_⟩
        simp (maxSteps := 10000000) only [clI, clO, go_sem, List.length_map, hv, hz, hc, hh, hM, Nat.max_self, Round, reduceCtorEq, false_and, or_false, false_or, true_and, and_true, Bool.false_eq_true, decide_eq_true_eq, decide_eq_false_iff_not, hn, hw, Nat.reduceAdd, Nat.reduceSub, Nat.reduceMul, Int.reduceAdd, Int.reduceSub, Int.reduceToNat]
        and_intros
        all_goals first | with_reducible rfl | omega | assumption | exact .inl rfl | (grind)
      | true =>
        rw [cst_more hI hM] at hc
        refine ⟨60, [true, true], ?_⟩
        simp (maxSteps := 10000000) only [clI, clO, go_sem, List.length_map, hv, hz, hc, hh, hM, Nat.max_self, Round, reduceCtorEq, false_and, or_false, false_or, true_and, and_true, Bool.false_eq_true, decide_eq_true_eq, decide_eq_false_iff_not, hn, hw, Nat.reduceAdd, Nat.reduceSub, Nat.reduceMul, Int.reduceAdd, Int.reduceSub, Int.reduceToNat]
        and_intros
        all_goals first | with_reducible rfl | omega | assumption | exact .inl rfl | (grind)
  · have he : i = l.length := by omega
    clear hw
    refine ⟨60, [false], ?_⟩
    simp (maxSteps := 10000000) only [clI, clO, go_sem, List.length_map, he, Round, reduceCtorEq, false_and, or_false, false_or, true_and, and_true, Bool.false_eq_true, decide_eq_true_eq, decide_eq_false_iff_not, Nat.reduceAdd, Nat.reduceSub, Nat.reduceMul, Int.reduceAdd, Int.reduceSub, Int.reduceToNat]
    and_intros
    all_goals first | with_reducible rfl | omega | assumption | exact .inl rfl | (grind)
theorem eC_list {K : Nat} : (fun q => eC K q) = eC K := rfl
@[go_sem] def sClip10 : Spec := spN 6 fun l => match l with
  | [([o1, o2, o3], K), ([d1, d2, d3], L), ([b1, b2, b3, b4, b5, b6], M)] => some (⟨.inr [.agg [.held (.inl ((cf (fun s => inB ((b1, b2, b3), (b4, b5, b6)) (onR (o1, o2, o3) (d1, d2, d3) s)) (cl0 (o1, o2, o3) (d1, d2, d3) ((b1, b2, b3), (b4, b5, b6)))).2.1, (K + L + M + 1), true)), .held (.inl ((cf (fun s => inB ((b1, b2, b3), (b4, b5, b6)) (onR (o1, o2, o3) (d1, d2, d3) s)) (cl0 (o1, o2, o3) (d1, d2, d3) ((b1, b2, b3), (b4, b5, b6)))).2.2, (K + L + M + 1), true)), .held (.inr (.inl (.bool ((cf (fun s => inB ((b1, b2, b3), (b4, b5, b6)) (onR (o1, o2, o3) (d1, d2, d3) s)) (cl0 (o1, o2, o3) (d1, d2, d3) ((b1, b2, b3), (b4, b5, b6)))).1 && still (d1, d2, d3)))))], .held (.inr (.inl (.bool (cf (fun s => inB ((b1, b2, b3), (b4, b5, b6)) (onR (o1, o2, o3) (d1, d2, d3) s)) (cl0 (o1, o2, o3) (d1, d2, d3) ((b1, b2, b3), (b4, b5, b6)))).1)))]⟩, 1 ≤ K ∧ 1 ≤ L ∧ 1 ≤ M ∧ 16 * (K + L + M) + 16 ≤ 17179869184)
  | _ => none
set_option maxHeartbeats 16000000 in
theorem sClip10_ok : SpecOk Tryz.prog sClip10 := SpecOk.mk' Tryz.func6 (by kernel_rfl) (by kernel_rfl) (spN_at fun l r p h hp => by
  split at h
  · rename_i o1 o2 o3 K d1 d2 d3 L b1 b2 b3 b4 b5 b6 M
    cases h
    have i0 : ((0 : Int) : Rat) / ((1 : Int) : Rat) = 0 := by decide +kernel
    have i1 : ((1 : Int) : Rat) / ((1 : Int) : Rat) = 1 := by decide +kernel
    have e1 := edl_len o1 d1 b1 b4
    have e2 := edl_len o2 d2 b2 b5
    have e3 := edl_len o3 d3 b3 b6
    obtain ⟨l, hl0⟩ : ∃ l, cl0 (o1, o2, o3) (d1, d2, d3) ((b1, b2, b3), (b4, b5, b6)) = l := ⟨_, rfl⟩
    simp only [hl0]
    have hl : l.length ≤ 1048576 := by
      rw [← hl0]; simp only [cl0, List.length_cons, List.length_append]; omega
    have hrow : EsR (.agg [.held (.inl (0, 1, true))] :: ((edl o1 d1 b1 b4).map (eC (K + L + M + 1)) ++ (edl o2 d2 b2 b5).map (eC (K + L + M + 1)) ++ (edl o3 d3 b3 b6).map (eC (K + L + M + 1)))) (l.map (eG encR (K + L + M + 1))) := by
      rw [← hl0]
      simp only [cl0, List.map_cons, List.map_append]
      exact ⟨⟨⟨rfl, by omega, nofun⟩, trivial⟩, ((EsR.mapC (Nat.le_refl _) _).app (EsR.mapC (Nat.le_refl _) _)).app (EsR.mapC (Nat.le_refl _) _)⟩
    clear hl0
    have hX : cf (fun s => inB ((b1, b2, b3), (b4, b5, b6)) (onR (o1, o2, o3) (d1, d2, d3) s)) [] = (false, 0, 0) := rfl
    cases hM : (cf (fun s => inB ((b1, b2, b3), (b4, b5, b6)) (onR (o1, o2, o3) (d1, d2, d3) s)) l).1 with
    | false =>
      simp only [Bool.false_and]
      refine At.okL (fuel := 60) (hs := []) S23_ok Tryz.func6 (by kernel_rfl) (cl_loop K L M (o1, o2, o3) (d1, d2, d3) ((b1, b2, b3), (b4, b5, b6)) l hp.1 hp.2.1 hp.2.2.1 hp.2.2.2 hl) ?_
      simp (maxSteps := 10000000) only [Tryz.f6, go_sem, clI, clO, i0, Nat.max_self, sized_eC, List.length_map, List.take_length, List.length_append, List.take_zero, List.map_append, eC_list, hM, hX, Round, reduceCtorEq, false_and, or_false, false_or, true_and, and_true, Bool.false_eq_true, decide_eq_true_eq, decide_eq_false_iff_not, decide_eq_true_eq, decide_eq_false_iff_not, ne_eq, not_true_eq_false, not_false_eq_true, Decidable.not_not, beq_iff_eq, beq_eq_false_iff_ne, bne_eq_false_iff_eq, bne_iff_ne, qsgn_zero, qsgn_le, qsgn_lt, qsgn_gt, qsgn_ge, Nat.reduceAdd, Nat.reduceSub, Nat.reduceMul, Int.reduceAdd, Int.reduceSub, Int.reduceToNat]
      and_intros
      all_goals first | with_reducible rfl | omega | assumption | exact .inl rfl | exact .inr hrow | (grind)
    | true =>
      simp only [Bool.true_and]
      cases hN : still (d1, d2, d3) with
      | true =>
        simp only [still] at hN
        refine At.okL (fuel := 60) (hs := [true]) S23_ok Tryz.func6 (by kernel_rfl) (cl_loop K L M (o1, o2, o3) (d1, d2, d3) ((b1, b2, b3), (b4, b5, b6)) l hp.1 hp.2.1 hp.2.2.1 hp.2.2.2 hl) ?_
        simp (maxSteps := 10000000) only [Tryz.f6, go_sem, clI, clO, i0, Nat.max_self, sized_eC, List.length_map, List.take_length, List.length_append, List.take_zero, List.map_append, eC_list, hM, hX, hN, Round, reduceCtorEq, false_and, or_false, false_or, true_and, and_true, Bool.false_eq_true, decide_eq_true_eq, decide_eq_false_iff_not, decide_eq_true_eq, decide_eq_false_iff_not, ne_eq, not_true_eq_false, not_false_eq_true, Decidable.not_not, beq_iff_eq, beq_eq_false_iff_ne, bne_eq_false_iff_eq, bne_iff_ne, qsgn_zero, qsgn_le, qsgn_lt, qsgn_gt, qsgn_ge, Nat.reduceAdd, Nat.reduceSub, Nat.reduceMul, Int.reduceAdd, Int.reduceSub, Int.reduceToNat]
        and_intros
        all_goals first | with_reducible rfl | omega | assumption | exact .inl rfl | exact .inr hrow | (grind)
      | false =>
        simp only [still] at hN
        refine At.okL (fuel := 60) (hs := [false]) S23_ok Tryz.func6 (by kernel_rfl) (cl_loop K L M (o1, o2, o3) (d1, d2, d3) ((b1, b2, b3), (b4, b5, b6)) l hp.1 hp.2.1 hp.2.2.1 hp.2.2.2 hl) ?_
        simp (maxSteps := 10000000) only [Tryz.f6, go_sem, clI, clO, i0, Nat.max_self, sized_eC, List.length_map, List.take_length, List.length_append, List.take_zero, List.map_append, eC_list, hM, hX, hN, Round, reduceCtorEq, false_and, or_false, false_or, true_and, and_true, Bool.false_eq_true, decide_eq_true_eq, decide_eq_false_iff_not, decide_eq_true_eq, decide_eq_false_iff_not, ne_eq, not_true_eq_false, not_false_eq_true, Decidable.not_not, beq_iff_eq, beq_eq_false_iff_ne, bne_eq_false_iff_eq, bne_iff_ne, qsgn_zero, qsgn_le, qsgn_lt, qsgn_gt, qsgn_ge, Nat.reduceAdd, Nat.reduceSub, Nat.reduceMul, Int.reduceAdd, Int.reduceSub, Int.reduceToNat]
        and_intros
        all_goals first | with_reducible rfl | omega | assumption | exact .inl rfl | exact .inr hrow | (grind)
  · cases h)
@[go_sem] def S24 : List Spec := sClip10 :: S23
theorem S24_ok : AllOk Tryz.prog S24 := ⟨sClip10_ok, S23_ok⟩
@[go_sem] def sIs10 : Spec := spC 28 fun l => match l with
  | [([a1, a2, a3, a4, a5, a6], K), ([c1, c2, c3, c4, c5, c6], L)] => some (⟨.inl (.held (.inr (.inl (.bool (decide (a1 = c1 ∧ a2 = c2 ∧ a3 = c3) && decide (a4 = c4 ∧ a5 = c5 ∧ a6 = c6))))))⟩, K ≤ 1099511627776 ∧ L ≤ 1099511627776)
  | _ => none
set_option maxHeartbeats 16000000 in
theorem sIs10_ok : SpecOk Tryz.prog sIs10 := SpecOk.mk' Tryz.func28 (by kernel_rfl) (by kernel_rfl) (spC_at fun l r p h hp => by
  split at h
  · rename_i a1 a2 a3 a4 a5 a6 K c1 c2 c3 c4 c5 c6 L
    cases h
    cases h1 : decide (a1 = c1 ∧ a2 = c2 ∧ a3 = c3) with
    | false =>
      refine At.ok (fuel := 60) (hs := [false]) S24_ok Tryz.func28 (by kernel_rfl) ?_
      simp (maxSteps := 10000000) only [Tryz.f28, go_sem, h1, Bool.false_and, Nat.reduceAdd, Nat.reduceSub, Nat.reduceMul, Int.reduceAdd, Int.reduceSub, Int.reduceToNat]
      and_intros
      all_goals first | with_reducible rfl | omega | (grind)
    | true =>
      cases h2 : decide (a4 = c4 ∧ a5 = c5 ∧ a6 = c6) with
      | false =>
        refine At.ok (fuel := 60) (hs := [true, false]) S24_ok Tryz.func28 (by kernel_rfl) ?_
        simp (maxSteps := 10000000) only [Tryz.f28, go_sem, h1, h2, Bool.and_false, Nat.reduceAdd, Nat.reduceSub, Nat.reduceMul, Int.reduceAdd, Int.reduceSub, Int.reduceToNat]
        and_intros
        all_goals first | with_reducible rfl | omega | (grind)
      | true =>
        refine At.ok (fuel := 60) (hs := [true, true]) S24_ok Tryz.func28 (by kernel_rfl) ?_
        simp (maxSteps := 10000000) only [Tryz.f28, go_sem, h1, h2, Nat.reduceAdd, Nat.reduceSub, Nat.reduceMul, Int.reduceAdd, Int.reduceSub, Int.reduceToNat]
        and_intros
        all_goals first | with_reducible rfl | omega | (grind)
  · cases h)
@[go_sem] def sIsSpan : Spec := ⟨8, fun xs => match xs with
  | [.agg [.held (.inl (a1, aK, true)), .held (.inl (a2, aL, true)), .held (.inr (.inl (.bool a3)))], .agg [.held (.inl (c1, cK, true)), .held (.inl (c2, cL, true)), .held (.inr (.inl (.bool c3)))]] => some (⟨.inl (.held (.inr (.inl (.bool (decide (a1 = c1) && decide (a2 = c2) && (a3 == c3))))))⟩, aK ≤ 1099511627776 ∧ aL ≤ 1099511627776 ∧ cK ≤ 1099511627776 ∧ cL ≤ 1099511627776)
  | _ => none, nomem⟩
set_option maxHeartbeats 16000000 in
theorem sIsSpan_ok : SpecOk Tryz.prog sIsSpan := SpecOk.mk' Tryz.func8 (by kernel_rfl) (by kernel_rfl) (fun xs r p h hp => by
  simp only [sIsSpan] at h
  split at h
  · rename_i a1 aK a2 aL a3 c1 cK c2 cL c3
    cases h
    cases h1 : decide (a1 = c1) with
    | false =>
      cases a3 <;> cases c3
      all_goals
        refine At.ok (fuel := 60) (hs := [false]) S24_ok Tryz.func8 (by kernel_rfl) ?_
        simp (maxSteps := 10000000) only [Tryz.f8, go_sem, h1, Bool.false_and, Nat.reduceAdd, Nat.reduceSub, Nat.reduceMul, Int.reduceAdd, Int.reduceSub, Int.reduceToNat]
        and_intros
        all_goals first | with_reducible rfl | omega | (grind)
    | true =>
      cases h2 : decide (a2 = c2) with
      | false =>
        cases a3 <;> cases c3
        all_goals
          refine At.ok (fuel := 60) (hs := [true, false]) S24_ok Tryz.func8 (by kernel_rfl) ?_
          simp (maxSteps := 10000000) only [Tryz.f8, go_sem, h1, h2, Bool.and_false, Bool.false_and, Nat.reduceAdd, Nat.reduceSub, Nat.reduceMul, Int.reduceAdd, Int.reduceSub, Int.reduceToNat]
          and_intros
          all_goals first | with_reducible rfl | omega | (grind)
      | true =>
        cases a3 <;> cases c3
        all_goals
          refine At.ok (fuel := 60) (hs := [true, true]) S24_ok Tryz.func8 (by kernel_rfl) ?_
          simp (maxSteps := 10000000) only [Tryz.f8, go_sem, h1, h2, Bool.and_true, Bool.and_false, BEq.rfl, beq_self_eq_true, Bool.true_beq, Bool.false_beq, Bool.not_true, Bool.not_false, Nat.reduceAdd, Nat.reduceSub, Nat.reduceMul, Int.reduceAdd, Int.reduceSub, Int.reduceToNat]
          and_intros
          all_goals first | with_reducible rfl | omega | (grind)
  · cases h)
@[go_sem] def S25 : List Spec := sIs10 :: sIsSpan :: S24
theorem S25_ok : AllOk Tryz.prog S25 := ⟨sIs10_ok, sIsSpan_ok, S24_ok⟩
end Go.Proofs.YtbobhhnhlgdkiaaGreat.Sy

/- Boxes and rays: a place of a ray is in the box just if it lies on the span. -/
namespace Go.Proofs.YtbobhhnhlgdkiaaGreat.Sy
open Go Go.RowKit M Kahn
set_option maxRecDepth 100000

theorem btw_iff {a b c : Rat} : btw a b c = true ↔ b ≤ a ∧ a ≤ c := by unfold btw; simp
theorem mul_le_pos {e s d : Rat} (hd : 0 < d) : e * d ≤ s * d ↔ e ≤ s := by
  constructor
  · intro h
    rcases Rat.le_total (a := e) (b := s) with k | k
    · exact k
    · by_cases he : e = s
      · rw [he]; exact Rat.le_refl
      · have h1 : 0 < e - s := by grind
        have := Rat.mul_pos h1 hd
        grind
  · intro h
    have h1 : 0 ≤ s - e := by grind
    have := Rat.mul_nonneg h1 (Rat.le_of_lt hd)
    grind
/-- The first and the last place at which a number that moves is between two ends. -/
def enA (o d lo hi : Rat) : Rat := if 0 < d then (lo - o) / d else (hi - o) / d
def exA (o d lo hi : Rat) : Rat := if 0 < d then (hi - o) / d else (lo - o) / d
theorem ax_iff {o d lo hi s : Rat} (hd : ¬ d = 0) : btw (o + s * d) lo hi = true ↔ enA o d lo hi ≤ s ∧ s ≤ exA o d lo hi := by
  rw [btw_iff]
  have k1 : (lo - o) / d * d = lo - o := Rat.div_mul_cancel hd
  have k2 : (hi - o) / d * d = hi - o := Rat.div_mul_cancel hd
  unfold enA exA
  by_cases h : 0 < d
  · rw [if_pos h, if_pos h, ← mul_le_pos h (e := (lo - o) / d), ← mul_le_pos h (e := s) (s := (hi - o) / d), k1, k2]
    constructor <;> rintro ⟨a, b⟩ <;> constructor <;> grind
  · have hn : 0 < -d := by grind
    rw [if_neg h, if_neg h, ← mul_le_pos hn (e := (hi - o) / d), ← mul_le_pos hn (e := s) (s := (lo - o) / d)]
    generalize (lo - o) / d = A at *
    generalize (hi - o) / d = B at *
    constructor <;> rintro ⟨a, b⟩ <;> constructor <;> grind
theorem en_mem {o d lo hi : Rat} (hd : ¬ d = 0) (h : 0 ≤ enA o d lo hi) : enA o d lo hi ∈ edl o d lo hi := by
  unfold enA at *
  unfold edl edl1
  rw [if_neg hd]
  split at h
  · rename_i hp; rw [if_pos hp, if_pos h]; simp
  · rename_i hp; rw [if_neg hp, if_pos h]; simp
theorem ex_mem {o d lo hi : Rat} (hd : ¬ d = 0) (h : 0 ≤ exA o d lo hi) : exA o d lo hi ∈ edl o d lo hi := by
  unfold exA at *
  unfold edl edl1
  rw [if_neg hd]
  split at h
  · rename_i hp; rw [if_pos hp, if_pos h]; simp
  · rename_i hp; rw [if_neg hp, if_pos h]; simp
theorem edl_nn {o d lo hi s : Rat} (h : s ∈ edl o d lo hi) : 0 ≤ s := by
  unfold edl edl1 at h
  split at h
  · cases h
  · rcases List.mem_append.1 h with h | h <;> (split at h <;> simp at h) <;> (subst h; assumption)
theorem mn_le {a b : Rat} : mn a b ≤ a ∧ mn a b ≤ b ∧ (mn a b = a ∨ mn a b = b) := by unfold mn; split <;> grind
theorem mx_le {a b : Rat} : a ≤ mx a b ∧ b ≤ mx a b ∧ (mx a b = a ∨ mx a b = b) := by unfold mx; split <;> grind
/-- What a fold over places tells. -/
structure CfIs (h : Rat → Bool) (l : List Rat) (r : Bool × Rat × Rat) : Prop where
  no : r.1 = false → ∀ s ∈ l, h s = false
  lo : r.1 = true → h r.2.1 = true ∧ r.2.1 ∈ l ∧ ∀ s ∈ l, h s = true → r.2.1 ≤ s
  hi : r.1 = true → h r.2.2 = true ∧ r.2.2 ∈ l ∧ ∀ s ∈ l, h s = true → s ≤ r.2.2
theorem CfIs.step {h : Rat → Bool} {l : List Rat} {r : Bool × Rat × Rat} (k : CfIs h l r) (s : Rat) : CfIs h (l ++ [s]) (cst h r s) := by
  cases hs : h s with
  | false =>
    rw [cst_no hs]
    refine ⟨fun e t ht => ?_, fun e => ?_, fun e => ?_⟩
    · rcases List.mem_append.1 ht with ht | ht
      · exact k.no e t ht
      · rw [List.mem_singleton] at ht; rw [ht]; exact hs
    · obtain ⟨a, b, c⟩ := k.lo e
      refine ⟨a, List.mem_append_left _ b, fun t ht hh => ?_⟩
      rcases List.mem_append.1 ht with ht | ht
      · exact c t ht hh
      · rw [List.mem_singleton] at ht; rw [ht, hs] at hh; cases hh
    · obtain ⟨a, b, c⟩ := k.hi e
      refine ⟨a, List.mem_append_left _ b, fun t ht hh => ?_⟩
      rcases List.mem_append.1 ht with ht | ht
      · exact c t ht hh
      · rw [List.mem_singleton] at ht; rw [ht, hs] at hh; cases hh
  | true =>
    cases hr : r.1 with
    | false =>
      rw [cst_first hs hr]
      have e1 : mn s s = s := by unfold mn; split <;> rfl
      have e2 : mx s s = s := by unfold mx; split <;> rfl
      rw [e1, e2]
      have hn : ∀ t ∈ l ++ [s], h t = true → t = s := fun t ht hh => by
        rcases List.mem_append.1 ht with ht | ht
        · rw [k.no hr t ht] at hh; cases hh
        · exact List.mem_singleton.1 ht
      exact ⟨nofun, fun _ => ⟨hs, by simp, fun t ht hh => by rw [hn t ht hh]; exact Rat.le_refl⟩, fun _ => ⟨hs, by simp, fun t ht hh => by rw [hn t ht hh]; exact Rat.le_refl⟩⟩
    | true =>
      rw [cst_more hs hr]
      obtain ⟨a, b, c⟩ := k.lo hr
      obtain ⟨a', b', c'⟩ := k.hi hr
      obtain ⟨m1, m2, m3⟩ := mn_le (a := r.2.1) (b := s)
      obtain ⟨x1, x2, x3⟩ := mx_le (a := r.2.2) (b := s)
      refine ⟨nofun, fun _ => ⟨?_, ?_, fun t ht hh => ?_⟩, fun _ => ⟨?_, ?_, fun t ht hh => ?_⟩⟩
      · rcases m3 with e | e <;> simp only [e] <;> assumption
      · rcases m3 with e | e <;> simp only [e]
        · exact List.mem_append_left _ b
        · simp
      · rcases List.mem_append.1 ht with ht | ht
        · exact Rat.le_trans m1 (c t ht hh)
        · rw [List.mem_singleton.1 ht]; exact m2
      · rcases x3 with e | e <;> simp only [e] <;> assumption
      · rcases x3 with e | e <;> simp only [e]
        · exact List.mem_append_left _ b'
        · simp
      · rcases List.mem_append.1 ht with ht | ht
        · exact Rat.le_trans (c' t ht hh) x1
        · rw [List.mem_singleton.1 ht]; exact x2
theorem cf_is (h : Rat → Bool) (l : List Rat) : ∀ i, CfIs h (l.take i) (cf h (l.take i))
  | 0 => ⟨fun _ s hs => by simp at hs, nofun, nofun⟩
  | i + 1 => by
    cases hx : l[i]? with
    | none =>
      have : l.take (i + 1) = l.take i := by rw [List.take_add_one, hx]; simp
      rw [this]; exact cf_is h l i
    | some s =>
      rw [cf_take hx, List.take_add_one, hx]
      exact (cf_is h l i).step s
theorem cf_all (h : Rat → Bool) (l : List Rat) : CfIs h l (cf h l) := by
  have := cf_is h l l.length
  rwa [List.take_length] at this
section
variable {o d lo hi s : Rat}
theorem ax_zero {t : Rat} (hd : d = 0) (h : btw (o + s * d) lo hi = true) : btw (o + t * d) lo hi = true := by
  subst hd
  rw [Rat.mul_zero] at *
  exact h
theorem ax_mid {p q : Rat} (h1 : btw (o + p * d) lo hi = true) (h2 : btw (o + q * d) lo hi = true) (k1 : p ≤ s) (k2 : s ≤ q) : btw (o + s * d) lo hi = true := by
  by_cases hd : d = 0
  · exact ax_zero hd h1
  · rw [ax_iff hd] at *
    exact ⟨Rat.le_trans h1.1 k1, Rat.le_trans k2 h2.2⟩
def loA (o d lo hi : Rat) : Rat := if d = 0 then 0 else enA o d lo hi
theorem loA_le (hs : 0 ≤ s) (h : btw (o + s * d) lo hi = true) : loA o d lo hi ≤ s := by
  unfold loA
  split
  · exact hs
  · rename_i hd; exact ((ax_iff hd).1 h).1
theorem loA_hold {t : Rat} (h : btw (o + s * d) lo hi = true) (h1 : loA o d lo hi ≤ t) (h2 : t ≤ s) : btw (o + t * d) lo hi = true := by
  unfold loA at h1
  split at h1
  · rename_i hd; exact ax_zero hd h
  · rename_i hd; exact (ax_iff hd).2 ⟨h1, Rat.le_trans h2 ((ax_iff hd).1 h).2⟩
theorem loA_mem (h : 0 ≤ loA o d lo hi) : loA o d lo hi = 0 ∨ loA o d lo hi ∈ edl o d lo hi := by
  unfold loA at *
  split at h
  · rename_i hd; rw [if_pos hd]; exact .inl rfl
  · rename_i hd; rw [if_neg hd]; exact .inr (en_mem hd h)
def hiA (o d lo hi M : Rat) : Rat := if d = 0 then M else exA o d lo hi
theorem hiA_ge {M : Rat} (hM : s ≤ M) (h : btw (o + s * d) lo hi = true) : s ≤ hiA o d lo hi M := by
  unfold hiA
  split
  · exact hM
  · rename_i hd; exact ((ax_iff hd).1 h).2
theorem hiA_hold {M t : Rat} (h : btw (o + s * d) lo hi = true) (h1 : t ≤ hiA o d lo hi M) (h2 : s ≤ t) : btw (o + t * d) lo hi = true := by
  unfold hiA at h1
  split at h1
  · rename_i hd; exact ax_zero hd h
  · rename_i hd; exact (ax_iff hd).2 ⟨Rat.le_trans ((ax_iff hd).1 h).1 h2, h1⟩
end
theorem inB_iff {b : B6} {o d : V3} {s : Rat} : inB b (onR o d s) = true ↔ btw (o.1 + s * d.1) b.1.1 b.2.1 = true ∧ btw (o.2.1 + s * d.2.1) b.1.2.1 b.2.2.1 = true ∧ btw (o.2.2 + s * d.2.2) b.1.2.2 b.2.2.2 = true := by
  unfold inB onR
  simp only [Bool.and_eq_true]
  exact ⟨fun ⟨⟨a, b⟩, c⟩ => ⟨a, b, c⟩, fun ⟨a, b, c⟩ => ⟨⟨a, b⟩, c⟩⟩
theorem cl0_nn {o d : V3} {b : B6} {s : Rat} (h : s ∈ cl0 o d b) : 0 ≤ s := by
  unfold cl0 at h
  rcases List.mem_cons.1 h with rfl | h
  · exact Rat.le_refl
  · rcases List.mem_append.1 h with h | h
    · rcases List.mem_append.1 h with h | h <;> exact edl_nn h
    · exact edl_nn h
/-- A place, not below 0, is in the box just if it lies on the span. -/
theorem within {o d : V3} {b : B6} {s : Rat} (hs : 0 ≤ s) {r : Bool × Rat × Rat} (k : CfIs (fun s => inB b (onR o d s)) (cl0 o d b) r) :
    inB b (onR o d s) = (r.1 && (decide (r.2.1 ≤ s) && (still d || decide (s ≤ r.2.2)))) := by
  rw [Bool.eq_iff_iff]
  simp only [Bool.and_eq_true, Bool.or_eq_true, decide_eq_true_eq]
  constructor
  · intro h
    obtain ⟨h1, h2, h3⟩ := inB_iff.1 h
    -- the first place
    obtain ⟨t, t1, t2, t3⟩ : ∃ t, t ∈ cl0 o d b ∧ inB b (onR o d t) = true ∧ t ≤ s := by
      obtain ⟨a1, a2, a3⟩ := mx_le (a := 0) (b := loA o.1 d.1 b.1.1 b.2.1)
      obtain ⟨b1, b2, b3⟩ := mx_le (a := mx 0 (loA o.1 d.1 b.1.1 b.2.1)) (b := loA o.2.1 d.2.1 b.1.2.1 b.2.2.1)
      obtain ⟨c1, c2, c3⟩ := mx_le (a := mx (mx 0 (loA o.1 d.1 b.1.1 b.2.1)) (loA o.2.1 d.2.1 b.1.2.1 b.2.2.1)) (b := loA o.2.2 d.2.2 b.1.2.2 b.2.2.2)
      have l1 := loA_le hs h1
      have l2 := loA_le hs h2
      have l3 := loA_le hs h3
      have m1 := loA_mem (o := o.1) (d := d.1) (lo := b.1.1) (hi := b.2.1)
      have m2 := loA_mem (o := o.2.1) (d := d.2.1) (lo := b.1.2.1) (hi := b.2.2.1)
      have m3 := loA_mem (o := o.2.2) (d := d.2.2) (lo := b.1.2.2) (hi := b.2.2.2)
      have g1 := fun t => loA_hold (t := t) h1
      have g2 := fun t => loA_hold (t := t) h2
      have g3 := fun t => loA_hold (t := t) h3
      generalize loA o.1 d.1 b.1.1 b.2.1 = A at *
      generalize loA o.2.1 d.2.1 b.1.2.1 b.2.2.1 = B at *
      generalize loA o.2.2 d.2.2 b.1.2.2 b.2.2.2 = C at *
      generalize mx 0 A = X at *
      generalize mx X B = Y at *
      generalize mx Y C = Z at *
      have z0 : 0 ≤ Z := by grind
      have zs : Z ≤ s := by grind
      refine ⟨Z, ?_, inB_iff.2 ⟨g1 Z (by grind) zs, g2 Z (by grind) zs, g3 Z (by grind) zs⟩, zs⟩
      unfold cl0
      have hz : Z = 0 ∨ Z = A ∨ Z = B ∨ Z = C := by grind
      rcases hz with e | e | e | e
      · rw [e]; exact List.mem_cons_self ..
      · rcases m1 (by rw [← e]; exact z0) with e' | e'
        · rw [e, e']; exact List.mem_cons_self ..
        · rw [e]; exact List.mem_cons_of_mem _ (List.mem_append_left _ (List.mem_append_left _ e'))
      · rcases m2 (by rw [← e]; exact z0) with e' | e'
        · rw [e, e']; exact List.mem_cons_self ..
        · rw [e]; exact List.mem_cons_of_mem _ (List.mem_append_left _ (List.mem_append_right _ e'))
      · rcases m3 (by rw [← e]; exact z0) with e' | e'
        · rw [e, e']; exact List.mem_cons_self ..
        · rw [e]; exact List.mem_cons_of_mem _ (List.mem_append_right _ e')
    have hm : r.1 = true := by
      cases hr : r.1 with
      | true => rfl
      | false =>
        have := k.no hr t t1
        simp only [t2] at this
        cases this
    refine ⟨hm, Rat.le_trans ((k.lo hm).2.2 t t1 t2) t3, ?_⟩
    cases hst : still d with
    | true => exact .inl rfl
    | false =>
      right
      unfold still at hst
      have hnd := of_decide_eq_false hst
      obtain ⟨t, t1, t2, t3⟩ : ∃ t, t ∈ cl0 o d b ∧ inB b (onR o d t) = true ∧ s ≤ t := by
        obtain ⟨M, hM0, hM1, hM2, hM3⟩ : ∃ M, s ≤ M ∧ exA o.1 d.1 b.1.1 b.2.1 ≤ M ∧ exA o.2.1 d.2.1 b.1.2.1 b.2.2.1 ≤ M ∧ exA o.2.2 d.2.2 b.1.2.2 b.2.2.2 ≤ M := by
          obtain ⟨a1, a2, _⟩ := mx_le (a := s) (b := exA o.1 d.1 b.1.1 b.2.1)
          obtain ⟨b1, b2, _⟩ := mx_le (a := mx s (exA o.1 d.1 b.1.1 b.2.1)) (b := exA o.2.1 d.2.1 b.1.2.1 b.2.2.1)
          obtain ⟨c1, c2, _⟩ := mx_le (a := mx (mx s (exA o.1 d.1 b.1.1 b.2.1)) (exA o.2.1 d.2.1 b.1.2.1 b.2.2.1)) (b := exA o.2.2 d.2.2 b.1.2.2 b.2.2.2)
          exact ⟨_, by grind, by grind, by grind, c2⟩
        obtain ⟨a1, a2, a3⟩ := mn_le (a := hiA o.1 d.1 b.1.1 b.2.1 M) (b := hiA o.2.1 d.2.1 b.1.2.1 b.2.2.1 M)
        obtain ⟨b1, b2, b3⟩ := mn_le (a := mn (hiA o.1 d.1 b.1.1 b.2.1 M) (hiA o.2.1 d.2.1 b.1.2.1 b.2.2.1 M)) (b := hiA o.2.2 d.2.2 b.1.2.2 b.2.2.2 M)
        have l1 := hiA_ge hM0 h1
        have l2 := hiA_ge hM0 h2
        have l3 := hiA_ge hM0 h3
        have g1 := fun t => hiA_hold (t := t) (M := M) h1
        have g2 := fun t => hiA_hold (t := t) (M := M) h2
        have g3 := fun t => hiA_hold (t := t) (M := M) h3
        have e1 : ¬ d.1 = 0 → hiA o.1 d.1 b.1.1 b.2.1 M = exA o.1 d.1 b.1.1 b.2.1 := fun h => if_neg h
        have e2 : ¬ d.2.1 = 0 → hiA o.2.1 d.2.1 b.1.2.1 b.2.2.1 M = exA o.2.1 d.2.1 b.1.2.1 b.2.2.1 := fun h => if_neg h
        have e3 : ¬ d.2.2 = 0 → hiA o.2.2 d.2.2 b.1.2.2 b.2.2.2 M = exA o.2.2 d.2.2 b.1.2.2 b.2.2.2 := fun h => if_neg h
        have f1 : d.1 = 0 → hiA o.1 d.1 b.1.1 b.2.1 M = M := fun h => if_pos h
        have f2 : d.2.1 = 0 → hiA o.2.1 d.2.1 b.1.2.1 b.2.2.1 M = M := fun h => if_pos h
        have f3 : d.2.2 = 0 → hiA o.2.2 d.2.2 b.1.2.2 b.2.2.2 M = M := fun h => if_pos h
        have m1 := fun h => ex_mem (o := o.1) (d := d.1) (lo := b.1.1) (hi := b.2.1) h
        have m2 := fun h => ex_mem (o := o.2.1) (d := d.2.1) (lo := b.1.2.1) (hi := b.2.2.1) h
        have m3 := fun h => ex_mem (o := o.2.2) (d := d.2.2) (lo := b.1.2.2) (hi := b.2.2.2) h
        generalize hiA o.1 d.1 b.1.1 b.2.1 M = A at *
        generalize hiA o.2.1 d.2.1 b.1.2.1 b.2.2.1 M = B at *
        generalize hiA o.2.2 d.2.2 b.1.2.2 b.2.2.2 M = C at *
        generalize mn A B = X at *
        generalize mn X C = Z at *
        have zs : s ≤ Z := by grind
        have z0 : 0 ≤ Z := by grind
        refine ⟨Z, ?_, inB_iff.2 ⟨g1 Z (by grind) zs, g2 Z (by grind) zs, g3 Z (by grind) zs⟩, zs⟩
        unfold cl0
        have hz : (¬ d.1 = 0 ∧ Z = exA o.1 d.1 b.1.1 b.2.1) ∨ (¬ d.2.1 = 0 ∧ Z = exA o.2.1 d.2.1 b.1.2.1 b.2.2.1) ∨ (¬ d.2.2 = 0 ∧ Z = exA o.2.2 d.2.2 b.1.2.2 b.2.2.2) := by
          clear g1 g2 g3 m1 m2 m3
          generalize exA o.1 d.1 b.1.1 b.2.1 = E1 at *
          generalize exA o.2.1 d.2.1 b.1.2.1 b.2.2.1 = E2 at *
          generalize exA o.2.2 d.2.2 b.1.2.2 b.2.2.2 = E3 at *
          by_cases q1 : d.1 = 0 <;> by_cases q2 : d.2.1 = 0 <;> by_cases q3 : d.2.2 = 0
          · exact absurd ⟨q1, q2, q3⟩ hnd
          all_goals
            simp only [q1, q2, q3, not_true_eq_false, not_false_eq_true, false_and, true_and, false_or, or_false, forall_const, false_implies] at *
            grind
        rcases hz with ⟨q, e⟩ | ⟨q, e⟩ | ⟨q, e⟩
        · rw [e]; exact List.mem_cons_of_mem _ (List.mem_append_left _ (List.mem_append_left _ (m1 q (by rw [← e]; exact z0))))
        · rw [e]; exact List.mem_cons_of_mem _ (List.mem_append_left _ (List.mem_append_right _ (m2 q (by rw [← e]; exact z0))))
        · rw [e]; exact List.mem_cons_of_mem _ (List.mem_append_right _ (m3 q (by rw [← e]; exact z0)))
      exact Rat.le_trans t3 ((k.hi hm).2.2 t t1 t2)
  · rintro ⟨hm, h1, h2⟩
    obtain ⟨p1, p2, p3⟩ := inB_iff.1 (k.lo hm).1
    obtain ⟨q1, q2, q3⟩ := inB_iff.1 (k.hi hm).1
    rw [inB_iff]
    rcases h2 with h2 | h2
    · unfold still at h2
      obtain ⟨z1, z2, z3⟩ := of_decide_eq_true h2
      exact ⟨ax_zero z1 p1, ax_zero z2 p2, ax_zero z3 p3⟩
    · exact ⟨ax_mid p1 q1 h1 h2, ax_mid p2 q2 h1 h2, ax_mid p3 q3 h1 h2⟩
end Go.Proofs.YtbobhhnhlgdkiaaGreat.Sy
