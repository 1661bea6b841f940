/- append([]uint32{}, xs...): a copy in new memory; inside a region that draws its order. -/
import Derived.Test.YtagjjhaokhobhaaAe
namespace Go.Proofs.Ytagjjhaokhobhaa
open Go.RowKit M Kahn

/-- A list without limbs, as '[]uint32{}' makes it, at block B or behind it. -/
def VE (B : Nat) : Value → World → Prop := fun v u => ∃ g, v = .slice (some ⟨g, 0, none⟩) 0 0 ∧ B ≤ g ∧ u.heap[g]? = some (.cells #[] 40 (0, 0))
theorem VE.lasts (B : Nat) : Lasts (VE B) := fun _ u _ hb ⟨g, h1, h2, h3⟩ => ⟨g, h1, h2, by rw [hb.block g (Array.getElem?_eq_some_iff.1 h3).1]; exact h3⟩
/-- An own row of limbs, at block B or behind it. -/
def VO (ys : List Nat) (B : Nat) : Value → World → Prop := fun v u => ∃ ao n c, v = .slice ao n c ∧ Ow B u (.slice ao n c) ys
theorem VO.lasts (ys : List Nat) (B : Nat) : Lasts (VO ys B) := fun _ _ _ hb ⟨ao, n, c, h1, h2⟩ => ⟨ao, n, c, h1, h2.later hb⟩

theorem Ow.nw {B n cap : Nat} {w : World} {ao : Option Addr} {zs : List Nat} (h : Ow B w (.slice ao n cap) zs) : Nw B ao := ⟨fun a ha => by
  subst ha
  exact (h.own.lt a.block rfl).1⟩

theorem app_copy (u : World) (B g : Nat) (hg : u.heap[g]? = some (.cells #[] 40 (0, 0))) (hB : B ≤ g) {bo : Option Addr} {m bcap : Nat} {ys : List Nat} (h : Sl u.heap.size u bo m bcap ys) (hm : m ≤ 1099511627776) (ty : TypeId) :
    ∃ ao cap u', (Builtin.append_ #[22, 22] ty #[.slice (some ⟨g, 0, none⟩) 0 0, .slice bo m bcap]).run Try.prog u = .ok (.slice ao m cap) u' ∧ Ow B u' (.slice ao m cap) ys ∧ Below u.heap.size u u' := by
  obtain ⟨i0, hi, hz0, hz1, hz2⟩ := info_parts info38
  have hgl : g < u.heap.size := (Array.getElem?_eq_some_iff.1 hg).1
  have how : u.ownsRow B 40 1 (.slice (some ⟨g, 0, none⟩) 0 0) 0 [] := ⟨rfl, .inr ⟨g, 0, #[], rfl, hB, hg, Nat.le_refl _, by unfold maxLen; omega, by simp, by simp⟩⟩
  cases bo with
  | none =>
    have hc := h.nilc rfl
    have hm0 : m = 0 := by have := h.le; omega
    subst hc
    subst hm0
    obtain rfl : ys = [] := List.eq_nil_of_length_eq_zero h.len
    exact ⟨_, 0, u, run_append_owned_none (P := Try.prog) (w := u) B _ ty _ i0 1 Try.underlying22 hi _ 0 [] how, ⟨Lim.nil, how⟩, Below.refl _ _⟩
  | some ad =>
    have hcell : ∀ j v, (ys.map fun x : Nat => Value.int .u32 (x : Int))[j]? = some v → u.cell? (ad.add j) = some v := by
      intro j v hj
      rw [List.getElem?_map] at hj
      have hjm : j < m := by
        by_cases hjm : j < m
        · exact hjm
        · rw [List.getElem?_eq_none (by rw [h.len]; omega)] at hj; simp at hj
      obtain ⟨b, p, h1, h2, h3⟩ := h.there (by omega)
      simp only [Option.some.injEq] at h1
      subst h1
      have hadd : (⟨b, p, none⟩ : Addr).add j = ⟨b, p + j, none⟩ := by unfold Addr.add; split <;> simp_all
      rw [hadd, h3 j hjm]
      rw [List.getElem?_eq_getElem (by rw [h.len]; exact hjm)] at hj
      simp at hj
      rw [← hj, List.getD_eq_getElem?_getD, List.getElem?_eq_getElem (by rw [h.len]; exact hjm)]
      rfl
    have hlm : (ys.map fun x : Nat => Value.int .u32 (x : Int)).length = m * 1 := by rw [List.length_map, h.len]; omega
    have hone : ∀ v ∈ (ys.map fun x : Nat => Value.int .u32 (x : Int)), v.oneCell' = true := by
      intro v hv; simp at hv; obtain ⟨x, _, rfl⟩ := hv; rfl
    obtain ⟨v', w', hr, ho', _, _⟩ := run_append_own (P := Try.prog) u B 22 ty 40 i0 (.int .u32 0) 1 4 Try.underlying22 hi hz0 hz1 hz2 rfl (by decide) _ 0 [] how ad m bcap _ hlm hcell hone (by unfold maxLen; omega) (by omega) (by omega)
    rw [Nat.zero_add, List.nil_append] at ho'
    by_cases hm0 : m = 0
    · subst hm0
      obtain rfl : ys = [] := List.eq_nil_of_length_eq_zero h.len
      have he := run_append_room (P := Try.prog) u 22 ty 40 i0 Try.underlying22 hi g 0 0 #[] hg ad 0 bcap [] (by simp) (fun j v hv => by simp at hv) (fun v hv => by cases hv) (Nat.le_refl _) (by simp)
      rw [hr] at he
      simp only [Result.ok.injEq] at he
      obtain ⟨rfl, rfl⟩ := he
      refine ⟨_, 0, _, hr, ⟨Lim.nil, ho'⟩, ?_⟩
      refine ⟨rfl, rfl, rfl, by simp, fun k _ => ?_⟩
      by_cases hk : k = g
      · subst hk
        rw [setRow_heap u k #[] _ _ _ hg, hg]
        simp
      · exact setRow_other u g k _ hk
    · have hfits := growslice_fits (need := 0 + m) (old := 0) (bytes := 4) (by omega) (by omega)
      have he := run_append_grow (P := Try.prog) u 22 ty 40 i0 (.int .u32 0) Try.underlying22 hi hz0 ⟨g, 0, none⟩ 0 0 [] (by simp) (fun j v hv => by simp at hv) ad m bcap _ (by rw [hz1]; exact hlm) hcell (by omega) (by omega) (by rw [hz2]; exact hfits)
      rw [hr] at he
      simp only [Result.ok.injEq] at he
      obtain ⟨rfl, rfl⟩ := he
      rw [Nat.zero_add] at hr ho'
      refine ⟨_, _, _, hr, ⟨h.lim, by rw [h.len]; exact ho'⟩, ?_⟩
      exact ⟨rfl, rfl, rfl, by simp, fun k hk => heap_alloc_old u.drew _ hk⟩

theorem Kahn.Goes.app {P : Program} {o : Oper} {ρ : Operand → Value} {u u' : World} {R : Value → World → Prop} {v y v' : Value} {t : TypeId} (s x : Operand) (ho : o.op = .call { callee := .builtin .append, args := #[s, x], argTypes := #[t, t] })
    (hs : ρ s = v) (hx : ρ x = y) (hr : (Builtin.append_ #[t, t] o.type #[v, y]).run P u = .ok v' u') (hR : R v' u') : Goes P o ρ u R := by
  unfold Goes execOp
  simp only [ho, resolve, invoke, builtin, Sem.run_bind, Sem.run_pure, Result.andThen_ok, List.map_toArray, List.map_cons, List.map_nil, hs, hx, hr]
  exact hR
end Go.Proofs.Ytagjjhaokhobhaa

/- Lists of Rats with rows of their own: for RatCanon. -/
namespace Go.Proofs.Ytagjjhaokhobhaa
open Go.RowKit M Kahn

/-- A row at B or behind it reads as before, where a block ahead of B is written. -/
theorem Sl.far {u u' : World} {B g n cap : Nat} {ao : Option Addr} {xs : List Nat} (h : Sl u.heap.size u ao n cap xs) (hn : Nw B ao) (hf : Fr g u u') (hg : g < B) : Sl u'.heap.size u' ao n cap xs := by
  refine ⟨h.len, h.le, h.lim, fun h0 => ?_, h.nilc⟩
  obtain ⟨b, o, h1, h2, h3⟩ := h.there h0
  have hb : B ≤ b := hn.ge _ h1
  refine ⟨b, o, h1, by rw [hf.size]; exact h2, fun i hi => ?_⟩
  rw [World.cell?_of_block (w := u) (a := ⟨b, o + i, none⟩) (hf.block b (by omega))]
  exact h3 i hi
theorem Cq.far {u u' : World} {B g : Nat} {s : Bool} {no : Option Addr} {nn nc : Nat} {eo : Option Addr} {en ec : Nat} {q : Rat} {K : Nat} (h : Cq u s no nn nc eo en ec q K) (h1 : Nw B no) (h2 : Nw B eo) (hf : Fr g u u') (hg : g < B) : Cq u' s no nn nc eo en ec q K :=
  ⟨h.sgn, h.num.far h1 hf hg, h.den.far h2 hf hg, h.ln, h.ld⟩
theorem Ow.far {B n cap g : Nat} {w w' : World} {ao : Option Addr} {zs : List Nat} (h : Ow B w (.slice ao n cap) zs) (hf : Fr g w w') (hg : g < B) : Ow B w' (.slice ao n cap) zs :=
  h.keep fun k hk => hf.block k (by have := h.nw.ge _ hk; simp at this; omega)

/-- A row of limbs stays where a Rat's block is written. -/
theorem Ow.apart {B n cap : Nat} {w : World} {ao : Option Addr} {zs : List Nat} (h : Ow B w (.slice ao n cap) zs) {k : Nat} {cur : Array Value} (hc : w.heap[k]? = some (.cells cur 24 (0, 0))) : ao ≠ some ⟨k, 0, Option.none⟩ := by
  intro he
  subst he
  rcases h.own.2 with ⟨h1, _⟩ | ⟨g, cap', cur', h1, _, h3, _⟩
  · simp at h1
  · simp only [Value.slice.injEq, Option.some.injEq, Addr.mk.injEq] at h1
    obtain ⟨⟨rfl, _⟩, _⟩ := h1
    rw [h3] at hc
    simp only [Option.some.injEq, Obj.cells.injEq] at hc
    exact absurd hc.2.1 (by decide)
theorem Ow.store {B n cap g : Nat} {w w' : World} {ao : Option Addr} {zs : List Nat} {a b c : Value} (h : Ow B w (.slice ao n cap) zs) (hb : Rb w g a b c) (hf : Fr g w w') : Ow B w' (.slice ao n cap) zs :=
  h.keep fun k hk => hf.block k (fun e => h.apart hb.at_ (by rw [← e]; exact hk))
/-- A Rat of two own rows. -/
def VX (s : Bool) (xs ys : List Nat) (B : Nat) : Value → World → Prop := fun v u => ∃ o1 n1 c1 o2 n2 c2, v = .agg #[.bool s, .slice o1 n1 c1, .slice o2 n2 c2] ∧ Ow B u (.slice o1 n1 c1) xs ∧ Ow B u (.slice o2 n2 c2) ys
theorem VX.lasts (s : Bool) (xs ys : List Nat) (B : Nat) : Lasts (VX s xs ys B) := fun _ _ _ hb ⟨o1, n1, c1, o2, n2, c2, h1, h2, h3⟩ => ⟨o1, n1, c1, o2, n2, c2, h1, h2.later hb, h3.later hb⟩

/-- Canonical Rats, their rows at B or behind it. -/
def CL (u : World) (K B : Nat) : List RP → List Rat → Prop
  | [], [] => True
  | r :: rs, q :: qs => (Cq u r.s r.no r.nn r.nc r.eo r.en r.ec q K ∧ Nw B r.no ∧ Nw B r.eo) ∧ CL u K B rs qs
  | _, _ => False
theorem CL.len {u : World} {K B : Nat} : ∀ {rs : List RP} {qs : List Rat}, CL u K B rs qs → rs.length = qs.length
  | [], [], _ => rfl
  | r :: rs, q :: qs, h => by rw [List.length_cons, List.length_cons, CL.len h.2]
  | [], _ :: _, h => h.elim
  | _ :: _, [], h => h.elim
theorem CL.later {u u' : World} {K B : Nat} (hb : Below u.heap.size u u') : ∀ {rs : List RP} {qs : List Rat}, CL u K B rs qs → CL u' K B rs qs
  | [], [], _ => trivial
  | _ :: _, _ :: _, h => ⟨⟨h.1.1.later hb, h.1.2⟩, CL.later hb h.2⟩
  | [], _ :: _, h => h.elim
  | _ :: _, [], h => h.elim
theorem CL.far {u u' : World} {K B g : Nat} (hf : Fr g u u') (hg : g < B) : ∀ {rs : List RP} {qs : List Rat}, CL u K B rs qs → CL u' K B rs qs
  | [], [], _ => trivial
  | _ :: _, _ :: _, h => ⟨⟨h.1.1.far h.1.2.1 h.1.2.2 hf hg, h.1.2⟩, CL.far hf hg h.2⟩
  | [], _ :: _, h => h.elim
  | _ :: _, [], h => h.elim
theorem CL.get {u : World} {K B : Nat} : ∀ {rs : List RP} {qs : List Rat} (k : Nat), CL u K B rs qs → k < qs.length → ∃ r, rs[k]? = some r ∧ Cq u r.s r.no r.nn r.nc r.eo r.en r.ec (qs.getD k 0) K ∧ Nw B r.no ∧ Nw B r.eo
  | [], [], k, _, hk => by simp at hk
  | r :: rs, q :: qs, 0, h, _ => ⟨r, rfl, h.1.1, h.1.2.1, h.1.2.2⟩
  | r :: rs, q :: qs, k + 1, h, hk => by
    obtain ⟨r', h1, h2⟩ := CL.get k h.2 (by simpa using hk)
    exact ⟨r', by simpa using h1, by simpa using h2⟩
  | [], _ :: _, _, h, _ => h.elim
  | _ :: _, [], _, h, _ => h.elim

/-- Copies of canonical Rats, in own rows at B or behind it. -/
def SLo (u : World) (B : Nat) : List RP → List Rat → Prop
  | [], [] => True
  | r :: rs, q :: qs => (r.s = decide (q.num < 0) ∧ Ow B u (.slice r.no r.nn r.nc) (toL q.num.natAbs) ∧ Ow B u (.slice r.eo r.en r.ec) (toL q.den)) ∧ SLo u B rs qs
  | _, _ => False
theorem SLo.len {u : World} {B : Nat} : ∀ {rs : List RP} {qs : List Rat}, SLo u B rs qs → rs.length = qs.length
  | [], [], _ => rfl
  | r :: rs, q :: qs, h => by rw [List.length_cons, List.length_cons, SLo.len h.2]
  | [], _ :: _, h => h.elim
  | _ :: _, [], h => h.elim
theorem SLo.later {u u' : World} {B : Nat} (hb : Below u.heap.size u u') : ∀ {rs : List RP} {qs : List Rat}, SLo u B rs qs → SLo u' B rs qs
  | [], [], _ => trivial
  | _ :: _, _ :: _, h => ⟨⟨h.1.1, h.1.2.1.later hb, h.1.2.2.later hb⟩, SLo.later hb h.2⟩
  | [], _ :: _, h => h.elim
  | _ :: _, [], h => h.elim
theorem SLo.far {u u' : World} {B g : Nat} (hf : Fr g u u') (hg : g < B) : ∀ {rs : List RP} {qs : List Rat}, SLo u B rs qs → SLo u' B rs qs
  | [], [], _ => trivial
  | _ :: _, _ :: _, h => ⟨⟨h.1.1, h.1.2.1.far hf hg, h.1.2.2.far hf hg⟩, SLo.far hf hg h.2⟩
  | [], _ :: _, h => h.elim
  | _ :: _, [], h => h.elim
/-- Where a list of Rats grows no row of limbs is turned. -/
theorem Ow.grown {B n cap : Nat} {w w' : World} {ao : Option Addr} {zs : List Nat} {row : Option Nat} (h : Ow B w (.slice ao n cap) zs) (hg : w.grownBy w' row) (hr : ∀ k, row = some k → ∃ cur, w.heap[k]? = some (.cells cur 24 (0, 0))) : Ow B w' (.slice ao n cap) zs := by
  refine ⟨h.lim, h.own.kept hg ?_⟩
  cases hb : (Value.slice ao n cap).ownBlock with
  | none => exact .inl rfl
  | some k =>
    right
    intro he
    obtain ⟨cur, hc⟩ := hr k he.symm
    cases ao with
    | none => simp [Value.ownBlock] at hb
    | some a =>
      simp only [Value.ownBlock, Option.some.injEq] at hb
      rcases h.own.2 with ⟨h1, _⟩ | ⟨g, cap', cur', h1, _, h3, _⟩
      · simp at h1
      · simp only [Value.slice.injEq, Option.some.injEq] at h1
        rw [h1.1] at hb
        simp only at hb
        subst hb
        rw [h3] at hc
        simp only [Option.some.injEq, Obj.cells.injEq] at hc
        exact absurd hc.2.1 (by decide)
theorem SLo.grown {u u' : World} {B : Nat} {row : Option Nat} (hg : u.grownBy u' row) (hr : ∀ k, row = some k → ∃ cur, u.heap[k]? = some (.cells cur 24 (0, 0))) : ∀ {rs : List RP} {qs : List Rat}, SLo u B rs qs → SLo u' B rs qs
  | [], [], _ => trivial
  | _ :: _, _ :: _, h => ⟨⟨h.1.1, h.1.2.1.grown hg hr, h.1.2.2.grown hg hr⟩, SLo.grown hg hr h.2⟩
  | [], _ :: _, h => h.elim
  | _ :: _, [], h => h.elim
theorem SLo.snoc {u : World} {B : Nat} {r : RP} {q : Rat} (h : r.s = decide (q.num < 0) ∧ Ow B u (.slice r.no r.nn r.nc) (toL q.num.natAbs) ∧ Ow B u (.slice r.eo r.en r.ec) (toL q.den)) : ∀ {rs : List RP} {qs : List Rat}, SLo u B rs qs → SLo u B (rs ++ [r]) (qs ++ [q])
  | [], [], _ => ⟨h, trivial⟩
  | _ :: _, _ :: _, k => ⟨k.1, SLo.snoc h k.2⟩
  | [], _ :: _, k => k.elim
  | _ :: _, [], k => k.elim
theorem SLo.get {u : World} {B : Nat} : ∀ {rs : List RP} {qs : List Rat} (k : Nat), SLo u B rs qs → k < qs.length → ∃ r, rs[k]? = some r ∧ r.s = decide ((qs.getD k 0).num < 0) ∧ Ow B u (.slice r.no r.nn r.nc) (toL (qs.getD k 0).num.natAbs) ∧ Ow B u (.slice r.eo r.en r.ec) (toL (qs.getD k 0).den)
  | [], [], k, _, hk => by simp at hk
  | r :: rs, q :: qs, 0, h, _ => ⟨r, rfl, h.1.1, h.1.2.1, h.1.2.2⟩
  | r :: rs, q :: qs, k + 1, h, hk => by
    obtain ⟨r', h1, h2⟩ := SLo.get k h.2 (by simpa using hk)
    exact ⟨r', by simpa using h1, by simpa using h2⟩
  | [], _ :: _, _, h, _ => h.elim
  | _ :: _, [], _, h, _ => h.elim
theorem RP.all_append : ∀ (rs ss : List RP), RP.all (rs ++ ss) = RP.all rs ++ RP.all ss
  | [], _ => rfl
  | r :: rs, ss => by simp only [List.cons_append, RP.all, RP.all_append rs ss, List.append_assoc]
theorem RP.all_len : ∀ (rs : List RP), (RP.all rs).length = rs.length * 3
  | [] => rfl
  | r :: rs => by simp only [RP.all, List.length_append, RP.all_len rs, RP.cells, List.length_cons, List.length_nil]; omega

/-- A list of canonical Rats in a block of its own, at B or behind it, as their rows. -/
def VLC (qs : List Rat) (K B : Nat) : Value → World → Prop := fun v u => ∃ b rs, v = .slice (some ⟨b, 0, none⟩) qs.length qs.length ∧ B ≤ b ∧ u.heap[b]? = some (.cells (RP.all rs).toArray 24 (0, 0)) ∧ CL u K B rs qs
theorem VLC.lasts (qs : List Rat) (K B : Nat) : Lasts (VLC qs K B) := fun _ u _ hb ⟨b, rs, h1, h2, h3, h4⟩ => ⟨b, rs, h1, h2, by rw [hb.block b (Array.getElem?_eq_some_iff.1 h3).1]; exact h3, h4.later hb⟩

theorem own_tag {w : World} {B : Nat} {e : TypeId} {size : Nat} {v : Value} {n : Nat} {xs : List Value} (h : w.ownsRow B e size v n xs) : ∀ k, v.ownBlock = some k → ∃ cur, w.heap[k]? = some (.cells cur e (0, 0)) := by
  intro k hk
  rcases h.2 with ⟨rfl, _⟩ | ⟨g, cap, cur, rfl, _, h3, _⟩
  · simp [Value.ownBlock] at hk
  · simp only [Value.ownBlock, Option.some.injEq] at hk
    subst hk
    exact ⟨cur, h3⟩
theorem own_keep {w w' : World} {B : Nat} {e : TypeId} {size : Nat} {v : Value} {n : Nat} {xs : List Value} (h : w.ownsRow B e size v n xs) (hb : ∀ k cur, v.ownBlock = some k → w.heap[k]? = some (.cells cur e (0, 0)) → w'.heap[k]? = w.heap[k]?) : w'.ownsRow B e size v n xs := by
  refine ⟨h.1, ?_⟩
  rcases h.2 with h2 | ⟨g, cap, cur, h1, h2, h3, r⟩
  · exact .inl h2
  · exact .inr ⟨g, cap, cur, h1, h2, by rw [hb g cur (by rw [h1]; rfl) h3]; exact h3, r⟩
theorem own_later {w w' : World} {B : Nat} {e : TypeId} {size : Nat} {v : Value} {n : Nat} {xs : List Value} (h : w.ownsRow B e size v n xs) (hb : Below w.heap.size w w') : w'.ownsRow B e size v n xs :=
  own_keep h fun k _ _ hc => hb.block k (Array.getElem?_eq_some_iff.1 hc).1
theorem lit_cells {u : World} {b : Nat} {cs : Array Value} {e : TypeId} (h : u.heap[b]? = some (.cells cs e (0, 0))) : ∀ j v, cs.toList[j]? = some v → u.cell? ((⟨b, 0, none⟩ : Addr).add j) = some v := by
  intro j v hj
  have hadd : (⟨b, 0, none⟩ : Addr).add j = ⟨b, j, none⟩ := by unfold Addr.add; split <;> simp_all
  rw [hadd, cell_of_row u b j _ _ _ h]
  simpa using hj
/-- One Rat of two own rows, in a list of its own. -/
def VZ (s : Bool) (xs ys : List Nat) (B : Nat) : Value → World → Prop := fun v u => ∃ b1 o1 n1 c1 o2 n2 c2, v = .slice (some ⟨b1, 0, none⟩) 1 1 ∧ u.heap[b1]? = some (.cells #[.bool s, .slice o1 n1 c1, .slice o2 n2 c2] 24 (0, 0)) ∧ Ow B u (.slice o1 n1 c1) xs ∧ Ow B u (.slice o2 n2 c2) ys
theorem VZ.lasts (s : Bool) (xs ys : List Nat) (B : Nat) : Lasts (VZ s xs ys B) := fun _ _ _ hb ⟨b1, o1, n1, c1, o2, n2, c2, h1, h2, h3, h4⟩ => ⟨b1, o1, n1, c1, o2, n2, c2, h1, by rw [hb.block b1 (Array.getElem?_eq_some_iff.1 h2).1]; exact h2, h3.later hb, h4.later hb⟩
/-- The cells of one Rat of a list. -/
theorem row_cells {u : World} {b k : Nat} {rs : List RP} {r : RP} (h : u.heap[b]? = some (.cells (RP.all rs).toArray 24 (0, 0))) (hr : rs[k]? = some r) :
    u.cell? ⟨b, k * 3, none⟩ = some (.bool r.s) ∧ u.cell? ⟨b, k * 3 + 1, none⟩ = some (.slice r.no r.nn r.nc) ∧ u.cell? ⟨b, k * 3 + 2, none⟩ = some (.slice r.eo r.en r.ec) := by
  obtain ⟨a1, a2, a3⟩ := RP.all_get rs k r hr
  refine ⟨?_, ?_, ?_⟩ <;> rw [cell_of_row u b _ _ _ _ h]
  · simpa using a1
  · simpa using a2
  · simpa using a3

theorem infoRat : (Try.prog.info? 24).map (fun i => (i.zero, i.size, i.bytes)) = some (some (.agg #[.bool false, .slice none 0 0, .slice none 0 0]), 3, 56) := by kernel_rfl
end Go.Proofs.Ytagjjhaokhobhaa

/- What RatCanon's loops keep. -/
namespace Go.Proofs.Ytagjjhaokhobhaa
open Go.RowKit M Kahn

/-- Some row, own, of limbs, is written somewhere. -/
theorem Ow.any_set {B n cap k i v : Nat} {w : World} {ao : Option Addr} (h : ∃ zs, Ow B w (.slice ao n cap) zs) (hv : v < 4294967296) :
    ∃ zs, Ow B (w.setCell ⟨k, i, Option.none⟩ (.int .u32 (v : Int))) (.slice ao n cap) zs := by
  obtain ⟨zs, h⟩ := h
  by_cases he : ao = some ⟨k, 0, Option.none⟩
  · subst he
    exact ⟨_, h.set i hv⟩
  · refine ⟨zs, h.keep fun k' hk' => heap_setCell_other w _ k' _ (fun e => he ?_)⟩
    rw [hk']
    simp only at e
    rw [e]

structure Cst (w u : World) (gX bL bB bS K : Nat) (s : Bool) (o1 : Option Addr) (n1 c1 : Nat) (o2 : Option Addr) (n2 c2 : Nat) (rs ss : List RP) (qs : List Rat) (v9 : Value) : Prop where
  bel : Below w.heap.size w u
  box : Rb u gX (.bool s) (.slice o1 n1 c1) (.slice o2 n2 c2)
  x1 : ∃ zs, Ow w.heap.size u (.slice o1 n1 c1) zs
  x2 : ∃ zs, Ow w.heap.size u (.slice o2 n2 c2) zs
  at_ : u.heap[bL]? = some (.cells (RP.all rs).toArray 24 (0, 0))
  cl : CL u K bB rs qs
  own : u.ownsRow bS 24 3 v9 10 (RP.all ss)
  sl : SLo u bS ss qs
section
variable {w u u' : World} {gX bL bB bS K : Nat} {s : Bool} {o1 : Option Addr} {n1 c1 : Nat} {o2 : Option Addr} {n2 c2 : Nat} {rs ss : List RP} {qs : List Rat} {v9 : Value}
theorem Cst.later (h : Cst w u gX bL bB bS K s o1 n1 c1 o2 n2 c2 rs ss qs v9) (hb : Below u.heap.size u u') : Cst w u' gX bL bB bS K s o1 n1 c1 o2 n2 c2 rs ss qs v9 :=
  ⟨h.bel.trans (hb.mono h.bel.size), h.box.later hb, by obtain ⟨zs, hz⟩ := h.x1; exact ⟨zs, hz.later hb⟩, by obtain ⟨zs, hz⟩ := h.x2; exact ⟨zs, hz.later hb⟩,
    by rw [hb.block bL (Array.getElem?_eq_some_iff.1 h.at_).1]; exact h.at_, h.cl.later hb, own_later h.own hb, h.sl.later hb⟩
theorem tags_ne {k g : Nat} {cur cur' : Array Value} (h1 : u.heap[k]? = some (.cells cur 40 (0, 0))) (h2 : u.heap[g]? = some (.cells cur' 24 (0, 0))) : g ≠ k := by
  intro e
  subst e
  rw [h1] at h2
  simp only [Option.some.injEq, Obj.cells.injEq] at h2
  exact absurd h2.2.1 (by decide)
theorem Cst.write (h : Cst w u gX bL bB bS K s o1 n1 c1 o2 n2 c2 rs ss qs v9) {k i v : Nat} {cur : Array Value} (hv : v < 4294967296) (hk : u.heap[k]? = some (.cells cur 40 (0, 0))) (h1 : w.heap.size ≤ k) (h2 : k < bB) (h3 : bB ≤ bS) :
    Cst w (u.setCell ⟨k, i, none⟩ (.int .u32 (v : Int))) gX bL bB bS K s o1 n1 c1 o2 n2 c2 rs ss qs v9 := by
  have fr : Fr k u (u.setCell ⟨k, i, none⟩ (.int .u32 (v : Int))) := (Fr.refl k u).set i _
  refine ⟨h.bel.trans (fr.below h1), h.box.keep (fr.block _ (tags_ne hk h.box.at_)), Ow.any_set h.x1 hv, Ow.any_set h.x2 hv, ?_, h.cl.far fr h2, own_keep h.own fun k' cur' _ hc => fr.block k' (tags_ne hk hc), h.sl.far fr (by omega)⟩
  rw [fr.block bL (tags_ne hk h.at_)]
  exact h.at_
/-- The cells of the k-th Rat of an own list. -/
theorem own_cells {B n k g : Nat} {cap : Nat} {r : RP} (h : u.ownsRow B 24 3 (.slice (some ⟨g, 0, none⟩) n cap) n (RP.all ss)) (hr : ss[k]? = some r) :
    u.cell? ⟨g, k * 3, none⟩ = some (.bool r.s) ∧ u.cell? ⟨g, k * 3 + 1, none⟩ = some (.slice r.no r.nn r.nc) ∧ u.cell? ⟨g, k * 3 + 2, none⟩ = some (.slice r.eo r.en r.ec) := by
  obtain ⟨a1, a2, a3⟩ := RP.all_get ss k r hr
  have hc := h.cells (g := g) rfl
  have hadd : ∀ j, (⟨g, 0, none⟩ : Addr).add j = ⟨g, j, none⟩ := fun j => by unfold Addr.add; split <;> simp_all
  have b1 := hc _ _ a1
  have b2 := hc _ _ a2
  have b3 := hc _ _ a3
  rw [hadd] at b1 b2 b3
  exact ⟨b1, b2, b3⟩
end
end Go.Proofs.Ytagjjhaokhobhaa
