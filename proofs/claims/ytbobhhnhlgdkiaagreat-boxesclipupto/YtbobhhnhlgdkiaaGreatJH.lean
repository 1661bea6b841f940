/- Each operation does what 'ev' says of it. -/
import Derived.Test.YtbobhhnhlgdkiaaGreatJG
import Derived.DeepKeys
namespace Go.Proofs.YtbobhhnhlgdkiaaGreat.Sy
open Go Go.RowKit M Kahn
set_option maxRecDepth 100000

section
variable {P : Program} {o : Oper} {ρ : Operand → Value} {E : Env} {bx : List Bx} {u : World} {tt : TT} {S : List Spec}
/-- What is known of all boxes at any time. -/
structure BS (E : Env) (bx : List Bx) (u : World) : Prop where
  nm : E.nm = true
  old : ∀ b, E.F b → b < u.heap.size ∧ ∀ k, E.β k ≠ some b
  inj : ∀ j k g, E.β j = some g → E.β k = some g → j = k
  lt : ∀ k g, E.β k = some g → g < u.heap.size
  hd : ∀ (k : Nat) (b : Bx), plain (E.γ k) = true → bx[k]? = some b → ∃ n ao cap, b.row = some n ∧ E.γ k = .slice ao b.l.length cap ∧ b.l.length ≤ cap ∧ (∀ c, ao = some c → ∃ g, E.β k = some g ∧ c = ⟨g, 0, none⟩) ∧ (ao = none → b.l = [])
  nil : ∀ (k : Nat) (b : Bx), plain (E.γ k) = true → bx[k]? = some b → E.β k = none → b.l = [] ∧ E.γ k = .slice none 0 0
theorem WS.bs {w0 : Start} (h : WS w0 bx E u) : BS E bx u := ⟨h.nm, fun b hb => ⟨Nat.lt_of_lt_of_le (h.old b hb).1 h.bel.size, fun k hk => (h.low k b hk).elim (Nat.not_le_of_lt (h.old b hb).1) fun e => (h.old b hb).2 ⟨k, e⟩⟩, h.inj, fun k g hk => h.lt hk, fun k b hk hb => by
  obtain ⟨b', n, h1, h2, h3⟩ := h.row k hk
  rw [hb] at h1; cases h1
  cases hb' : E.β k with
  | none =>
    obtain ⟨h4, h5⟩ := h3 hb'
    exact ⟨n, none, 0, h2, by rw [h4, h5]; rfl, by rw [h4]; exact Nat.le_refl _, nofun, fun _ => h4⟩
  | some g =>
    have hc := h.cont k b g hb hb'
    unfold Holds at hc
    rw [h2] at hc
    obtain ⟨_, vs, h4, _⟩ := hc
    obtain ⟨sp, cap, _, _, _, h5, _, _, h6⟩ := h4.ex
    exact ⟨n, some ⟨g, 0, none⟩, cap, h2, h6, h5, fun c hc => by cases hc; exact ⟨g, rfl, rfl⟩, nofun⟩, fun k b hk hb hn => by
  obtain ⟨b', n, h1, h2, h3⟩ := h.row k hk
  rw [hb] at h1; cases h1
  exact h3 hn⟩
/-- The box that lies there is known. -/
def Known (E : Env) (bx : List Bx) (u : World) (l : List Nat) : Prop := ∀ k ∈ l, ∀ b g, bx[k]? = some b → E.β k = some g → Holds E u b k g

theorem partOf_spec {n : Nat} {b : D} {m : List D} {v : Value} (h : partOf bx n b = some m) (hv : VIs E u b v) (hc : Known E bx u (boxOf b)) : ∃ c p vs, v = .pointer (some ⟨c, p, none⟩) ∧ u.rangeAt c p vs ∧ vs.length = n ∧ Cells E u m vs := by
  unfold partOf at h
  split at h
  · rename_i k q
    obtain ⟨_, g, h1, rfl⟩ := VIs.box_iff.1 hv
    split at h
    · rename_i ty l hb
      split at h
      · rename_i a m' c hm
        cases h
        obtain ⟨vs, k1, k2⟩ := hc k (List.mem_singleton.2 rfl) _ g hb h1
        obtain ⟨x, y, z, rfl, e1, e2, e3, e4, e5⟩ := k2.mid hm
        have hr := bk_range k1
        rw [e1] at hr
        exact ⟨g, q, y, rfl, hr, e2, e4⟩
      · cases h
    · cases h
  · rename_i k i w q
    obtain ⟨_, g, h1, rfl⟩ := VIs.ent_iff.1 hv
    split at h
    · rename_i ty es w' hb
      split at h
      · rename_i l hw hi
        have hw := Nat.eq_of_beq_eq_true hw
        subst hw
        split at h
        · rename_i a m' c hm
          cases h
          obtain ⟨hw, vs, k1, k2⟩ := hc k (List.mem_singleton.2 rfl) _ g hb h1
          obtain ⟨sp, cap, k3, _⟩ := k1.ex
          obtain ⟨x, y, z, rfl, e1, e2, e3, _⟩ := els_get hw k2 hi
          obtain ⟨y1, y2, y3, rfl, f1, f2, f3, f4, f5⟩ := e3.mid hm
          have hr := bk_range (x := x ++ y1) (y := y2) (z := y3 ++ z ++ sp) (by simpa using k3)
          rw [List.length_append, e1, f1] at hr
          exact ⟨g, i * w + q, y2, rfl, hr, f2, f4.named⟩
        · cases h
      · cases h
    · cases h
  · rename_i l
    obtain ⟨c, p, vs, rfl, h1, h2, h3⟩ := VIs.ptr_iff.1 hv
    split at h
    · rename_i a m' q hm
      cases h
      obtain ⟨x, y, z, rfl, e1, e2, e3, e4, e5⟩ := h2.mid hm
      obtain rfl : x = [] := List.eq_nil_of_length_eq_zero e1
      exact ⟨c, p, y, rfl, fun j v hv => h3 j v (by
        have hj : j < y.length := (List.getElem?_eq_some_iff.1 hv).1
        rw [List.nil_append, List.getElem?_append_left hj]; exact hv), e2, e4.named⟩
    · cases h
  · cases h
theorem cell_plain {x : D} {v : Value} (h : cellD x = true) (hv : VIs E u x v) : plain v = true := by
  unfold cellD at h
  split at h
  · cases h
  · rw [VIs.val_iff.1 hv]; exact h
  · rename_i y hy1 hy2
    match y, hy1, hy2, hv with
    | .inl _, hy1, _, _ => exact absurd rfl (hy1 _)
    | .inr (.inl _), _, hy2, _ => exact absurd rfl (hy2 _)
    | .inr (.inr (.inl k)), _, _, hv => obtain ⟨_, rfl, h2⟩ := VIs.row_iff.1 hv; exact h2
    | .inr (.inr (.inr (.inl (k, p)))), _, _, hv => obtain ⟨_, g, _, rfl⟩ := VIs.box_iff.1 hv; rfl
    | .inr (.inr (.inr (.inr (k, i, w, p)))), _, _, hv => obtain ⟨_, g, _, rfl⟩ := VIs.ent_iff.1 hv; rfl
  · obtain ⟨ao, cap, rfl, _⟩ := VIs.slice_iff.1 hv; rfl
  · obtain ⟨c, p, vs, rfl, _⟩ := VIs.ptr_iff.1 hv; rfl
  · obtain ⟨_, xs, ao, n, cap, _, rfl, _⟩ := hv; rfl
  · cases h
theorem cell_one {x : D} (h : cellD x = true) : one x = true := by
  unfold cellD at h
  split at h <;> first | rfl | cases h | skip
  rename_i y hy1 hy2
  unfold one
  split
  · rename_i e; cases e; exact absurd rfl (hy1 _)
  · rfl
theorem lay_spec {n : Nat} {b : D} {m : List D} {v : Value} (h : lay n b = some m) (hi : VIs E u b v) : Cells E u m v.cells.toList ∧ v.cells.size = n := by
  unfold lay at h
  split at h
  · split at h
    · rename_i e
      cases h
      obtain ⟨vs, rfl, hc⟩ := VIs.agg_iff.1 hi
      exact ⟨hc, by have := hc.len; have := Nat.eq_of_beq_eq_true e; simp only [Value.cells, List.size_toArray]; omega⟩
    · cases h
  · split at h
    · rename_i e1 e2
      cases h
      have hp := cell_plain e1 hi
      rw [plain_cells hp]
      exact ⟨Cells.cons_iff.2 ⟨[v], [], rfl, (LfIs.one_iff (cell_one e1)).2 ⟨v, rfl, hp, hi⟩, Cells.nil⟩, (Nat.eq_of_beq_eq_true e2).symm⟩
    · cases h
/-- A store. -/
theorem putAt_spec {n k : Nat} {b : D} {m l : List D} {v : Value} {ws : List Value} (h : putAt bx n m b = some (k, l)) (hv : VIs E u b v) (hc : Known E bx u (boxOf b)) (hm : Cells E u m ws) (hn : ws.length = n) :
    ∃ c p, v = .pointer (some ⟨c, p, none⟩) ∧ u.there c p n ∧ (∃ g x, E.β k = some g ∧ bx[k]? = some x ∧ Fr g u (u.setCells c p ws) ∧ match x.row with
      | none => ∃ ys, Bk (u.setCells c p ws) g x.ty ys ∧ Cells E u l ys
      | some w => Wide w l ∧ ∃ ys, RowIs (u.setCells c p ws) x.ty w l.length (E.γ k) g ys ∧ Els E u l ys) := by
  unfold putAt at h
  split at h
  · rename_i k' q
    obtain ⟨_, g, h1, rfl⟩ := VIs.box_iff.1 hv
    split at h
    · rename_i ty l' hb
      split at h
      · rename_i a m' c hmid
        cases h
        obtain ⟨vs, k1, k2⟩ := hc k (List.mem_singleton.2 rfl) _ g hb h1
        obtain ⟨x, y, z, rfl, e1, e2, e3, e4, e5⟩ := k2.mid hmid
        have ht := bk_there k1
        rw [e1, e2] at ht
        refine ⟨g, q, rfl, ht, g, _, h1, hb, setCells_fr g ws q u u (Fr.refl _ _), x ++ (ws ++ z), ?_, Cells.app.2 ⟨_, _, rfl, e3, Cells.app.2 ⟨_, _, rfl, hm, e5⟩⟩⟩
        rw [← e1]
        exact setCells_bk g ty ws x y z u k1 (by omega)
      · cases h
    · cases h
  · rename_i k' i w q
    obtain ⟨_, g, h1, rfl⟩ := VIs.ent_iff.1 hv
    split at h
    · rename_i ty es w' hb
      split at h
      · rename_i l' hw hi hun
        have hw := Nat.eq_of_beq_eq_true hw
        subst hw
        split at h
        · rename_i a m' c hmid
          cases h
          obtain ⟨hw, vs, k1, k2⟩ := hc k (List.mem_singleton.2 rfl) _ g hb h1
          obtain ⟨sp, cap, k3, k4, k5, k6, k7, k8, k9⟩ := k1.ex
          obtain ⟨x, y, z, rfl, e1, e2, e3, e4⟩ := els_get hw k2 hi
          obtain ⟨y1, y2, y3, rfl, f1, f2, f3, f4, f5⟩ := e3.mid hmid
          have kb : Bk u g ty ((x ++ y1) ++ (y2 ++ (y3 ++ z ++ sp))) := by simpa using k3
          have ht := bk_there kb
          rw [List.length_append, e1, f1, f2] at ht
          have hl : lsize (a ++ (m ++ c)) = w := by
            rw [lsize_app, lsize_app, ← f3.len, ← hm.len, ← f5.len]
            simp only [List.length_append] at e2
            omega
          refine ⟨g, i * w + q, rfl, ht, g, _, h1, hb, setCells_fr g ws _ u u (Fr.refl _ _), wide_set hw hl, x ++ ((y1 ++ (ws ++ y3)) ++ z), ⟨sp, cap, ?_, ?_, ?_, by rw [List.length_set]; exact k6, k7, k8, by rw [List.length_set]; exact k9⟩, e4 _ _ hl (Cells.app.2 ⟨_, _, rfl, f3, Cells.app.2 ⟨_, _, rfl, hm.unname hun, f5⟩⟩)⟩
          · have := setCells_bk g ty ws (x ++ y1) y2 (y3 ++ z ++ sp) u kb (by omega)
            rw [List.length_append, e1, f1] at this
            simpa using this
          · simp only [List.length_append] at k4 ⊢
            omega
          · rw [List.length_set]
            simp only [List.length_append] at k5 ⊢
            omega
        · cases h
      · cases h
    · cases h
  · cases h
theorem run_storeAny {t : TypeId} {n : Nat} {c p : Nat} {v : Value} {w : World} (hn : (P.info? t).map (·.size) = some n) (hs : v.cells.size = n) (ht : w.there c p n) (hp : ∀ x ∈ v.cells.toList, plain x = true) : (Instr.storeAt t (.pointer (some ⟨c, p, none⟩)) v).run P w = .ok () (w.setCells c p v.cells.toList) := by
  have := run_storeCells_cells (P := P) c p v.cells.toList 0 w (fun j hj => by simpa using (ht j (by simp at hj; omega)).1) (fun j hj => by simpa using (ht j (by simp at hj; omega)).2) (fun x hx => plain_one (hp x hx))
  simp only [Nat.add_zero] at this
  simp [Instr.storeAt, Instr.sureAddr, storeVar, run_sizeOf' hn, hs, this]

/- What is handed over, and what comes back. -/
theorem CelF.unname_to {F : Env} (ho : ∀ b, Out E u b → Out F u b) {n : Nat} : ∀ {l : List D} {vs : List Value}, noXL all' l = true → CelF (LfN u n E) l vs → CelF (LfN u n F) l vs
  | [], _, _, h => h
  | _ :: _, _, hx, ⟨a, b, e, h1, h2⟩ => by
    rw [noXL, Bool.and_eq_true] at hx
    exact ⟨a, b, e, LfN.un_le (E := E.bare) rfl (fun b h => ho b ⟨h.lt, h.ge, h.no⟩) (h1.unname hx.1), CelF.unname_to ho hx.2 h2⟩
theorem VIs.unname_to {F : Env} (ho : ∀ b, Out E u b → Out F u b) {x : D} {v : Value} (hx : noXV all' x = true) : VIs E u x v → VIs F u x v := by
  rintro ⟨n, h⟩
  refine ⟨n, ?_⟩
  have hb : ∀ b, Out E.bare u b → Out F.bare u b := fun b h => by
    have := ho b ⟨h.lt, h.ge, h.no⟩
    exact ⟨this.lt, this.ge, this.no⟩
  unfold VN VF at h ⊢
  split at h
  · trivial
  · exact h
  · cases hx
  · cases hx
  · cases hx
  · obtain ⟨c, o, vs, e1, e2, e3, e4⟩ := h
    exact ⟨c, o, vs, e1, ho c e2, CelF.mono (fun _ _ => LfN.un_le (E := E.bare) (F := F.bare) rfl hb) e3, e4⟩
  · exact h
  · obtain ⟨ao, cap, e1, e2, e3⟩ := h
    exact ⟨ao, cap, e1, e2, fun h0 => by obtain ⟨c, o, vs, k1, k2, k3, k4⟩ := e3 h0; exact ⟨c, o, vs, k1, ho c k2, ElsF.mono (fun _ _ => LfN.un_le (E := E.bare) (F := F.bare) rfl hb) k3, k4⟩⟩
  · obtain ⟨vs, e1, e2⟩ := h
    exact ⟨vs, e1, CelF.unname_to ho hx e2⟩
  · exact h.elim
/-- Of the blocks F nothing is told, and not of those that are handed over. -/
structure Hid' (E : Env) (u : World) (l : List Nat) (F : Nat → Prop) : Prop where
  out : ∀ b, Out E u b → ¬ F b
  box : ∀ k ∈ l, ∀ g, E.β k = some g → ¬ F g
theorem handed1_spec (B : BS E bx u) {F : Nat → Prop} {x y : D} {v : Value} (h : handed1 bx x = some y) (hF : Hid' E u (boxOf1 x) F) (hc : Known E bx u (boxOf1 x)) (hx : ∀ l, x ≠ .agg l) (hv : VIs E u x v) : VIs (nob F) u y v := by
  unfold handed1 at h
  split at h
  · rename_i k
    obtain ⟨_, rfl, hp⟩ := VIs.row_iff.1 hv
    split at h
    · rename_i b h1
      cases h
      obtain ⟨n, ao, cap, h2, h3, h4, h5, h6⟩ := B.hd k b hp h1
      refine VIs.slice_iff.2 ⟨ao, cap, h3, h4, fun h0 => ?_⟩
      cases hb : E.β k with
      | none =>
        cases ao with
        | none => rw [h6 rfl] at h0; exact absurd h0 (Nat.lt_irrefl _)
        | some c => obtain ⟨g, e, _⟩ := h5 c rfl; rw [hb] at e; cases e
      | some g =>
        have k1 := hc k (List.mem_singleton.2 rfl) b g h1 hb
        unfold Holds at k1
        rw [h2] at k1
        obtain ⟨_, vs, k2, k3⟩ := k1
        obtain ⟨sp, cap', k4, _, _, _, _, _, k5⟩ := k2.ex
        rw [h3] at k5
        cases k5
        refine ⟨g, 0, vs, rfl, ⟨B.lt k g hb, hF.box k (List.mem_singleton.2 rfl) g hb, fun _ e => (by cases e)⟩, ?_, ?_⟩
        · obtain ⟨m, k6⟩ := k3
          exact ⟨m, ElsF.mono (fun _ _ => LfN.un_le (E := E.bare) (F := (nob F).bare) rfl fun b h => ⟨h.lt, hF.out b ⟨h.lt, h.ge, h.no⟩, fun _ e => (by cases e)⟩) k6⟩
        · have := bk_range (x := []) (y := vs) (z := sp) (by simpa using k4)
          simpa using this
    · cases h
  · cases h
  · cases h
    refine VIs.unname_to (fun b h => ⟨h.lt, hF.out b h, fun _ e => (by cases e)⟩) ?_ hv
    rename_i hn1 hn2
    unfold noXV
    split
    · exact absurd rfl (hx _)
    · unfold noX
      split <;> first | rfl | (exfalso; first | exact hn1 _ rfl | exact hn2 _ rfl)
theorem handed1_ne {x y : D} (h : handed1 bx x = some y) (hx : one x = true) (ha : ∀ l, x ≠ .agg l) : one y = true ∧ ∀ l, y ≠ .agg l := by
  unfold handed1 at h
  split at h
  · split at h
    · cases h; exact ⟨rfl, nofun⟩
    · cases h
  · cases h
  · cases h; exact ⟨hx, ha⟩
theorem Hid'.sub {F : Nat → Prop} {l l' : List Nat} (h : Hid' E u l F) (hs : ∀ k ∈ l', k ∈ l) : Hid' E u l' F := ⟨h.out, fun k hk => h.box k (hs k hk)⟩
theorem handedP_spec (B : BS E bx u) {F : Nat → Prop} : ∀ {l l' : List D} {vs : List Value}, handedP bx l = some l' → Hid' E u (boxOfL l) F → Known E bx u (boxOfL l) → Cells E u l vs → Cells (nob F) u l' vs
  | [], _, _, h, _, _, hv => by
    simp only [handedP] at h; cases h
    exact Cells.nil_iff.2 (Cells.nil_iff.1 hv)
  | x :: l, _, _, h, hF, hc, hv => by
    simp only [handedP] at h
    split at h
    · rename_i y r h1 h2
      cases h
      obtain ⟨a, b, rfl, k1, k2⟩ := Cells.cons_iff.1 hv
      have s1 : ∀ k ∈ boxOf1 x, k ∈ boxOfL (x :: l) := fun k hk => by simp only [boxOfL, List.mem_append]; exact .inl hk
      have s2 : ∀ k ∈ boxOfL l, k ∈ boxOfL (x :: l) := fun k hk => by simp only [boxOfL, List.mem_append]; exact .inr hk
      have hr := handedP_spec B h2 (hF.sub s2) (fun k hk => hc k (s2 k hk)) k2
      refine Cells.cons_iff.2 ⟨a, b, rfl, ?_, hr⟩
      by_cases hx : one x = true
      · obtain ⟨v, e1, e2, e3⟩ := (LfIs.one_iff hx).1 k1
        by_cases ha : ∀ m, x ≠ .agg m
        · obtain ⟨q1, _⟩ := handed1_ne h1 hx ha
          exact (LfIs.one_iff q1).2 ⟨v, e1, e2, handed1_spec B h1 (hF.sub s1) (fun k hk => hc k (s1 k hk)) ha e3⟩
        · have ⟨m, hm⟩ := Classical.not_forall.1 ha
          have hm := Classical.not_not.1 hm
          subst hm
          obtain ⟨ws, rfl, _⟩ := VIs.agg_iff.1 e3
          cases e2
      · unfold one at hx
        split at hx
        · simp only [handed1] at h1
          cases h1
          exact LfIs.rat_iff.2 (LfIs.rat_iff.1 k1)
        · exact absurd rfl hx
    · cases h
theorem handed_spec (B : BS E bx u) {F : Nat → Prop} {x y : D} {v : Value} (h : handed bx x = some y) (hF : Hid' E u (boxOf x) F) (hc : Known E bx u (boxOf x)) (hv : VIs E u x v) : VIs (nob F) u y v := by
  unfold handed at h
  split at h
  · rename_i ps
    split at h
    · rename_i qs hq
      cases h
      obtain ⟨vs, e, k⟩ := VIs.agg_iff.1 hv
      exact VIs.agg_iff.2 ⟨vs, e, handedP_spec B hq hF hc k⟩
    · cases h
  · rename_i hx
    have hb : boxOf x = boxOf1 x := by
      unfold boxOf
      split
      · exact absurd rfl (hx _)
      · rfl
    exact handed1_spec B h (by rwa [← hb]) (by rwa [← hb]) hx hv
theorem handedL_spec (B : BS E bx u) {F : Nat → Prop} : ∀ {l l' : List D} {vs : List Value}, handedL bx l = some l' → (∀ x ∈ l, Hid' E u (boxOf x) F) → (∀ x ∈ l, Known E bx u (boxOf x)) → AllIs E u l vs → AllIs (nob F) u l' vs
  | [], _, _, h, _, _, hv => by simp only [handedL] at h; cases h; exact hv
  | x :: l, _, _, h, hF, hc, ⟨v, r, e, k1, k2⟩ => by
    simp only [handedL] at h
    split at h
    · rename_i y r' h1 h2
      cases h
      exact ⟨v, r, e, handed_spec B h1 (hF x (List.mem_cons_self ..)) (hc x (List.mem_cons_self ..)) k1, handedL_spec B h2 (fun z hz => hF z (List.mem_cons_of_mem _ hz)) (fun z hz => hc z (List.mem_cons_of_mem _ hz)) k2⟩
    · cases h
/-- What a call hands back. -/
theorem VIs.flat_to {F : Env} : ∀ {x : D} {v : Value}, flatV x = true → VIs E u x v → VIs F u x v := by
  have one : ∀ {n : Nat} {x : D} {vs : List Value}, flat1 x = true → LfN u n E x vs → LfN u n F x vs := fun {n x vs} hx h => by
    cases n with
    | zero => exact h.elim
    | succ n =>
      unfold LfN LF at h ⊢
      split at h
      · exact h
      · obtain ⟨v, e1, e2, e3⟩ := h
        refine ⟨v, e1, e2, ?_⟩
        unfold VF at e3 ⊢
        split at e3 <;> first | trivial | exact e3 | cases hx
  have all : ∀ {n : Nat} {l : List D} {vs : List Value}, flatL l = true → CelF (LfN u n E) l vs → CelF (LfN u n F) l vs := fun {n l} => by
    induction l with
    | nil => intro vs _ h; exact h
    | cons x l ih =>
      rintro vs hx ⟨a, b, e, h1, h2⟩
      simp only [flatL, Bool.and_eq_true] at hx
      exact ⟨a, b, e, one hx.1 h1, ih hx.2 h2⟩
  rintro x v hx ⟨n, h⟩
  refine ⟨n, ?_⟩
  unfold VN VF at h ⊢
  split at h <;> first | trivial | exact h | cases hx | skip
  obtain ⟨vs, e1, e2⟩ := h
  exact ⟨vs, e1, all hx e2⟩
theorem AV.Is.flat_to {F : Env} : ∀ {a : AV} {v : Value}, a.flat = true → a.Is E u v → a.Is F u v
  | ⟨.inl _⟩, _, hx, h => VIs.flat_to hx h
  | ⟨.inr l⟩, _, hx, ⟨vs, e, h⟩ => ⟨vs, e, by
      have : ∀ (l : List D) (vs : List Value), flatD l = true → AllIs E u l vs → AllIs F u l vs := fun l => by
        induction l with
        | nil => intro vs _ h; exact h
        | cons x l ih =>
          rintro vs hx ⟨v, r, e, h1, h2⟩
          simp only [flatD, Bool.and_eq_true] at hx
          exact ⟨v, r, e, VIs.flat_to hx.1 h1, ih r hx.2 h2⟩
      exact this l vs hx h⟩
theorem AV.Is.unname_to {F : Env} (ho : ∀ b, Out E u b → Out F u b) : ∀ {a : AV} {v : Value}, noXA all' a = true → a.Is E u v → a.Is F u v
  | ⟨.inl _⟩, _, hx, h => VIs.unname_to ho hx h
  | ⟨.inr l⟩, _, hx, ⟨vs, e, h⟩ => ⟨vs, e, by
      have : ∀ (l : List D) (vs : List Value), noXD all' l = true → AllIs E u l vs → AllIs F u l vs := fun l => by
        induction l with
        | nil => intro vs _ h; exact h
        | cons x l ih =>
          rintro vs hx ⟨v, r, e, h1, h2⟩
          simp only [noXD, Bool.and_eq_true] at hx
          exact ⟨v, r, e, VIs.unname_to ho hx.1 h1, ih r hx.2 h2⟩
      exact this l vs hx h⟩

/- Building. -/
theorem fold_list : ∀ (ws : List Value) (k off : Nat) (x y z : List Value), x.length = off + k → y.length = ws.length →
    (ws.zipIdx k).foldl (fun (cs : Array Value) (p : Value × Nat) => cs.setIfInBounds (off + p.2) p.1) (x ++ (y ++ z)).toArray = (x ++ (ws ++ z)).toArray
  | [], k, off, x, y, z, _, hy => by
    obtain rfl : y = [] := List.eq_nil_of_length_eq_zero hy
    rfl
  | w :: ws, k, off, x, [], z, _, hy => by simp at hy
  | w :: ws, k, off, x, y1 :: y, z, hx, hy => by
    rw [List.zipIdx_cons, List.foldl_cons]
    have e : (x ++ (y1 :: y ++ z)).toArray.setIfInBounds (off + k) w = ((x ++ [w]) ++ (y ++ z)).toArray := by
      rw [List.setIfInBounds_toArray, ← hx]
      simp
    rw [e, fold_list ws (k + 1) off (x ++ [w]) y z (by rw [List.length_append, hx]; simp; omega) (by simpa using hy)]
    simp
theorem fold_arr (v : Array Value) (off : Nat) (x y z : List Value) (hx : x.length = off) (hy : y.length = v.size) :
    v.zipIdx.foldl (fun cs (p : Value × Nat) => cs.setIfInBounds (off + p.2) p.1) (x ++ (y ++ z)).toArray = (x ++ (v.toList ++ z)).toArray := by
  rw [← Array.foldl_toList, Array.toList_zipIdx]
  exact fold_list v.toList 0 off x y z (by omega) (by simpa using hy)
theorem fillA_spec {rd : Operand → AV} {fs pl : Nat → Option (Nat × Nat)} (hp : ∀ i p, fs i = some p → pl i = some p) :
    ∀ {ps : List (Nat × Operand)} {l l' : List D} {vs : List Value}, fillA rd fs ps l = some l' → (∀ x ∈ ps.map (·.2), (rd x).Is E u (ρ x)) → Cells E u l vs →
      ∃ ws, Instr.fill pl vs.toArray (ps.map fun (i, x) => (i, ρ x)) = some ws.toArray ∧ Cells E u l' ws
  | [], l, l', vs, h, _, hc => by
    simp only [fillA] at h; cases h
    exact ⟨vs, rfl, hc⟩
  | (i, x) :: r, l, l', vs, h, hr, hc => by
    simp only [fillA] at h
    split at h
    · cases h
    · rename_i off s hf
      split at h
      · cases h
      · rename_i b hb
        split at h
        · cases h
        · rename_i m hm
          split at h
          · cases h
          · rename_i a m' c hmid
            have hx := hr x (by simp)
            rw [hb] at hx
            obtain ⟨h1, h2⟩ := lay_spec hm hx
            obtain ⟨x1, y1, z1, rfl, k1, k2, k3, k4, k5⟩ := hc.mid hmid
            obtain ⟨ws, e, hw⟩ := fillA_spec hp h (fun y hy => hr y (by simp only [List.map_cons, List.mem_cons]; exact .inr hy)) (Cells.app.2 ⟨_, _, rfl, k3, Cells.app.2 ⟨_, _, rfl, h1, k5⟩⟩)
            refine ⟨ws, ?_, hw⟩
            simp only [List.map_cons, Instr.fill, hp i _ hf]
            rw [if_neg (by simp; omega), fold_arr _ off x1 y1 z1 k1 (by omega)]
            exact e
theorem rowA_spec {rd : Operand → AV} {n : Nat} :
    ∀ {ps : List (Nat × Operand)} {k : Nat} {ls : List D} {pre rest : List Value}, rowA rd n k ps = some ls → (∀ x ∈ ps.map (·.2), (rd x).Is E u (ρ x)) → pre.length = k * n → rest.length = ls.length * n →
      ∃ ws, Instr.fill (fun i => some (i * n, n)) (pre ++ rest).toArray (ps.map fun (i, x) => (i, ρ x)) = some (pre ++ ws).toArray ∧ Els E u ls ws ∧ Wide n ls
  | [], k, ls, pre, rest, h, _, _, hl => by
    simp only [rowA] at h; cases h
    obtain rfl : rest = [] := List.eq_nil_of_length_eq_zero (by simpa using hl)
    exact ⟨[], rfl, Els.nil_iff.2 rfl, nofun⟩
  | (i, x) :: r, k, ls, pre, rest, h, hr, hp, hl => by
    simp only [rowA] at h
    split at h
    · rename_i b hik hb
      split at h
      · rename_i m ls' hm hls
        split at h
        · rename_i hun
          cases h
          have hik := Nat.eq_of_beq_eq_true hik
          subst hik
          have hx := hr x (by simp)
          rw [hb] at hx
          obtain ⟨h1, h2⟩ := lay_spec hm hx
          simp only [List.length_cons, Nat.add_mul, Nat.one_mul] at hl
          obtain ⟨y, z, rfl, hy⟩ : ∃ y z, rest = y ++ z ∧ y.length = n := ⟨rest.take n, rest.drop n, (List.take_append_drop n rest).symm, by rw [List.length_take]; omega⟩
          rw [List.length_append] at hl
          obtain ⟨ws, e, hw, hwd⟩ := rowA_spec (pre := pre ++ (ρ x).cells.toList) (rest := z) hls (fun y hy => hr y (by simp only [List.map_cons, List.mem_cons]; exact .inr hy)) (by rw [List.length_append, hp, Nat.add_mul, Nat.one_mul]; simp; omega) (by omega)
          have hlm : lsize m = n := by rw [← h1.len]; simp [h2]
          refine ⟨(ρ x).cells.toList ++ ws, ?_, Els.cons_iff.2 ⟨m, _, ws, rfl, rfl, h1.unname hun, hw⟩, fun y hy => ?_⟩
          · simp only [List.map_cons, Instr.fill]
            rw [if_neg (by simp; omega), fold_arr _ (i * n) pre y z hp (by omega), ← List.append_assoc, e, List.append_assoc]
          · rcases List.mem_cons.1 hy with rfl | hy
            · exact ⟨m, rfl, hlm⟩
            · exact hwd y hy
        · cases h
      · cases h
    · cases h
theorem made_list (zs : List Value) : ∀ (m : Nat), (madeCells zs.toArray (m * zs.length)).toList = (List.replicate m zs).flatten
  | 0 => by simp [madeCells]
  | m + 1 => by
    have ih := made_list zs m
    unfold madeCells at ih ⊢
    simp only [Array.toList_map, Array.toList_range, List.size_toArray] at ih ⊢
    rw [show (m + 1) * zs.length = zs.length + m * zs.length from by rw [Nat.add_mul]; omega, List.range_add, List.map_append, List.replicate_succ, List.flatten_cons]
    congr 1
    · apply List.ext_getElem
      · simp
      · intro i h1 h2
        simp only [List.length_map, List.length_range] at h1
        simp [Nat.mod_eq_of_lt h1, h1]
    · rw [List.map_map, ← ih]
      apply List.map_congr_left
      intro i hi
      simp
theorem els_replicate {l : List D} {zs : List Value} (h : Cells E.bare u l zs) : ∀ m : Nat, Els E u (List.replicate m (.agg l)) (List.replicate m zs).flatten
  | 0 => Els.nil_iff.2 rfl
  | m + 1 => by
    rw [List.replicate_succ, List.replicate_succ, List.flatten_cons]
    exact Els.cons_iff.2 ⟨l, zs, _, rfl, rfl, h, els_replicate h m⟩
theorem zero_ok (hT : TTok P tt) {t : TypeId} {l : List D} (h : tt.zero t = some l) : ∃ n z b zs, (P.info? t).map (fun i => (i.size, i.zero, i.bytes)) = some (n, some z, b) ∧ z.cells = List.toArray zs ∧ ∀ E u, Cells E u l zs := by
  cases hn : tt.ent t with
  | none =>
    unfold TT.ent at hn
    unfold TT.zero at h
    split at h <;> rename_i e <;> rw [e] at hn <;> cases hn <;> cases h
  | some n =>
    obtain ⟨d, z, b, zs, l', h1, h2, h3, h4, h5, h6⟩ := (ent_ok hT hn).ex
    rw [h] at h5; cases h5
    exact ⟨n, z, b, zs, h2, h3, h6⟩

/- Slices. -/
theorem ents_len (B : BS E bx u) {b : D} {es : List D} {v : Value} (h : entsOf bx b = some es) (hv : VIs E u b v) : ∃ ao cap, v = .slice ao es.length cap ∧ es.length ≤ cap := by
  unfold entsOf at h
  split at h
  · cases h
    obtain ⟨ao, cap, h1, h2, _⟩ := VIs.slice_iff.1 hv
    exact ⟨ao, cap, h1, h2⟩
  · rename_i k
    obtain ⟨_, rfl, hp⟩ := VIs.row_iff.1 hv
    split at h
    · rename_i ty es' n' hb
      cases h
      obtain ⟨n, ao, cap, h2, h3, h4, _⟩ := B.hd k _ hp hb
      exact ⟨ao, cap, h3, h4⟩
    · cases h
  · cases h
    exact ⟨none, 0, VIs.val_iff.1 hv, Nat.le_refl _⟩
  · cases h
theorem addr_add (g o j : Nat) : (⟨g, o, none⟩ : Addr).add j = ⟨g, o + j, none⟩ := Addr.add_mid ..
theorem ents_spec (B : BS E bx u) {b : D} {es : List D} {v : Value} (h : entsOf bx b = some es) (hv : VIs E u b v) (hc : Known E bx u (boxOf b)) :
    ∃ ao cap vs, v = .slice ao es.length cap ∧ es.length ≤ cap ∧ Els E u es vs ∧ (∀ c, ao = some c → ∀ j x, vs[j]? = some x → u.cell? (c.add j) = some x) ∧ (ao = none → es = []) := by
  unfold entsOf at h
  split at h
  · cases h
    obtain ⟨ao, cap, h1, h2, h3⟩ := VIs.slice_iff.1 hv
    by_cases h0 : 0 < es.length
    · obtain ⟨c, o, vs, rfl, h4, h6, h5⟩ := h3 h0
      exact ⟨_, cap, vs, h1, h2, h6, fun c' hc' j x hx => by cases hc'; rw [addr_add]; exact h5 j x hx, nofun⟩
    · obtain rfl := List.eq_nil_of_length_eq_zero (Nat.eq_zero_of_not_pos h0)
      exact ⟨ao, cap, [], h1, h2, Els.nil_iff.2 rfl, fun c _ j x hx => by simp at hx, fun _ => rfl⟩
  · rename_i k
    obtain ⟨_, rfl, hp⟩ := VIs.row_iff.1 hv
    split at h
    · rename_i ty es' n' h1
      cases h
      obtain ⟨n, ao, cap, h2, h3, h4, h5, h6⟩ := B.hd k _ hp h1
      cases ao with
      | none =>
        have := h6 rfl
        simp only at this
        subst this
        exact ⟨none, cap, [], h3, h4, Els.nil_iff.2 rfl, nofun, fun _ => rfl⟩
      | some c =>
        obtain ⟨g, hg, rfl⟩ := h5 c rfl
        have k1 := hc k (List.mem_singleton.2 rfl) _ g h1 hg
        obtain ⟨_, vs, k2, k3⟩ := k1
        obtain ⟨sp, cap', k4, _⟩ := k2.ex
        refine ⟨_, cap, vs, h3, h4, k3, fun c' hc' j x hx => ?_, nofun⟩
        cases hc'
        have := bk_range (x := []) (y := vs) (z := sp) (by simpa using k4) j x hx
        rw [addr_add]
        simpa using this
    · cases h
  · cases h
    exact ⟨none, 0, [], VIs.val_iff.1 hv, Nat.le_refl _, Els.nil_iff.2 rfl, nofun, fun _ => rfl⟩
  · cases h
theorem zeros_plain {z : Array Value} (h : ∀ x ∈ z.toList, plain x = true) (hz : 0 < z.size) (n : Nat) : ∀ x ∈ (Builtin.zeroCells z n).toList, plain x = true := by
  intro x hx
  simp only [Builtin.zeroCells, Array.toList_map, Array.toList_range, List.mem_map, List.mem_range] at hx
  obtain ⟨i, _, rfl⟩ := hx
  have hl : i % z.size < z.size := Nat.mod_lt _ hz
  rw [getElem!_pos z (i % z.size) hl]
  exact h _ (by simp)
structure Grown (u u' : World) (og0 og : Option Nat) : Prop where
  os : u'.os = u.os
  tape : u'.tape = u.tape
  output : u'.output = u.output
  big : u.heap.size ≤ u'.heap.size
  keep : ∀ b, b < u.heap.size → og0 ≠ some b → u'.heap[b]? = u.heap[b]?
  new : ∀ g, og = some g → og0 = some g ∨ u.heap.size ≤ g
theorem Grown.refl (u : World) (og : Option Nat) : Grown u u og og := ⟨rfl, rfl, rfl, Nat.le_refl _, fun _ _ _ => rfl, fun _ h => .inl h⟩
theorem Grown.alloc (u : World) (og : Option Nat) (o : Obj) : Grown u (u.drew.alloc o) og (some u.heap.size) := by
  have lb := below_alloc u.drew o
  exact ⟨lb.os, lb.tape, lb.output, lb.size, fun b hb _ => lb.block b hb, fun g hg => by cases hg; exact .inr (Nat.le_refl _)⟩
/-- append: to a row that the function owns. -/
theorem row_append {t ty e : TypeId} {n len m cap' : Nat} (ht : P.underlying t = some (.slice e)) (he : EntOk P tt e n) {v : Value} {og0 : Option Nat} {vs news : List Value} {ao : Option Addr}
    (hrow : (v = .slice none 0 0 ∧ len = 0 ∧ vs = [] ∧ og0 = none) ∨ ∃ g, og0 = some g ∧ RowIs u e n len v g vs) (hvs : ∀ x ∈ vs, plain x = true) (hl : news.length = m * n) (hn : ∀ c, ao = some c → ∀ j x, news[j]? = some x → u.cell? (c.add j) = some x) (hao : ao = none → m = 0) (hp : ∀ x ∈ news, plain x = true) (hb : len + m ≤ 1073741824) :
    ∃ v' u', (Builtin.append_ #[t, t] ty #[v, .slice ao m cap']).run P u = .ok v' u' ∧ plain v' = true ∧ ∃ og, Grown u u' og0 og ∧ (∀ g, og = some g → RowIs u' e n (len + m) v' g (vs ++ news)) ∧ (og = none → len + m = 0 ∧ v' = .slice none 0 0) := by
  obtain ⟨d, z, b, zs, l, h1, h2, h3, h4, _, _⟩ := he.ex
  obtain ⟨i, hi, rfl, hz, rfl⟩ := info_of h2
  have hzc : z.cells.size = i.size := by rw [h3]; simpa using h4.len
  have hzp : ∀ x ∈ z.cells.toList, plain x = true := by
    rw [h3]
    intro x hx
    exact List.all_eq_true.1 h4.plain x (by simpa using hx)
  have hby : (len + m) * i.bytes ≤ 140737488355328 := Nat.le_trans (Nat.mul_le_mul hb h4.small) (by omega)
  rcases hrow with ⟨rfl, rfl, rfl, rfl⟩ | ⟨g, rfl, hrow⟩
  · cases ao with
    | none =>
      obtain rfl := hao rfl
      obtain rfl : news = [] := List.eq_nil_of_length_eq_zero (by simpa using hl)
      refine ⟨.slice none 0 0, u, ?_, rfl, none, Grown.refl _ _, nofun, fun _ => ⟨rfl, rfl⟩⟩
      simp [Builtin.append_, run_underlying ht, sizeOf, typeInfo, hi, Builtin.lenOf, Builtin.firstCells]
    | some c =>
      by_cases hm : m = 0
      · subst hm
        obtain rfl : news = [] := List.eq_nil_of_length_eq_zero (by simpa using hl)
        refine ⟨.slice none 0 0, u, ?_, rfl, none, Grown.refl _ _, nofun, fun _ => ⟨rfl, rfl⟩⟩
        simp [Builtin.append_, run_underlying ht, sizeOf, typeInfo, hi, Builtin.lenOf, Builtin.firstCells, loadCells, loadCellsFrom]
      · have hr := run_append_nil (P := P) u t ty e i z ht hi hz c m cap' news hl (hn c rfl) (by omega) (by omega) (by have := hby; simp only [Nat.zero_add] at this; omega)
        refine ⟨_, _, hr, rfl, some u.heap.size, Grown.alloc _ _ _, fun g hg => ?_, nofun⟩
        cases hg
        have hge := grownCap_ge u m 0 e
        have hcm : grownCap u m 0 e ≤ maxLen := grownCap_le_maxLen u m 0 e (by simp only [maxLen]; omega)
        refine ⟨(Builtin.zeroCells z.cells (grownCap u m 0 e - m)).toList, grownCap u m 0 e, ⟨?_⟩, ?_, ?_, by omega, hcm, zeros_plain hzp (by rw [hzc]; exact h4.pos) _, by rw [Nat.zero_add]⟩
        · rw [show u.heap.size = u.drew.heap.size from rfl, heap_alloc_new]
          congr 2
          apply Array.ext'
          simp
        · simp only [List.nil_append, List.length_append, hl, Array.length_toList, size_zeroCells, hzc, ← Nat.add_mul]
          congr 1
          omega
        · simp [hl]
  · obtain ⟨sp, cap, k1, k2, k3, k4, k5, k6, rfl⟩ := hrow.ex
    cases ao with
    | none =>
      obtain rfl := hao rfl
      obtain rfl : news = [] := List.eq_nil_of_length_eq_zero (by simpa using hl)
      refine ⟨.slice (some ⟨g, 0, none⟩) len cap, u, ?_, rfl, some g, Grown.refl _ _, fun g' hg' => ?_, nofun⟩
      · simp [Builtin.append_, run_underlying ht, sizeOf, typeInfo, hi, Builtin.lenOf, Builtin.firstCells, k4, storeCells]
      · cases hg'; rw [List.append_nil]; exact hrow
    | some c =>
      by_cases hroom : len + m ≤ cap
      · have hfit : len * i.size + news.length ≤ (vs ++ sp).toArray.size := by simp only [List.size_toArray, k2, hl, ← Nat.add_mul]; exact Nat.mul_le_mul_right _ hroom
        have hr := run_append_room (P := P) u t ty e i ht hi g len cap (vs ++ sp).toArray k1.at_ c m cap' news hl (hn c rfl) (fun x hx => plain_one (hp x hx)) hroom hfit
        refine ⟨_, _, hr, rfl, some g, ⟨rfl, rfl, rfl, by simp, fun b _ hbg => setRow_other u g b _ (fun e => hbg (by rw [e])), fun g' hg' => .inl hg'⟩, fun g' hg' => ?_, nofun⟩
        cases hg'
        have e1 : ((vs ++ sp).toArray.toList.take (len * i.size) ++ news ++ (vs ++ sp).toArray.toList.drop (len * i.size + news.length)) = vs ++ news ++ sp.drop news.length := by
          rw [← k3]
          simp [List.drop_append]
        refine ⟨sp.drop news.length, cap, ⟨?_⟩, ?_, ?_, hroom, k5, fun x hx => k6 x (List.mem_of_mem_drop hx), rfl⟩
        · rw [setRow_heap u g _ _ e _ k1.at_, e1]
        · simp only [List.length_append, List.length_drop, List.size_toArray] at k2 hfit ⊢
          omega
        · rw [List.length_append, k3, hl, Nat.add_mul]
      · have holds : ∀ j x, vs[j]? = some x → u.cell? ((⟨g, 0, none⟩ : Addr).add j) = some x := fun j x hx => by
          rw [addr_add]
          have := bk_range (x := []) (y := vs) (z := sp) (by simpa using k1) j x hx
          simpa using this
        have hr := run_append_grow (P := P) u t ty e i z ht hi hz ⟨g, 0, none⟩ len cap vs k3 holds c m cap' news hl (hn c rfl) (by omega) (by omega) (growslice_fits (by omega) hby)
        refine ⟨_, _, hr, rfl, some u.heap.size, Grown.alloc _ _ _, fun g' hg' => ?_, nofun⟩
        cases hg'
        have hge := grownCap_ge u (len + m) cap e
        have hcm : grownCap u (len + m) cap e ≤ maxLen := grownCap_le_maxLen u (len + m) cap e (by simp only [maxLen]; omega)
        refine ⟨(Builtin.zeroCells z.cells (grownCap u (len + m) cap e - (len + m))).toList, grownCap u (len + m) cap e, ⟨?_⟩, ?_, ?_, hge, hcm, zeros_plain hzp (by rw [hzc]; exact h4.pos) _, rfl⟩
        · rw [show u.heap.size = u.drew.heap.size from rfl, heap_alloc_new]
          congr 2
          apply Array.ext'
          simp
        · simp only [List.length_append, k3, hl, Array.length_toList, size_zeroCells, hzc, ← Nat.add_mul]
          congr 1
          omega
        · rw [List.length_append, k3, hl, Nat.add_mul]
end
end Go.Proofs.YtbobhhnhlgdkiaaGreat.Sy

/- Each operation does what 'ev' says of it. -/
namespace Go.Proofs.YtbobhhnhlgdkiaaGreat.Sy
open Go Go.RowKit M Kahn
set_option maxRecDepth 100000

section
variable {P : Program} {o : Oper} {ρ : Operand → Value} {E : Env} {bx : List Bx} {u : World} {tt : TT} {S : List Spec}
theorem run_fieldAt {s : TypeId} {fs : Array Field} {i b k n : Nat} {f : Field} {w : World} (hu : P.underlying s = some (.struct fs)) (hf : fs[i]? = some f) (hs : (P.info? f.type).map (·.size) = some n) (hn : n ≠ 0) :
    (Instr.fieldAt s (.pointer (some ⟨b, k, none⟩)) i).run P w = .ok (.pointer (some ⟨b, k + f.offset, none⟩)) w := by
  simp only [Instr.fieldAt, Instr.sureAddr, Sem.run_bind, run_underlying hu, Result.andThen_ok, hf, Sem.run_pure, fieldPlace, run_sizeOf' hs]
  rw [if_neg hn]
  simp only [Sem.run_pure, Result.andThen_ok, Addr.add_mid]
theorem run_field {s : TypeId} {fs : Array Field} {i n : Nat} {f : Field} {d : TypeDesc} {w : World} {x y z : List Value} (hu : P.underlying s = some (.struct fs)) (hf : fs[i]? = some f) (hs : (P.info? f.type).map (·.size) = some n) (hd : P.underlying f.type = some d) (hr : d.isRow = true) (hx : x.length = f.offset) (hy : y.length = n) :
    (Instr.field s (.agg (x ++ (y ++ z)).toArray) i).run P w = .ok (.agg y.toArray) w := by
  simp only [Instr.field, asAgg, part, Sem.run_bind, run_underlying hu, Result.andThen_ok, hf, Sem.run_pure, run_isAgg hd, hr, if_true, run_sizeOf' hs]
  congr 2
  rw [← hx, ← hy]
  apply Array.ext'
  simp
theorem run_field1 {s : TypeId} {fs : Array Field} {i : Nat} {f : Field} {d : TypeDesc} {w : World} {x z : List Value} {v : Value} (hu : P.underlying s = some (.struct fs)) (hf : fs[i]? = some f) (hd : P.underlying f.type = some d) (hr : d.isRow = false) (hx : x.length = f.offset) :
    (Instr.field s (.agg (x ++ ([v] ++ z)).toArray) i).run P w = .ok v w := by
  simp only [Instr.field, asAgg, part, Sem.run_bind, run_underlying hu, Result.andThen_ok, hf, Sem.run_pure, run_isAgg hd, hr]
  rw [← hx]
  simp
theorem mapM_places {fs : Array Field} {w : World} (g : Field → Nat) (h : ∀ f ∈ fs.toList, (P.info? f.type).map (·.size) = some (g f)) :
    (fs.mapM fun f => do pure (f.offset, ← sizeOf f.type) : Sem (Array (Nat × Nat))).run P w = .ok (fs.map fun f => (f.offset, g f)) w := by
  obtain ⟨l⟩ := fs
  rw [List.mapM_toArray]
  have : ∀ l : List Field, (∀ f ∈ l, (P.info? f.type).map (·.size) = some (g f)) → (l.mapM (fun f => do pure (f.offset, ← sizeOf f.type)) : Sem (List (Nat × Nat))).run P w = .ok (l.map fun f => (f.offset, g f)) w := by
    intro l
    induction l with
    | nil => intro _; simp
    | cons f l ih =>
      intro h
      simp only [List.mapM_cons, Sem.run_bind, run_sizeOf' (h f (List.mem_cons_self ..)), Result.andThen_ok, Sem.run_pure, ih (fun f hf => h f (List.mem_cons_of_mem _ hf)), List.map_cons]
  simp only [Sem.run_map, this l h]
  simp
theorem FieldsOk.places : ∀ {l : List (Nat × Nat × Bool)} {fs : List Field}, FieldsOk P l fs → ∃ g : Field → Nat, (∀ f ∈ fs, (P.info? f.type).map (·.size) = some (g f)) ∧ ∀ (i o s : Nat) (r : Bool), l[i]? = some (o, s, r) → (fs.map fun f => (f.offset, g f))[i]? = some (o, s)
  | l, fs, h => by
    refine ⟨fun f => ((P.info? f.type).map (·.size)).getD 0, ?_, ?_⟩
    · induction fs generalizing l with
      | nil => intro f hf; cases hf
      | cons f fs ih =>
        cases l with
        | nil => cases h
        | cons x l =>
          obtain ⟨o, s, r⟩ := x
          obtain ⟨⟨_, h1, _⟩, h2⟩ := h
          intro f' hf'
          rcases List.mem_cons.1 hf' with rfl | hf'
          · simp [h1]
          · exact ih _ h2 f' hf'
    · intro i o s r hi
      obtain ⟨f, d, h1, h2, h3, _⟩ := h.get hi
      simp [h1, h2, h3]
theorem run_eqB {op : BinOp} {t : TypeId} {a b c : Bool} {x y : Operand} {w : World} (hu : P.underlying t = some .bool) (hc : eqB op a b = some c) :
    (do eqGuard op t x y (.bool a) (.bool b); binOp op t (.bool a) (.bool b) : Sem Value).run P w = .ok (.bool c) w := by
  have he := run_equal_bool (P := P) w t a b hu
  have hb : (op = .eql ∧ c = (a == b)) ∨ (op = .neq ∧ c = !(a == b)) := by
    unfold eqB at hc
    split at hc <;> cases hc <;> first | exact .inl ⟨rfl, rfl⟩ | exact .inr ⟨rfl, rfl⟩
  rcases hb with ⟨rfl, rfl⟩ | ⟨rfl, rfl⟩ <;> simp [eqGuard, binOp, he]
theorem run_index {t e : TypeId} {k n : Nat} {d : TypeDesc} {z : Int} {w : World} {x y zs : List Value} (hu : P.underlying t = some (.array k e)) (hn : (P.info? e).map (·.size) = some n) (hd : P.underlying e = some d) (hr : d.isRow = true) (hx : x.length = z.toNat * n) (hy : y.length = n) (hz : 0 ≤ z ∧ z < k) :
    (Instr.index t (.agg (x ++ (y ++ zs)).toArray) (.int .i64 z)).run P w = .ok (.agg y.toArray) w := by
  simp only [Instr.index, asIntOf, Sem.run_bind, Sem.run_pure, run_underlying hu, Result.andThen_ok, if_pos hz, run_sizeOf' hn, part, run_isAgg hd, hr, if_true]
  congr 2
  rw [← hx, ← hy]
  apply Array.ext'
  simp
theorem run_indexArr {t e : TypeId} {k n b o : Nat} {z : Int} {w : World} (hu : P.underlying t = some (.array k e)) (hn : (P.info? e).map (·.size) = some n) (hz : 0 ≤ z ∧ z < k) :
    (Instr.indexAt t (.pointer (some ⟨b, o, none⟩)) (.int .i64 z)).run P w = .ok (.pointer (some ⟨b, o + z.toNat * n, none⟩)) w := by
  simp only [Instr.indexAt, Instr.sureAddr, asIntOf, Sem.run_bind, Sem.run_pure, Result.andThen_ok, run_underlying hu, run_sizeOf' hn, if_pos hz, Addr.add_mid]
theorem run_index1 {t e : TypeId} {k : Nat} {d : TypeDesc} {z : Int} {w : World} {x zs : List Value} {v : Value} (hu : P.underlying t = some (.array k e)) (hn : (P.info? e).map (·.size) = some 1) (hd : P.underlying e = some d) (hr : d.isRow = false) (hx : x.length = z.toNat) (hz : 0 ≤ z ∧ z < k) :
    (Instr.index t (.agg (x ++ ([v] ++ zs)).toArray) (.int .i64 z)).run P w = .ok v w := by
  simp only [Instr.index, asIntOf, Sem.run_bind, Sem.run_pure, run_underlying hu, Result.andThen_ok, if_pos hz, run_sizeOf' hn, part, run_isAgg hd, hr]
  rw [← hx]
  simp
theorem args_spec {rd : Operand → AV} : ∀ {xs : List Operand} {bs : List D}, args rd xs = some bs → (∀ x ∈ xs, (rd x).Is E u (ρ x)) → AllIs E u bs (xs.map ρ)
  | [], _, h, _ => by simp only [args] at h; cases h; rfl
  | x :: l, _, h, hr => by
    simp only [args] at h
    split at h
    · rename_i b r hb hl
      cases h
      have hx := hr x (by simp)
      rw [hb] at hx
      exact ⟨ρ x, l.map ρ, rfl, hx, args_spec hl (fun y hy => hr y (by simp [hy]))⟩
    · cases h
theorem boxesOf_args {rd : Operand → AV} : ∀ {xs : List Operand} {bs : List D}, args rd xs = some bs → ∀ x ∈ bs, ∀ k ∈ boxOf x, k ∈ boxesOf rd xs
  | [], _, h, _, hx => by simp only [args] at h; cases h; cases hx
  | y :: l, _, h, x, hx => by
    simp only [args] at h
    split at h
    · rename_i b r hb hl
      cases h
      intro k hk
      simp only [boxesOf, hb, List.mem_append]
      rcases List.mem_cons.1 hx with rfl | hx
      · exact .inl hk
      · exact .inr (boxesOf_args hl x hx k hk)
    · cases h
theorem known1 {rd : Operand → AV} {a : Operand} {b : D} (h : rd a = ⟨.inl b⟩) (hc : Known E bx u (boxesOf rd [a])) : Known E bx u (boxOf b) := fun k hk => hc k (by simp only [boxesOf, h, List.append_nil]; exact hk)
theorem run_loadAny {t : TypeId} {d : TypeDesc} {c p : Nat} {y : Value} {w : World} (h : P.underlying t = some d) (hd : d.isRow = false) (hc : w.rangeAt c p [y]) : (Instr.loadAt t (.pointer (some ⟨c, p, none⟩))).run P w = .ok y w :=
  run_loadOne h hd (by have := hc 0 y rfl; simpa using this)
theorem list_one {α : Type} {xs : Array α} {x : α} (h : xs.toList = [x]) : xs = #[x] := by
  rw [← Array.toArray_toList (xs := xs), h]
theorem list_two {α : Type} {xs : Array α} {x y : α} (h : xs.toList = [x, y]) : xs = #[x, y] := by
  rw [← Array.toArray_toList (xs := xs), h]
theorem evB_sound (hT : TTok P tt) {rd : Operand → AV} {hs hs' : List Bool} {e : Eff} {p : Prop} {b : Builtin} {xs : Array Operand} {ts : Array TypeId} (h : evB tt rd bx hs b xs.toList ts.toList = some (e, p, hs')) (hp : p) (B : BS E bx u)
    (hr : ∀ x ∈ xs.toList, (rd x).Is E u (ρ x)) (hc : Known E bx u (boxesOf rd xs.toList)) (ho : o.op = .call ⟨.builtin b, xs, ts⟩) : Goes P o ρ u (EffR E bx u e) := by
  unfold evB at h
  split at h
  · -- len
    rename_i x t hxs hts
    obtain rfl := list_one hxs
    obtain rfl := list_one hts
    have hx := hr x (by simp)
    split at h
    · rename_i e' b' e1 e2
      rw [e2] at hx
      split at h
      · rename_i es he
        cases h
        obtain ⟨ao, cap, h1, h2⟩ := ents_len B he hx
        have ht := elem_ok hT e1
        refine goesR (x := .int .i64 (es.length : Int)) ?_ (VIs.val_iff.2 rfl)
        unfold execOp
        simp only [ho, resolve, invoke, builtin, Sem.run_bind, Sem.run_pure, Result.andThen_ok, List.map_toArray, List.map_cons, List.map_nil, h1, Builtin.len_]
        simp [run_underlying ht, goInt]
      · cases h
    · cases h
  · -- append
    rename_i x y t t' hxs hts
    obtain rfl := list_two hxs
    obtain rfl := list_two hts
    have hx := hr x (by simp)
    have hy := hr y (by simp)
    have hcx : ∀ b, rd x = ⟨.inl b⟩ → Known E bx u (boxOf b) := fun b hb k hk => hc k (by simp only [boxesOf, hb, List.mem_append]; exact .inl hk)
    have hcy : ∀ b, rd y = ⟨.inl b⟩ → Known E bx u (boxOf b) := fun b hb k hk => hc k (by simp only [boxesOf, hb, List.mem_append]; exact .inr (.inl hk))
    split at h
    · rename_i e' a b' htt e1 e2 e3
      have htt := Nat.eq_of_beq_eq_true htt
      subst htt
      rw [e2] at hx
      rw [e3] at hy
      have ht := elem_ok hT e1
      have run : ∀ {w v' u'}, (Builtin.append_ #[t, t] o.type #[ρ x, ρ y]).run P w = .ok v' u' → (execOp ρ o).run P w = .ok (.value v') u' := fun hr => by
        unfold execOp
        simp only [ho, resolve, invoke, builtin, Sem.run_bind, Sem.run_pure, Result.andThen_ok, List.map_toArray, List.map_cons, List.map_nil, hr]
      split at h
      · rename_i n ms k en em
        obtain ⟨_, hv, hpl⟩ := VIs.row_iff.1 hx
        split at h
        · rename_i ty es n' hb
          split at h
          · rename_i hn
            cases h
            simp only [Bool.and_eq_true] at hn
            obtain ⟨⟨hn1, hn2⟩, hsz⟩ := hn
            have hn1 := Nat.eq_of_beq_eq_true hn1
            have hn2 := Nat.eq_of_beq_eq_true hn2
            subst hn1 hn2
            obtain ⟨ao, cap', ws, hyv, _, hels, hcell, hnil⟩ := ents_spec B em hy (hcy _ e3)
            obtain ⟨n0, ao0, cap0, g2, g3, g4, g5, g6⟩ := B.hd k _ hpl hb
            cases g2
            have hw := sized_spec hsz
            have hrow : ∃ vs, Els E u es vs ∧ Wide n es ∧ ((ρ x = .slice none 0 0 ∧ es.length = 0 ∧ vs = [] ∧ E.β k = none) ∨ ∃ g, E.β k = some g ∧ RowIs u ty n es.length (ρ x) g vs) := by
              cases hbk : E.β k with
              | none =>
                have hao : ao0 = none := by
                  cases ao0 with
                  | none => rfl
                  | some c => obtain ⟨g, e, _⟩ := g5 c rfl; rw [hbk] at e; cases e
                have hes : es = [] := g6 hao
                subst hes
                refine ⟨[], Els.nil_iff.2 rfl, nofun, .inl ⟨?_, rfl, rfl, rfl⟩⟩
                rw [hv]
                exact (B.nil k _ hpl hb hbk).2
              | some g =>
                have k1 := hcx _ e2 k (List.mem_singleton.2 rfl) _ g hb hbk
                obtain ⟨k0, vs, k2, k3⟩ := k1
                exact ⟨vs, k3, k0, .inr ⟨g, rfl, by rw [hv]; exact k2⟩⟩
            obtain ⟨vs, r1, r2, r3⟩ := hrow
            obtain ⟨v', u', a1, a2, og, a3, a4, a5⟩ := row_append (ty := o.type) (cap' := cap') ht (ent_ok hT en) (og0 := E.β k) r3 r1.plain (els_len hw hels) (fun c hc j x hx => hcell c hc j x hx) (fun h => by rw [hnil h]; rfl) hels.plain hp
            refine goesV (x := v') (u' := u') (run (by rw [hyv]; exact a1)) ⟨.inr ⟨_, _, hb, rfl⟩, og, n, ⟨a3.os, a3.tape, a3.output, a3.big, a3.keep, a3.new⟩, rfl, a2, ?_, fun g hg => ⟨_, by rw [List.length_append]; exact a4 g hg, Els.app.2 ⟨_, _, rfl, r1, hels⟩⟩, fun h => ?_⟩
            · intro z hz
              rcases List.mem_append.1 hz with h | h
              · exact r2 z h
              · exact hw z h
            · obtain ⟨q1, q2⟩ := a5 h
              exact ⟨List.eq_nil_of_length_eq_zero (by rw [List.length_append]; omega), q2⟩
          · cases h
        · cases h
      · rename_i n ms en em
        have hv : ρ x = .slice none 0 0 := VIs.val_iff.1 hx
        split at h
        · rename_i hsz
          cases h
          obtain ⟨ao, cap', ws, hyv, _, hels, hcell, hnil⟩ := ents_spec B em hy (hcy _ e3)
          have hw := sized_spec hsz
          obtain ⟨v', u', a1, a2, og, a3, a4, a5⟩ := row_append (ty := o.type) (cap' := cap') (len := 0) (vs := []) ht (ent_ok hT en) (og0 := none) (.inl ⟨hv, rfl, rfl, rfl⟩) nofun (els_len hw hels) (fun c hc j x hx => hcell c hc j x hx) (fun h => by rw [hnil h]; rfl) hels.plain (by simpa using hp)
          refine goesV (x := v') (u' := u') (run (by rw [hyv]; exact a1)) ⟨.inl rfl, og, n, ⟨a3.os, a3.tape, a3.output, a3.big, fun b hb hne => a3.keep b hb nofun, fun g hg => by
            rcases a3.new g hg with h | h
            · cases h
            · exact .inr h⟩, rfl, a2, hw, fun g hg => ⟨_, by have := a4 g hg; simpa using this, hels⟩, fun h => ?_⟩
          obtain ⟨q1, q2⟩ := a5 h
          exact ⟨List.eq_nil_of_length_eq_zero (by simpa using q1), q2⟩
        · cases h
      · cases h
    · cases h
  · cases h
/-- **Each operation does what is said of it.** -/
theorem ev1_sound (hT : TTok P tt) (hS : ∀ s ∈ S, SpecOk P s) {rd : Operand → AV} {hs hs' : List Bool} {e : Eff} {p : Prop} (h : ev1 tt S rd bx hs o.op = some (e, p, hs')) (hp : p) (B : BS E bx u)
    (hf : ∀ f, ρ (.func f) = .func (.func f) #[] #[]) (hr : ∀ x ∈ reads o.op, (rd x).Is E u (ρ x)) (hc : Known E bx u (touch rd o.op)) : Goes P o ρ u (EffR E bx u e) := by
  generalize ho : o.op = op at *
  unfold ev1 at h
  split at h
  · -- move
    cases h
    exact goesR (x := ρ _) (by unfold execOp; simp [ho]) (hr _ (by simp [reads]))
  · cases h
    exact goesR (x := ρ _) (by unfold execOp; simp [ho]) (hr _ (by simp [reads]))
  · -- pick
    rename_i c a b
    have hcv := hr c (by simp [reads])
    split at h
    · rename_i e1
      rw [e1] at hcv
      have hcv : ρ c = .bool true := VIs.val_iff.1 hcv
      cases h
      exact goesR (x := ρ a) (by unfold execOp; simp [ho, hcv, asBool]) (hr a (by simp [reads]))
    · rename_i e1
      rw [e1] at hcv
      have hcv : ρ c = .bool false := VIs.val_iff.1 hcv
      cases h
      exact goesR (x := ρ b) (by unfold execOp; simp [ho, hcv, asBool]) (hr b (by simp [reads]))
    · cases h
  · -- alloc
    rename_i t
    split at h
    · rename_i z e1
      cases h
      obtain ⟨n, v, b, zs, h1, h2, h3⟩ := zero_ok hT e1
      refine goesV (x := .pointer (some ⟨u.heap.size, 0, none⟩)) (u' := u.alloc (.cells zs.toArray t)) ?_ ⟨zs, rfl, rfl, h3 _ _⟩
      unfold execOp
      simp only [ho, Instr.alloc, newVar, Sem.run_bind, run_zero h1, Result.andThen_ok, run_new, Sem.run_pure, h2]
    · cases h
  · -- box
    rename_i t x
    have hx := hr x (by simp [reads])
    have key : ∀ l, Cells E u l (ρ x).cells.toList → Goes P o ρ u (EffR E bx u ⟨.inr (.inl ⟨t, l, none⟩)⟩) := fun l hl => by
      refine goesV (x := .pointer (some ⟨u.heap.size, 0, none⟩)) (u' := u.alloc (.cells (ρ x).cells t)) ?_ ⟨(ρ x).cells.toList, by simp, rfl, hl⟩
      unfold execOp
      simp only [ho, Instr.box, newVar, Sem.run_bind, Result.andThen_ok, run_new, Sem.run_pure]
    split at h
    · rename_i e1
      rw [e1] at hx
      obtain ⟨vs, h1, h2⟩ := VIs.agg_iff.1 hx
      cases h
      exact key _ (by rw [h1]; exact h2)
    · rename_i b _ e1
      rw [e1] at hx
      have hx : VIs E u b (ρ x) := hx
      split at h
      · rename_i h4
        cases h
        have hp := cell_plain h4 hx
        exact key _ (by rw [plain_cells hp]; exact Cells.cons_iff.2 ⟨[_], [], rfl, (LfIs.one_iff (cell_one h4)).2 ⟨_, rfl, hp, hx⟩, Cells.nil⟩)
      · cases h
    · cases h
  · -- load
    rename_i t a
    have ha := hr a (by simp [reads])
    split at h
    · rename_i n z b e1 e2
      rw [e2] at ha
      split at h
      · rename_i m hm
        cases h
        obtain ⟨c, q, vs, h1, h2, h3, h4⟩ := partOf_spec hm ha (known1 e2 hc)
        obtain ⟨d, zs, by', k1, k2, k3, _⟩ := wide_ok hT e1
        refine goesR (x := .agg vs.toArray) ?_ (VIs.agg_iff.2 ⟨vs, rfl, h4⟩)
        unfold execOp
        simp only [ho, h1, Sem.run_bind, run_loadAt_mid u c q t vs d h2 k1 k2 (by rw [info_size k3, h3]), Result.andThen_ok, Sem.run_pure]
      · cases h
    · rename_i z b e0 e1 e2
      rw [e2] at ha
      split at h
      · rename_i y hm
        split at h
        · rename_i hy
          cases h
          obtain ⟨c, q, vs, h1, h2, h3, h4⟩ := partOf_spec hm ha (known1 e2 hc)
          obtain ⟨x1, x2, rfl, h5, h6⟩ := Cells.cons_iff.1 h4
          obtain rfl := Cells.nil_iff.1 h6
          obtain ⟨v, rfl, h7, h8⟩ := (LfIs.one_iff hy).1 h5
          obtain ⟨d, by', k1, k2, k3, _⟩ := one_ok hT e1
          refine goesR (x := v) ?_ h8
          unfold execOp
          simp only [ho, h1, Sem.run_bind, run_loadAny k1 k2 (by simpa using h2), Result.andThen_ok, Sem.run_pure]
        · cases h
      · cases h
    · cases h
  · -- store
    rename_i t a x
    have ha := hr a (by simp [reads])
    have hx := hr x (by simp [reads])
    split at h
    · rename_i n b y e1 e2 e3
      rw [e2] at ha
      rw [e3] at hx
      split at h
      · rename_i m hm
        split at h
        · rename_i k l hput
          cases h
          obtain ⟨h1, h2⟩ := lay_spec hm hx
          obtain ⟨c, q, k1, k2, k3⟩ := putAt_spec (ws := (ρ x).cells.toList) hput ha (known1 e2 hc) h1 (by simp [h2])
          obtain ⟨d, z, by', zs, l', g1, g2, _⟩ := (ent_ok hT e1).ex
          refine goesS (u' := u.setCells c q (ρ x).cells.toList) ?_ k3
          unfold execOp
          simp only [ho, k1, Sem.run_bind, run_storeAny (info_size g2) h2 k2 (h1.plain), Result.andThen_ok, Sem.run_pure]
        · cases h
      · cases h
    · cases h
  · -- fieldAddr
    rename_i s x i
    have hx := hr x (by simp [reads])
    split at h
    · rename_i e1 e2
      rw [e2] at hx
      obtain ⟨e0, g, hg, hx⟩ := VIs.box_iff.1 hx
      obtain ⟨fs, zs, by', h1, h2, h3, h4, h5, _⟩ := hT.get e1
      split at h
      · rename_i e3
        cases h
        obtain ⟨f, d, k1, k2, k3, k4, _⟩ := h5.get e3
        refine goesR (x := .pointer (some ⟨g, _ + f.offset, none⟩)) ?_ (VIs.box_iff.2 ⟨e0, g, hg, by rw [k2]⟩)
        unfold execOp
        simp only [ho, hx, Sem.run_bind, run_fieldAt h1 (by simpa using k1) k3 k4, Result.andThen_ok, Sem.run_pure]
      · cases h
    · rename_i e1 e2
      rw [e2] at hx
      obtain ⟨e0, g, hg, hx⟩ := VIs.ent_iff.1 hx
      obtain ⟨fs, zs, by', h1, h2, h3, h4, h5, _⟩ := hT.get e1
      split at h
      · rename_i e3
        cases h
        obtain ⟨f, d, k1, k2, k3, k4, _⟩ := h5.get e3
        refine goesR (x := .pointer (some ⟨g, _ + f.offset, none⟩)) ?_ (VIs.ent_iff.2 ⟨e0, g, hg, by rw [k2, Nat.add_assoc]⟩)
        unfold execOp
        simp only [ho, hx, Sem.run_bind, run_fieldAt h1 (by simpa using k1) k3 k4, Result.andThen_ok, Sem.run_pure]
      · cases h
    · rename_i e1 e2
      rw [e2] at hx
      obtain ⟨g, off, vs, hx, hout, hcl, hra⟩ := VIs.ptr_iff.1 hx
      obtain ⟨fs, zs, by', h1, h2, h3, h4, h5, _⟩ := hT.get e1
      split at h
      · rename_i e3
        split at h
        · rename_i e4
          cases h
          obtain ⟨f, d, k1, k2, k3, k4, _⟩ := h5.get e3
          obtain ⟨c1, c2⟩ := cut_spec e4
          rw [c1] at hcl
          obtain ⟨x1, y1, rfl, m1, m2⟩ := Cells.app.1 hcl
          have hl1 := m1.len
          refine goesR (x := .pointer (some ⟨g, off + f.offset, none⟩)) ?_ (VIs.ptr_iff.2 ⟨g, off + f.offset, y1, rfl, hout, m2, fun j v hv => ?_⟩)
          · unfold execOp
            simp only [ho, hx, Sem.run_bind, run_fieldAt h1 (by simpa using k1) k3 k4, Result.andThen_ok, Sem.run_pure]
          · have := hra (x1.length + j) v (by rw [List.getElem?_append_right (by omega), Nat.add_sub_cancel_left]; exact hv)
            rwa [hl1, c2, ← Nat.add_assoc, ← k2] at this
        · cases h
      · cases h
    · cases h
  · -- field
    rename_i s x i
    have hx := hr x (by simp [reads])
    split at h
    · rename_i e1 e2
      rw [e2] at hx
      obtain ⟨vs, hx, hcl⟩ := VIs.agg_iff.1 hx
      obtain ⟨fs, zs, by', h1, h2, h3, h4, h5, _⟩ := hT.get e1
      split at h
      · rename_i e3
        split at h
        · rename_i hm
          cases h
          obtain ⟨f, d, k1, k2, k3, k4, k5, k6⟩ := h5.get e3
          obtain ⟨x1, y1, z1, rfl, m1, m2, m3, m4, m5⟩ := hcl.mid hm
          refine goesR (x := .agg y1.toArray) ?_ (VIs.agg_iff.2 ⟨y1, rfl, m4⟩)
          unfold execOp
          simp only [ho, hx, Sem.run_bind, run_field h1 (by simpa using k1) k3 k5 k6 (by rw [m1, k2]) m2, Result.andThen_ok, Sem.run_pure]
        · cases h
      · rename_i e3
        split at h
        · rename_i hm
          split at h
          · rename_i hy
            cases h
            obtain ⟨f, d, k1, k2, k3, k4, k5, k6⟩ := h5.get e3
            obtain ⟨x1, y1, z1, rfl, m1, m2, m3, m4, m5⟩ := hcl.mid hm
            obtain ⟨y2, y3, rfl, q1, q2⟩ := Cells.cons_iff.1 m4
            obtain rfl := Cells.nil_iff.1 q2
            obtain ⟨v, rfl, _, q3⟩ := (LfIs.one_iff hy).1 q1
            refine goesR (x := v) ?_ q3
            unfold execOp
            simp only [ho, hx, Sem.run_bind, List.append_nil, run_field1 h1 (by simpa using k1) k5 k6 (by rw [m1, k2]), Result.andThen_ok, Sem.run_pure]
          · cases h
        · cases h
      · cases h
    · cases h
  · -- build
    rename_i t ps
    split at h
    · rename_i e1
      obtain ⟨fs, zs, by', h1, h2, h3, h4, h5, _⟩ := hT.get e1
      split at h
      · rename_i hl
        cases h
        obtain ⟨g, g1, g2⟩ := h5.places
        obtain ⟨ws, e, hw⟩ := fillA_spec (pl := fun i => (fs.map fun f => (f.offset, g f))[i]?) (fun i p hi => by
          simp only [Option.map_eq_some_iff] at hi
          obtain ⟨⟨q1, q2, q3⟩, hq, rfl⟩ := hi
          have := g2 i q1 q2 q3 hq
          simpa using this) hl (fun x hx => hr x hx) (h4 _ _)
        refine goesR (x := .agg ws.toArray) ?_ (VIs.agg_iff.2 ⟨ws, rfl, hw⟩)
        unfold execOp
        simp only [ho, Instr.build, Sem.run_bind, run_zero h2, Result.andThen_ok, run_underlying h1, mapM_places g g1, Value.cells, Array.toList_map, e, Sem.run_pure]
      · cases h
    · rename_i e1
      obtain ⟨zs, by', n', h1, h2, h3, h4, h5⟩ := hT.get e1
      split at h
      · rename_i n en
        split at h
        · rename_i hl
          cases h
          obtain ⟨d, z, b, zs', l', g1, g2, _⟩ := (ent_ok hT en).ex
          obtain ⟨ws, e, hw⟩ := fillA_spec (pl := fun i => some (i * n, n)) (fun i p hi => hi) hl (fun x hx => hr x hx) (h4 _ _)
          refine goesR (x := .agg ws.toArray) ?_ (VIs.agg_iff.2 ⟨ws, rfl, hw⟩)
          unfold execOp
          simp only [ho, Instr.build, Sem.run_bind, run_zero h2, Result.andThen_ok, run_underlying h1, run_sizeOf' (info_size g2), Value.cells, Array.toList_map, e, Sem.run_pure]
        · cases h
      · cases h
    · cases h
  · -- buildSlice
    rename_i t len ps
    split at h
    · rename_i e' e1
      have ht := elem_ok hT e1
      split at h
      · rename_i n en
        obtain ⟨d, z, b, zs, l', g1, g2, g3, g4, _⟩ := (ent_ok hT en).ex
        split at h
        · rename_i ls hl
          split at h
          · rename_i k1 k2
            cases h
            have k1 := Nat.eq_of_beq_eq_true k1
            have k2 := Nat.le_of_ble_eq_true k2
            obtain ⟨ws, e1, hw, hwd⟩ := rowA_spec (E := E) (u := u) (ρ := ρ) (pre := []) (rest := ((Array.range (len * n)).map fun k => (if len * n = 0 then #[] else z.cells)[k % (if len * n = 0 then #[] else z.cells).size]!).toList) hl hr (by simp) (by simp [k1])
            simp only [List.nil_append, Array.toArray_toList] at e1
            have hpos := g4.pos
            have hlen : len ≤ len * n := Nat.le_mul_of_pos_right _ hpos
            refine goesV (x := .slice (some ⟨u.heap.size, 0, none⟩) len len) (u' := u.alloc (.cells ws.toArray e')) ?_ ⟨ws, rfl, by simp only [k1], hw, hwd, by simp only [k1, maxLen]; omega⟩
            unfold execOp
            have hs := info_size g2
            have hnb : ¬ (len * n > 2 ^ 24) := by omega
            by_cases h0 : len * n = 0
            · simp only [if_pos h0] at e1
              simp only [ho, Instr.buildSlice, Sem.run_bind, run_underlying ht, Result.andThen_ok, run_sizeOf' hs, if_neg hnb, if_pos h0, Sem.run_pure, Value.cells, Array.toList_map, e1, run_new]
            · simp only [if_neg h0] at e1
              simp only [ho, Instr.buildSlice, Sem.run_bind, run_underlying ht, Result.andThen_ok, run_sizeOf' hs, if_neg hnb, if_neg h0, Sem.run_pure, run_zero g2, Array.toList_map, e1, run_new]
          · cases h
        · cases h
      · cases h
    · cases h
  · -- makeSlice
    rename_i t l c
    have hl := hr l (by simp [reads])
    have hcc := hr c (by simp [reads])
    split at h
    · rename_i e' z z' e1 e2 e3
      rw [e2] at hl
      rw [e3] at hcc
      have hl : ρ l = .int .i64 z := VIs.val_iff.1 hl
      have hcc : ρ c = .int .i64 z' := VIs.val_iff.1 hcc
      have ht := elem_ok hT e1
      split at h
      · rename_i n m en em
        split at h
        · rename_i hun
          cases h
          obtain ⟨rfl, hz0, hz1⟩ := hp
          obtain ⟨d, v, b, zs, l', g1, g2, g3, g4, g5, g6⟩ := (ent_ok hT en).ex
          rw [em] at g5; cases g5
          obtain ⟨i, hi, hi1, hi2, hi3⟩ := info_of g2
          have hr' := run_make (P := P) u t e' i v ht hi hi2 .i64 .i64 z z hz0 (Int.le_refl _) (by
            rw [hi3]
            have := g4.small
            have h1 : (b : Int) ≤ 65536 := by omega
            calc (b : Int) * z ≤ 65536 * z := Int.mul_le_mul_of_nonneg_right h1 hz0
              _ ≤ 281474976710656 := by omega) (by omega)
          have hml : madeCells v.cells (z.toNat * i.size) = ((List.replicate z.toNat zs).flatten).toArray := by
            have := made_list zs z.toNat
            rw [g3, hi1, ← g4.len, ← this]
          rw [hml] at hr'
          refine goesV (x := .slice (some ⟨u.heap.size, 0, none⟩) z.toNat z.toNat) (u' := u.alloc (.cells ((List.replicate z.toNat zs).flatten).toArray e')) ?_ ⟨_, rfl, by simp, els_replicate (g6 _ _) _, fun x hx => ⟨m, List.eq_of_mem_replicate hx, ?_⟩, by simp only [List.length_replicate, maxLen]; omega⟩
          · unfold execOp
            simp only [ho, hl, hcc, Sem.run_bind, hr', Result.andThen_ok, Sem.run_pure]
          · rw [← (g6 E u).len, g4.len]
        · cases h
      · cases h
    · cases h
  · -- extract
    rename_i x i
    have hx := hr x (by simp [reads])
    split at h
    · rename_i e1
      rw [e1] at hx
      split at h
      · rename_i hb
        cases h
        obtain ⟨vs, e, h⟩ := hx
        obtain ⟨v, h1, h2⟩ := h.get hb
        refine goesR (x := v) ?_ h2
        unfold execOp
        simp [ho, e, Instr.extract, h1]
      · cases h
    · cases h
  · -- binOp
    rename_i op t x y t'
    have hx := hr x (by simp [reads])
    have hy := hr y (by simp [reads])
    split at h
    · rename_i a b e1 e2
      rw [e1] at hx
      rw [e2] at hy
      have hx : ρ x = .int .i64 a := VIs.val_iff.1 hx
      have hy : ρ y = .int .i64 b := VIs.val_iff.1 hy
      split at h
      · rename_i c hcm
        split at h
        · rename_i hti
          cases h
          refine goesR (x := .bool c) ?_ (tell_spec hti hp (VIs.val_iff.2 rfl))
          unfold execOp
          cases op <;> simp only [cmpI] at hcm <;> cases hcm <;> simp [ho, hx, hy, eqGuard, binOp, Op.intCmp]
        · cases h
      · split at h
        · rename_i c q hq
          cases h
          refine goesR (x := .int .i64 c) ?_ (VIs.val_iff.2 rfl)
          unfold execOp
          cases op <;> simp only [arithI] at hq <;> cases hq <;> simp [ho, hx, hy, eqGuard, binOp, Op.intArith, hp]
        · cases h
    · rename_i a b e1 e2
      rw [e1] at hx
      rw [e2] at hy
      have hx : ρ x = .bool a := VIs.val_iff.1 hx
      have hy : ρ y = .bool b := VIs.val_iff.1 hy
      split at h
      · rename_i c e3 e4
        cases h
        obtain ⟨d, by', _, _, _, _, _, h6⟩ := one_ok hT e3
        refine goesR (x := .bool c) ?_ (VIs.val_iff.2 rfl)
        have := run_eqB (P := P) (x := x) (y := y) (w := u) (h6 _ rfl) e4
        unfold execOp
        simp only [ho, hx, hy]
        rw [Sem.run_bind, this]
        simp
      · cases h
    · cases h
  · -- indexAddr
    rename_i t x i
    have hx := hr x (by simp [reads])
    have hi := hr i (by simp [reads])
    split at h
    · rename_i zz e' es sp z e1 e2 e3
      rw [e2] at hx
      rw [e3] at hi
      have hi : ρ i = .int .i64 z := VIs.val_iff.1 hi
      obtain ⟨d, by', q1, q2, q3, q4, q5, q6, q7⟩ := hT.get e1
      have ht := q7 _ rfl
      split at h
      · rename_i n l en el
        split at h
        · rename_i hsz
          cases h
          obtain ⟨ao, cap, h1, h2, h3⟩ := VIs.slice_iff.1 hx
          have hlt := (List.getElem?_eq_some_iff.1 el).1
          obtain ⟨c, off, vs, rfl, h4, h4', h5⟩ := h3 (by omega)
          have hels : Out E u c ∧ Els E u es vs := ⟨h4, h4'⟩
          obtain ⟨g1, g2, g3, rfl, g4, g5, g6, _⟩ := els_get (sized_spec hsz) hels.2 el
          obtain ⟨d', z', b', zs', l', k1, k2, _⟩ := (ent_ok hT en).ex
          refine goesR (x := .pointer (some ⟨c, off + z.toNat * n, none⟩)) ?_ (VIs.ptr_iff.2 ⟨c, off + z.toNat * n, g2, rfl, hels.1, g6, fun j v hv => ?_⟩)
          · unfold execOp
            have hb : 0 ≤ z ∧ z < (es.length : Int) := by omega
            simp only [ho, h1, hi, Instr.indexAt, asIntOf, Sem.run_bind, Sem.run_pure, Result.andThen_ok, run_underlying ht, run_sizeOf' (info_size k2), if_pos hb, Addr.add_mid]
          · have hj : j < g2.length := (List.getElem?_eq_some_iff.1 hv).1
            have := h5 (g1.length + j) v (by rw [List.getElem?_append_right (by omega), Nat.add_sub_cancel_left, List.getElem?_append_left hj]; exact hv)
            rwa [g4, ← Nat.add_assoc] at this
        · cases h
      · cases h
    · rename_i zz e' k z e1 e2 e3
      rw [e2] at hx
      rw [e3] at hi
      have hi : ρ i = .int .i64 z := VIs.val_iff.1 hi
      obtain ⟨d, by', q1, q2, q3, q4, q5, q6, q7⟩ := hT.get e1
      have ht := q7 _ rfl
      obtain ⟨e0, hv, hpl⟩ := VIs.row_iff.1 hx
      split at h
      · rename_i n ty es n' en hb
        split at h
        · rename_i hn
          cases h
          have hn := Nat.eq_of_beq_eq_true hn
          subst hn
          obtain ⟨n0, ao, cap, g2, g3, g4, g5, g6⟩ := B.hd k _ hpl hb
          simp only at g3 g6
          obtain ⟨d', z', b', zs', l', k1, k2, _⟩ := (ent_ok hT en).ex
          have hsome : ∃ g, E.β k = some g ∧ ao = some ⟨g, 0, none⟩ := by
            cases ao with
            | none => have := g6 rfl; subst this; simp at hp; omega
            | some c => obtain ⟨g, hg, rfl⟩ := g5 c rfl; exact ⟨g, hg, rfl⟩
          obtain ⟨g, hg, rfl⟩ := hsome
          refine goesR (x := .pointer (some ⟨g, z.toNat * n + 0, none⟩)) ?_ (VIs.ent_iff.2 ⟨e0, g, hg, rfl⟩)
          unfold execOp
          rw [g3] at hv
          simp only [ho, hv, hi, Instr.indexAt, asIntOf, Sem.run_bind, Sem.run_pure, Result.andThen_ok, run_underlying ht, run_sizeOf' (info_size k2), if_pos hp, Addr.add_mid, Nat.zero_add, Nat.add_zero]
        · cases h
      · cases h
    · rename_i m e' by0 zz k off z e1 e2 e3
      rw [e2] at hx
      rw [e3] at hi
      have hi : ρ i = .int .i64 z := VIs.val_iff.1 hi
      obtain ⟨e0, g, hg, hx⟩ := VIs.box_iff.1 hx
      obtain ⟨zs, by', n', h1, h2, h3, h4, h5⟩ := hT.get e1
      split at h
      · rename_i n en
        cases h
        obtain ⟨d', z', b', zs', l', k1, k2, _⟩ := (ent_ok hT en).ex
        exact goesR (x := .pointer (some ⟨g, _, none⟩)) (by unfold execOp; simp only [ho, hx, hi, Sem.run_bind, run_indexArr h1 (info_size k2) hp, Result.andThen_ok, Sem.run_pure]) (VIs.box_iff.2 ⟨e0, g, hg, rfl⟩)
      · cases h
    · cases h
  · -- index
    rename_i t x i
    have hx := hr x (by simp [reads])
    have hi := hr i (by simp [reads])
    split at h
    · rename_i m e' by0 zz l z e1 e2 e3
      rw [e2] at hx
      rw [e3] at hi
      have hi : ρ i = .int .i64 z := VIs.val_iff.1 hi
      obtain ⟨vs, hx, hcl⟩ := VIs.agg_iff.1 hx
      obtain ⟨zs, by', n', h1, h2, h3, h4, h5⟩ := hT.get e1
      split at h
      · rename_i n z1 e4
        obtain ⟨d, zs', b', k1, k2, k3, _⟩ := wide_ok hT e4
        split at h
        · rename_i hm
          cases h
          obtain ⟨x1, y1, z1, rfl, m1, m2, m3, m4, m5⟩ := hcl.mid hm
          refine goesR (x := .agg y1.toArray) ?_ (VIs.agg_iff.2 ⟨y1, rfl, m4⟩)
          unfold execOp
          simp only [ho, hx, hi, Sem.run_bind, run_index h1 (info_size k3) k1 k2 m1 m2 hp, Result.andThen_ok, Sem.run_pure]
        · cases h
      · rename_i z1 e0 e4
        obtain ⟨d, b', k1, k2, k3, _⟩ := one_ok hT e4
        split at h
        · rename_i hm
          split at h
          · rename_i hy
            cases h
            obtain ⟨x1, y1, z1, rfl, m1, m2, m3, m4, m5⟩ := hcl.mid hm
            obtain ⟨y2, y3, rfl, q1, q2⟩ := Cells.cons_iff.1 m4
            obtain rfl := Cells.nil_iff.1 q2
            obtain ⟨v, rfl, _, q3⟩ := (LfIs.one_iff hy).1 q1
            refine goesR (x := v) ?_ q3
            unfold execOp
            simp only [ho, hx, hi, Sem.run_bind, List.append_nil, run_index1 h1 (info_size k3) k1 k2 m1 hp, Result.andThen_ok, Sem.run_pure]
          · cases h
        · cases h
      · cases h
    · cases h
  · -- not
    rename_i t x
    have hx := hr x (by simp [reads])
    split at h
    · rename_i b e1
      rw [e1] at hx
      have hx : ρ x = .bool b := VIs.val_iff.1 hx
      cases h
      refine goesR (x := .bool (!b)) ?_ (VIs.val_iff.2 rfl)
      unfold execOp
      simp [ho, hx, Op.unary]
    · cases h
  · -- call
    rename_i f xs ts
    split at h
    · rename_i s bs hs1 ha
      obtain ⟨hm, he⟩ := find_spec hs1
      subst he
      split at h
      · rename_i cs hh
        split at h
        · rename_i r q hsem
          split at h
          · rename_i r' q' hs2 hnew hfl hti
            cases h
            obtain ⟨c1, c2, _⟩ := hS s hm
            refine Goes.call s.f (xs.map ρ) ?_ ?_
            · unfold execOp
              simp [ho, resolve, hf, Deferred.ofValue, invoke, c1]
            · have hsub : ∀ x ∈ bs, ∀ k ∈ boxOf x, k ∈ boxesOf rd xs.toList := fun x hx k hk => boxesOf_args ha x hx k hk
              have hid : Hid' E u (boxesOf rd xs.toList) (fun b => E.F b ∨ ∃ k, E.β k = some b ∧ ¬ k ∈ boxesOf rd xs.toList) := ⟨fun b hb h => by
                rcases h with h | ⟨k, h, _⟩
                · exact hb.ge h
                · exact hb.no k h, fun k hk g hg h => by
                rcases h with h | ⟨j, h, hj⟩
                · exact (B.old g h).2 k hg
                · exact hj (by rw [B.inj j k g h hg]; exact hk)⟩
              have := c2 u cs (xs.toList.map ρ) r q _ hsem hp.1 (fun b h => by
                rcases h with h | ⟨k, h, _⟩
                · exact (B.old b h).1
                · exact B.lt k b h) (handedL_spec B hh (fun x hx => hid.sub (hsub x hx)) (fun x hx k hk => hc k (hsub x hx k hk)) (args_spec ha hr))
              rw [show (xs.toList.map ρ).toArray = xs.map ρ from by apply Array.ext'; simp] at this
              refine Calls.mono this ?_
              rintro e w' ⟨v, rfl, k1, k2⟩
              refine ⟨v, rfl, k2, tell_spec hti hp.2 ?_⟩
              rcases Bool.or_eq_true_iff.1 hfl with hfl | hfl
              · exact k1.flat_to hfl
              · have he : boxesOf rd xs.toList = [] := by
                  unfold isNil at hfl
                  split at hfl
                  · assumption
                  · cases hfl
                exact AV.Is.unname_to (E := nob fun b => E.F b ∨ ∃ k, E.β k = some b ∧ ¬ k ∈ boxesOf rd xs.toList) (fun b hb => ⟨hb.lt, fun h => hb.ge (Or.inl h), fun k h => hb.ge (Or.inr ⟨k, h, by rw [he]; exact List.not_mem_nil⟩)⟩) hnew k1
          · cases h
        · cases h
      · cases h
    · cases h
  · -- builtins
    exact evB_sound hT h hp B hr hc ho
  · cases h
theorem sameK_spec {k k' : IntKind} (h : sameK k k' = true) : k = k' := by
  cases k <;> cases k' <;> first | rfl | cases h
theorem bin2_sound {k k' : IntKind} {a b : Int} {hs hs' : List Bool} {op : BinOp} {r : AV} {p : Prop} (h : bin2 k k' a b hs op = some (r, p, hs')) (hp : p) (t : TypeId) (w : World) : ∃ v, (binOp op t (.int k a) (.int k' b)).run P w = .ok v w ∧ r.Is E u v := by
  unfold bin2 at h
  split at h
  · cases h
    obtain ⟨⟨h1, h2⟩, h3⟩ := hp
    have hn : ¬ b < 0 := by omega
    have hm : min b.toNat k.bits = b.toNat := by omega
    exact ⟨_, by simp [binOp, Op.shift, hn, hm, h3], VIs.val_iff.2 rfl⟩
  · cases h
    obtain ⟨h1, h2⟩ := hp
    have hn : ¬ b < 0 := by omega
    have hm : min b.toNat k.bits = b.toNat := by omega
    exact ⟨_, by simp [binOp, Op.shift, hn, hm], VIs.val_iff.2 rfl⟩
  · rename_i n1 n2
    split at h
    · cases h
    · rename_i hk
      obtain rfl := sameK_spec hk
      split at h
      · rename_i c hc
        refine ⟨.bool c, ?_, tell_spec h hp (VIs.val_iff.2 rfl)⟩
        cases op <;> simp only [cmpI] at hc <;> cases hc <;> simp [binOp, Op.intCmp]
      · split at h
        · rename_i c q hq
          cases h
          refine ⟨.int k c, ?_, VIs.val_iff.2 rfl⟩
          cases op <;> simp only [arithK] at hq <;> cases hq <;> simp [binOp, Op.intArith, Op.intDiv, hp]
        · cases h
theorem beq_dec (a b : ByteArray) : (a.toList == b.toList) = decide (a = b) := by
  by_cases h : a = b
  · subst h; simp
  · rw [decide_eq_false h, beq_eq_false_iff_ne, ByteArray.toList_eq, ByteArray.toList_eq]
    intro e
    apply h
    cases a; cases b
    congr
    exact Array.toList_inj.1 e
theorem str2_sound {a b : ByteArray} {hs hs' : List Bool} {op : BinOp} {r : AV} {p : Prop} (h : str2 a b hs op = some (r, p, hs')) (hp : p) (t : TypeId) (w : World) : ∃ v, (binOp op t (.string a) (.string b)).run P w = .ok v w ∧ r.Is E u v := by
  unfold str2 at h
  split at h
  · cases h
    exact ⟨_, by rw [binOp_string_add, run_string_add_sum _ a b (by omega)], VIs.val_iff.2 rfl⟩
  · refine ⟨.bool (decide (a = b)), ?_, tell_spec h hp (VIs.val_iff.2 rfl)⟩
    rw [binOp_string_eql, Sem.run_pure, beq_dec]
  · refine ⟨.bool (decide (a ≠ b)), ?_, tell_spec h hp (VIs.val_iff.2 rfl)⟩
    rw [binOp_string_neq, Sem.run_pure, beq_dec]
    simp only [ne_eq, decide_not]
  · cases h
theorem eqA_flat {E : Env} {u : World} : ∀ {z l m : List D} {zs : List Value} {r : Bool}, eqA z l m = some r → Cells E u z zs → zs.all flatZ = true := by
  intro z
  induction z with
  | nil => intro l m zs r _ hz; rw [Cells.nil_iff.1 hz]; rfl
  | cons x z ih =>
    intro l m zs r h hz
    obtain ⟨a, b, rfl, h1, h2⟩ := Cells.cons_iff.1 hz
    unfold eqA at h
    split at h
    · rename_i heq; cases heq
    · rename_i heq
      cases heq
      obtain ⟨v, rfl, _, hv⟩ := (LfIs.one_iff rfl).1 h1
      obtain rfl := VIs.val_iff.1 hv
      split at h
      · rename_i hr
        have := ih hr h2
        simpa [flatZ] using this
      · cases h
    · rename_i heq
      cases heq
      obtain ⟨v, rfl, _, hv⟩ := (LfIs.one_iff rfl).1 h1
      obtain rfl := VIs.val_iff.1 hv
      split at h
      · rename_i hr
        have := ih hr h2
        simpa [flatZ] using this
      · cases h
    · cases h
theorem eqFields_run {E : Env} {u w : World} (d : Nat) (xs ys : Array Value) : ∀ {fs : List Field} {o : Nat} {z l m : List D} {zs vs ws : List Value} {r : Bool}, FK P o fs zs → eqA z l m = some r → Cells E u z zs → Cells E u l vs → Cells E u m ws → xs.toList.drop o = vs → ys.toList.drop o = ws →
    (Op.eqFields (d + 1) xs ys fs).run P w = .ok r w := by
  intro fs
  induction fs with
  | nil =>
    intro o z l m zs vs ws r hk h hz hl hm _ _
    cases zs with
    | cons _ _ => exact hk.elim
    | nil =>
      cases z with
      | nil =>
        unfold eqA at h
        split at h
        · cases h; simp [Op.eqFields]
        · rename_i heq; cases heq
        · rename_i heq; cases heq
        · cases h
      | cons x z =>
        obtain ⟨a, b, e, h1, _⟩ := Cells.cons_iff.1 hz
        have := h1.len
        have he := congrArg List.length e
        rw [List.length_append, List.length_nil] at he
        have hd : 0 < dsz x := by unfold dsz; split <;> omega
        omega
  | cons f fs ih =>
    intro o z l m zs vs ws r hk h hz hl hm hx hy
    cases zs with
    | nil => exact hk.elim
    | cons v0 zs =>
      obtain ⟨⟨hn, ho, dd, hd1, hd2⟩, hk⟩ := hk
      have get : ∀ {cs : Array Value} {v : Value} {rest : List Value}, cs.toList.drop o = v :: rest → cs[o]? = some v ∧ cs.toList.drop (o + 1) = rest := by
        intro cs v rest e
        have e1 : cs.toList[o]? = some v := by rw [← List.head?_drop, e]; rfl
        refine ⟨by rw [← Array.getElem?_toList]; exact e1, ?_⟩
        rw [← List.drop_drop, e]; rfl
      unfold eqA at h
      split at h
      · have := Cells.nil_iff.1 hz
        cases this
      · rename_i b0 z' a' l' b' m'
        obtain ⟨za, zb, e, h1, h2⟩ := Cells.cons_iff.1 hz
        obtain ⟨zv, rfl, _, hv⟩ := (LfIs.one_iff rfl).1 h1
        obtain rfl := VIs.val_iff.1 hv
        cases e
        cases hd1
        obtain ⟨xa, xb, rfl, k1, k2⟩ := Cells.cons_iff.1 hl
        obtain ⟨xv, rfl, _, hv⟩ := (LfIs.one_iff rfl).1 k1
        obtain rfl := VIs.val_iff.1 hv
        obtain ⟨ya, yb, rfl, q1, q2⟩ := Cells.cons_iff.1 hm
        obtain ⟨yv, rfl, _, hv⟩ := (LfIs.one_iff rfl).1 q1
        obtain rfl := VIs.val_iff.1 hv
        obtain ⟨x1, x2⟩ := get hx
        obtain ⟨y1, y2⟩ := get hy
        split at h
        · rename_i r' hr
          cases h
          have IH := ih hk hr h2 k2 q2 x2 y2
          subst ho
          have p1 : (part f.type xs f.offset).run P w = .ok (.bool a') w := by simp [part, run_isAgg hd2, TypeDesc.isRow, x1]
          have p2 : (part f.type ys f.offset).run P w = .ok (.bool b') w := by simp [part, run_isAgg hd2, TypeDesc.isRow, y1]
          have p3 : (Op.equalIn (d + 1) f.type (.bool a') (.bool b')).run P w = .ok (a' == b') w := by simp [Op.equalIn, run_underlying hd2]
          simp only [Op.eqFields, hn, ne_eq, not_false_eq_true, if_true, Sem.run_bind, p1, p2, p3, Result.andThen_ok]
          cases a' == b'
          · simp
          · simpa using IH
        · cases h
      · rename_i k0 b0 z' k1' a' l' k2' b' m'
        obtain ⟨za, zb, e, h1, h2⟩ := Cells.cons_iff.1 hz
        obtain ⟨zv, rfl, _, hv⟩ := (LfIs.one_iff rfl).1 h1
        obtain rfl := VIs.val_iff.1 hv
        cases e
        cases hd1
        obtain ⟨xa, xb, rfl, k1, k2⟩ := Cells.cons_iff.1 hl
        obtain ⟨xv, rfl, _, hv⟩ := (LfIs.one_iff rfl).1 k1
        obtain rfl := VIs.val_iff.1 hv
        obtain ⟨ya, yb, rfl, q1, q2⟩ := Cells.cons_iff.1 hm
        obtain ⟨yv, rfl, _, hv⟩ := (LfIs.one_iff rfl).1 q1
        obtain rfl := VIs.val_iff.1 hv
        obtain ⟨x1, x2⟩ := get hx
        obtain ⟨y1, y2⟩ := get hy
        split at h
        · rename_i r' hs1 hs2 hr
          cases h
          obtain rfl := sameK_spec hs1
          obtain rfl := sameK_spec hs2
          have IH := ih hk hr h2 k2 q2 x2 y2
          subst ho
          have p1 : (part f.type xs f.offset).run P w = .ok (.int k0 a') w := by simp [part, run_isAgg hd2, TypeDesc.isRow, x1]
          have p2 : (part f.type ys f.offset).run P w = .ok (.int k0 b') w := by simp [part, run_isAgg hd2, TypeDesc.isRow, y1]
          have p3 : (Op.equalIn (d + 1) f.type (.int k0 a') (.int k0 b')).run P w = .ok (a' == b') w := by simp [Op.equalIn, run_underlying hd2]
          simp only [Op.eqFields, hn, ne_eq, not_false_eq_true, if_true, Sem.run_bind, p1, p2, p3, Result.andThen_ok]
          cases a' == b'
          · simp
          · simpa using IH
        · cases h
      · cases h
theorem agg2_sound (hT : TTok P tt) {t : Nat} {l m : List D} {vs ws : List Value} {hs hs' : List Bool} {op : BinOp} {r : AV} {p : Prop} {x y : Operand} (h : agg2 tt t l m hs op = some (r, p, hs')) (hp : p) (hl : Cells E u l vs) (hm : Cells E u m ws) :
    ∃ v, (do eqGuard op t x y (.agg vs.toArray) (.agg ws.toArray); binOp op t (.agg vs.toArray) (.agg ws.toArray) : Sem Value).run P u = .ok v u ∧ r.Is E u v := by
  unfold agg2 at h
  split at h
  · rename_i n fl z hat
    obtain ⟨fs, zs, bytes, h1, _, _, hz, _, he⟩ := hT.get hat
    have key : ∀ {q : Bool}, eqA z l m = some q → (eqGuard op t x y (.agg vs.toArray) (.agg ws.toArray)).run P u = .ok () u ∧ (Op.equal t (.agg vs.toArray) (.agg ws.toArray)).run P u = .ok q u := by
      intro q hq
      obtain ⟨g1, g2, g3⟩ := he (eqA_flat hq (hz E u))
      refine ⟨?_, ?_⟩
      · cases op <;> simp [eqGuard, g2]
      · have := eqFields_run (P := P) (w := u) 9998 vs.toArray ws.toArray g3 hq (hz E u) hl hm (by simp) (by simp)
        have hf : P.fieldsOf t = fs := by simp [Program.fieldsOf, h1]
        show (Op.equalIn (9999 + 1) t _ _).run P u = _
        rw [run_equalIn_struct u 9999 t vs.toArray ws.toArray (by rw [hf]; exact h1) g1, hf]
        exact this
    split at h
    · rename_i q hq
      obtain ⟨k1, k2⟩ := key hq
      refine ⟨.bool q, ?_, tell_spec h hp (VIs.val_iff.2 rfl)⟩
      rw [Sem.run_bind, k1]
      simp [binOp, k2]
    · rename_i q hq
      obtain ⟨k1, k2⟩ := key hq
      refine ⟨.bool (!q), ?_, tell_spec h hp (VIs.val_iff.2 rfl)⟩
      rw [Sem.run_bind, k1]
      simp [binOp, k2]
    · cases h
  · cases h
theorem run_bounds {isSlice : Bool} {len cap : Nat} {lo hi : Option Value} {l h : Int} {w : World} (e1 : lo = none ∧ l = 0 ∨ lo = some (.int .i64 l)) (e2 : hi = none ∧ h = len ∨ hi = some (.int .i64 h)) (h0 : 0 ≤ l) (h1 : l ≤ h) (h2 : h ≤ cap) :
    (Instr.sliceBounds isSlice len cap lo hi none).run P w = .ok (l.toNat, h.toNat, cap) w := by
  have hp : 0 ≤ h := by omega
  have eh : (h.toNat : Int) = h := Int.toNat_of_nonneg hp
  rcases e1 with ⟨rfl, rfl⟩ | rfl <;> rcases e2 with ⟨rfl, rfl⟩ | rfl <;> simp_all [Instr.sliceBounds, run_sliceBound]
theorem bnd_spec {rd : Operand → AV} {d z : Int} {x : Option Operand} (h : bnd rd d x = some z) (hr : ∀ y ∈ x.toList, (rd y).Is E u (ρ y)) : x.map ρ = none ∧ z = d ∨ x.map ρ = some (.int .i64 z) := by
  unfold bnd at h
  split at h
  · cases h; exact .inl ⟨rfl, rfl⟩
  · rename_i y
    split at h
    · rename_i e
      cases h
      have := hr y (by simp)
      rw [e] at this
      have := VIs.val_iff.1 this
      exact .inr (by rw [Option.map_some, this])
    · cases h
theorem els_cut {n : Nat} {es : List D} {vs : List Value} {a b : Nat} (hw : Wide n es) (h : Els E u es vs) (h1 : a ≤ b) (h2 : b ≤ es.length) : ∃ x y z, vs = x ++ (y ++ z) ∧ x.length = a * n ∧ Els E u ((es.take b).drop a) y := by
  have e : es = es.take a ++ ((es.take b).drop a ++ es.drop b) := by
    rw [← List.append_assoc, show es.take a ++ (es.take b).drop a = es.take b from by
      have := List.take_append_drop a (es.take b)
      rwa [List.take_take, Nat.min_eq_left h1] at this, List.take_append_drop]
  rw [e] at h
  obtain ⟨x, r, rfl, c1, c2⟩ := Els.app.1 h
  obtain ⟨y, z, rfl, c3, c4⟩ := Els.app.1 c2
  refine ⟨x, y, z, rfl, ?_, c3⟩
  rw [els_len (fun d hd => hw d (List.mem_of_mem_take hd)) c1, List.length_take, Nat.min_eq_left (by omega)]
theorem ev2_sound (hT : TTok P tt) {rd : Operand → AV} {hs hs' : List Bool} {a : AV} {p : Prop} (h : ev2 tt rd hs o.op = some (a, p, hs')) (hp : p) (hr : ∀ x ∈ reads o.op, (rd x).Is E u (ρ x)) : Goes P o ρ u (EffR E bx u ⟨.inl a⟩) := by
  generalize ho : o.op = op at *
  unfold ev2 at h
  split at h
  · -- binOp
    rename_i op t x y t'
    have hx := hr x (by simp [reads])
    have hy := hr y (by simp [reads])
    split at h
    · rename_i e1 e2
      rw [e1] at hx
      rw [e2] at hy
      have hx := VIs.val_iff.1 hx
      have hy := VIs.val_iff.1 hy
      obtain ⟨v, h1, h2⟩ := bin2_sound (P := P) (E := E) (u := u) h hp t u
      refine goesR (x := v) ?_ h2
      unfold execOp
      simp only [ho, hx, hy]
      rw [Sem.run_bind, Sem.run_bind, show (eqGuard op t x y (.int _ _) (.int _ _)).run P u = .ok () u from by unfold eqGuard; split <;> simp]
      simp [h1]
    · rename_i e1 e2
      rw [e1] at hx
      rw [e2] at hy
      have hx := VIs.val_iff.1 hx
      have hy := VIs.val_iff.1 hy
      obtain ⟨v, h1, h2⟩ := str2_sound (P := P) (E := E) (u := u) h hp t u
      refine goesR (x := v) ?_ h2
      unfold execOp
      simp only [ho, hx, hy]
      rw [Sem.run_bind, Sem.run_bind, show (eqGuard op t x y (.string _) (.string _)).run P u = .ok () u from by unfold eqGuard; split <;> simp]
      simp [h1]
    · rename_i e1 e2
      rw [e1] at hx
      rw [e2] at hy
      obtain ⟨vs, hx, hcx⟩ := VIs.agg_iff.1 hx
      obtain ⟨ws, hy, hcy⟩ := VIs.agg_iff.1 hy
      obtain ⟨v, h1, h2⟩ := agg2_sound (x := x) (y := y) hT h hp hcx hcy
      refine goesR (x := v) ?_ h2
      unfold execOp
      simp only [ho, hx, hy]
      rw [Sem.run_bind] at h1
      simp only [Sem.run_bind]
      rcases hg : (eqGuard op t x y (.agg vs.toArray) (.agg ws.toArray)).run P u with _ | _
      · rw [hg] at h1
        simp only [Result.andThen_ok] at h1 ⊢
        simp [h1]
      · rw [hg] at h1
        cases h1
    · cases h
  · -- neg
    rename_i t x
    have hx := hr x (by simp [reads])
    split at h
    · rename_i e1
      rw [e1] at hx
      have hx := VIs.val_iff.1 hx
      cases h
      refine goesR ?_ (VIs.val_iff.2 rfl)
      unfold execOp
      have hp' := hp
      rw [Int.zero_sub] at hp'
      simp [ho, hx, Op.unary, Op.intArith, hp']
    · cases h
  · -- convert
    rename_i s d x
    have hx := hr x (by simp [reads])
    split at h
    · rename_i d1 k k' a e1 e2 e3
      rw [e3] at hx
      have hx := VIs.val_iff.1 hx
      cases h
      have h1 := desc_ok hT e1
      have h2 := desc_ok hT e2
      refine goesR (x := .int k a) ?_ (VIs.val_iff.2 rfl)
      unfold execOp
      simp only [ho, hx, convert, Sem.run_bind, run_underlying h1, run_underlying h2, Result.andThen_ok, Conv.intToInt, hp, Sem.run_pure]
    · cases h
  · -- index
    rename_i t x i
    have hx := hr x (by simp [reads])
    have hi := hr i (by simp [reads])
    split at h
    · rename_i s z e1 e2 e3
      rw [e2] at hx
      rw [e3] at hi
      have hx := VIs.val_iff.1 hx
      have hi := VIs.val_iff.1 hi
      cases h
      have hz : z.toNat < s.size := by omega
      refine goesR (x := .int .u8 (bget s z.toNat)) ?_ (VIs.val_iff.2 rfl)
      unfold execOp
      simp only [ho, hx, hi, Sem.run_bind, run_index_string u t s .i64 z (desc_ok hT e1), dif_pos hp, Result.andThen_ok, Sem.run_pure, bget, ByteArray.getElem?_lt' s _ hz]
    · cases h
  · -- slice
    rename_i t x l hh
    have hx := hr x (by simp [reads])
    have hl : ∀ y ∈ l.toList, (rd y).Is E u (ρ y) := fun y hy => hr y (by simp only [reads, List.mem_cons, List.mem_append]; exact .inr (.inl hy))
    have hhh : ∀ y ∈ hh.toList, (rd y).Is E u (ρ y) := fun y hy => hr y (by simp only [reads, List.mem_cons, List.mem_append]; exact .inr (.inr hy))
    split at h
    · rename_i s e0
      rw [e0] at hx
      have hx := VIs.val_iff.1 hx
      split at h
      · rename_i a b e1 e2 e3
        cases h
        obtain ⟨h1, h2, h3⟩ := hp
        refine goesR (x := .string (s.extract a.toNat b.toNat)) ?_ (VIs.val_iff.2 rfl)
        unfold execOp
        have ht := desc_ok hT e1
        simp only [ho, hx, Option.map_none, Sem.run_bind, run_sliceAt_string u t _ _ _ _ ht, Instr.slice, run_underlying ht, Result.andThen_ok, Option.isSome_none, Bool.false_eq_true, if_false, Sem.run_pure, run_bounds (bnd_spec e2 hl) (bnd_spec e3 hhh) h1 h2 h3]
      · cases h
    · rename_i es sp e0
      rw [e0] at hx
      split at h
      · rename_i e a b e1 e2 e3
        split at h
        · rename_i n en
          split at h
          · rename_i hsz
            cases h
            obtain ⟨h1, h2, h3⟩ := hp
            obtain ⟨ao, cap, k1, k2, k3⟩ := VIs.slice_iff.1 hx
            have ht := elem_ok hT e1
            obtain ⟨d', z', b', zs', l', g1, g2, _⟩ := (ent_ok hT en).ex
            have hlen : ((es.take b.toNat).drop a.toNat).length = b.toNat - a.toNat := by rw [List.length_drop, List.length_take]; omega
            refine goesR (x := .slice (if cap = a.toNat then ao else ao.map (·.add (a.toNat * n))) (b.toNat - a.toNat) (cap - a.toNat)) ?_ (VIs.slice_iff.2 ⟨_, _, by rw [hlen], by rw [hlen]; omega, fun h0 => ?_⟩)
            · unfold execOp
              have hel : P.underlying t = some (.slice (P.elem t)) := by rw [ht]; simp [Program.elem, ht]
              simp only [ho, k1, Option.map_none, Sem.run_bind, run_sliceAt_slice u t _ _ _ _ hel, Instr.slice, run_underlying ht, Result.andThen_ok, Sem.run_pure, run_bounds (bnd_spec e2 hl) (bnd_spec e3 hhh) h1 h2 (by omega : b ≤ (cap : Int)), run_sizeOf' (info_size g2)]
            · rw [hlen] at h0
              obtain ⟨c, o', vs, rfl, q1, q2, q3⟩ := k3 (by omega)
              obtain ⟨x1, y1, z1, rfl, r1, r2⟩ := els_cut (a := a.toNat) (b := b.toNat) (sized_spec hsz) q2 (by omega) (by omega)
              refine ⟨c, o' + a.toNat * n, y1, ?_, q1, r2, fun j v hj => ?_⟩
              · rw [if_neg (by omega), Option.map_some, Addr.add_mid]
              · have hj' : j < y1.length := (List.getElem?_eq_some_iff.1 hj).1
                have := q3 (x1.length + j) v (by rw [List.getElem?_append_right (by omega), Nat.add_sub_cancel_left, List.getElem?_append_left hj']; exact hj)
                rwa [r1, ← Nat.add_assoc] at this
          · cases h
        · cases h
      · cases h
    · cases h
  · -- nilCheck
    rename_i x
    have hx := hr x (by simp [reads])
    split at h
    · rename_i k q e1
      rw [e1] at hx
      obtain ⟨_, c, _, hv⟩ := VIs.box_iff.1 hx
      cases h
      refine goesR (x := .pointer (some ⟨c, q, none⟩)) ?_ (by rw [← hv]; exact hx)
      unfold execOp
      simp [ho, hv]
    · cases h
  · -- len
    rename_i xs ts
    split at h
    · rename_i x t hxs hts
      obtain rfl := list_one hxs
      obtain rfl := list_one hts
      have hx := hr x (by simp [reads])
      split at h
      · rename_i s e2
        rw [e2] at hx
        have hx := VIs.val_iff.1 hx
        split at h
        · rename_i e1
          cases h
          have ht := desc_ok hT e1
          refine goesR (x := .int .i64 s.size) ?_ (VIs.val_iff.2 rfl)
          unfold execOp
          simp only [ho, resolve, invoke, builtin, Sem.run_bind, Sem.run_pure, Result.andThen_ok, List.map_toArray, List.map_cons, List.map_nil, hx]
          simp [run_len_string u t _ s ht, goInt]
        · cases h
      · rename_i ls sp e2
        rw [e2] at hx
        split at h
        · rename_i e1
          cases h
          obtain ⟨_, xs, ao, n, cap, rfl, e3, e4⟩ := hx
          have ht := elem_ok hT e1
          refine goesR (x := .int .i64 ((xs.map lmD).length : Nat)) ?_ (VIs.val_iff.2 rfl)
          unfold execOp
          simp only [ho, resolve, invoke, builtin, Sem.run_bind, Sem.run_pure, Result.andThen_ok, List.map_toArray, List.map_cons, List.map_nil, e3, Builtin.len_]
          simp [run_underlying ht, goInt, e4.len]
        · cases h
      · cases h
    · cases h
  · cases h
/-- **Each operation does what is said of it.** -/
theorem ev_sound (hT : TTok P tt) (hS : ∀ s ∈ S, SpecOk P s) {rd : Operand → AV} {hs hs' : List Bool} {e : Eff} {p : Prop} (h : ev tt S rd bx hs o.op = some (e, p, hs')) (hp : p) (B : BS E bx u)
    (hf : ∀ f, ρ (.func f) = .func (.func f) #[] #[]) (hr : ∀ x ∈ reads o.op, (rd x).Is E u (ρ x)) (hc : Known E bx u (touch rd o.op)) : Goes P o ρ u (EffR E bx u e) := by
  unfold ev at h
  split at h
  · rename_i r h1
    cases h
    exact ev1_sound hT hS h1 hp B hf hr hc
  · split at h
    · rename_i a q hs1 h2
      cases h
      exact ev2_sound hT h2 hp hr
    · cases h
end
end Go.Proofs.YtbobhhnhlgdkiaaGreat.Sy
