/- slices.Backward over a row of naturals: as a loop over it sees it. -/
import Derived.Test.YtmfpnlhpdjabeaaGreatDoorAk
import Derived.RangeFuncNested
import Derived.RangeFuncBound
import Derived.RangeFuncCalls
import Derived.RangeFuncLeaves
import Derived.Shelf.Abstract
import Derived.Shelf.RegionOpen
import Derived.OwnWalkIn
import Derived.TacticsInMore
import Derived.LoopNIn
import Derived.LoopIn
namespace Go.Proofs.YtmfpnlhpdjabeaaGreatDoor
open Go.RowKit M Go.Shelf

attribute [local go_sem] Oper.semAt_some

/-- The places that have come when k rounds are over: the last one first. -/
def dn (len : Nat) : Nat → List (Fin len)
  | 0 => []
  | k + 1 => dn len k ++ (if h : k < len then [⟨len - 1 - k, by omega⟩] else [])
theorem dn_succ {len k : Nat} (h : k < len) : dn len (k + 1) = dn len k ++ [⟨len - 1 - k, by omega⟩] := by
  rw [dn, dif_pos h]
theorem dn_len {len : Nat} : ∀ (k : Nat), k ≤ len → (dn len k).length = k
  | 0, _ => rfl
  | k + 1, h => by rw [dn_succ (by omega), List.length_append, dn_len k (by omega)]; rfl
/-- Blocks that stay. -/
def Kp2 (Bs b : Nat) (W W' : World) : Prop := W'.heap[Bs]? = W.heap[Bs]? ∧ W'.heap[b]? = W.heap[b]?
theorem Kp2.trans {Bs b : Nat} {A B C : World} (h : Kp2 Bs b A B) (k : Kp2 Bs b B C) : Kp2 Bs b A C := ⟨k.1.trans h.1, k.2.trans h.2⟩

set_option maxRecDepth 100000 in
set_option maxHeartbeats 2000000 in
theorem back1_in (F : Fence) (n : Nat) (h5 : F.fn 64) (hro : F.round = none) (hn : 1 ≤ n) (l Bs b len cap : Nat) (f : Nat → Value) (hle : len ≤ 1073741824) (J Jx : List (Fin len) → World → Prop)
    (hY : ∀ pre x W, J pre W → pre.length < len → YieldAt F (n - 1) Tryz.prog l #[.int .i64 ((x.val : Nat) : Int), f x.val] W fun e W' =>
      (e = .returned (.bool true) ∧ J (pre ++ [x]) W' ∧ Kp2 Bs b W W') ∨ (e = .returned (.bool false) ∧ Jx (pre ++ [x]) W'))
    (W : World) (hBs : W.cell? ⟨Bs, 0, none⟩ = some (.slice (some ⟨b, 0, none⟩) len cap)) (hc : ∀ j, j < len → W.cell? ⟨b, j, none⟩ = some (f j)) (h0 : J [] W) :
    CallsIn F n Tryz.prog 64 #[.func (.yield l) #[] #[], .pointer (some ⟨Bs, 0, none⟩)] W fun e W' => (∃ v, e = .returned v) ∧
      ((∃ ys, ys = dn len len ∧ J ys W') ∨ (∃ pre : List (Fin len), True ∧ Jx pre W')) := by
  refine callsIn_of_wp Tryz.func64 rfl h5 ?_ hro
  simp only [Tryz.ntmps64, List.size_toArray, List.length_cons, List.length_nil, Nat.reduceAdd, Nat.reduceSub, Array.replicate_succ, Array.replicate_zero, List.push_toArray, List.append_toArray, List.nil_append, List.cons_append]
  have HC : Hid (∀ j, j < len → W.cell? ⟨b, j, none⟩ = some (f j)) := hc
  have HY : Hid (∀ pre x W, J pre W → pre.length < len → YieldAt F (n - 1) Tryz.prog l #[.int .i64 ((x.val : Nat) : Int), f x.val] W fun e W' =>
      (e = .returned (.bool true) ∧ J (pre ++ [x]) W' ∧ Kp2 Bs b W W') ∨ (e = .returned (.bool false) ∧ Jx (pre ++ [x]) W')) := hY
  clear hc hY
  gi_wp2
  gi_loopw [3] (fun i wr => ∃ j : Nat, j ≤ len ∧ i = .int .i64 ((j : Int) - 1) ∧ J (dn len (len - j)) wr ∧ Kp2 Bs b W wr)
    (fun i _ => (intOf i + 1).toNat)
  case atStart => exact ⟨len, Nat.le_refl _, rfl, by rw [Nat.sub_self]; exact h0, rfl, rfl⟩
  case round =>
    obtain ⟨k, hk, rfl, hJs, hnx⟩ := hrel
    have hb2 : wr.cell? ⟨Bs, 0, none⟩ = some (.slice (some ⟨b, 0, none⟩) len cap) := (World.cell?_of_block (w := W) (a := ⟨Bs, 0, none⟩) hnx.1).trans hBs
    by_cases hk0 : k = 0
    · subst hk0
      rw [Nat.sub_zero] at hJs
      gi_wp2
      go_end0
      exact ⟨⟨_, rfl⟩, .inl ⟨_, rfl, hJs⟩⟩
    · obtain ⟨j, rfl⟩ : ∃ j, k = j + 1 := ⟨k - 1, by omega⟩
      rw [show ((j + 1 : Nat) : Int) - 1 = (j : Int) from by omega]
      have hcx : wr.cell? ⟨b, j, none⟩ = some (f j) := (World.cell?_of_block (w := W) (a := ⟨b, j, none⟩) hnx.2).trans (HC.out j (by omega))
      have hl2 := dn_len (len := len) (len - (j + 1)) (by omega)
      obtain ⟨fn, tmps, assign, body, hy, hR⟩ := HY.out _ ⟨j, by omega⟩ wr hJs (by rw [hl2]; omega)
      dsimp only at hy
      have HJ2 : Hid (dn len (len - (j + 1)) ++ [⟨j, by omega⟩] = dn len (len - j)) := by
        show _ = _
        rw [show len - j = len - (j + 1) + 1 from by omega, dn_succ (by omega)]
        congr 2
        apply Fin.ext
        show j = len - 1 - (len - (j + 1))
        omega
      clear hl2
      gi_wp2
      refine hR.mono ?_
      rintro e W3 (⟨rfl, hJ3, hk3⟩ | ⟨rfl, hJx3⟩)
      · gi_wp2
        go_roundw
        case rel => exact ⟨j, by omega, rfl, by rw [← HJ2.out]; exact hJ3, hnx.trans hk3⟩
        case measure => simp [intOf]
      · gi_wp2
        refine bodyPost_ret (results_none rfl _ _ _) rfl ?_
        exact ⟨⟨_, rfl⟩, .inr ⟨_, trivial, hJx3⟩⟩

/-- slices.Backward(s): the slice value is boxed; the function value captures the box. -/
theorem back_in (F : Fence) (n : Nat) (h5 : F.fn 38) (hro : F.round = none) (a : Option Addr) (len cap : Nat) (w : World) :
    CallsIn F n Tryz.prog 38 #[.slice a len cap] w fun e w' => e = .returned (.func (.func 64) #[] #[.pointer (some ⟨w.heap.size, 0, none⟩)]) ∧ w' = w.alloc (.cells #[.slice a len cap] 58) := by
  refine callsIn_of_wp Tryz.func38 rfl h5 ?_ hro
  simp only [Tryz.ntmps38, List.size_toArray, List.length_cons, List.length_nil, Nat.reduceAdd, Nat.reduceSub, Array.replicate_succ, Array.replicate_zero, List.push_toArray, List.append_toArray, List.nil_append, List.cons_append]
  gi_wp2
  go_ret
  exact ⟨rfl, rfl⟩
/-- What it hands back, in a loop whose body leaves the box and the row as they are: all places, the last one first. -/
theorem back_stops (F : Fence) (n : Nat) (h5 : F.fn 64) (hro : F.round = none) (hn : 1 ≤ n) (Bs b len cap : Nat) (f : Nat → Value) (hle : len ≤ 1073741824) (w : World) (hBs : Bs < w.heap.size) (hb : b < w.heap.size)
    (hc : w.cell? ⟨Bs, 0, none⟩ = some (.slice (some ⟨b, 0, none⟩) len cap)) (hcs : ∀ j, j < len → w.cell? ⟨b, j, none⟩ = some (f j)) :
    SeqStopsK F n Tryz.prog 64 #[.pointer (some ⟨Bs, 0, none⟩)] (fun x : Fin len => #[Value.int .i64 ((x.val : Nat) : Int), f x.val]) (Kp2 Bs b) (fun ys => ys = dn len len) (fun _ => True) len w := fun l J Jx W hW _ _ hY h0 => by
  have hc' := (hW.cell (p := ⟨Bs, 0, none⟩) hBs).trans hc
  exact back1_in F n h5 hro hn l Bs b len cap f hle J Jx hY W hc' (fun j hj => (hW.cell (p := ⟨b, j, none⟩) hb).trans (hcs j hj)) h0
end Go.Proofs.YtmfpnlhpdjabeaaGreatDoor

/- Boxes of one slice; what stays in a loop over a function. -/
namespace Go.Proofs.YtmfpnlhpdjabeaaGreatDoor
open Go.RowKit M Go.Shelf

section
variable {W W' : World} {row : Option Nat}
theorem Sl.kept {ao : Option Addr} {n cap : Nat} {xs : List Nat} (h : Sl W.heap.size W ao n cap xs) (hg : W.grownBy W' row) (hr : ∀ r, row = some r → ∃ o : Obj, W.heap[r]? = some o ∧ o.isCells = false) : Sl W'.heap.size W' ao n cap xs := by
  refine ⟨h.len, h.le, h.lim, fun h0 => ?_, h.nilc⟩
  obtain ⟨b, o, e1, e2, e3⟩ := h.there h0
  exact ⟨b, o, e1, Nat.lt_of_lt_of_le e2 hg.size, fun i hi => cell_kept (e3 i hi) hg hr⟩
theorem row_kept {k : Nat} {c : Array Value} {t : TypeId} {z : Nat × Nat} (h : W.heap[k]? = some (.cells c t z)) (hg : W.grownBy W' row) (hr : ∀ r, row = some r → ∃ o : Obj, W.heap[r]? = some o ∧ o.isCells = false) : W'.heap[k]? = some (.cells c t z) :=
  (grownBy_keeps_cells hg hr h rfl).trans h
theorem Os.kept {B : Nat} {v : Value} {vs : List Value} (h : Os B W v vs) (hg : W.grownBy W' row) (hr : ∀ r, row = some r → ∃ o : Obj, W.heap[r]? = some o ∧ o.isCells = false) : Os B W' v vs := by
  obtain ⟨g, cap, cur, h1, h2, h3, r⟩ := h.row
  exact ⟨h.sl, g, cap, cur, h1, h2, row_kept h3 hg hr, r⟩
theorem Ns.kept {vs : List Value} {xss : List (List Nat)} (h : Ns W vs xss) (hg : W.grownBy W' row) (hr : ∀ r, row = some r → ∃ o : Obj, W.heap[r]? = some o ∧ o.isCells = false) : Ns W' vs xss :=
  ⟨h.len, fun i hi => by obtain ⟨ao, n, c, h1, h2⟩ := h.at_ i hi; exact ⟨ao, n, c, h1, h2.kept hg hr⟩⟩
theorem Nr.kept {B : Nat} {v : Value} {xss : List (List Nat)} (h : Nr B W v xss) (hg : W.grownBy W' row) (hr : ∀ r, row = some r → ∃ o : Obj, W.heap[r]? = some o ∧ o.isCells = false) : Nr B W' v xss := by
  obtain ⟨vs, h1, h2⟩ := h
  exact ⟨vs, h1.kept hg hr, h2.kept hg hr⟩
theorem Oy.kept {B : Nat} {v : Value} {zs : List Nat} (h : Oy B W v zs) (hg : W.grownBy W' row) (hr : ∀ r, row = some r → ∃ o : Obj, W.heap[r]? = some o ∧ o.isCells = false) : Oy B W' v zs := by
  obtain ⟨g, cap, cur, h1, h2, h3, r⟩ := h.row
  exact ⟨h.byt, g, cap, cur, h1, h2, row_kept h3 hg hr, r⟩
theorem keeps_below {W W' : World} (h : Below W.heap.size W W') : KeepsOthers W W' :=
  ⟨h.size, fun k _ hk _ => (h.block k (Array.getElem?_eq_some_iff.1 hk).1).trans hk⟩
end

/-- Block B is a box of one value. -/
structure Bxd (W : World) (B : Nat) (t : TypeId) (v : Value) : Prop where
  at_ : W.heap[B]? = some (.cells #[v] t (0, 0))
section
variable {W W' : World} {B : Nat} {t : TypeId} {v : Value}
theorem Bxd.cell (h : Bxd W B t v) : W.cell? ⟨B, 0, none⟩ = some v := by rw [cell_of_row W B 0 _ _ _ h.at_]; rfl
theorem Bxd.free (h : Bxd W B t v) : W.frozen? ⟨B, 0, none⟩ = false := frozen_of_row W B 0 _ _ h.at_
theorem Bxd.lt (h : Bxd W B t v) : B < W.heap.size := (Array.getElem?_eq_some_iff.1 h.at_).1
theorem Bxd.later (h : Bxd W B t v) (hb : Below W.heap.size W W') : Bxd W' B t v := ⟨(hb.block B h.lt).trans h.at_⟩
theorem Bxd.set (h : Bxd W B t v) (v' : Value) : Bxd (W.setCell ⟨B, 0, none⟩ v') B t v' := ⟨by rw [heap_setCell_same W B 0 _ _ _ h.at_]; rfl⟩
theorem Bxd.alloc (W : World) (t : TypeId) (v : Value) : Bxd (W.alloc (.cells #[v] t)) W.heap.size t v := ⟨heap_alloc_new _ _⟩
theorem Sl.storeX {ao : Option Addr} {n cap : Nat} {xs : List Nat} (h : Sl W.heap.size W ao n cap xs) (hb : Bxd W B t v) (hv : IsS v) (x : Value) : Sl (W.setCell ⟨B, 0, none⟩ x).heap.size (W.setCell ⟨B, 0, none⟩ x) ao n cap xs := by
  have fr := (Fr.refl B W).set 0 x
  refine ⟨h.len, h.le, h.lim, fun h0 => ?_, h.nilc⟩
  obtain ⟨b, o, e1, e2, e3⟩ := h.there h0
  have hne : b ≠ B := by
    intro he
    subst he
    have hc := e3 0 h0
    rw [Nat.add_zero, cell_of_row W b o _ _ _ hb.at_] at hc
    have hm := Array.mem_of_getElem? hc
    obtain ⟨_, _, _, rfl⟩ := hv
    simp at hm
  refine ⟨b, o, e1, by rw [fr.size]; exact e2, fun i hi => ?_⟩
  rw [World.cell?_of_block (w := W) (a := ⟨b, o + i, none⟩) (fr.block b hne)]
  exact e3 i hi
theorem Os.storeX {B0 : Nat} {u : Value} {vs : List Value} (h : Os B0 W u vs) (hb : Bxd W B t v) (ht : t ≠ 23) (x : Value) : Os B0 (W.setCell ⟨B, 0, none⟩ x) u vs := by
  refine h.keep fun k hk => ((Fr.refl B W).set 0 x).block k fun e => ?_
  subst e
  obtain ⟨g, cap, cur, h1, h2, h3, r⟩ := h.row
  rw [h1] at hk
  simp only [Value.ownBlock, Option.some.injEq] at hk
  subst hk
  rw [hb.at_] at h3
  simp only [Option.some.injEq, Obj.cells.injEq] at h3
  exact ht h3.2.1
theorem Nr.storeX {B0 : Nat} {u : Value} {xss : List (List Nat)} (h : Nr B0 W u xss) (hb : Bxd W B t v) (hv : IsS v) (ht : t ≠ 23) (x : Value) : Nr B0 (W.setCell ⟨B, 0, none⟩ x) u xss := by
  obtain ⟨vs, h1, h2⟩ := h
  exact ⟨vs, h1.storeX hb ht x, h2.len, fun i hi => by obtain ⟨ao, n, c, k1, k2⟩ := h2.at_ i hi; exact ⟨ao, n, c, k1, k2.storeX hb hv x⟩⟩
theorem Oy.storeX {B0 : Nat} {u : Value} {zs : List Nat} (h : Oy B0 W u zs) (hb : Bxd W B t v) (ht : t ≠ 5) (x : Value) : Oy B0 (W.setCell ⟨B, 0, none⟩ x) u zs := by
  refine h.keep fun k hk => ((Fr.refl B W).set 0 x).block k fun e => ?_
  subst e
  obtain ⟨g, cap, cur, h1, h2, h3, r⟩ := h.row
  rw [h1] at hk
  simp only [Value.ownBlock, Option.some.injEq] at hk
  subst hk
  rw [hb.at_] at h3
  simp only [Option.some.injEq, Obj.cells.injEq] at h3
  exact ht h3.2.1
end
/-- The slice value v is read as the limbs xs. -/
def SV (W : World) (v : Value) (xs : List Nat) : Prop := ∃ ao n c, v = .slice ao n c ∧ Sl W.heap.size W ao n c xs

/-- Split by the squares at these places, one behind the other. -/
def fp {m : Nat} (pre : List (Fin m)) (l : List Nat) : List Nat := pre.foldl (fun l i => sp (pw i.val) l) l
theorem fp_snoc {m : Nat} (pre : List (Fin m)) (x : Fin m) (l : List Nat) : fp (pre ++ [x]) l = sp (pw x.val) (fp pre l) := by simp [fp]
theorem sp_le {p A : Nat} : ∀ (l : List Nat), (∀ x ∈ l, x ≤ A) → ∀ x ∈ sp p l, x ≤ A
  | [], _ => fun x hx => by cases hx
  | a :: r, h => fun x hx => by
    simp only [sp, List.mem_cons] at hx
    have ha := h a (List.mem_cons_self ..)
    rcases hx with rfl | rfl | hx
    · exact Nat.le_trans (Nat.mod_le _ _) ha
    · exact Nat.le_trans (Nat.div_le_self _ _) ha
    · exact sp_le r (fun y hy => h y (List.mem_cons_of_mem _ hy)) x hx
theorem fp_le {m A : Nat} {l : List Nat} (h : ∀ x ∈ l, x ≤ A) : ∀ (pre : List (Fin m)), ∀ x ∈ fp pre l, x ≤ A := by
  intro pre
  induction pre generalizing l with
  | nil => exact h
  | cons y pre ih => exact ih (sp_le l h)
theorem fp_len {m : Nat} (l : List Nat) : ∀ (pre : List (Fin m)), (fp pre l).length = 2 ^ pre.length * l.length := by
  intro pre
  induction pre generalizing l with
  | nil => simp [fp]
  | cons y pre ih =>
    show (fp pre (sp (pw y.val) l)).length = _
    rw [ih, sp_len, List.length_cons, Nat.pow_succ, Nat.mul_assoc]
theorem fp_dn {m : Nat} (l : List Nat) : ∀ (k j : Nat), k + j = m → sps m l = sps j (fp (dn m k) l)
  | 0, j, h => by rw [show j = m from by omega]; rfl
  | k + 1, j, h => by
    rw [fp_dn l k (j + 1) (by omega), dn_succ (by omega), fp_snoc, sps]
    congr 3
    show j = m - 1 - k
    omega
theorem fp_all {m : Nat} (l : List Nat) : fp (dn m m) l = sps m l := (fp_dn l m 0 (by omega)).symm
/-- So many bits are held by so many parts. -/
theorem bits_pw {A c m : Nat} (hc : c = nb A / 29 + 1) (hm : c ≤ 2 ^ m) : A < pw m := by
  have h1 := nb_lt A
  have h2 : 2 ^ nb A ≤ 2 ^ (29 * c) := Nat.pow_le_pow_right (by omega) (by omega)
  have h3 : 2 ^ (29 * c) ≤ 1000000000 ^ c := by rw [Nat.pow_mul]; exact Nat.pow_le_pow_left (by omega) c
  have h4 : 1000000000 ^ c ≤ 1000000000 ^ 2 ^ m := Nat.pow_le_pow_right (by omega) hm
  unfold pw
  omega
end Go.Proofs.YtmfpnlhpdjabeaaGreatDoor

/- package decimal: partsOf. -/
namespace Go.Proofs.YtmfpnlhpdjabeaaGreatDoor
open Go.RowKit M Go.Shelf

attribute [local go_sem] Oper.semAt_some

theorem nb_le_bits {n : Nat} {xs : List Nat} (hl : Lim xs) (h : xs.length = n) : nb (val xs) ≤ 32 * n := by
  by_cases h0 : val xs = 0
  · rw [h0]; exact Nat.zero_le _
  · have h1 := nb_ge h0
    have h2 : val xs < 2 ^ (32 * n) := by rw [← Bp_two, ← h]; exact val_lt hl
    have h3 : 2 ^ (nb (val xs) - 1) < 2 ^ (32 * n) := Nat.lt_of_le_of_lt h1 h2
    have h4 := (Nat.pow_lt_pow_iff_right (by omega)).1 h3
    omega

/-- What holds between two rounds of partsOf's loop. -/
def PInv (m : Nat) (w : World) (Bx L : Nat) (f : Nat → Value) (n : Nat) (xs : List Nat) (pre : List (Fin m)) (W : World) : Prop :=
  (∃ pv xss, Bxd W Bx 58 pv ∧ Nr w.heap.size W pv xss ∧ xss.map val = fp pre [val xs] ∧ (∀ i, (xss.getD i []).length ≤ n) ∧ (pre ≠ [] → xss = (fp pre [val xs]).map toL)) ∧ (∀ i, i < m → SV W (f i) (toL (pw i))) ∧ Below w.heap.size w W ∧ L ≤ W.heap.size
theorem PInv.own (m : Nat) (w : World) (Bx L : Nat) (f : Nat → Value) (n : Nat) (xs : List Nat) {B : Nat} (hB : w.heap.size ≤ B) : OwnFrom B (PInv m w Bx L f n xs) := by
  rintro pre W W' row ⟨⟨pv, xss, h1, h2, h3⟩, h4, h5, h6⟩ hg hr
  have hr2 : ∀ r, row = some r → ∃ o : Obj, W.heap[r]? = some o ∧ o.isCells = false := fun r e => (hr r e).2
  refine ⟨⟨pv, xss, ⟨row_kept h1.at_ hg hr2⟩, h2.kept hg hr2, h3⟩, fun i hi => ?_, h5.grown hg h5.size (fun k e => Nat.le_trans hB (hr k e).1), Nat.le_trans h6 hg.size⟩
  obtain ⟨ao, n, c, e, s⟩ := h4 i hi
  exact ⟨ao, n, c, e, s.kept hg hr2⟩
theorem pw_len_le {k m : Nat} (h : k < m) : (toL (pw k)).length ≤ 2 ^ m := Nat.le_trans (toL_len_le (pw_bp k)) (Nat.pow_le_pow_right (by omega) (by omega))

set_option maxRecDepth 100000 in
set_option maxHeartbeats 4000000 in
theorem partsOf_k {w : World} {ao : Option Addr} {n cap : Nat} {xs : List Nat} (h : Sl w.heap.size w ao n cap xs) (hn : n ≤ 1048576) :
    Calls Tryz.prog 39 #[.slice ao n cap] w fun e w' => ∃ v' ns, e = .returned v' ∧ Nr w.heap.size w' v' (ns.map toL) ∧ vb (pw 0) ns = val xs ∧ (∀ x ∈ ns, x < pw 0) ∧ ns.length ≤ 4194304 ∧ 0 < ns.length ∧ Below w.heap.size w w' := by
  refine (callsIn_wide (n := 6)).1 ?_
  have hro : Fence.wide.round = none := rfl
  have l1 : Below w.heap.size w (w.alloc (.cells #[.slice ao n cap] 23)) := (Below.refl _ _).alloc (Nat.le_refl _) _
  have N0 : Nr w.heap.size (w.alloc (.cells #[.slice ao n cap] 23)) (.slice (some ⟨w.heap.size, 0, none⟩) 1 1) [xs] :=
    ⟨[.slice ao n cap], ⟨fun u hu => by rw [List.mem_singleton.1 hu]; exact ⟨_, _, _, rfl⟩, w.heap.size, 1, _, rfl, Nat.le_refl _, heap_alloc_new _ _, by simp, by unfold maxLen; omega, rfl, rfl, fun u hu => by rw [List.mem_singleton.1 hu]; exact ⟨_, _, _, rfl⟩⟩, Ns.one (h.later l1)⟩
  have s1 := h.later l1
  have z1 : (w.alloc (.cells #[.slice ao n cap] 23)).heap.size = w.heap.size + 1 := by simp
  obtain ⟨w1, hw1⟩ : ∃ w1, w1 = w.alloc (.cells #[.slice ao n cap] 23) := ⟨_, rfl⟩
  rw [← hw1] at l1 N0 s1 z1
  have l2 : Below w1.heap.size w1 (w1.alloc (.cells #[.slice (some ⟨w.heap.size, 0, none⟩) 1 1] 58)) := (Below.refl _ _).alloc (Nat.le_refl _) _
  have X2 := Bxd.alloc w1 58 (.slice (some ⟨w.heap.size, 0, none⟩) 1 1)
  rw [z1] at X2
  have N2 := N0.later l2
  have s2 := s1.later l2
  have B2 := l1.trans (l2.mono l1.size)
  obtain ⟨w2, hw2⟩ : ∃ w2, w2 = w1.alloc (.cells #[.slice (some ⟨w.heap.size, 0, none⟩) 1 1] 58) := ⟨_, rfl⟩
  rw [← hw2] at X2 N2 s2 B2
  rw [hw1] at hw2
  have hlen := h.len
  have hlim := h.lim
  have HNB : Hid (nb (val xs) ≤ 32 * n) := nb_le_bits hlim hlen
  clear l1 N0 s1 z1 l2 hw1
  refine callsIn_of_wp_marks Tryz.func39 rfl trivial ?_ hro
  simp only [Tryz.ntmps39, List.size_toArray, List.length_cons, List.length_nil, Nat.reduceAdd, Nat.reduceSub, Array.replicate_succ, Array.replicate_zero, List.push_toArray, List.append_toArray, List.nil_append, List.cons_append]
  gi_wp2_with fail
  rw [← hw2]
  refine ⟨trivial, callsIn_wide.2 (Calls.mono (bits_k s2 (by omega)) ?_)⟩
  rintro e w3 ⟨rfl, b3⟩
  replace X2 := X2.later b3
  replace N2 := N2.later b3
  have B3 := B2.trans (b3.mono B2.size)
  obtain ⟨c, hc⟩ : ∃ c, c = nb (val xs) / 29 + 1 := ⟨_, rfl⟩
  have HC : Hid (c = nb (val xs) / 29 + 1) := hc
  have hnb := HNB.out
  have hq : ((nb (val xs) : Nat) : Int) / 29 + 1 = (c : Int) := by omega
  have hc1 : c ≤ 1157050 := by omega
  clear hc hw2 b3 B2 s2
  obtain ⟨nbv, hnbv⟩ : ∃ nbv, nbv = nb (val xs) := ⟨_, rfl⟩
  rw [← hnbv] at hq hnb ⊢
  clear hnbv
  have HXL : Hid (w.heap.size + 1 < w3.heap.size) := X2.lt
  gi_wp2_with fail
  refine ⟨trivial, callsIn_wide.2 (Calls.mono (squares_k (c := c) (by omega)) ?_)⟩
  rintro e w4 ⟨v2, m, rfl, hm1, hm2, hm3, N4, b4⟩
  replace X2 := X2.later b4
  replace N2 := N2.later b4
  have B4 := B3.trans (b4.mono B3.size)
  have HM2 : Hid (c ≤ 2 ^ m) := hm2
  have HM3 : Hid (2 ^ m ≤ 4194304) := by show 2 ^ m ≤ 4194304; rcases hm3 with h | rfl <;> omega
  have hm4 : m ≤ 4194304 := by have h1 := le_two m; have h2 := HM3.out; omega
  obtain ⟨b, cap2, rfl, hle2, hbge, hcell2⟩ := N4.inv
  rw [pws_len] at hle2 hcell2 ⊢
  have hbl := (N4.lt b rfl).2
  clear hm2 hm3 b4 B3
  gi_wp2_with fail
  refine ⟨trivial, (back_in Fence.wide _ trivial rfl _ _ _ _).mono ?_⟩
  rintro e w5 ⟨rfl, rfl⟩
  gi_wp2_with fail
  obtain ⟨f, HF⟩ : ∃ f : Nat → Value, Hid (∀ i, i < m → w4.cell? ⟨b, i, none⟩ = some (f i) ∧ SV w4 (f i) (toL (pw i))) := by
    refine ⟨fun i => (w4.cell? ⟨b, i, none⟩).getD undef, fun i hi => ?_⟩
    obtain ⟨ao', n', c', k1, k2⟩ := hcell2 i hi
    rw [pws_get hi] at k2
    have hv : (w4.cell? ⟨b, i, none⟩).getD undef = .slice ao' n' c' := by rw [k1]; rfl
    show w4.cell? ⟨b, i, none⟩ = some ((w4.cell? ⟨b, i, none⟩).getD undef) ∧ SV w4 ((w4.cell? ⟨b, i, none⟩).getD undef) (toL (pw i))
    rw [hv]
    exact ⟨k1, ao', n', c', rfl, k2⟩
  obtain ⟨wL, hwL⟩ : ∃ wL, wL = w4.alloc (.cells #[.slice (some ⟨b, 0, none⟩) m cap2] 58) := ⟨_, rfl⟩
  obtain ⟨Bs, hBs⟩ : ∃ Bs, Bs = w4.heap.size := ⟨_, rfl⟩
  have lL : Below w4.heap.size w4 wL := by rw [hwL]; exact (Below.refl _ _).alloc (Nat.le_refl _) _
  have XL : Bxd wL Bs 58 (.slice (some ⟨b, 0, none⟩) m cap2) := by rw [hwL, hBs]; exact Bxd.alloc _ _ _
  have X5 := X2.later lL
  have N5 := N2.later lL
  have B5 := B4.trans (lL.mono B4.size)
  have HBx : Hid (w.heap.size + 1 < b ∧ w.heap.size + 1 < Bs ∧ b < wL.heap.size ∧ Bs < wL.heap.size) :=
    ⟨by have := HXL.out; omega, by rw [hBs]; have := HXL.out; omega, Nat.lt_of_lt_of_le hbl lL.size, XL.lt⟩
  have HCS : Hid (∀ j, j < m → wL.cell? ⟨b, j, none⟩ = some (f j)) := fun j hj => (lL.cell (p := ⟨b, j, none⟩) hbl).trans (HF.out j hj).1
  have HSV : Hid (∀ j, j < m → SV wL (f j) (toL (pw j))) := fun j hj => by
    obtain ⟨ao', n', c', k1, k2⟩ := (HF.out j hj).2
    exact ⟨ao', n', c', k1, k2.later lL⟩
  rw [← hwL, ← hBs]
  clear hwL hBs X2 N2 N4 hcell2 hbl hbge B4 lL HF
  refine wpIn_rangeFunc_ownF (F := Fence.wide) (n := 6) hro (by omega) (gf := 64) (lb := #[.pointer (some ⟨Bs, 0, none⟩)]) rfl trivial (enters_of Tryz.func64 (by kernel_rfl) rfl)
    (back_stops Fence.wide (6 - 1) trivial rfl (by omega) Bs b m cap2 f (by omega) wL HBx.out.2.2.2 HBx.out.2.2.1 XL.cell HCS.out) (fun h k => h.trans k)
    (fun W l o o' hl _ _ _ => ⟨World.putObj_heap_other (by have := HBx.out.2.2.2; omega), World.putObj_heap_other (by have := HBx.out.2.2.1; omega)⟩) (Below.refl _ _) (fun _ => rfl)
    (PInv m w (w.heap.size + 1) wL.heap.size f n xs) (fun _ _ _ => False) (PInv.own m w (w.heap.size + 1) wL.heap.size f n xs B5.size) (fun _ _ _ _ _ h _ _ => h)
    ⟨⟨_, [xs], X5, N5, rfl, fun i => ?len, fun h => absurd rfl h⟩, HSV.out, B5, Nat.le_refl _⟩
    (fun x => { tmps := #[.slice ao n cap, undef, .slice none 0 0, .pointer (some ⟨w.heap.size + 1, 0, none⟩), .slice (some ⟨b, 0, none⟩) m cap2, undef, f x.val, .slice ao n cap, .slice (some ⟨w.heap.size, 0, none⟩) 1 1, .slice ao n cap, .int .i64 (nbv : Int), .int .i64 ((nbv : Int) / 29), .int .i64 (c : Int), .slice (some ⟨b, 0, none⟩) m cap2, .slice (some ⟨b, 0, none⟩) m cap2, .func (.func 64) #[] #[.pointer (some ⟨Bs, 0, none⟩)], .int .i64 ((x.val : Nat) : Int), f x.val, undef, undef, undef, undef], defers := [] }) ?assign ?body ?done ?stop
  case len =>
    match i with
    | 0 => exact Nat.le_of_eq hlen
    | i + 1 => exact Nat.zero_le _
  case assign =>
    intro l x W K hK
    gi_wp2
    exact hK
  case body =>
    clear X5 N5 B5
    rintro l pre x W ⟨⟨pv, xss, hX, hN, hv, hln, hcan⟩, hS, hB, hWL⟩ hpl
    obtain ⟨ao', n', c', hfx, sx⟩ := hS x.val x.isLt
    rw [hfx]
    have hsn : n' ≤ 5242880 := by
      have h1 := pw_len_le x.isLt
      rw [sx.len] at h1
      have h2 := HM3.out
      omega
    have HXL2 : Hid (xss.length ≤ 268435456) := by
      have h1 : xss.length = (fp pre [val xs]).length := by rw [← hv, List.length_map]
      rw [fp_len] at h1
      have h2 : 2 ^ pre.length ≤ 2 ^ m := Nat.pow_le_pow_right (by omega) (by omega)
      have h3 := HM3.out
      show xss.length ≤ 268435456
      rw [h1]
      simp
      omega
    have HSP : Hid (∀ u, Sl W.heap.size W ao' n' c' (toL (pw x.val)) → Nr w.heap.size W pv xss → u = W → Calls Tryz.prog 66 #[pv, .slice ao' n' c'] u fun e w' => ∃ v', e = .returned v' ∧ Nr u.heap.size w' v' ((sp (pw x.val) (fp pre [val xs])).map toL) ∧ Below u.heap.size u w') := by
      rintro u hs hn rfl
      exact split_k (K := 5242880) hn hs hv HXL2.out (fun i _ => Nat.le_trans (hln i) (by omega)) hsn (by omega) (Nat.ne_of_gt (pw_pos _))
    have hc := hX.cell
    have hfz := hX.free
    have hIs : IsS pv := by
      obtain ⟨g', cap', e1, _⟩ := hN.inv
      exact ⟨_, _, _, e1⟩
    have HS : Hid (∀ i, i < m → SV W (f i) (toL (pw i))) := hS
    have HWL : Hid (wL.heap.size ≤ W.heap.size) := hWL
    clear hcan hln hv hS hfx hWL
    gi_wp2_with fail
    refine ⟨trivial, CallsIn.inRound l (callsIn_wide.2 (Calls.mono (HSP.out W sx hN rfl) ?_))⟩
    rintro e W1 ⟨v1, rfl, N1, b1⟩
    have X1 := hX.later b1
    have hc1 := X1.cell
    have hfz1 := X1.free
    have HB1 : Hid (Below w.heap.size w W1) := hB.trans (b1.mono hB.size)
    have N1' := (N1.mono hB.size).storeX X1 hIs (by decide) v1
    have X1' := X1.set v1
    have HV1 : Hid (∃ g1 L1 cp1, v1 = .slice (some ⟨g1, 0, none⟩) L1 cp1) := by
      obtain ⟨g1, cp1, e1, _⟩ := N1.inv
      exact ⟨g1, _, cp1, e1⟩
    clear hc hfz
    obtain ⟨g1, L1, cp1, rfl⟩ := HV1.out
    gi_wp2
    have hb1 := HBx.out
    have fr := (Fr.refl (w.heap.size + 1) W1).set 0 (.slice (some ⟨g1, 0, none⟩) L1 cp1)
    refine ⟨(keeps_below b1).trans (KeepsOthers.setCell _ _ _), ⟨(fr.block Bs (by omega)).trans (b1.block Bs (Nat.lt_of_lt_of_le hb1.2.2.2 HWL.out)), (fr.block b (by omega)).trans (b1.block b (Nat.lt_of_lt_of_le hb1.2.2.1 HWL.out))⟩, ⟨_, (sp (pw x.val) (fp pre [val xs])).map toL, X1', N1', ?_, ?_, ?_⟩, ?_, HB1.out.trans (fr.below (N := w.heap.size) (by omega)), ?_⟩
    · rw [fp_snoc, List.map_map]
      have : (val ∘ toL) = id := by funext y; exact val_toL y
      rw [this, List.map_id]
    · intro i
      rw [map_getD]
      have hlt : ∀ y ∈ sp (pw x.val) (fp pre [val xs]), y ≤ val xs := sp_le _ (fp_le (fun y hy => by rw [List.mem_singleton.1 hy]; exact Nat.le_refl _) pre)
      by_cases hi : i < (sp (pw x.val) (fp pre [val xs])).length
      · rw [List.getD_eq_getElem?_getD, List.getElem?_eq_getElem hi]
        exact toL_len_le (Nat.lt_of_le_of_lt (hlt _ (List.getElem_mem hi)) (by rw [← hlen]; exact val_lt hlim))
      · rw [List.getD_eq_getElem?_getD, List.getElem?_eq_none (by omega)]
        exact Nat.zero_le _
    · intro _
      rw [fp_snoc]
    · intro i hi
      obtain ⟨ao2, n2, c2, k1, k2⟩ := HS.out i hi
      exact ⟨ao2, n2, c2, k1, (k2.later b1).storeX X1 hIs _⟩
    · rw [fr.size]
      exact Nat.le_trans HWL.out b1.size
  case done =>
    clear X5 N5 B5
    rintro D ys W hD rfl ⟨⟨pv, xss, hX, hN, hv, hln, hcan⟩, hS, hB, hWL⟩ hK
    have hne : dn m m ≠ [] := fun e => by
      have := dn_len (len := m) m (Nat.le_refl _)
      rw [e] at this
      simp at this
      omega
    have hx2 := hcan hne
    rw [fp_all] at hx2
    have hc := hX.cell
    gi_wp2
    refine ⟨by simp, .inl ⟨_, _, rfl, run_takeDeferred hK, ?_⟩⟩
    have hb1 := HBx.out
    have hwD : w.heap.size ≤ D := by omega
    have hlt := bits_pw HC.out HM2.out
    rw [hx2] at hN
    refine ⟨_, results_tmp rfl _ _ _, pv, sps m [val xs], rfl, hN.kept (grownBy_putObj' W D _) (fun r e => by cases e; exact ⟨_, hK, rfl⟩), ?_, ?_, ?_, ?_, hB.trans (belowK_b (w := w) (Nat.le_refl _) W D _ _ hwD hK rfl rfl)⟩
    · rw [sps_vb]
      simp [vb]
    · exact sps_lt m (fun y hy => by rw [List.mem_singleton.1 hy]; exact hlt)
    · rw [sps_len]
      have := HM3.out
      simpa using this
    · rw [sps_len]
      have := Nat.two_pow_pos m
      simpa using this
  case stop =>
    rintro D c pre W _ _ h _
    exact h.elim
end Go.Proofs.YtmfpnlhpdjabeaaGreatDoor

/- Rows of bytes: append of several; package decimal: appendPart. -/
namespace Go.Proofs.YtmfpnlhpdjabeaaGreatDoor
open Go.RowKit M

/-- The bytes zs: no row yet, or an own one. -/
def Ot (B : Nat) (w : World) (v : Value) (zs : List Nat) : Prop := (v = .slice none 0 0 ∧ zs = []) ∨ Oy B w v zs
def u8s (zs : List Nat) : List Value := zs.map fun x : Nat => Value.int .u8 (x : Int)
/-- 'append(out, ys...)', of bytes. -/
theorem run_appBs {w : World} {B : Nat} {v : Value} {zs : List Nat} (ys : List Nat) (hown : Ot B w v zs) (hy : Byt ys) (hy0 : 0 < ys.length) (hlen : zs.length + ys.length ≤ 1099511627776) (ad : Addr) (hc : ∀ j u, (u8s ys)[j]? = some u → w.cell? (ad.add j) = some u) (ty : TypeId) (hB : B ≤ w.heap.size) :
    ∃ v' w', (Builtin.append_ #[35, 35] ty #[v, .slice (some ad) ys.length ys.length]).run Tryz.prog w = .ok v' w' ∧ Oy B w' v' (zs ++ ys) ∧ w.grownBy w' v.ownBlock := by
  obtain ⟨i0, hi, hz0, hz1, hz2⟩ := info_parts info8
  have hl8 : (u8s ys).length = ys.length := by simp [u8s]
  have hall : ∀ u ∈ u8s ys, ∃ x : Int, u = .int .u8 x := fun u hu => by
    obtain ⟨x, _, rfl⟩ := List.mem_map.1 hu
    exact ⟨_, rfl⟩
  rcases hown with ⟨rfl, rfl⟩ | hown
  · have he := run_append_nil (P := Tryz.prog) w 35 ty 5 i0 (.int .u8 0) Tryz.underlying35 hi hz0 ad ys.length ys.length (u8s ys) (by rw [hz1, hl8, Nat.mul_one]) hc (by omega) (by omega) (by rw [hz2]; omega)
    have hge := grownCap_ge w ys.length 0 5
    have hcm : grownCap w ys.length 0 5 ≤ maxLen := grownCap_le_maxLen w ys.length 0 5 (by unfold maxLen; omega)
    refine ⟨_, _, he, ⟨by simpa using hy, w.heap.size, _, _, by rw [List.nil_append], hB, heap_alloc_new w.drew _, by simpa using hge, hcm, ?_, ?_, ?_⟩, ⟨rfl, rfl, rfl, by simp, fun k hk _ => heap_alloc_old w.drew _ hk⟩⟩
    · simp [size_zeroCells, Value.cells, hl8]; omega
    · rw [List.nil_append, Array.toList_append, List.toList_toArray, ← hl8, List.take_left]
      rfl
    · intro u hu
      rw [Array.toList_append] at hu
      simp only [List.mem_append] at hu
      rcases hu with hu | hu
      · exact hall u hu
      · simp [Builtin.zeroCells, Value.cells] at hu
        obtain ⟨k, _, h⟩ := hu
        rw [Nat.mod_one] at h
        exact ⟨0, h.symm⟩
  · obtain ⟨g, cap, cur, h1, h2, h3, h4, h5, h6, h7, h8⟩ := hown.row
    have hinv := hown.inv
    subst h1
    have hone : ∀ u ∈ u8s ys, u.oneCell' = true := by intro u hu; obtain ⟨_, rfl⟩ := hall u hu; rfl
    have hb := hown.byt.append hy
    have hll : (zs ++ ys).length = zs.length + ys.length := by simp
    by_cases hroom : zs.length + ys.length ≤ cap
    · have he := run_append_room (P := Tryz.prog) w 35 ty 5 i0 Tryz.underlying35 hi g zs.length cap cur h3 ad ys.length ys.length (u8s ys) (by rw [hz1, hl8, Nat.mul_one]) hc hone hroom (by rw [hz1, hl8]; omega)
      rw [hz1, Nat.mul_one] at he
      refine ⟨_, _, he, ⟨hb, g, cap, _, by rw [hll], h2, setRow_heap w g cur _ _ _ h3, by rw [hll]; exact hroom, h5, ?_, ?_, ?_⟩, ⟨rfl, rfl, rfl, by simp, fun k _ hk => setRow_other w g k _ (fun e => hk (by simp [Value.ownBlock, e]))⟩⟩
      · simp [hl8]; omega
      · rw [hll, List.toList_toArray, List.map_append, ← h7]
        have hl : (cur.toList.take zs.length ++ u8s ys).length = zs.length + ys.length := by simp [hl8]; omega
        rw [← hl, List.take_left]
        rfl
      · intro u hu
        simp only [List.mem_append] at hu
        rcases hu with (hu | hu) | hu
        · exact h8 u (List.mem_of_mem_take hu)
        · exact hall u hu
        · exact h8 u (List.mem_of_mem_drop hu)
    · have hfits := growslice_fits (need := zs.length + ys.length) (old := cap) (bytes := 1) (by omega) (by omega)
      have he := run_append_grow (P := Tryz.prog) w 35 ty 5 i0 (.int .u8 0) Tryz.underlying35 hi hz0 ⟨g, 0, none⟩ zs.length cap (u8s zs) (by rw [hz1]; simp [u8s]) (by
        intro j u hj
        obtain ⟨g', cap', e1, _, e3⟩ := hinv
        simp only [Value.slice.injEq, Option.some.injEq, Addr.mk.injEq] at e1
        obtain ⟨⟨rfl, _⟩, _⟩ := e1
        have hjl : j < zs.length := by
          by_cases h : j < zs.length
          · exact h
          · rw [List.getElem?_eq_none (by simp [u8s]; omega)] at hj; cases hj
        rw [addr_add, e3 j hjl]
        unfold u8s at hj
        rw [List.getElem?_map, List.getElem?_eq_getElem hjl] at hj
        simp at hj
        rw [← hj, List.getD_eq_getElem?_getD, List.getElem?_eq_getElem hjl]
        rfl) ad ys.length ys.length (u8s ys) (by rw [hz1, hl8, Nat.mul_one]) hc (by omega) (by omega) (by rw [hz2]; exact hfits)
      have hge := grownCap_ge w (zs.length + ys.length) cap 5
      have hcm : grownCap w (zs.length + ys.length) cap 5 ≤ maxLen := grownCap_le_maxLen w (zs.length + ys.length) cap 5 (by unfold maxLen; omega)
      have hlz : (u8s zs).length = zs.length := by simp [u8s]
      refine ⟨_, _, he, ⟨hb, w.heap.size, _, _, by rw [hll], hB, heap_alloc_new w.drew _, by rw [hll]; exact hge, hcm, ?_, ?_, ?_⟩, ⟨rfl, rfl, rfl, by simp, fun k hk _ => heap_alloc_old w.drew _ hk⟩⟩
      · simp [size_zeroCells, Value.cells, hl8, hlz]; omega
      · rw [hll, List.map_append]
        have hl : (u8s zs ++ u8s ys).length = zs.length + ys.length := by simp [hl8, hlz]
        rw [Array.toList_append, Array.toList_append, List.toList_toArray, List.toList_toArray, ← hl, List.take_left]
        rfl
      · intro u hu
        rw [Array.toList_append, Array.toList_append] at hu
        simp only [List.mem_append] at hu
        rcases hu with (hu | hu) | hu
        · obtain ⟨x, _, rfl⟩ := List.mem_map.1 hu
          exact ⟨_, rfl⟩
        · exact hall u hu
        · simp [Builtin.zeroCells, Value.cells] at hu
          obtain ⟨k, _, h⟩ := hu
          rw [Nat.mod_one] at h
          exact ⟨0, h.symm⟩
theorem pad_front : ∀ (k n : Nat), pad (k + 1) n = (48 + n / 10 ^ k % 10) :: pad k n
  | 0, n => by simp [pad]
  | k + 1, n => by
    rw [pad, pad_front k (n / 10), pad, List.cons_append, Nat.div_div_eq_div_mul, Nat.pow_succ, Nat.mul_comm 10]

theorem Ot.later {B : Nat} {w w' : World} {v : Value} {zs : List Nat} (h : Ot B w v zs) (hb : Below w.heap.size w w') : Ot B w' v zs := h.imp id (fun h => h.later hb)
theorem Ot.lt {B : Nat} {w : World} {v : Value} {zs : List Nat} (h : Ot B w v zs) : ∀ k, v.ownBlock = some k → B ≤ k ∧ k < w.heap.size := by
  rcases h with ⟨rfl, _⟩ | h
  · intro k hk; cases hk
  · exact h.lt
section
variable {ops : Array Oper} {rest : List Oper} {o : Oper} {a : Act} {Q : Exit → Act → World → Prop}
theorem wp_appBs {w : World} (hgd : o.guard = none) (s x : Operand) (ho : o.op = .call { callee := .builtin .append, args := #[s, x], argTypes := #[35, 35] })
    {B : Nat} {v : Value} {zs : List Nat} (ys : List Nat) (ad : Addr) (hown : Ot B w v zs) (hs : a.eval s = v) (hx : a.eval x = .slice (some ad) 9 9)
    (hy : Byt ys) (hy9 : ys.length = 9) (hlen : zs.length ≤ 549755813888) (hc : ∀ j u, (u8s ys)[j]? = some u → w.cell? (ad.add j) = some u) (hB : B ≤ w.heap.size)
    (h : ∀ v' w', Oy B w' v' (zs ++ ys) → w.grownBy w' v.ownBlock → wpList Tryz.prog ops Q rest (a.put o.dst v') w') :
    wpList Tryz.prog ops Q (o :: rest) a w := by
  obtain ⟨v', w', hr, ho', hg⟩ := run_appBs ys hown hy (by omega) (by omega) ad hc o.type hB
  rw [hy9] at hr
  refine wpList_plain hgd fun K hK => ?_
  unfold Oper.wp execOp
  simp only [ho, resolve, invoke, builtin, Sem.run_bind, Sem.run_pure, Result.andThen_ok, List.map_toArray, List.map_cons, List.map_nil, hs, hx, hr]
  exact hK _ _ (h v' w' ho' hg)
end
/-- The nine cells, so many digits laid. -/
def ct (x k : Nat) : List Nat := List.replicate (9 - k) 0 ++ pad k x
theorem ct_len (x : Nat) {k : Nat} (h : k ≤ 9) : (ct x k).length = 9 := by
  unfold ct
  rw [List.length_append, List.length_replicate, pad_len]
  omega
theorem ct_set (x : Nat) {k : Nat} (h : k < 9) : (ct x k).set (8 - k) (48 + x / 10 ^ k % 10) = ct x (k + 1) := by
  unfold ct
  rw [pad_front, show 9 - k = (9 - (k + 1)) + 1 from by omega, List.replicate_succ', List.append_assoc, List.set_append_right _ _ (by simp), List.length_replicate, show 8 - k - (9 - (k + 1)) = 0 from by omega]
  rfl
/-- Block g is the array of nine bytes. -/
structure A9 (w : World) (g : Nat) (zs : List Nat) : Prop where
  at_ : w.heap[g]? = some (.cells (u8s zs).toArray 80 (0, 0))
theorem A9.cell {w : World} {g : Nat} {zs : List Nat} (h : A9 w g zs) {i : Nat} (hi : i < zs.length) : w.cell? ⟨g, i, none⟩ = some (.int .u8 ((zs.getD i 0 : Nat) : Int)) := by
  rw [cell_of_row w g i _ _ _ h.at_]
  simp [u8s, hi]
theorem A9.free {w : World} {g : Nat} {zs : List Nat} (h : A9 w g zs) (i : Nat) : w.frozen? ⟨g, i, none⟩ = false := frozen_of_row w g i _ _ h.at_
theorem A9.set {w : World} {g : Nat} {zs : List Nat} (h : A9 w g zs) (i v : Nat) : A9 (w.setCell ⟨g, i, none⟩ (.int .u8 (v : Int))) g (zs.set i v) := by
  constructor
  rw [heap_setCell_same w g i _ _ _ h.at_]
  simp [u8s, List.map_set]

set_option maxRecDepth 100000 in
set_option maxHeartbeats 4000000 in
theorem appendPart_k {w : World} {B : Nat} {tv : Value} {zs : List Nat} {ao : Option Addr} {n cap x : Nat} (ht : Ot B w tv zs) (hp : Sl w.heap.size w ao n cap (toL x)) (hx : x < 1000000000) (hz : zs.length ≤ 549755813888) (hB : B ≤ w.heap.size) :
    Calls Tryz.prog 40 #[tv, .slice ao n cap] w fun e w' => ∃ v', e = .returned v' ∧ Oy B w' v' (zs ++ pad 9 x) ∧ Below B w w' ∧ ∀ k, k < w.heap.size → tv.ownBlock ≠ some k → w'.heap[k]? = w.heap[k]? := by
  obtain ⟨w0, hw0⟩ : ∃ w0, w0 = w.alloc (.cells (u8s (ct x 0)).toArray 80) := ⟨_, rfl⟩
  obtain ⟨g, hg⟩ : ∃ g, g = w.heap.size := ⟨_, rfl⟩
  have l0 : Below w.heap.size w w0 := by rw [hw0]; exact (Below.refl _ _).alloc (Nat.le_refl _) _
  have a0 : A9 w0 g (ct x 0) := by rw [hw0, hg]; exact ⟨heap_alloc_new _ _⟩
  have HG : Hid (w.heap.size = g) := hg.symm
  have hct : u8s (ct x 0) = [.int .u8 0, .int .u8 0, .int .u8 0, .int .u8 0, .int .u8 0, .int .u8 0, .int .u8 0, .int .u8 0, .int .u8 0] := rfl
  rw [hct] at hw0
  by_cases h0 : x = 0
  · have hn : n = 0 := by rw [← hp.len, h0]; rfl
    subst hn
    have HX0 : Hid (x = 0) := h0
    clear h0
    go_enter Tryz.func40, Tryz.ntmps40
    go_wp2_with fail
    rw [← hw0, ← hg]
    clear hw0 hg hct
    go_loopw [5, 14] (fun rv iv wr => ∃ k y : Nat, iv = .int .i64 (k : Int) ∧ k ≤ 9 ∧ rv = .int .u32 (y : Int) ∧ y < 1000000000 ∧ Hid (y = x / 10 ^ k) ∧ A9 wr g (ct x k) ∧ Fr g w0 wr) (fun _ iv _ => 9 - (intOf iv).toNat)
    case atStart => exact ⟨0, x, rfl, by omega, by rw [HX0.out]; rfl, hx, by show x = x / 10 ^ 0; simp, a0, Fr.refl _ _⟩
    case round =>
      clear a0
      obtain ⟨k, y, rfl, hk, rfl, hy, HY, hA, hF⟩ := hrel
      by_cases hlt : k < 9
      · have hcl := hA.cell (i := 8 - k) (by rw [ct_len x hk]; omega)
        have hfz := hA.free (8 - k)
        have hA2 := hA.set (8 - k) (48 + y % 10)
        have hF2 := hF.set (8 - k) (.int .u8 ((48 + y % 10 : Nat) : Int))
        have HA : Hid (∀ u, A9 u g ((ct x k).set (8 - k) (48 + y % 10)) → A9 u g (ct x (k + 1))) := fun u h => by
          rw [HY.out, ct_set x hlt] at h
          exact h
        have HY2 : Hid (y / 10 = x / 10 ^ (k + 1)) := by
          show _ = _
          rw [HY.out, Nat.div_div_eq_div_mul, Nat.pow_succ]
        have hi : (8 : Int) - (k : Int) = ((8 - k : Nat) : Int) := by omega
        have hr : ((y : Int) % 10) = ((y % 10 : Nat) : Int) := by omega
        have hy10 : y % 10 < 10 := Nat.mod_lt _ (by omega)
        have h8k : 8 - k < 9 := by omega
        obtain ⟨j, hj⟩ : ∃ j, j = 8 - k := ⟨_, rfl⟩
        rw [← hj] at hcl hfz hA2 hF2 HA hi h8k
        obtain ⟨d, hd⟩ : ∃ d, d = y % 10 := ⟨_, rfl⟩
        rw [← hd] at hA2 hF2 HA hr hy10
        rw [show ((48 + d : Nat) : Int) = 48 + (d : Int) from by omega] at hA2 hF2
        have hA3 := HA.out _ hA2
        clear hA hF hj hd hA2
        go_wp2
        go_roundw
        case rel => exact ⟨k + 1, y / 10, by go_num, by omega, by go_num, by omega, HY2, hA3, hF2⟩
        case measure => simp [intOf]; omega
      · obtain rfl : k = 9 := by omega
        have hbw : Below w.heap.size w wr := l0.trans (hF.below (N := w.heap.size) (by rw [HG.out]; exact Nat.le_refl _))
        have hot := ht.later hbw
        have hBr := Nat.le_trans hB hbw.size
        have hcs : ∀ j u, (u8s (pad 9 x))[j]? = some u → wr.cell? ((⟨g, 0, none⟩ : Addr).add j) = some u := fun j u hj => by
          rw [addr_add, cell_of_row wr g j _ _ _ hA.at_]
          simpa [ct] using hj
        go_wp2_with (at_builtin; refine wp_appBs rfl _ _ rfl (pad 9 x) ⟨g, 0, none⟩ hot rfl rfl (pad_dig 9 x).byt (pad_len 9 x) (by omega) hcs hBr ?_; intro v' w5 hv hg5)
        go_ret
        refine ⟨v', rfl, hv, (hbw.mono hB).trans ((Below.refl B wr).grown hg5 hBr (fun k hk => (hot.lt k hk).1)), fun k hk hne => (hg5.block k (Nat.lt_of_lt_of_le hk hbw.size) (fun e => hne e.symm)).trans (hbw.block k hk)⟩
  · have hxl : toL x = [x] := toL_is (by simp [val]) (Lim.mk (by omega) Lim.nil) (.inr (by simpa using h0))
    rw [hxl] at hp
    obtain rfl : n = 1 := by rw [← hp.len]; rfl
    obtain ⟨pb, po, y0, rfl, hpb, hpc, hy0, HY0⟩ := hp.cell 0 (by omega)
    rw [Nat.add_zero] at hpc
    have hyx : y0 = x := HY0.out
    subst hyx
    clear h0 hxl hp HY0
    go_enter Tryz.func40, Tryz.ntmps40
    go_wp2_with fail
    rw [← hw0, ← hg]
    clear hw0 hg hct
    go_loopw [5, 14] (fun rv iv wr => ∃ k y : Nat, iv = .int .i64 (k : Int) ∧ k ≤ 9 ∧ rv = .int .u32 (y : Int) ∧ y < 1000000000 ∧ Hid (y = y0 / 10 ^ k) ∧ A9 wr g (ct y0 k) ∧ Fr g w0 wr) (fun _ iv _ => 9 - (intOf iv).toNat)
    case atStart => exact ⟨0, y0, rfl, by omega, rfl, hx, by show y0 = y0 / 10 ^ 0; simp, a0, Fr.refl _ _⟩
    case round =>
      clear a0
      obtain ⟨k, y, rfl, hk, rfl, hy, HY, hA, hF⟩ := hrel
      by_cases hlt : k < 9
      · have hcl := hA.cell (i := 8 - k) (by rw [ct_len y0 hk]; omega)
        have hfz := hA.free (8 - k)
        have hA2 := hA.set (8 - k) (48 + y % 10)
        have hF2 := hF.set (8 - k) (.int .u8 ((48 + y % 10 : Nat) : Int))
        have HA : Hid (∀ u, A9 u g ((ct y0 k).set (8 - k) (48 + y % 10)) → A9 u g (ct y0 (k + 1))) := fun u h => by
          rw [HY.out, ct_set y0 hlt] at h
          exact h
        have HY2 : Hid (y / 10 = y0 / 10 ^ (k + 1)) := by
          show _ = _
          rw [HY.out, Nat.div_div_eq_div_mul, Nat.pow_succ]
        have hi : (8 : Int) - (k : Int) = ((8 - k : Nat) : Int) := by omega
        have hr : ((y : Int) % 10) = ((y % 10 : Nat) : Int) := by omega
        have hy10 : y % 10 < 10 := Nat.mod_lt _ (by omega)
        have h8k : 8 - k < 9 := by omega
        obtain ⟨j, hj⟩ : ∃ j, j = 8 - k := ⟨_, rfl⟩
        rw [← hj] at hcl hfz hA2 hF2 HA hi h8k
        obtain ⟨d, hd⟩ : ∃ d, d = y % 10 := ⟨_, rfl⟩
        rw [← hd] at hA2 hF2 HA hr hy10
        rw [show ((48 + d : Nat) : Int) = 48 + (d : Int) from by omega] at hA2 hF2
        have hA3 := HA.out _ hA2
        clear hA hF hj hd hA2
        go_wp2
        go_roundw
        case rel => exact ⟨k + 1, y / 10, by go_num, by omega, by go_num, by omega, HY2, hA3, hF2⟩
        case measure => simp [intOf]; omega
      · obtain rfl : k = 9 := by omega
        have hbw : Below w.heap.size w wr := l0.trans (hF.below (N := w.heap.size) (by rw [HG.out]; exact Nat.le_refl _))
        have hot := ht.later hbw
        have hBr := Nat.le_trans hB hbw.size
        have hcs : ∀ j u, (u8s (pad 9 y0))[j]? = some u → wr.cell? ((⟨g, 0, none⟩ : Addr).add j) = some u := fun j u hj => by
          rw [addr_add, cell_of_row wr g j _ _ _ hA.at_]
          simpa [ct] using hj
        go_wp2_with (at_builtin; refine wp_appBs rfl _ _ rfl (pad 9 y0) ⟨g, 0, none⟩ hot rfl rfl (pad_dig 9 y0).byt (pad_len 9 y0) (by omega) hcs hBr ?_; intro v' w5 hv hg5)
        go_ret
        refine ⟨v', rfl, hv, (hbw.mono hB).trans ((Below.refl B wr).grown hg5 hBr (fun k hk => (hot.lt k hk).1)), fun k hk hne => (hg5.block k (Nat.lt_of_lt_of_le hk hbw.size) (fun e => hne e.symm)).trans (hbw.block k hk)⟩
end Go.Proofs.YtmfpnlhpdjabeaaGreatDoor

/- package decimal: Natural. -/
namespace Go.Proofs.YtmfpnlhpdjabeaaGreatDoor
open Go.RowKit M Go.Shelf

attribute [local go_sem] Oper.semAt_some

/-- The digits of the parts at these places. -/
def fq {m : Nat} (ns : List Nat) (pre : List (Fin m)) : List Nat := pre.flatMap fun i => pad 9 (ns.getD i.val 0)
theorem fq_snoc {m : Nat} (ns : List Nat) (pre : List (Fin m)) (x : Fin m) : fq ns (pre ++ [x]) = fq ns pre ++ pad 9 (ns.getD x.val 0) := by simp [fq]
theorem fq_len {m : Nat} (ns : List Nat) : ∀ (pre : List (Fin m)), (fq ns pre).length = 9 * pre.length
  | [] => rfl
  | x :: pre => by
    show (pad 9 (ns.getD x.val 0) ++ fq ns pre).length = _
    rw [List.length_append, pad_len, fq_len ns pre, List.length_cons]
    omega
theorem fq_dn {m : Nat} (ns : List Nat) (hm : ns.length = m) : ∀ (k : Nat), k ≤ m → fq ns (dn m k) = pads (ns.drop (m - k))
  | 0, _ => by rw [Nat.sub_zero, ← hm, List.drop_length]; rfl
  | k + 1, h => by
    rw [dn_succ (by omega), fq_snoc, fq_dn ns hm k (by omega)]
    have hlt : m - (k + 1) < ns.length := by omega
    rw [List.drop_eq_getElem_cons hlt, pads, show m - (k + 1) + 1 = m - k from by omega]
    congr 2
    show ns.getD (m - 1 - k) 0 = _
    rw [show m - 1 - k = m - (k + 1) from by omega, List.getD_eq_getElem?_getD, List.getElem?_eq_getElem hlt]
    rfl
theorem fq_all {m : Nat} (ns : List Nat) (hm : ns.length = m) : fq ns (dn m m) = pads ns := by
  rw [fq_dn ns hm m (Nat.le_refl _), Nat.sub_self, List.drop_zero]

/-- What holds between two rounds of Natural's loop. -/
def NInv (m : Nat) (w : World) (Bx Bs b L : Nat) (f : Nat → Value) (ns : List Nat) (pre : List (Fin m)) (W : World) : Prop :=
  (∃ tv, Bxd W Bx 35 tv ∧ IsS tv ∧ Ot w.heap.size W tv (fq ns pre)) ∧ (∀ i, i < m → SV W (f i) (toL (ns.getD i 0))) ∧ (∃ sv, Bxd W Bs 58 sv) ∧ (∃ cur, W.heap[b]? = some (.cells cur 23 (0, 0))) ∧ Below w.heap.size w W ∧ L ≤ W.heap.size
theorem NInv.own (m : Nat) (w : World) (Bx Bs b L : Nat) (f : Nat → Value) (ns : List Nat) {B : Nat} (hB : w.heap.size ≤ B) : OwnFrom B (NInv m w Bx Bs b L f ns) := by
  rintro pre W W' row ⟨⟨tv, h1, h1', h2⟩, h4, ⟨sv, h7⟩, ⟨cur, h8⟩, h5, h6⟩ hg hr
  have hr2 : ∀ r, row = some r → ∃ o : Obj, W.heap[r]? = some o ∧ o.isCells = false := fun r e => (hr r e).2
  refine ⟨⟨tv, ⟨row_kept h1.at_ hg hr2⟩, h1', h2.imp id (fun h => h.kept hg hr2)⟩, fun i hi => ?_, ⟨sv, ⟨row_kept h7.at_ hg hr2⟩⟩, ⟨cur, row_kept h8 hg hr2⟩, h5.grown hg h5.size (fun k e => Nat.le_trans hB (hr k e).1), Nat.le_trans h6 hg.size⟩
  obtain ⟨ao, n, c, e, s⟩ := h4 i hi
  exact ⟨ao, n, c, e, s.kept hg hr2⟩
section
variable {W W' : World} {B : Nat} {tv : Value} {zs : List Nat}
/-- The block of a text is told by its type. -/
theorem Ot.tag (h : Ot B W tv zs) {k : Nat} {cur : Array Value} {t : TypeId} {z : Nat × Nat} (hk : W.heap[k]? = some (.cells cur t z)) (ht : t ≠ 5) : tv.ownBlock ≠ some k := by
  rcases h with ⟨rfl, _⟩ | h
  · intro e; cases e
  · obtain ⟨g, cap, cur', h1, _, h3, _⟩ := h.row
    subst h1
    intro e
    simp only [Value.ownBlock, Option.some.injEq] at e
    subst e
    rw [h3] at hk
    simp only [Option.some.injEq, Obj.cells.injEq] at hk
    exact ht hk.2.1.symm
theorem Ot.cells (h : Ot B W tv zs) {k : Nat} {o : Obj} (hk : W.heap[k]? = some o) (ho : o.isCells = false) : tv.ownBlock ≠ some k := by
  rcases h with ⟨rfl, _⟩ | h
  · intro e; cases e
  · obtain ⟨g, cap, cur', h1, _, h3, _⟩ := h.row
    subst h1
    intro e
    simp only [Value.ownBlock, Option.some.injEq] at e
    subst e
    rw [h3] at hk
    simp only [Option.some.injEq] at hk
    subst hk
    cases ho
theorem Sl.framed {ao : Option Addr} {n cap : Nat} {xs : List Nat} (h : Sl W.heap.size W ao n cap xs) (ho : Ot B W tv zs) (hf : ∀ k, k < W.heap.size → tv.ownBlock ≠ some k → W'.heap[k]? = W.heap[k]?) (hs : W.heap.size ≤ W'.heap.size) : Sl W'.heap.size W' ao n cap xs := by
  refine ⟨h.len, h.le, h.lim, fun h0 => ?_, h.nilc⟩
  obtain ⟨b, o, e1, e2, e3⟩ := h.there h0
  have hne : tv.ownBlock ≠ some b := by
    rcases ho with ⟨rfl, _⟩ | ho
    · intro e; cases e
    · obtain ⟨g, cap', cur, h1, h2, h3, h4, h5, h6, h7, h8⟩ := ho.row
      subst h1
      intro he
      simp only [Value.ownBlock, Option.some.injEq] at he
      subst he
      have hc := e3 0 h0
      rw [Nat.add_zero, cell_of_row W g o _ _ _ h3] at hc
      obtain ⟨x, hx⟩ := h8 _ (Array.mem_toList_iff.2 (Array.mem_of_getElem? hc))
      simp at hx
  exact ⟨b, o, e1, Nat.lt_of_lt_of_le e2 hs, fun i hi => (World.cell?_of_block (w := W) (a := ⟨b, o + i, none⟩) (hf b e2 hne)).trans (e3 i hi)⟩
end

set_option maxRecDepth 100000 in
set_option maxHeartbeats 4000000 in
theorem dnatural_k {w : World} {ao : Option Addr} {n cap : Nat} {xs : List Nat} (h : Sl w.heap.size w ao n cap xs) (hn : n ≤ 1048576) :
    Calls Tryz.prog 14 #[.slice ao n cap] w fun e w' => e = .returned (.string (tx (dec (val xs)))) ∧ Below w.heap.size w w' := by
  refine (callsIn_wide (n := 6)).1 ?_
  have hro : Fence.wide.round = none := rfl
  obtain ⟨w1, hw1⟩ : ∃ w1, w1 = w.alloc (.cells #[.slice none 0 0] 35) := ⟨_, rfl⟩
  have l1 : Below w.heap.size w w1 := by rw [hw1]; exact (Below.refl _ _).alloc (Nat.le_refl _) _
  have X1 : Bxd w1 w.heap.size 35 (.slice none 0 0) := by rw [hw1]; exact Bxd.alloc _ _ _
  have s1 := h.later l1
  refine callsIn_of_wp_marks Tryz.func14 rfl trivial ?_ hro
  simp only [Tryz.ntmps14, List.size_toArray, List.length_cons, List.length_nil, Nat.reduceAdd, Nat.reduceSub, Array.replicate_succ, Array.replicate_zero, List.push_toArray, List.append_toArray, List.nil_append, List.cons_append]
  gi_wp2_with fail
  rw [← hw1]
  clear hw1
  refine ⟨trivial, callsIn_wide.2 (Calls.mono (partsOf_k s1 hn) ?_)⟩
  rintro e w4 ⟨v2, ns, rfl, N4, hvb, hlt, hnl, hn0, b4⟩
  have X4 := X1.later b4
  have B4 := l1.trans (b4.mono l1.size)
  have HXL : Hid (w.heap.size < w1.heap.size) := X1.lt
  obtain ⟨m, hm⟩ : ∃ m, m = ns.length := ⟨_, rfl⟩
  have HM : Hid (ns.length = m) := hm.symm
  obtain ⟨b, cap2, rfl, hle2, hbge, hcell2⟩ := N4.inv
  have hbl := (N4.lt b rfl).2
  have HBC : Hid (∃ cur, w4.heap[b]? = some (.cells cur 23 (0, 0))) := by
    obtain ⟨vs, hos, _⟩ := N4
    obtain ⟨g', cap', cur, e1, e2, e3, _⟩ := hos.row
    simp only [Value.slice.injEq, Option.some.injEq, Addr.mk.injEq] at e1
    obtain ⟨⟨rfl, _⟩, _⟩ := e1
    exact ⟨cur, e3⟩
  have HLT : Hid (∀ x ∈ ns, x < pw 0) := hlt
  have HVB : Hid (vb (pw 0) ns = val xs) := hvb
  rw [List.length_map, ← hm] at hle2 hcell2 ⊢
  rw [← hm] at hnl hn0
  clear hm hvb hlt b4 l1 X1 s1
  gi_wp2_with fail
  refine ⟨trivial, (back_in Fence.wide _ trivial rfl _ _ _ _).mono ?_⟩
  rintro e w5 ⟨rfl, rfl⟩
  gi_wp2_with fail
  obtain ⟨f, HF⟩ : ∃ f : Nat → Value, Hid (∀ i, i < m → w4.cell? ⟨b, i, none⟩ = some (f i) ∧ SV w4 (f i) (toL (ns.getD i 0))) := by
    refine ⟨fun i => (w4.cell? ⟨b, i, none⟩).getD undef, fun i hi => ?_⟩
    obtain ⟨ao', n', c', k1, k2⟩ := hcell2 i hi
    rw [map_getD] at k2
    have hv : (w4.cell? ⟨b, i, none⟩).getD undef = .slice ao' n' c' := by rw [k1]; rfl
    show w4.cell? ⟨b, i, none⟩ = some ((w4.cell? ⟨b, i, none⟩).getD undef) ∧ SV w4 ((w4.cell? ⟨b, i, none⟩).getD undef) (toL (ns.getD i 0))
    rw [hv]
    exact ⟨k1, ao', n', c', rfl, k2⟩
  obtain ⟨wL, hwL⟩ : ∃ wL, wL = w4.alloc (.cells #[.slice (some ⟨b, 0, none⟩) m cap2] 58) := ⟨_, rfl⟩
  obtain ⟨Bs, hBs⟩ : ∃ Bs, Bs = w4.heap.size := ⟨_, rfl⟩
  have lL : Below w4.heap.size w4 wL := by rw [hwL]; exact (Below.refl _ _).alloc (Nat.le_refl _) _
  have XL : Bxd wL Bs 58 (.slice (some ⟨b, 0, none⟩) m cap2) := by rw [hwL, hBs]; exact Bxd.alloc _ _ _
  have X5 := X4.later lL
  have B5 := B4.trans (lL.mono B4.size)
  have HBx : Hid (w.heap.size < b ∧ w.heap.size < Bs ∧ b < wL.heap.size ∧ Bs < wL.heap.size) :=
    ⟨by have := HXL.out; omega, by rw [hBs]; exact X4.lt, Nat.lt_of_lt_of_le hbl lL.size, XL.lt⟩
  have HCS : Hid (∀ j, j < m → wL.cell? ⟨b, j, none⟩ = some (f j)) := fun j hj => (lL.cell (p := ⟨b, j, none⟩) hbl).trans (HF.out j hj).1
  have HSV : Hid (∀ j, j < m → SV wL (f j) (toL (ns.getD j 0))) := fun j hj => by
    obtain ⟨ao', n', c', k1, k2⟩ := (HF.out j hj).2
    exact ⟨ao', n', c', k1, k2.later lL⟩
  replace HBC : Hid (∃ cur, wL.heap[b]? = some (.cells cur 23 (0, 0))) := by
    obtain ⟨cur, hcur⟩ := HBC.out
    exact ⟨cur, (lL.block b hbl).trans hcur⟩
  rw [← hwL, ← hBs]
  clear hwL hBs X4 N4 hcell2 hbl hbge B4 lL HF
  refine wpIn_rangeFunc_ownF (F := Fence.wide) (n := 6) hro (by omega) (gf := 64) (lb := #[.pointer (some ⟨Bs, 0, none⟩)]) rfl trivial (enters_of Tryz.func64 (by kernel_rfl) rfl)
    (back_stops Fence.wide (6 - 1) trivial rfl (by omega) Bs b m cap2 f (by omega) wL HBx.out.2.2.2 HBx.out.2.2.1 XL.cell HCS.out) (fun h k => h.trans k)
    (fun W l o o' hl _ _ _ => ⟨World.putObj_heap_other (by have := HBx.out.2.2.2; omega), World.putObj_heap_other (by have := HBx.out.2.2.1; omega)⟩) (Below.refl _ _) (fun _ => rfl)
    (NInv m w w.heap.size Bs b wL.heap.size f ns) (fun _ _ _ => False) (NInv.own m w w.heap.size Bs b wL.heap.size f ns B5.size) (fun _ _ _ _ _ h _ _ => h)
    ⟨⟨_, X5, ⟨_, _, _, rfl⟩, .inl ⟨rfl, rfl⟩⟩, HSV.out, ⟨_, XL⟩, HBC.out, B5, Nat.le_refl _⟩
    (fun x => { tmps := #[.slice ao n cap, undef, .string { data := #[] }, .pointer (some ⟨w.heap.size, 0, none⟩), undef, f x.val, undef, .slice ao n cap, .slice (some ⟨b, 0, none⟩) m cap2, .func (.func 64) #[] #[.pointer (some ⟨Bs, 0, none⟩)], .int .i64 ((x.val : Nat) : Int), f x.val, undef, undef, undef, undef, undef, undef, undef, undef, undef], defers := [] }) ?assign ?body ?done ?stop
  case assign =>
    intro l x W K hK
    gi_wp2
    exact hK
  case body =>
    clear X5 B5 HBC XL
    rintro l pre x W ⟨⟨tv, hX, hIs, hT⟩, hS, ⟨sv, hXs⟩, ⟨cur, hcur⟩, hB, hWL⟩ hpl
    obtain ⟨ao', n', c', hfx, sx⟩ := hS x.val x.isLt
    rw [hfx]
    have hfl := fq_len ns pre
    have HXN : Hid (ns.getD x.val 0 < 1000000000) := by
      have hi : x.val < ns.length := by rw [HM.out]; exact x.isLt
      have := HLT.out (ns.getD x.val 0) (by rw [List.getD_eq_getElem?_getD, List.getElem?_eq_getElem hi]; exact List.getElem_mem hi)
      rwa [pw_zero] at this
    have HAP : Hid (∀ u, u = W → Calls Tryz.prog 40 #[tv, .slice ao' n' c'] u fun e w' => ∃ v', e = .returned v' ∧ Oy w.heap.size w' v' (fq ns pre ++ pad 9 (ns.getD x.val 0)) ∧ Below w.heap.size u w' ∧ ∀ k, k < u.heap.size → tv.ownBlock ≠ some k → w'.heap[k]? = u.heap[k]?) := by
      rintro u rfl
      exact appendPart_k hT sx HXN.out (by rw [hfl]; omega) hB.size
    have hc := hX.cell
    have hfz := hX.free
    have HS : Hid (∀ i, i < m → SV W (f i) (toL (ns.getD i 0))) := hS
    have HWL : Hid (wL.heap.size ≤ W.heap.size) := hWL
    clear hS hfx hWL hfl
    gi_wp2_with fail
    refine ⟨trivial, CallsIn.inRound l (callsIn_wide.2 (Calls.mono (HAP.out W rfl) ?_))⟩
    rintro e W1 ⟨v1, rfl, hO, hbB, hfr⟩
    have hb1 := HBx.out
    have HFR : Hid (∀ k, k < W.heap.size → tv.ownBlock ≠ some k → W1.heap[k]? = W.heap[k]?) := hfr
    have hsz : W.heap.size ≤ W1.heap.size := hbB.size
    have X1 : Bxd W1 w.heap.size 35 tv := ⟨(hfr _ hX.lt (hT.tag hX.at_ (by decide))).trans hX.at_⟩
    have hc1 := X1.cell
    have hfz1 := X1.free
    obtain ⟨g1, L1, cp1, rfl⟩ : ∃ g1 L1 cp1, v1 = .slice (some ⟨g1, 0, none⟩) L1 cp1 := by
      obtain ⟨g1, cp1, e1, _⟩ := hO.inv
      exact ⟨g1, _, cp1, e1⟩
    have hO1 := hO.storeX X1 (by decide) (.slice (some ⟨g1, 0, none⟩) L1 cp1)
    have X1' := X1.set (.slice (some ⟨g1, 0, none⟩) L1 cp1)
    clear hc hfz hfr
    gi_wp2
    have fr := (Fr.refl w.heap.size W1).set 0 (.slice (some ⟨g1, 0, none⟩) L1 cp1)
    have ks : W1.heap[Bs]? = W.heap[Bs]? := HFR.out Bs (Nat.lt_of_lt_of_le hb1.2.2.2 HWL.out) (hT.tag hXs.at_ (by decide))
    have kb : W1.heap[b]? = W.heap[b]? := HFR.out b (Nat.lt_of_lt_of_le hb1.2.2.1 HWL.out) (hT.tag hcur (by decide))
    refine ⟨KeepsOthers.trans ⟨hsz, fun k o hk ho => (HFR.out k (Array.getElem?_eq_some_iff.1 hk).1 (hT.cells hk ho)).trans hk⟩ (KeepsOthers.setCell _ _ _), ⟨(fr.block Bs (by omega)).trans ks, (fr.block b (by omega)).trans kb⟩, ⟨_, X1', ⟨_, _, _, rfl⟩, .inr ?_⟩, ?_, ⟨sv, ⟨((fr.block Bs (by omega)).trans ks).trans hXs.at_⟩⟩, ⟨cur, ((fr.block b (by omega)).trans kb).trans hcur⟩, (hB.trans hbB).trans (fr.below (N := w.heap.size) (Nat.le_refl _)), ?_⟩
    · rw [fq_snoc]
      exact hO1
    · intro i hi
      obtain ⟨ao2, n2, c2, k1, k2⟩ := HS.out i hi
      exact ⟨ao2, n2, c2, k1, (k2.framed hT HFR.out hsz).storeX X1 hIs _⟩
    · rw [fr.size]
      exact Nat.le_trans HWL.out hsz
  case done =>
    clear X5 B5
    rintro D ys W hD rfl ⟨⟨tv, hX, hIs, hT⟩, hS, _, _, hB, hWL⟩ hK
    rw [fq_all ns HM.out] at hT
    have hO : Oy w.heap.size W tv (pads ns) := by
      rcases hT with ⟨_, he⟩ | hO
      · have := pads_len ns
        rw [he, HM.out] at this
        simp at this
        omega
      · exact hO
    have hc := hX.cell
    have hcv := string_run hO
    have hwD : w.heap.size ≤ D := by have := HBx.out; omega
    have HD : Hid (dec (val xs) = if trz (pads ns) = [] then [48] else trz (pads ns)) := by
      show _ = _
      rw [← HVB.out, ← pads_num ns HLT.out]
      exact dec_of_trz (pads_dig ns)
    have HT : Hid (∀ u, Calls Tryz.prog 41 #[.string (tx (pads ns)), .string ⟨#[48]⟩] u fun e w' => e = .returned (.string (tx (trz (pads ns)))) ∧ u = w') := fun u => trim_k (pads_dig ns).byt
    have HBl : Hid (Below w.heap.size w (W.putObj D (.deferred none))) := hB.trans (belowK_b (w := w) (Nat.le_refl _) W D _ _ hwD hK rfl rfl)
    have hnil := tx_beq_nil (trz (pads ns))
    clear hO hT hS hIs hB
    generalize tx (pads ns) = P at *
    gi_wp2_with fail
    refine ⟨trivial, callsIn_wide.2 (Calls.mono (HT.out W) ?_)⟩
    rintro e W1 ⟨rfl, rfl⟩
    by_cases ht : trz (pads ns) = []
    · rw [decide_eq_true ht] at hnil
      have HE : Hid (tx (dec (val xs)) = ⟨#[48]⟩) := by show _ = _; rw [HD.out, if_pos ht]; rfl
      clear HD ht
      generalize tx (trz (pads ns)) = Z at *
      gi_wp2
      refine ⟨by simp, .inl ⟨_, _, rfl, run_takeDeferred hK, ?_⟩⟩
      exact ⟨_, results_tmp rfl _ _ _, by rw [HE.out]; rfl, HBl.out⟩
    · rw [decide_eq_false ht] at hnil
      have HE : Hid (tx (dec (val xs)) = tx (trz (pads ns))) := by show _ = _; rw [HD.out, if_neg ht]
      clear HD ht
      generalize tx (trz (pads ns)) = Z at *
      gi_wp2
      refine ⟨by simp, .inl ⟨_, _, rfl, run_takeDeferred hK, ?_⟩⟩
      exact ⟨_, results_tmp rfl _ _ _, by rw [HE.out]; rfl, HBl.out⟩
  case stop =>
    rintro D c pre W _ _ h _
    exact h.elim
end Go.Proofs.YtmfpnlhpdjabeaaGreatDoor
