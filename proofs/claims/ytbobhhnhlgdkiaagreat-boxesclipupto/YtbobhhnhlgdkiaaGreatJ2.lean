/- Slices of limbs in memory: read ('Rd'), owned ('Own'), written ('Upd'). -/
import Derived.Test.YtbobhhnhlgdkiaaGreatRows
import Derived.Test.YtbobhhnhlgdkiaaGreatJ1
import Derived.WalkKit
import Derived.WalkSpells
import Derived.WalkLawsBesides
import Derived.Deep.QuietTactic
import Derived.BigQuiet
import Derived.Laws.CopyOwn
import Derived.Deep.WholeRow
import Derived.Lib.BitFns
namespace Go.Proofs.YtbobhhnhlgdkiaaGreat
open Go.RowKit M
set_option maxRecDepth 100000

def u32s (zs : List Nat) : Array Value := (zs.map fun x : Nat => Value.int .u32 (x : Int)).toArray

theorem u32s_size (zs : List Nat) : (u32s zs).size = zs.length := by simp [u32s]
theorem u32s_get (zs : List Nat) (i : Nat) (h : i < zs.length) : (u32s zs)[i]? = some (.int .u32 ((zs.getD i 0 : Nat) : Int)) := by
  simp [u32s, h]
theorem u32s_set (zs : List Nat) (i v : Nat) : (u32s zs).setIfInBounds i (.int .u32 (v : Int)) = u32s (zs.set i v) := by
  simp [u32s, List.map_set]

/-- Block g is a row of limbs, and may be written. -/
def Own (w : World) (g : Nat) (zs : List Nat) : Prop := w.heap[g]? = some (.cells (u32s zs) 86 (0, 0))

theorem Own.cell {w : World} {g : Nat} {zs : List Nat} (h : Own w g zs) {i : Nat} (hi : i < zs.length) : w.cell? ⟨g, i, none⟩ = some (.int .u32 ((zs.getD i 0 : Nat) : Int)) := by
  rw [cell_of_row w g i _ _ _ h, u32s_get zs i hi]
theorem Own.free {w : World} {g : Nat} {zs : List Nat} (h : Own w g zs) (i : Nat) : w.frozen? ⟨g, i, none⟩ = false := frozen_of_row w g i _ _ h
theorem Own.lt {w : World} {g : Nat} {zs : List Nat} (h : Own w g zs) : g < w.heap.size := (Array.getElem?_eq_some_iff.1 h).1
theorem Own.set {w : World} {g : Nat} {zs : List Nat} (h : Own w g zs) (i v : Nat) : Own (w.setCell ⟨g, i, none⟩ (.int .u32 (v : Int))) g (zs.set i v) := by
  unfold Own; rw [heap_setCell_same w g i _ _ _ h, u32s_set]
theorem Own.alloc (w : World) (zs : List Nat) : Own (w.alloc (.cells (u32s zs) 86)) w.heap.size zs := heap_alloc_new _ _
theorem Own.below {w w' : World} {g N : Nat} {zs : List Nat} (h : Own w g zs) (hb : Below N w w') (hg : g < N) : Own w' g zs := by
  unfold Own; rw [hb.block g hg]; exact h

/-- A slice that can be read: its address, length and capacity, and the limbs that stand there, below block N. -/
structure Sl (N : Nat) (w : World) (ao : Option Addr) (n cap : Nat) (xs : List Nat) : Prop where
  len : xs.length = n
  le : n ≤ cap
  lim : Lim xs
  there : 0 < n → ∃ b o, ao = some ⟨b, o, none⟩ ∧ b < N ∧ ∀ i, i < n → w.cell? ⟨b, o + i, none⟩ = some (.int .u32 ((xs.getD i 0 : Nat) : Int))
  nilc : ao = none → cap = 0

theorem Sl.nil (N : Nat) (w : World) : Sl N w none 0 0 [] := ⟨rfl, Nat.zero_le _, Lim.nil, fun h => absurd h (Nat.lt_irrefl _), fun _ => rfl⟩
theorem Sl.below {N n cap : Nat} {w w' : World} {ao : Option Addr} {xs : List Nat} (h : Sl N w ao n cap xs) (hb : Below N w w') : Sl N w' ao n cap xs :=
  ⟨h.len, h.le, h.lim, fun hne => by
    obtain ⟨b, o, h1, h2, h3⟩ := h.there hne
    exact ⟨b, o, h1, h2, fun i hi => by rw [hb.cell (p := ⟨b, o + i, none⟩) h2]; exact h3 i hi⟩, h.nilc⟩
theorem Sl.mono {N N' n cap : Nat} {w : World} {ao : Option Addr} {xs : List Nat} (h : Sl N w ao n cap xs) (hn : N ≤ N') : Sl N' w ao n cap xs :=
  ⟨h.len, h.le, h.lim, fun hne => by obtain ⟨b, o, h1, h2, h3⟩ := h.there hne; exact ⟨b, o, h1, by omega, h3⟩, h.nilc⟩
/-- The same slice in a later world, where nothing that was there has turned. -/
theorem Sl.later {n cap : Nat} {w w' : World} {ao : Option Addr} {xs : List Nat} (h : Sl w.heap.size w ao n cap xs) (hb : Below w.heap.size w w') : Sl w'.heap.size w' ao n cap xs :=
  (h.below hb).mono hb.size
theorem Sl.take {N n cap : Nat} {w : World} {ao : Option Addr} {xs : List Nat} (h : Sl N w ao n cap xs) (k : Nat) (hk : k ≤ n) : Sl N w ao k cap (xs.take k) :=
  ⟨by rw [List.length_take, h.len]; omega, by have := h.le; omega, h.lim.take k, fun hne => by
    obtain ⟨b, o, h1, h2, h3⟩ := h.there (by omega)
    exact ⟨b, o, h1, h2, fun i hi => by
      rw [getD_take _ _ _ hi]; exact h3 i (by omega)⟩, h.nilc⟩
theorem Sl.part {w : World} {g : Nat} {zs : List Nat} (h : Own w g zs) (hl : Lim zs) {N : Nat} (hg : g < N) (o n cap : Nat) (hn : o + n ≤ zs.length) (hc : n ≤ cap) : Sl N w (some ⟨g, o, none⟩) n cap ((zs.drop o).take n) :=
  ⟨by rw [List.length_take, List.length_drop]; omega, hc, (hl.drop o).take n, fun _ => ⟨g, o, rfl, hg, fun i hi => by
    rw [getD_take _ _ _ hi, getD_drop]; exact h.cell (by omega)⟩, fun h => by simp at h⟩
theorem Sl.own {w : World} {g : Nat} {zs : List Nat} (h : Own w g zs) (hl : Lim zs) {N : Nat} (hg : g < N) (n cap : Nat) (hn : zs.length = n) (hc : n ≤ cap) : Sl N w (some ⟨g, 0, none⟩) n cap zs :=
  ⟨hn, hc, hl, fun _ => ⟨g, 0, rfl, hg, fun i hi => by rw [Nat.zero_add]; exact h.cell (by omega)⟩, fun h => by simp at h⟩
theorem Sl.lt {N n cap : Nat} {w : World} {ao : Option Addr} {xs : List Nat} (h : Sl N w ao n cap xs) : val xs < Bp n := by rw [← h.len]; exact val_lt h.lim
/-- One cell that is read, its number under a name. -/
theorem Sl.cell {N n cap : Nat} {w : World} {ao : Option Addr} {xs : List Nat} (h : Sl N w ao n cap xs) (k : Nat) (hk : k < n) :
    ∃ (b o x : Nat), ao = some ⟨b, o, none⟩ ∧ b < N ∧ w.cell? ⟨b, o + k, none⟩ = some (.int .u32 (x : Int)) ∧ x < 4294967296 ∧ Hid (x = xs.getD k 0) := by
  obtain ⟨b, o, h1, h2, h3⟩ := h.there (by omega)
  exact ⟨b, o, xs.getD k 0, h1, h2, h3 k hk, h.lim.getD k, rfl⟩

/-- Nothing has turned but the count of what was drawn. -/
structure Qt (w w' : World) : Prop where
  os : w'.os = w.os
  tape : w'.tape = w.tape
  output : w'.output = w.output
  heap : w'.heap = w.heap
theorem Qt.refl (w : World) : Qt w w := ⟨rfl, rfl, rfl, rfl⟩
theorem Qt.drewN {w w' : World} (h : Qt w w') (n : Nat) : Qt w (w'.drewN n) := ⟨h.os, h.tape, h.output, h.heap⟩
theorem Qt.drew {w w' : World} (h : Qt w w') : Qt w w'.drew := ⟨h.os, h.tape, h.output, h.heap⟩
theorem Qt.trans {w w1 w2 : World} (h : Qt w w1) (k : Qt w1 w2) : Qt w w2 := ⟨k.os.trans h.os, k.tape.trans h.tape, k.output.trans h.output, k.heap.trans h.heap⟩
theorem Qt.below {w w' : World} (h : Qt w w') (N : Nat) : Below N w w' := ⟨h.os, h.tape, h.output, by rw [h.heap]; exact Nat.le_refl _, fun k _ => by rw [h.heap]⟩
theorem Qt.size {w w' : World} (h : Qt w w') : w'.heap.size = w.heap.size := by rw [h.heap]
theorem Qt.sl {N n cap : Nat} {w w' : World} {ao : Option Addr} {xs : List Nat} (h : Qt w w') (s : Sl N w ao n cap xs) : Sl N w' ao n cap xs := s.below (h.below N)
theorem Qt.own {w w' : World} {g : Nat} {zs : List Nat} (h : Qt w w') (s : Own w g zs) : Own w' g zs := by unfold Own; rw [h.heap]; exact s

/-- From w to w' block g alone has been written. -/
structure Fr (g : Nat) (w w' : World) : Prop where
  os : w'.os = w.os
  tape : w'.tape = w.tape
  output : w'.output = w.output
  size : w'.heap.size = w.heap.size
  block : ∀ k, k ≠ g → w'.heap[k]? = w.heap[k]?

theorem Fr.refl (g : Nat) (w : World) : Fr g w w := ⟨rfl, rfl, rfl, rfl, fun _ _ => rfl⟩
theorem Fr.set {g : Nat} {w w' : World} (h : Fr g w w') (i : Nat) (u : Value) : Fr g w (w'.setCell ⟨g, i, none⟩ u) :=
  ⟨h.os, h.tape, h.output, by rw [← h.size]; simp [World.setCell], fun k hk => by rw [heap_setCell_other w' _ k _ (by simpa using hk)]; exact h.block k hk⟩
theorem Fr.trans {g : Nat} {w w1 w2 : World} (h : Fr g w w1) (k : Fr g w1 w2) : Fr g w w2 :=
  ⟨k.os.trans h.os, k.tape.trans h.tape, k.output.trans h.output, k.size.trans h.size, fun i hi => (k.block i hi).trans (h.block i hi)⟩
theorem Fr.qt {g : Nat} {w w1 w2 : World} (h : Fr g w w1) (k : Qt w1 w2) : Fr g w w2 :=
  ⟨k.os.trans h.os, k.tape.trans h.tape, k.output.trans h.output, by rw [k.size]; exact h.size, fun i hi => by rw [k.heap]; exact h.block i hi⟩
theorem Fr.below {g : Nat} {w w' : World} (h : Fr g w w') {N : Nat} (hN : N ≤ g) : Below N w w' :=
  ⟨h.os, h.tape, h.output, by rw [h.size]; exact Nat.le_refl _, fun k hk => h.block k (by omega)⟩
/-- Read, where another block is written. -/
theorem Sl.fr {N g n cap : Nat} {w w' : World} {ao : Option Addr} {xs : List Nat} (h : Sl N w ao n cap xs) (hu : Fr g w w') (hN : N ≤ g) : Sl N w' ao n cap xs := h.below (hu.below hN)
theorem Own.fr {g k : Nat} {w w' : World} {zs : List Nat} (h : Own w k zs) (hu : Fr g w w') (hk : k ≠ g) : Own w' k zs := by unfold Own; rw [hu.block k hk]; exact h

/-- A piece of a row that may be written: block g holds pre, s, post one behind the other; the piece s begins at place o and has n limbs. -/
structure Sg (w : World) (g o n : Nat) (pre s post : List Nat) : Prop where
  own : Own w g (pre ++ (s ++ post))
  off : pre.length = o
  len : s.length = n
  lim : Lim s

theorem seg_get (pre s post : List Nat) (k : Nat) (hk : k < s.length) : (pre ++ (s ++ post)).getD (pre.length + k) 0 = s.getD k 0 := by
  rw [List.getD_eq_getElem?_getD, List.getElem?_append_right (by omega), Nat.add_sub_cancel_left, List.getElem?_append_left hk, List.getD_eq_getElem?_getD]
theorem seg_set (pre s post : List Nat) (k v : Nat) (hk : k < s.length) : (pre ++ (s ++ post)).set (pre.length + k) v = pre ++ (s.set k v ++ post) := by
  rw [List.set_append_right _ _ (by omega), Nat.add_sub_cancel_left, List.set_append_left _ _ hk]

theorem Sg.cell {w : World} {g o n : Nat} {pre s post : List Nat} (h : Sg w g o n pre s post) (k : Nat) (hk : k < n) :
    ∃ x : Nat, w.cell? ⟨g, o + k, none⟩ = some (.int .u32 (x : Int)) ∧ w.frozen? ⟨g, o + k, none⟩ = false ∧ x < 4294967296 ∧ Hid (x = s.getD k 0) := by
  have hl := h.len
  refine ⟨s.getD k 0, ?_, h.own.free _, h.lim.getD k, rfl⟩
  have := h.own.cell (i := o + k) (by rw [List.length_append, List.length_append, h.off]; omega)
  rw [← h.off, seg_get pre s post k (by omega)] at this
  rw [← h.off]; exact this
theorem Sg.set {w : World} {g o n : Nat} {pre s post : List Nat} (h : Sg w g o n pre s post) {k v : Nat} (hk : k < n) (hv : v < 4294967296) :
    Sg (w.setCell ⟨g, o + k, none⟩ (.int .u32 (v : Int))) g o n pre (s.set k v) post :=
  ⟨by have := h.own.set (o + k) v; rw [← h.off, seg_set pre s post k v (by rw [h.len]; exact hk)] at this; rw [← h.off]; exact this, h.off, by rw [List.length_set, h.len], h.lim.set k hv⟩
theorem Sg.set0 {w : World} {g n : Nat} {pre s post : List Nat} (h : Sg w g 0 n pre s post) {k v : Nat} (hk : k < n) (hv : v < 4294967296) :
    Sg (w.setCell ⟨g, k, none⟩ (.int .u32 (v : Int))) g 0 n pre (s.set k v) post := by
  have := h.set hk hv
  rwa [Nat.zero_add] at this
theorem Sg.cell0 {w : World} {g n : Nat} {pre s post : List Nat} (h : Sg w g 0 n pre s post) (k : Nat) (hk : k < n) :
    ∃ x : Nat, w.cell? ⟨g, k, none⟩ = some (.int .u32 (x : Int)) ∧ w.frozen? ⟨g, k, none⟩ = false ∧ x < 4294967296 ∧ Hid (x = s.getD k 0) := by
  have := h.cell k hk
  rwa [Nat.zero_add] at this
theorem Sg.qt {w w' : World} {g o n : Nat} {pre s post : List Nat} (h : Sg w g o n pre s post) (k : Qt w w') : Sg w' g o n pre s post := ⟨k.own h.own, h.off, h.len, h.lim⟩
/-- A whole row. -/
theorem Sg.whole {w : World} {g : Nat} {s : List Nat} (h : Own w g s) (hl : Lim s) {n : Nat} (hn : s.length = n) : Sg w g 0 n [] s [] := ⟨by simpa using h, rfl, hn, hl⟩
theorem Sg.all {w : World} {g n : Nat} {s : List Nat} (h : Sg w g 0 n [] s []) : Own w g s := by simpa using h.own
/-- A piece of a row. -/
theorem Sg.cut {w : World} {g : Nat} {P : List Nat} (h : Own w g P) (hl : Lim P) (o n : Nat) (hn : o + n ≤ P.length) : Sg w g o n (P.take o) ((P.drop o).take n) (P.drop (o + n)) :=
  ⟨by rw [← List.drop_drop, List.take_append_drop, List.take_append_drop]; exact h, by rw [List.length_take]; omega, by rw [List.length_take, List.length_drop]; omega, (hl.drop o).take n⟩
/-- A piece that is read. -/
theorem Sg.read {w : World} {g o n : Nat} {pre s post : List Nat} (h : Sg w g o n pre s post) {N : Nat} (hg : g < N) (cap : Nat) (hc : n ≤ cap) : Sl N w (some ⟨g, o, none⟩) n cap s :=
  ⟨h.len, hc, h.lim, fun _ => ⟨g, o, rfl, hg, fun i hi => by
    have := h.own.cell (i := o + i) (by rw [List.length_append, List.length_append, h.off, h.len]; omega)
    rw [← h.off, seg_get pre s post i (by rw [h.len]; exact hi)] at this
    rw [← h.off]; exact this⟩, fun h => by simp at h⟩

/-- What a function that hands back a natural leaves: a slice that reads as ys; nothing that was there has turned. -/
def Gives (w : World) (ys : List Nat) (e : Ending) (w' : World) : Prop :=
  ∃ ao n cap, e = .returned (.slice ao n cap) ∧ Sl w'.heap.size w' ao n cap ys ∧ Below w.heap.size w w'

theorem info38 : (Tryz.prog.info? 86).map (fun i => (i.zero, i.size, i.bytes)) = some (some (.int .u32 0), 1, 4) := by kernel_rfl

theorem madeCells_u32 (n : Nat) : madeCells #[.int .u32 0] n = u32s (List.replicate n 0) := by
  apply Array.ext'
  rw [toList_madeCells_one]
  simp [u32s]

/-- 'make([]uint32, n)'. -/
theorem make_run (n : Nat) (hn : n ≤ 70368744177664) (u : World) : (Instr.makeSlice 22 (.int .i64 (n : Int)) (.int .i64 (n : Int))).run Tryz.prog u =
    .ok (.slice (some ⟨u.heap.size, 0, none⟩) n n) (u.alloc (.cells (u32s (List.replicate n 0)) 86)) := by
  obtain ⟨i0, hi, hz0, hz1, hz2⟩ := info_parts info38
  have h := run_make (P := Tryz.prog) u 22 86 i0 (.int .u32 0) Tryz.underlying22 hi hz0 .i64 .i64 (n : Int) (n : Int) (by omega) (Int.le_refl _) (by rw [hz2]; omega) (by omega)
  rw [Int.toNat_natCast] at h
  rw [← madeCells_u32]
  simpa [hz1, Value.cells] using h

theorem size38 : (Tryz.prog.info? 86).map (·.size) = some 1 := by kernel_rfl

/-- 'copy(out, a)', out the block that was made last, of zeros, not shorter than a. -/
theorem copy_run (w : World) (ao : Option Addr) (n cap dn : Nat) (ys : List Nat) (h : Sl w.heap.size w ao n cap ys) (hd : n ≤ dn) :
    (Builtin.copy_ #[22, 22] 3 #[.slice (some ⟨w.heap.size, 0, none⟩) dn dn, .slice ao n cap]).run Tryz.prog (w.alloc (.cells (u32s (List.replicate dn 0)) 86)) =
      .ok (.int .i64 (n : Int)) (w.alloc (.cells (u32s (ys ++ List.replicate (dn - n) 0)) 86)) := by
  by_cases h0 : n = 0
  · subst h0
    obtain rfl : ys = [] := List.eq_nil_of_length_eq_zero h.len
    rw [run_copy_none (P := Tryz.prog) _ 22 22 3 86 _ _ _ _ _ _ Tryz.underlying22 size38 (by simp)]
    rfl
  · obtain ⟨b, o, rfl, hb, hc⟩ := h.there (by omega)
    have hlen := h.len
    rw [run_copy_row (P := Tryz.prog) _ 22 22 3 86 w.heap.size 0 dn dn ⟨b, o, none⟩ n cap (u32s (List.replicate dn 0)) 86 (ys.map fun x : Nat => Value.int .u32 (x : Int)) Tryz.underlying22 size38
      (heap_alloc_new _ _) (by simp [hlen, Nat.min_eq_left hd]) ?_ (by simp [u32s_size, hlen, hd]) (by intro v hv; simp at hv; obtain ⟨x, _, rfl⟩ := hv; rfl)]
    · rw [World.setRow_alloc_new]
      simp [u32s, hlen, goInt]
    · intro j v hv
      rw [List.getElem?_map] at hv
      have hj : j < n := by
        by_cases hj : j < n
        · exact hj
        · rw [List.getElem?_eq_none (by omega)] at hv; simp at hv
      have hadd : (⟨b, o, none⟩ : Addr).add j = ⟨b, o + j, none⟩ := by unfold Addr.add; split <;> simp_all
      rw [hadd, World.cell?_of_block (w := w) (a := ⟨b, o + j, none⟩) (Below.heap_alloc w _ b hb), hc j hj]
      rw [List.getElem?_eq_getElem (by omega)] at hv
      simp at hv
      rw [← hv, List.getD_eq_getElem?_getD, List.getElem?_eq_getElem (by omega)]
      rfl

end Go.Proofs.YtbobhhnhlgdkiaaGreat

/- nat.trimmed. -/
namespace Go.Proofs.YtbobhhnhlgdkiaaGreat
open Go.RowKit M
set_option maxRecDepth 100000

set_option maxHeartbeats 400000 in
theorem trimmed_any (N : Nat) (w : World) (ao : Option Addr) (n cap : Nat) (xs : List Nat) (h : Sl N w ao n cap xs) (hlen : n ≤ 1099511627776) :
    Calls Tryz.prog 73 #[.slice ao n cap] w fun e w' => w = w' ∧ ∃ ao' n' cap', e = .returned (.slice ao' n' cap') ∧ Sl N w ao' n' cap' (toL (val xs)) ∧ n' ≤ n := by
  have hcap := h.le
  go_enter Tryz.func73, Tryz.ntmps73
  go_wp2
  go_loop [3] (fun v => ∃ k : Nat, k ≤ n ∧ v = .int .i64 k ∧ ∀ j, k ≤ j → xs.getD j 0 = 0) (fun v => (intOf v).toNat)
  case atStart => exact ⟨n, Nat.le_refl _, rfl, fun j hj => by rw [List.getD_eq_getElem?_getD, List.getElem?_eq_none (by rw [h.len]; exact hj)]; rfl⟩
  case round =>
    obtain ⟨k, hk, rfl, hz⟩ := hrel
    have HZ : Hid (∀ j, k ≤ j → xs.getD j 0 = 0) := hz
    clear hz
    by_cases h0 : k = 0
    · subst h0
      have e0 : toL (val xs) = [] := by have := toL_trim h.lim 0 (Nat.zero_le _) HZ.out (.inl rfl); simpa using this
      have E0 : Hid (toL (val xs) = []) := e0
      clear e0
      go_wp2
      go_ret
      rw [E0.out]
      exact ⟨rfl, none, 0, 0, rfl, Sl.nil _ _, Nat.zero_le _⟩
    · obtain ⟨b, o, x, rfl, hb, hcell, hx, HX⟩ := h.cell (k - 1) (by omega)
      have h1 : 1 ≤ k := by omega
      by_cases hx0 : x = 0
      · have hxb : ((x : Int) == 0) = true := by simp [hx0]
        have HX0 : Hid (x = 0) := hx0
        clear hx0
        go_wp2
        go_round
        case rel => exact ⟨k - 1, by omega, by go_num, fun j hj => by
          by_cases hjk : k ≤ j
          · exact HZ.out j hjk
          · obtain rfl : j = k - 1 := by omega
            rw [← HX.out]; exact HX0.out⟩
        case measure => simp [intOf]; omega
      · have hxb : ((x : Int) == 0) = false := by simp [hx0]
        have et := toL_trim h.lim k (by rw [h.len]; exact hk) HZ.out (.inr (by rw [← HX.out]; exact hx0))
        have ET : Hid (toL (val xs) = xs.take k) := et
        clear hx0 et
        go_wp2
        go_ret
        refine ⟨rfl, some ⟨b, o, none⟩, k, cap, rfl, ?_, hk⟩
        rw [ET.out]
        exact h.take k hk

end Go.Proofs.YtbobhhnhlgdkiaaGreat

/- math/bits' functions that nat calls, by their contracts. -/
namespace Go.Proofs.YtbobhhnhlgdkiaaGreat
open Go.RowKit M
set_option maxRecDepth 100000

set_option maxHeartbeats 400000 in
theorem add32_any (x y c : Int) (w : World) (hx0 : 0 ≤ x) (hx : x < 4294967296) (hy0 : 0 ≤ y) (hy : y < 4294967296) (hc0 : 0 ≤ c) (hc : c ≤ 1) :
    Calls Tryz.prog 118 #[.int .u32 x, .int .u32 y, .int .u32 c] w fun e w' => e = .returned (.tuple #[.int .u32 ((x + y + c) % 4294967296), .int .u32 ((x + y + c) / 4294967296)]) ∧ w = w' := by
  go_enter Tryz.func118, Tryz.ntmps118
  go_wp2
  go_ret2
  exact ⟨rfl, rfl⟩

theorem ret1 {k : IntKind} {a a' : Int} (h : a = a') : Ending.returned (.int k a) = .returned (.int k a') := by rw [h]
theorem ret2 {k l : IntKind} {a b a' b' : Int} (h : a = a') (h' : b = b') : Ending.returned (.tuple #[.int k a, .int l b]) = .returned (.tuple #[.int k a', .int l b']) := by rw [h, h']

/-- The borrow. -/
def bor (x y c : Int) : Int := if x < y + c then 1 else 0
theorem top31 (n : Nat) (h : n < 4294967296) : n / 2147483648 = (n.testBit 31).toNat := by
  rw [Nat.testBit_eq_decide_div_mod_eq]
  have : n / 2 ^ 31 % 2 = n / 2147483648 := by omega
  rw [this]
  by_cases h1 : n / 2147483648 = 1
  · simp [h1]
  · have : n / 2147483648 = 0 := by omega
    simp [this]

theorem top31_iff (n : Nat) (h : n < 4294967296) : n.testBit 31 = decide (2147483648 ≤ n) := by
  rw [Nat.testBit_eq_decide_div_mod_eq, decide_eq_decide]
  have : n / 2 ^ 31 % 2 = n / 2147483648 := by omega
  rw [this]; omega

theorem borrow_bits (x y c : Int) (hx0 : 0 ≤ x) (hx : x < 4294967296) (hy0 : 0 ≤ y) (hy : y < 4294967296) (hc0 : 0 ≤ c) (hc : c ≤ 1) :
    Go.bits .or .u32 (Go.bits .and .u32 (Go.bits .xor .u32 IntKind.u32.max x) y) (Go.bits .and .u32 (Go.bits .xor .u32 IntKind.u32.max (Go.bits .xor .u32 x y)) ((x - y - c) % 4294967296)) / 2147483648 = bor x y c := by
  obtain ⟨a, rfl⟩ := Int.eq_ofNat_of_zero_le hx0
  obtain ⟨b, rfl⟩ := Int.eq_ofNat_of_zero_le hy0
  obtain ⟨d, hd⟩ := Int.eq_ofNat_of_zero_le (show 0 ≤ ((a : Int) - b - c) % 4294967296 from by omega)
  have hd1 : d < 4294967296 := by omega
  have ha : a < 4294967296 := by omega
  have hb : b < 4294967296 := by omega
  rw [hd, show IntKind.u32.max = ((4294967295 : Nat) : Int) from rfl]
  rw [u32_xor_nat _ _ (by omega) ha, u32_xor_nat a b ha hb]
  have h1 : 4294967295 ^^^ a < 4294967296 := Nat.xor_lt_two_pow (n := 32) (by omega) ha
  have h2 : a ^^^ b < 4294967296 := Nat.xor_lt_two_pow (n := 32) ha hb
  rw [u32_and_nat _ _ h1 hb, u32_xor_nat _ _ (by omega) h2]
  have h3 : 4294967295 ^^^ (a ^^^ b) < 4294967296 := Nat.xor_lt_two_pow (n := 32) (by omega) h2
  rw [u32_and_nat _ _ h3 hd1]
  have h4 : (4294967295 ^^^ a) &&& b < 4294967296 := Nat.and_lt_two_pow (n := 32) _ hb
  have h5 : (4294967295 ^^^ (a ^^^ b)) &&& d < 4294967296 := Nat.and_lt_two_pow (n := 32) _ hd1
  rw [u32_or_nat _ _ h4 h5]
  have h6 := Nat.or_lt_two_pow (n := 32) h4 h5
  have key := top31 _ h6
  rw [show ((2147483648 : Int)) = ((2147483648 : Nat) : Int) from rfl, ← Int.natCast_ediv, key]
  simp only [Nat.testBit_or, Nat.testBit_and, Nat.testBit_xor, top31_iff a ha, top31_iff b hb, top31_iff d hd1, top31_iff 4294967295 (by omega)]
  unfold bor
  by_cases g1 : 2147483648 ≤ a <;> by_cases g2 : 2147483648 ≤ b <;> by_cases g3 : 2147483648 ≤ d <;> simp [g1, g2, g3] <;> omega

set_option maxHeartbeats 400000 in
theorem sub32_any (x y c : Int) (w : World) (hx0 : 0 ≤ x) (hx : x < 4294967296) (hy0 : 0 ≤ y) (hy : y < 4294967296) (hc0 : 0 ≤ c) (hc : c ≤ 1) :
    Calls Tryz.prog 111 #[.int .u32 x, .int .u32 y, .int .u32 c] w fun e w' => e = .returned (.tuple #[.int .u32 ((x - y - c) % 4294967296), .int .u32 (bor x y c)]) ∧ w = w' := by
  have hb : Hid _ := borrow_bits x y c hx0 hx hy0 hy hc0 hc
  have hs : ¬ IntKind.u32.signed = true := by decide
  go_enter Tryz.func111, Tryz.ntmps111
  go_wp2
  go_ret2
  exact ⟨ret2 (by omega) hb.out, rfl⟩

theorem bitLenAux_nb : ∀ (f x : Nat), x < 2 ^ f → Lib.bitLenAux f x = nb x
  | 0, x, h => by obtain rfl : x = 0 := by simpa using h
                  rfl
  | f + 1, x, h => by
    unfold Lib.bitLenAux
    by_cases h0 : x = 0
    · subst h0; rfl
    · rw [if_neg h0, bitLenAux_nb f (x / 2) (by rw [Nat.pow_succ] at h; omega), nb_half h0]
theorem bitLen_nb (x : Nat) (h : x < 4294967296) : Lib.bitLen x = nb x := bitLenAux_nb 64 x (by omega)

theorem tab_run (i : Int) (h0 : 0 ≤ i) (h1 : i < 256) : ∃ l : Nat, l = Lib.bitLen i.toNat ∧ l ≤ 8 ∧ ∀ w, (Instr.index 9 (.string Lib.len8tab) (.int .u8 i)).run Tryz.prog w = .ok (.int .u8 (l : Int)) w :=
  ⟨_, rfl, Lib.bitLen_le8' i h0 (by omega), fun w => by
    rw [Lib.run_index_len8tab w 9 .u8 i Tryz.underlying9 h0 (by omega), Lib.len8_of i h0 (by omega)]⟩

set_option maxHeartbeats 400000 in
theorem len32_any (x : Int) (w : World) (h0 : 0 ≤ x) (h1 : x ≤ 4294967295) :
    Calls Tryz.prog 85 #[.int .u32 x] w fun e w' => e = .returned (.int .i64 (Lib.bitLen x.toNat)) ∧ w = w' := by
  rcases (show x < 256 ∨ (256 ≤ x ∧ x < 65536) ∨ (65536 ≤ x ∧ x < 16777216) ∨ 16777216 ≤ x from by omega) with g | ⟨g, g'⟩ | ⟨g, g'⟩ | g
  · obtain ⟨l, hl, h8, hi⟩ := tab_run x h0 g
    have hle : ¬ 65536 ≤ x := by omega
    have hle' : ¬ 256 ≤ x := by omega
    rw [← hl]
    clear hl
    go_enter Tryz.func85, Tryz.ntmps85
    go_wp2
    go_ret
    exact ⟨ret1 (by omega), rfl⟩
  · obtain ⟨l, hl, h8, hi⟩ := tab_run (x / 256) (by omega) (by omega)
    have s := Lib.bitLen_shift8 x.toNat (by omega) (by omega)
    rw [show (x / 256).toNat = x.toNat / 256 from by omega] at hl
    rw [s, ← hl]
    have hle : ¬ 65536 ≤ x := by omega
    clear hl s
    go_enter Tryz.func85, Tryz.ntmps85
    go_wp2
    go_ret
    exact ⟨ret1 (by omega), rfl⟩
  · obtain ⟨l, hl, h8, hi⟩ := tab_run (x / 65536) (by omega) (by omega)
    have s := Lib.bitLen_shift16 x.toNat (by omega) (by omega)
    rw [show (x / 65536).toNat = x.toNat / 65536 from by omega] at hl
    rw [s, ← hl]
    have hle : ¬ 256 ≤ x / 65536 := by omega
    clear hl s
    go_enter Tryz.func85, Tryz.ntmps85
    go_wp2
    go_ret
    exact ⟨ret1 (by omega), rfl⟩
  · obtain ⟨l, hl, h8, hi⟩ := tab_run (x / 65536 / 256) (by omega) (by omega)
    have s := Lib.bitLen_shift24 x.toNat (by omega) (by omega)
    rw [show (x / 65536 / 256).toNat = x.toNat / 16777216 from by omega] at hl
    rw [s, ← hl]
    have hle : 256 ≤ x / 65536 := by omega
    clear hl s
    go_enter Tryz.func85, Tryz.ntmps85
    go_wp2
    go_ret
    exact ⟨ret1 (by omega), rfl⟩

set_option maxHeartbeats 400000 in
theorem order_any (b : Bool) (w : World) :
    Calls Tryz.prog 74 #[.bool b] w fun e w' => e = .returned (.int .i64 (if b then -1 else 1)) ∧ w' = w := by
  cases b
  all_goals
    go_enter Tryz.func74, Tryz.ntmps74
    go_wp2
    go_ret
    exact ⟨rfl, rfl⟩

set_option maxHeartbeats 400000 in
theorem lz32_any (x : Int) (w : World) (h0 : 0 ≤ x) (h1 : x ≤ 4294967295) :
    Calls Tryz.prog 112 #[.int .u32 x] w fun e w' => e = .returned (.int .i64 (32 - (Lib.bitLen x.toNat : Int))) ∧ w = w' := by
  obtain ⟨l, hl⟩ : ∃ l, l = Lib.bitLen x.toNat := ⟨_, rfl⟩
  have hl2 : l ≤ 32 := by rw [hl]; exact Lib.bitLenAux_le _ _ _ (by omega)
  have hc := fun w => len32_any x w h0 h1
  rw [← hl] at hc ⊢
  have HC : Hid _ := hc
  clear hc hl
  go_enter Tryz.func112, Tryz.ntmps112
  go_wp2_with (go_at_call 85; refine (HC.out _).mono ?_; rintro e w' ⟨rfl, rfl⟩)
  go_ret
  exact ⟨rfl, rfl⟩

end Go.Proofs.YtbobhhnhlgdkiaaGreat

/- penumbraref01.Same (where both are the same), nat.Cmp. -/
namespace Go.Proofs.YtbobhhnhlgdkiaaGreat
open Go.RowKit M
set_option maxRecDepth 100000

set_option maxHeartbeats 1000000 in
theorem cmp_any (w : World) (ao bo : Option Addr) (n cap n2 cap2 N : Nat) (xs ys : List Nat) (h : Sl N w ao n cap xs) (h2 : Sl N w bo n2 cap2 ys) (hlen : n ≤ 1099511627776) (hlen2 : n2 ≤ 1099511627776) :
    Calls Tryz.prog 45 #[.slice ao n cap, .slice bo n2 cap2] w fun e w' => e = .returned (.int .i64 (cmpN (val xs) (val ys))) ∧ Qt w w' := by
  go_enter Tryz.func45, Tryz.ntmps45
  go_wp2_with fail
  refine (trimmed_any N _ ao n cap xs h hlen).mono ?_
  rintro e w1 ⟨rfl, a1, n1, c1, rfl, s1, l1⟩
  go_wp2_with fail
  refine (trimmed_any N _ bo n2 cap2 ys h2 hlen2).mono ?_
  rintro e w1 ⟨rfl, a2, m1, c2, rfl, s2, l2⟩
  by_cases hn : n1 = m1
  · subst hn
    go_wp2
    go_loopw [5] (fun i wr => ∃ k : Nat, k ≤ n1 ∧ i = .int .i64 ((k : Int) - 1) ∧ (toL (val xs)).drop k = (toL (val ys)).drop k ∧ Qt w wr) (fun i _ => ((intOf i) + 1).toNat)
    case atStart => exact ⟨n1, Nat.le_refl _, rfl, by rw [List.drop_of_length_le (by rw [s1.len]; exact Nat.le_refl _), List.drop_of_length_le (by rw [s2.len]; exact Nat.le_refl _)], Qt.refl _⟩
    case round =>
      obtain ⟨k, hk, rfl, hd, hq⟩ := hrel
      have HD : Hid ((toL (val xs)).drop k = (toL (val ys)).drop k) := hd
      clear hd
      by_cases h0 : k = 0
      · subst h0
        go_wp2
        go_ret
        exact ⟨ret1 (by rw [cmpN_eq (toL_inj (by simpa using HD.out))]), hq⟩
      · obtain ⟨j, rfl⟩ : ∃ j, k = j + 1 := ⟨k - 1, by omega⟩
        obtain ⟨b, o, x, rfl, hb, hcell, hx, HX⟩ := (hq.sl s1).cell j (by omega)
        obtain ⟨b', o', x', rfl, hb', hcell', hx', HX'⟩ := (hq.sl s2).cell j (by omega)
        have ej : ((j + 1 : Nat) : Int) - 1 = (j : Int) := by omega
        rw [ej]
        clear ej
        have hj1 : (j : Int) < (n1 : Int) := by omega
        have hj0 : (0 : Int) ≤ (j : Int) := by omega
        by_cases hxx : x = x'
        · subst hxx
          have HX2 : Hid ((toL (val xs)).drop j = (toL (val ys)).drop j) := drop_step (by rw [s1.len]; omega) (by rw [s2.len]; omega) HD.out (by rw [← HX.out, ← HX'.out])
          go_wp2
          go_quiet (fail)
          go_wp2
          go_roundw
          case rel => exact ⟨j, by omega, by go_num, HX2.out, hq.drewN _⟩
          case measure => simp [intOf]
        · have hne : ((x : Int) != (x' : Int)) = true := by rw [bne_iff_ne]; omega
          by_cases hl : x < x'
          · have HL : Hid (cmpN (val xs) (val ys) = -1) := cmpN_lt (by
              have := val_lt_of_limb (Lim_toL (val xs)) (by rw [s1.len]; omega) (by rw [s2.len]; omega) HD.out (by rw [← HX.out, ← HX'.out]; exact hl)
              rwa [val_toL, val_toL] at this)
            go_wp2
            go_quiet (fail)
            go_wp2
            have hq2 : Qt w (wr.drewN nq) := hq.drewN nq
            have hc1 : (wr.drewN nq).cell? ⟨b, o + j, none⟩ = some (.int .u32 (x : Int)) := hcell
            have hc2 : (wr.drewN nq).cell? ⟨b', o' + j, none⟩ = some (.int .u32 (x' : Int)) := hcell'
            generalize wr.drewN nq = wq at hq2 hc1 hc2 ⊢
            clear hcell hcell'
            go_quiet ((go_at_call 74; exact Calls.quiet_of_same (order_any _ _)))
            go_wp2
            go_ret
            exact ⟨ret1 (by rw [HL.out]; first | done | (simp; done) | (simp; omega)), hq2.drewN _⟩
          · have HL : Hid (cmpN (val xs) (val ys) = 1) := cmpN_gt (by
              have := val_lt_of_limb (Lim_toL (val ys)) (by rw [s2.len]; omega) (by rw [s1.len]; omega) HD.out.symm (by rw [← HX.out, ← HX'.out]; omega)
              rwa [val_toL, val_toL] at this)
            have hl' : x' ≤ x := by omega
            go_wp2
            go_quiet (fail)
            go_wp2
            have hq2 : Qt w (wr.drewN nq) := hq.drewN nq
            have hc1 : (wr.drewN nq).cell? ⟨b, o + j, none⟩ = some (.int .u32 (x : Int)) := hcell
            have hc2 : (wr.drewN nq).cell? ⟨b', o' + j, none⟩ = some (.int .u32 (x' : Int)) := hcell'
            generalize wr.drewN nq = wq at hq2 hc1 hc2 ⊢
            clear hcell hcell'
            go_quiet ((go_at_call 74; exact Calls.quiet_of_same (order_any _ _)))
            go_wp2
            go_ret
            exact ⟨ret1 (by rw [HL.out]; first | done | (simp; done) | (simp; omega)), hq2.drewN _⟩
  · have hne : ((n1 : Int) != (m1 : Int)) = true := by rw [bne_iff_ne]; omega
    by_cases hl : n1 < m1
    · have HL : Hid (cmpN (val xs) (val ys) = -1) := cmpN_lt (toL_len_lt (by rw [s1.len, s2.len]; exact hl))
      go_wp2_with (go_at_call 74; refine (order_any _ _).mono ?_; rintro e w' ⟨rfl, rfl⟩)
      go_ret
      exact ⟨ret1 (by rw [HL.out]), Qt.refl _⟩
    · have HL : Hid (cmpN (val xs) (val ys) = 1) := cmpN_gt (toL_len_lt (by rw [s1.len, s2.len]; omega))
      go_wp2_with (go_at_call 74; refine (order_any _ _).mono ?_; rintro e w' ⟨rfl, rfl⟩)
      go_ret
      exact ⟨ret1 (by rw [HL.out]), Qt.refl _⟩

end Go.Proofs.YtbobhhnhlgdkiaaGreat

/- nat.Norm, Of, Bits. -/
namespace Go.Proofs.YtbobhhnhlgdkiaaGreat
open Go.RowKit M
set_option maxRecDepth 100000

set_option maxHeartbeats 400000 in
theorem bits_any (w : World) (ao : Option Addr) (n cap N : Nat) (xs : List Nat) (h : Sl N w ao n cap xs) (hlen : n ≤ 1099511627776) :
    Calls Tryz.prog 65 #[.slice ao n cap] w fun e w' => e = .returned (.int .i64 (nb (val xs))) ∧ w = w' := by
  go_enter Tryz.func65, Tryz.ntmps65
  go_wp2_with fail
  refine (trimmed_any N _ ao n cap xs h hlen).mono ?_
  rintro e w1 ⟨rfl, a1, n1, c1, rfl, s1, l1⟩
  by_cases h0 : n1 = 0
  · have HV : Hid (nb (val xs) = 0) := by
      have := s1.len
      rw [h0] at this
      rw [toL_length_zero.1 this]; exact nb_zero
    subst h0
    go_wp2
    go_ret
    exact ⟨ret1 (by rw [HV.out]; rfl), rfl⟩
  · obtain ⟨m, rfl⟩ : ∃ m, n1 = m + 1 := ⟨n1 - 1, by omega⟩
    obtain ⟨b, o, x, rfl, hb, hcell, hx, HX⟩ := s1.cell m (by omega)
    have hv : val xs ≠ 0 := by
      intro h0
      have := s1.len
      rw [h0, toL_zero] at this
      simp at this
    have hl : Lib.bitLen x ≤ 32 := Lib.bitLenAux_le _ _ _ (by omega)
    have HV : Hid (nb (val xs) = 32 * m + Lib.bitLen x) := by
      show nb (val xs) = _
      rw [bitLen_nb x hx, nb_toL hv, s1.len, HX.out]
      rfl
    have hc := fun w => len32_any x w (by omega) (by omega)
    rw [Int.toNat_natCast] at hc
    generalize Lib.bitLen x = l at hl HV hc
    have HC : Hid _ := hc
    clear hc hv
    go_wp2_with (go_at_call 85; refine (HC.out _).mono ?_; rintro e w' ⟨rfl, rfl⟩)
    go_ret
    exact ⟨ret1 (by rw [HV.out]; omega), rfl⟩

set_option maxHeartbeats 400000 in
theorem of_any (w : World) (x : Nat) (hx : x < 18446744073709551616) :
    Calls Tryz.prog 51 #[.int .u64 (x : Int)] w (Gives w (toL x)) := by
  have he : u32s [x % 4294967296, x / 4294967296] = #[.int .u32 ((x : Int) % 4294967296), .int .u32 ((x : Int) / 4294967296)] := by simp [u32s]
  have hv : val [x % 4294967296, x / 4294967296] = x := by simp only [val_cons, val_nil]; omega
  have hb : Below w.heap.size w (w.alloc (.cells (u32s [x % 4294967296, x / 4294967296]) 86)) := (Below.refl _ _).alloc (Nat.le_refl _) _
  have hs : Sl (w.heap.size + 1) (w.alloc (.cells (u32s [x % 4294967296, x / 4294967296]) 86)) (some ⟨w.heap.size, 0, none⟩) 2 2 [x % 4294967296, x / 4294967296] :=
    Sl.own (Own.alloc _ _) (Lim.mk (by omega) (Lim.mk (by omega) Lim.nil)) (by omega) 2 2 rfl (by omega)
  rw [he] at hs hb
  have HV : Hid _ := hv
  clear he hv
  go_enter Tryz.func51, Tryz.ntmps51
  go_wp2_with fail
  refine (trimmed_any _ _ _ 2 2 _ hs (by omega)).mono ?_
  rintro e w1 ⟨rfl, a1, n1, c1, rfl, s1, l1⟩
  rw [HV.out] at s1
  go_wp2
  go_ret
  exact ⟨a1, n1, c1, rfl, by simpa using s1, hb⟩

set_option maxHeartbeats 400000 in
theorem norm_any (w : World) (ao : Option Addr) (n cap : Nat) (xs : List Nat) (h : Sl w.heap.size w ao n cap xs) (hlen : n ≤ 1099511627776) :
    Calls Tryz.prog 91 #[.slice ao n cap] w (Gives w (toL (val xs))) := by
  go_enter Tryz.func91, Tryz.ntmps91
  go_wp2_with fail
  refine (trimmed_any _ _ ao n cap xs h hlen).mono ?_
  rintro e w1 ⟨rfl, a1, n1, c1, rfl, s1, l1⟩
  have hmk := fun u => make_run n1 (by omega) u
  by_cases h0 : n1 = 0
  · have HV : Hid (toL (val xs) = []) := List.eq_nil_of_length_eq_zero (by rw [s1.len, h0])
    subst h0
    go_wp2
    go_ret
    rw [HV.out]
    exact ⟨none, 0, 0, rfl, Sl.nil _ _, Below.refl _ _⟩
  · have hn0 : ((n1 : Int) == 0) = false := by simp [h0]
    have hcp := copy_run w a1 n1 c1 n1 _ s1 (Nat.le_refl _)
    rw [Nat.sub_self, List.replicate_zero, List.append_nil] at hcp
    have hs : Sl (w.heap.size + 1) (w.alloc (.cells (u32s (toL (val xs))) 86)) (some ⟨w.heap.size, 0, none⟩) n1 n1 (toL (val xs)) :=
      Sl.own (Own.alloc _ _) (Lim_toL _) (by omega) n1 n1 s1.len (Nat.le_refl _)
    have hb : Below w.heap.size w (w.alloc (.cells (u32s (toL (val xs))) 86)) := (Below.refl _ _).alloc (Nat.le_refl _) _
    go_wp2
    go_ret
    exact ⟨_, n1, n1, rfl, by simpa using hs, hb⟩

end Go.Proofs.YtbobhhnhlgdkiaaGreat

/- nat.addTo, Add, Sub. -/
namespace Go.Proofs.YtbobhhnhlgdkiaaGreat
open Go.RowKit M
set_option maxRecDepth 100000

/-- What addTo leaves of the sum: a carry beyond its last limb is left out. -/
def Added (s s' ys : List Nat) : Prop := s'.length = s.length ∧ Lim s' ∧ ∃ c, c ≤ 1 ∧ val s' + Bp s.length * c = val s + val ys

set_option maxHeartbeats 1000000 in
theorem addTo_any (w : World) (g o n cap : Nat) (pre s post : List Nat) (bo : Option Addr) (m bcap N : Nat) (ys : List Nat)
    (h : Sg w g o n pre s post) (hb : Sl N w bo m bcap ys) (hN : N ≤ g) (hm : m ≤ n) (hn : n ≤ 1099511627776) :
    Calls Tryz.prog 110 #[.slice (some ⟨g, o, none⟩) n cap, .slice bo m bcap] w fun e w' => e = .returned (.tuple #[]) ∧ Fr g w w' ∧ ∃ s', Sg w' g o n pre s' post ∧ Added s s' ys := by
  go_enter Tryz.func110, Tryz.ntmps110
  go_wp2
  go_loopw [4, 10] (fun cv iv wr => ∃ k c s', k ≤ m ∧ cv = .int .u32 ((c : Nat) : Int) ∧ iv = .int .i64 ((k : Nat) : Int) ∧ Fr g w wr ∧ Sg wr g o n pre s' post ∧ AddInv s s' ys k c) (fun _ iv _ => m - (intOf iv).toNat)
  case atStart => exact ⟨0, 0, s, Nat.zero_le _, rfl, rfl, Fr.refl _ _, h, AddInv.start h.lim⟩
  case round =>
    obtain ⟨k, c, s', hk, rfl, rfl, hf, hs, hi⟩ := hrel
    have hc1 := hi.car
    by_cases hlt : k < m
    · obtain ⟨x, hx1, hx2, hx3, HX⟩ := hs.cell k (by omega)
      obtain ⟨b, p, y, rfl, hy0, hy1, hy2, HY⟩ := (hb.fr hf hN).cell k hlt
      have hbg : b ≠ g := by omega
      go_wp2_with (go_at_call 118; refine (add32_any _ _ _ _ (by omega) (by omega) (by omega) (by omega) (by omega) (by omega)).mono ?_; rintro e w' ⟨rfl, rfl⟩)
      have ev : ((x : Int) + y + c) % 4294967296 = (((x + y + c) % 4294967296 : Nat) : Int) := by omega
      have ec : ((x : Int) + y + c) / 4294967296 = (((x + y + c) / 4294967296 : Nat) : Int) := by omega
      rw [ev, ec]
      go_roundw
      case rel => exact ⟨k + 1, (x + y + c) / 4294967296, s'.set k ((x + y + c) % 4294967296), by omega, rfl, by go_num, hf.set _ _, hs.set (by omega) (by omega),
        hi.step (by rw [h.len]; omega) (hb.lim.getD k) (by rw [← HX.out, ← HY.out]) (by rw [← HX.out, ← HY.out])⟩
      case measure => simp [intOf]; omega
    · obtain rfl : k = m := by omega
      have HY : Hid (ys.length = k) := hb.len
      clear hb
      go_wp2
      go_loopw [4, 7] (fun cv iv wr => ∃ j c s', k ≤ j ∧ j ≤ n ∧ cv = .int .u32 ((c : Nat) : Int) ∧ iv = .int .i64 ((j : Nat) : Int) ∧ Fr g w wr ∧ Sg wr g o n pre s' post ∧ AddInv s s' ys j c) (fun _ iv _ => n - (intOf iv).toNat)
      case atStart => exact ⟨k, c, s', Nat.le_refl _, hm, rfl, rfl, hf, hs, hi⟩
      case round =>
        clear hi hs hf hc1
        obtain ⟨j, c, s', hkj, hj, rfl, rfl, hf, hs, hi⟩ := hrel
        have hc1 := hi.car
        by_cases hlt2 : j < n
        · by_cases hc0 : c = 0
          · have hcb : ((c : Int) != 0) = false := by simp [hc0]
            have HC : Hid (c = 0) := hc0
            clear hc0
            go_wp2
            go_end0
            exact ⟨rfl, hf, s', hs, hi.len, hi.lim, hi.done (by rw [h.len]; exact hj) (by rw [HY.out]; exact hkj) (.inl HC.out)⟩
          · have hcb : ((c : Int) != 0) = true := by rw [bne_iff_ne]; omega
            obtain ⟨x, hx1, hx2, hx3, HX⟩ := hs.cell j (by omega)
            have HZ : Hid (ys.getD j 0 = 0) := getD_beyond (by rw [HY.out]; exact hkj)
            go_wp2_with (go_at_call 118; refine (add32_any _ _ _ _ (by omega) (by omega) (by omega) (by omega) (by omega) (by omega)).mono ?_; rintro e w' ⟨rfl, rfl⟩)
            have ev : ((x : Int) + c) % 4294967296 = (((x + c) % 4294967296 : Nat) : Int) := by omega
            have ec : ((x : Int) + c) / 4294967296 = (((x + c) / 4294967296 : Nat) : Int) := by omega
            rw [ev, ec]
            go_roundw
            case rel => exact ⟨j + 1, (x + c) / 4294967296, s'.set j ((x + c) % 4294967296), by omega, by omega, rfl, by go_num, hf.set _ _, hs.set (by omega) (by omega),
              hi.step (by rw [h.len]; omega) (by rw [HZ.out]; omega) (by rw [← HX.out, HZ.out]; rfl) (by rw [← HX.out, HZ.out]; rfl)⟩
            case measure => simp [intOf]; omega
        · obtain rfl : j = n := by omega
          go_wp2
          go_end0
          exact ⟨rfl, hf, s', hs, hi.len, hi.lim, hi.done (by rw [h.len]; exact hj) (by rw [HY.out]; exact hkj) (.inr h.len.symm)⟩

theorem add_math {a b n : Nat} {ys : List Nat} {s' : List Nat} (h : Added (toL a ++ [0]) s' ys) (ha : (toL a).length = n) (hy : val ys = b) (hb : b < Bp n) : val s' = a + b := by
  obtain ⟨h1, h2, c, hc, he⟩ := h
  have hv : val (toL a ++ [0]) = a := by rw [val_append, val_toL]; simp [val]
  rw [hv, hy, List.length_append, List.length_singleton, ha] at he
  have h3 := val_lt h2
  rw [h1, List.length_append, List.length_singleton, ha] at h3
  have h4 := val_lt (Lim_toL a)
  rw [val_toL, ha] at h4
  rw [Bp_succ] at he h3
  have := Bp_pos n
  rcases (show c = 0 ∨ c = 1 from by omega) with rfl | rfl <;> omega

/-- The rest of Add, a being not shorter than b. -/
theorem add_rest (w : World) (a1 b1 : Option Addr) (n1 c1 m1 d1 A B : Nat) (s1 : Sl w.heap.size w a1 n1 c1 (toL A)) (s2 : Sl w.heap.size w b1 m1 d1 (toL B)) (hl : m1 ≤ n1) (hn : n1 ≤ 1099511627775) :
    (w' : World) → w' = w.alloc (.cells (u32s (toL A ++ [0])) 86) → Calls Tryz.prog 110 #[.slice (some ⟨w.heap.size, 0, none⟩) (n1 + 1) (n1 + 1), .slice b1 m1 d1] w' fun e w2 => e = .returned (.tuple #[]) ∧
      ∃ s', Sl (w.heap.size + 1) w2 (some ⟨w.heap.size, 0, none⟩) (n1 + 1) (n1 + 1) s' ∧ val s' = A + B ∧ Below w.heap.size w w2 ∧ w2.heap.size = w.heap.size + 1 := by
  rintro w' rfl
  have hb : Below w.heap.size w (w.alloc (.cells (u32s (toL A ++ [0])) 86)) := (Below.refl _ _).alloc (Nat.le_refl _) _
  have hlen : (toL A ++ [0]).length = n1 + 1 := by rw [List.length_append, List.length_singleton, s1.len]
  have hlim : Lim (toL A ++ [0]) := (Lim_toL A).append (Lim.mk (by omega) Lim.nil)
  refine (addTo_any _ w.heap.size 0 (n1 + 1) (n1 + 1) [] (toL A ++ [0]) [] b1 m1 d1 w.heap.size (toL B) (Sg.whole (Own.alloc _ _) hlim hlen) (s2.below hb) (Nat.le_refl _) (by omega) (by omega)).mono ?_
  rintro e w2 ⟨rfl, hf, s', hs, ha⟩
  refine ⟨rfl, s', hs.read (by omega) (n1 + 1) (Nat.le_refl _), add_math ha s1.len (val_toL B) ?_, hb.trans (hf.below (Nat.le_refl _)), by rw [hf.size]; simp⟩
  have := s2.lt
  rw [val_toL] at this
  exact Nat.lt_of_lt_of_le this (Bp_mono hl)

set_option maxHeartbeats 1000000 in
theorem add_any (w : World) (ao bo : Option Addr) (n cap n2 cap2 : Nat) (xs ys : List Nat) (h : Sl w.heap.size w ao n cap xs) (h2 : Sl w.heap.size w bo n2 cap2 ys) (hlen : n ≤ 1099511627775) (hlen2 : n2 ≤ 1099511627775) :
    Calls Tryz.prog 100 #[.slice ao n cap, .slice bo n2 cap2] w (Gives w (toL (val xs + val ys))) := by
  go_enter Tryz.func100, Tryz.ntmps100
  go_wp2_with fail
  refine (trimmed_any _ _ ao n cap xs h (by omega)).mono ?_
  rintro e w1 ⟨rfl, a1, n1, c1, rfl, s1, l1⟩
  go_wp2_with fail
  refine (trimmed_any _ _ bo n2 cap2 ys h2 (by omega)).mono ?_
  rintro e w1 ⟨rfl, a2, m1, c2, rfl, s2, l2⟩
  generalize val xs = A at *
  generalize val ys = B at *
  clear h h2
  by_cases hl : n1 < m1
  · have hmk := fun u => make_run (m1 + 1) (by omega) u
    have em : ((m1 + 1 : Nat) : Int) = (m1 : Int) + 1 := by omega
    rw [em] at hmk
    have hcp := copy_run w a2 m1 c2 (m1 + 1) _ s2 (by omega)
    rw [Nat.add_sub_cancel_left, List.replicate_one] at hcp
    have HA : Hid _ := add_rest w a2 a1 m1 c2 n1 c1 B A s2 s1 (by omega) (by omega)
    clear s1 s2 em
    go_wp2_with fail
    refine (HA.out _ rfl).mono ?_
    rintro e w2 ⟨rfl, s', hs, hv, hbl, hsz⟩
    go_wp2_with fail
    refine (trimmed_any _ _ _ _ _ s' hs (by omega)).mono ?_
    rintro e w3 ⟨rfl, a3, n3, c3, rfl, s3, l3⟩
    go_wp2
    go_ret
    rw [hv] at s3
    exact ⟨a3, n3, c3, rfl, by rw [hsz]; rw [Nat.add_comm A B]; exact s3, hbl⟩
  · have hmk := fun u => make_run (n1 + 1) (by omega) u
    have em : ((n1 + 1 : Nat) : Int) = (n1 : Int) + 1 := by omega
    rw [em] at hmk
    have hcp := copy_run w a1 n1 c1 (n1 + 1) _ s1 (by omega)
    rw [Nat.add_sub_cancel_left, List.replicate_one] at hcp
    have HA : Hid _ := add_rest w a1 a2 n1 c1 m1 c2 A B s1 s2 (by omega) (by omega)
    clear s1 s2 em
    go_wp2_with fail
    refine (HA.out _ rfl).mono ?_
    rintro e w2 ⟨rfl, s', hs, hv, hbl, hsz⟩
    go_wp2_with fail
    refine (trimmed_any _ _ _ _ _ s' hs (by omega)).mono ?_
    rintro e w3 ⟨rfl, a3, n3, c3, rfl, s3, l3⟩
    go_wp2
    go_ret
    rw [hv] at s3
    exact ⟨a3, n3, c3, rfl, by rw [hsz]; exact s3, hbl⟩

end Go.Proofs.YtbobhhnhlgdkiaaGreat

/- nat.Sub. -/
namespace Go.Proofs.YtbobhhnhlgdkiaaGreat
open Go.RowKit M
set_option maxRecDepth 100000

theorem sub_step {x y c : Nat} (hx : x < 4294967296) (hy : y < 4294967296) (hc : c ≤ 1) :
    ∃ v c' : Nat, ((x : Int) - y - c) % 4294967296 = (v : Int) ∧ bor (x : Int) (y : Int) (c : Int) = (c' : Int) ∧ v < 4294967296 ∧ c' ≤ 1 ∧ v + y + c = x + 4294967296 * c' := by
  unfold bor
  by_cases h : x < y + c
  · refine ⟨x + 4294967296 - y - c, 1, by omega, by rw [if_pos (by omega)]; rfl, by omega, by omega, by omega⟩
  · refine ⟨x - y - c, 0, by omega, by rw [if_neg (by omega)]; rfl, by omega, by omega, by omega⟩

set_option maxHeartbeats 1000000 in
theorem sub_any (w : World) (ao bo : Option Addr) (n cap n2 cap2 : Nat) (xs ys : List Nat) (h : Sl w.heap.size w ao n cap xs) (h2 : Sl w.heap.size w bo n2 cap2 ys) (hlen : n ≤ 1099511627775) (hlen2 : n2 ≤ 1099511627775) (hle : val ys ≤ val xs) :
    Calls Tryz.prog 101 #[.slice ao n cap, .slice bo n2 cap2] w fun e w' => ∃ ro rn rc, e = .returned (.tuple #[.slice ro rn rc, .bool true]) ∧ Sl w'.heap.size w' ro rn rc (toL (val xs - val ys)) ∧ Below w.heap.size w w' := by
  go_enter Tryz.func101, Tryz.ntmps101
  go_wp2_with fail
  refine (trimmed_any _ _ ao n cap xs h (by omega)).mono ?_
  rintro e w1 ⟨rfl, a1, n1, c1, rfl, s1, l1⟩
  go_wp2_with fail
  refine (trimmed_any _ _ bo n2 cap2 ys h2 (by omega)).mono ?_
  rintro e w1 ⟨rfl, a2, m1, c2, rfl, s2, l2⟩
  obtain ⟨A, hA⟩ : ∃ A, A = val xs := ⟨_, rfl⟩
  obtain ⟨B, hB⟩ : ∃ B, B = val ys := ⟨_, rfl⟩
  rw [← hA] at s1
  rw [← hB] at s2
  rw [← hA, ← hB] at hle
  have HA : Hid (A = val xs) := hA
  have HB : Hid (B = val ys) := hB
  clear h h2 hA hB
  go_wp2_with fail
  refine (cmp_any _ _ _ _ _ _ _ _ _ _ s1 s2 (by omega) (by omega)).mono ?_
  rintro e w1 ⟨rfl, hq⟩
  rw [val_toL, val_toL]
  have hcm : 0 ≤ cmpN A B := by unfold cmpN; split <;> (try split) <;> omega
  have hmn : m1 ≤ n1 := by
    rw [← s1.len, ← s2.len]
    by_cases hh : (toL A).length < (toL B).length
    · have := toL_len_lt hh; omega
    · omega
  generalize cmpN A B = cm at hcm
  have t1 : Sl w1.heap.size w1 a1 n1 c1 (toL A) := by rw [hq.size]; exact hq.sl s1
  have t2 : Sl w1.heap.size w1 a2 m1 c2 (toL B) := by rw [hq.size]; exact hq.sl s2
  clear s1 s2
  have hmk := fun u => make_run n1 (by omega) u
  go_wp2
  have hb0 : Below w1.heap.size w1 (w1.alloc (.cells (u32s (List.replicate n1 0)) 86)) := (Below.refl _ _).alloc (Nat.le_refl _) _
  have hs0 : Sg (w1.alloc (.cells (u32s (List.replicate n1 0)) 86)) w1.heap.size 0 n1 [] (List.replicate n1 0) [] := Sg.whole (Own.alloc _ _) (Lim.rep _) (by simp)
  have hz0 : (w1.alloc (.cells (u32s (List.replicate n1 0)) 86)).heap.size = w1.heap.size + 1 := by simp
  have u1 := t1.below hb0
  have u2 := t2.below hb0
  have hbw := (hq.below w.heap.size).trans (hb0.mono (by rw [hq.size]; exact Nat.le_refl _))
  obtain ⟨g, hg⟩ : ∃ g, g = w1.heap.size := ⟨_, rfl⟩
  rw [← hg] at hs0 hz0 u1 u2 ⊢
  generalize w1.alloc (.cells (u32s (List.replicate n1 0)) 86) = w2 at *
  have hgw : w.heap.size ≤ g := by rw [hg, hq.size]; exact Nat.le_refl _
  clear hg t1 t2 hb0 hmk hq
  go_loopw [7, 24] (fun cv iv wr => ∃ k c r, k ≤ m1 ∧ cv = .int .u32 ((c : Nat) : Int) ∧ iv = .int .i64 ((k : Nat) : Int) ∧ Fr g w2 wr ∧ Sg wr g 0 n1 [] r [] ∧ SubInv n1 r (toL A) (toL B) k c) (fun _ iv _ => m1 - (intOf iv).toNat)
  case atStart => exact ⟨0, 0, _, Nat.zero_le _, rfl, rfl, Fr.refl _ _, hs0, SubInv.start _ _ _⟩
  case round =>
    obtain ⟨k, c, r, hk, rfl, rfl, hf, hs, hi⟩ := hrel
    have hc1 := hi.bor
    by_cases hlt : k < m1
    · obtain ⟨b, p, x, rfl, hx0, hx1, hx2, HX⟩ := (u1.fr hf (Nat.le_refl _)).cell k (by omega)
      obtain ⟨b', p', y, rfl, hy0, hy1, hy2, HY⟩ := (u2.fr hf (Nat.le_refl _)).cell k hlt
      obtain ⟨z, hz1, hz2, hz3, HZ⟩ := hs.cell0 k (by omega)
      go_wp2_with (go_at_call 111; refine (sub32_any _ _ _ _ (by omega) (by omega) (by omega) (by omega) (by omega) (by omega)).mono ?_; rintro e w' ⟨rfl, rfl⟩)
      obtain ⟨v, c', ev, ec, hv, hc', he⟩ := sub_step hx2 hy2 hc1
      rw [ev, ec]
      go_roundw
      case rel => exact ⟨k + 1, c', r.set k v, by omega, rfl, by go_num, hf.set _ _, hs.set0 (by omega) hv, hi.step (by omega) hv hc' (by rw [← HX.out, ← HY.out]; exact he)⟩
      case measure => simp [intOf]; omega
    · obtain rfl : k = m1 := by omega
      have HY : Hid ((toL B).length = k) := u2.len
      have HX : Hid ((toL A).length = n1) := u1.len
      clear u2
      go_wp2
      go_loopw [7, 10] (fun cv iv wr => ∃ j c r, k ≤ j ∧ j ≤ n1 ∧ cv = .int .u32 ((c : Nat) : Int) ∧ iv = .int .i64 ((j : Nat) : Int) ∧ Fr g w2 wr ∧ Sg wr g 0 n1 [] r [] ∧ SubInv n1 r (toL A) (toL B) j c) (fun _ iv _ => n1 - (intOf iv).toNat)
      case atStart => exact ⟨k, c, r, Nat.le_refl _, hmn, rfl, rfl, hf, hs, hi⟩
      case round =>
        clear hi hs hf hc1
        obtain ⟨j, c, r, hkj, hj, rfl, rfl, hf, hs, hi⟩ := hrel
        have hc1 := hi.bor
        by_cases hlt2 : j < n1
        · obtain ⟨b, p, x, rfl, hx0, hx1, hx2, HX2⟩ := (u1.fr hf (Nat.le_refl _)).cell j hlt2
          obtain ⟨z, hz1, hz2, hz3, HZ⟩ := hs.cell0 j (by omega)
          have HZ : Hid ((toL B).getD j 0 = 0) := getD_beyond (by rw [HY.out]; exact hkj)
          go_wp2_with (go_at_call 111; refine (sub32_any _ _ _ _ (by omega) (by omega) (by omega) (by omega) (by omega) (by omega)).mono ?_; rintro e w' ⟨rfl, rfl⟩)
          obtain ⟨v, c', ev, ec, hv, hc', he⟩ := sub_step (y := 0) hx2 (by omega) hc1
          simp only [Int.natCast_zero, Int.sub_zero] at ev ec
          rw [ev, ec]
          go_roundw
          case rel => exact ⟨j + 1, c', r.set j v, by omega, by omega, rfl, by go_num, hf.set _ _, hs.set0 (by omega) hv, hi.step (by omega) hv hc' (by rw [← HX2.out, HZ.out]; exact he)⟩
          case measure => simp [intOf]; omega
        · obtain rfl : j = n1 := by omega
          have HD : Hid (val r = A - B) := by
            have := hi.done HX.out (by rw [HY.out]; exact hkj) (by rw [val_toL, val_toL]; exact hle)
            rwa [val_toL, val_toL] at this
          go_wp2_with fail
          refine (trimmed_any (g + 1) _ _ j j r (hs.read (by omega) j (Nat.le_refl _)) (by omega)).mono ?_
          rintro e w3 ⟨rfl, a3, n3, c3, rfl, s3, l3⟩
          go_wp2
          go_ret2
          rw [HD.out] at s3
          rw [HA.out, HB.out] at s3
          refine ⟨a3, n3, c3, rfl, by rw [hf.size, hz0]; exact s3, hbw.trans (hf.below hgw)⟩

set_option maxHeartbeats 1000000 in
theorem sub_no (w : World) (ao bo : Option Addr) (n cap n2 cap2 N : Nat) (xs ys : List Nat) (h : Sl N w ao n cap xs) (h2 : Sl N w bo n2 cap2 ys) (hlen : n ≤ 1099511627775) (hlen2 : n2 ≤ 1099511627775) (hlt : val xs < val ys) :
    Calls Tryz.prog 101 #[.slice ao n cap, .slice bo n2 cap2] w fun e w' => e = .returned (.tuple #[.slice none 0 0, .bool false]) ∧ Qt w w' := by
  go_enter Tryz.func101, Tryz.ntmps101
  go_wp2_with fail
  refine (trimmed_any _ _ ao n cap xs h (by omega)).mono ?_
  rintro e w1 ⟨rfl, a1, n1, c1, rfl, s1, l1⟩
  go_wp2_with fail
  refine (trimmed_any _ _ bo n2 cap2 ys h2 (by omega)).mono ?_
  rintro e w1 ⟨rfl, a2, m1, c2, rfl, s2, l2⟩
  go_wp2_with fail
  refine (cmp_any _ _ _ _ _ _ _ _ _ _ s1 s2 (by omega) (by omega)).mono ?_
  rintro e w1 ⟨rfl, hq⟩
  rw [val_toL, val_toL, cmpN_lt hlt]
  go_wp2
  go_ret2
  exact ⟨rfl, hq⟩

end Go.Proofs.YtbobhhnhlgdkiaaGreat

/- nat.addProduct, Mul. -/
namespace Go.Proofs.YtbobhhnhlgdkiaaGreat
open Go.RowKit M
set_option maxRecDepth 100000

set_option maxHeartbeats 1000000 in
theorem addProduct_any (w : World) (g o n cap : Nat) (pre s post : List Nat) (bo : Option Addr) (bcap N q : Nat) (ys : List Nat)
    (h : Sg w g o n pre s post) (hb : Sl N w bo n bcap ys) (hN : N ≤ g) (hn : n ≤ 1099511627776) (hq : q < 4294967296) :
    Calls Tryz.prog 75 #[.slice (some ⟨g, o, none⟩) n cap, .slice bo n bcap, .int .u32 (q : Int)] w fun e w' => ∃ c s', e = .returned (.int .u32 ((c : Nat) : Int)) ∧ Fr g w w' ∧ Sg w' g o n pre s' post ∧ c < 4294967296 ∧ val s' + Bp n * c = val s + q * val ys := by
  go_enter Tryz.func75, Tryz.ntmps75
  go_wp2
  go_loopw [7, 12] (fun cv iv wr => ∃ k c s', k ≤ n ∧ cv = .int .u64 ((c : Nat) : Int) ∧ iv = .int .i64 ((k : Nat) : Int) ∧ Fr g w wr ∧ Sg wr g o n pre s' post ∧ PrInv s s' ys q k c) (fun _ iv _ => n - (intOf iv).toNat)
  case atStart => exact ⟨0, 0, s, Nat.zero_le _, rfl, rfl, Fr.refl _ _, h, PrInv.start _ h.lim⟩
  case round =>
    obtain ⟨k, c, s', hk, rfl, rfl, hf, hs, hi⟩ := hrel
    have hc1 := hi.car
    by_cases hlt : k < n
    · obtain ⟨x, hx1, hx2, hx3, HX⟩ := hs.cell k (by omega)
      obtain ⟨b, p, y, rfl, hy0, hy1, hy2, HY⟩ := (hb.fr hf hN).cell k hlt
      have hp0 : (0 : Int) ≤ (q : Int) * (y : Int) := by rw [← Int.natCast_mul]; omega
      have hp1 : (q : Int) * (y : Int) ≤ 18446744065119617025 := by have := mul_bound hq hy2; rw [← Int.natCast_mul]; omega
      go_wp2
      have ev : ((c : Int) + ((q : Int) * y + x)) % 4294967296 = (((c + (q * y + x)) % 4294967296 : Nat) : Int) := by rw [← Int.natCast_mul]; omega
      have ec : ((c : Int) + ((q : Int) * y + x)) / 4294967296 = (((c + (q * y + x)) / 4294967296 : Nat) : Int) := by rw [← Int.natCast_mul]; omega
      rw [ev, ec]
      go_roundw
      case rel => exact ⟨k + 1, (c + (q * y + x)) / 4294967296, s'.set k ((c + (q * y + x)) % 4294967296), by omega, rfl, by go_num, hf.set _ _, hs.set (by omega) (by omega),
        hi.step (by rw [h.len]; omega) hq (hb.lim.getD k) (by rw [← HX.out, ← HY.out]) (by rw [← HX.out, ← HY.out])⟩
      case measure => simp [intOf]; omega
    · obtain rfl : k = n := by omega
      have HD : Hid (val s' + Bp k * c = val s + q * val ys) := by
        have hl := h.len
        rw [← hl] at hi
        have := hi.done (by rw [hb.len, hl])
        rwa [hl] at this
      go_wp2
      go_ret
      exact ⟨c, s', rfl, hf, hs, hc1, HD.out⟩

set_option maxHeartbeats 1000000 in
theorem mul_any (w : World) (ao bo : Option Addr) (n cap n2 cap2 : Nat) (xs ys : List Nat) (h : Sl w.heap.size w ao n cap xs) (h2 : Sl w.heap.size w bo n2 cap2 ys) (hlen : n ≤ 549755813888) (hlen2 : n2 ≤ 549755813888) :
    Calls Tryz.prog 46 #[.slice ao n cap, .slice bo n2 cap2] w (Gives w (toL (val xs * val ys))) := by
  go_enter Tryz.func46, Tryz.ntmps46
  go_wp2_with fail
  refine (trimmed_any _ _ ao n cap xs h (by omega)).mono ?_
  rintro e w1 ⟨rfl, a1, n1, c1, rfl, s1, l1⟩
  go_wp2_with fail
  refine (trimmed_any _ _ bo n2 cap2 ys h2 (by omega)).mono ?_
  rintro e w1 ⟨rfl, a2, m1, c2, rfl, s2, l2⟩
  clear h h2
  by_cases h0 : n1 = 0
  · have HV : Hid (val xs * val ys = 0) := by
      have := s1.len
      rw [h0] at this
      show val xs * val ys = 0
      rw [toL_length_zero.1 this, Nat.zero_mul]
    have hz : ((n1 : Int) == 0) = true := by simp [h0]
    go_wp2
    go_ret
    rw [HV.out, toL_zero]
    exact ⟨none, 0, 0, rfl, Sl.nil _ _, Below.refl _ _⟩
  · have hz : ((n1 : Int) == 0) = false := by simp [h0]
    by_cases h1 : m1 = 0
    · have HV : Hid (val xs * val ys = 0) := by
        have := s2.len
        rw [h1] at this
        show val xs * val ys = 0
        rw [toL_length_zero.1 this, Nat.mul_zero]
      have hz2 : ((m1 : Int) == 0) = true := by simp [h1]
      go_wp2
      go_ret
      rw [HV.out, toL_zero]
      exact ⟨none, 0, 0, rfl, Sl.nil _ _, Below.refl _ _⟩
    · have hz2 : ((m1 : Int) == 0) = false := by simp [h1]
      have hmk := fun u => make_run (n1 + m1) (by omega) u
      rw [Int.natCast_add] at hmk
      go_wp2
      have hb0 : Below w.heap.size w (w.alloc (.cells (u32s (List.replicate (n1 + m1) 0)) 86)) := (Below.refl _ _).alloc (Nat.le_refl _) _
      have hs0 : Own (w.alloc (.cells (u32s (List.replicate (n1 + m1) 0)) 86)) w.heap.size (List.replicate (n1 + m1) 0) := Own.alloc _ _
      have hz0 : (w.alloc (.cells (u32s (List.replicate (n1 + m1) 0)) 86)).heap.size = w.heap.size + 1 := by simp
      have u1 := s1.below hb0
      have u2 := s2.below hb0
      generalize w.alloc (.cells (u32s (List.replicate (n1 + m1) 0)) 86) = w2 at *
      obtain ⟨g, hg⟩ : ∃ g, g = w.heap.size := ⟨_, rfl⟩
      rw [← hg] at hs0 hz0 u1 u2 hb0 ⊢
      have HG : Hid (g = w.heap.size) := hg
      clear s1 s2 hmk hg
      go_loopw [28] (fun iv wr => ∃ k P, k ≤ n1 ∧ iv = .int .i64 ((k : Nat) : Int) ∧ Fr g w2 wr ∧ Own wr g P ∧ MulInv P (toL (val xs)) (toL (val ys)) k) (fun iv _ => n1 - (intOf iv).toNat)
      case atStart => exact ⟨0, _, Nat.zero_le _, rfl, Fr.refl _ _, hs0, by have := MulInv.start (toL (val xs)) (toL (val ys)); rwa [u1.len, u2.len] at this⟩
      case round =>
        obtain ⟨k, P, hk, rfl, hf, hs, hi⟩ := hrel
        by_cases hlt : k < n1
        · obtain ⟨b, p, x, rfl, hx0, hx1, hx2, HX⟩ := (u1.fr hf (Nat.le_refl _)).cell k (by omega)
          have hP := hi.len
          rw [u1.len, u2.len] at hP
          go_wp2_with fail
          refine (addProduct_any wr g k m1 _ _ _ _ a2 c2 g x _ (Sg.cut hs hi.lim k m1 (by omega)) (u2.fr hf (Nat.le_refl _)) (Nat.le_refl _) (by omega) hx2).mono ?_
          rintro e w3 ⟨c, s', rfl, hf3, hs3, hc, he⟩
          have hl3 : (P.take k ++ (s' ++ P.drop (k + m1))).length = n1 + m1 := by
            rw [List.length_append, List.length_append, List.length_take, List.length_drop, hs3.len]; omega
          have hcl := hs3.own.cell (i := k + m1) (by omega)
          have hfr := hs3.own.free (k + m1)
          have HS : Hid _ := hi.step (by rw [u1.len]; exact hlt) (by rw [hs3.len, u2.len]) hs3.lim hc (by rw [u2.len, ← HX.out]; exact he)
          generalize (P.take k ++ (s' ++ P.drop (k + m1))).getD (k + m1) 0 = old at hcl
          go_wp2
          go_roundw
          case rel =>
            refine ⟨k + 1, _, by omega, by go_num, (hf.trans hf3).set _ _, hs3.own.set (k + m1) c, ?_⟩
            have := HS.out
            rwa [u2.len] at this
          case measure => simp [intOf]; omega
        · obtain rfl : k = n1 := by omega
          have hP := hi.len
          rw [u1.len, u2.len] at hP
          have HD : Hid (val P = val xs * val ys) := by
            rw [← u1.len] at hi
            have := hi.done
            rwa [val_toL, val_toL] at this
          go_wp2_with fail
          refine (trimmed_any (g + 1) _ _ _ _ P (Sl.own hs hi.lim (by omega) (k + m1) (k + m1) hP (Nat.le_refl _)) (by omega)).mono ?_
          rintro e w3 ⟨rfl, a3, n3, c3, rfl, s3, l3⟩
          go_wp2
          go_ret
          rw [HD.out] at s3
          have hg := HG.out
          refine ⟨a3, n3, c3, rfl, by rw [hf.size, hz0]; exact s3, ?_⟩
          rw [← hg]
          exact hb0.trans (hf.below (Nat.le_refl _))

end Go.Proofs.YtbobhhnhlgdkiaaGreat

/- nat.shiftUp, Shl. -/
namespace Go.Proofs.YtbobhhnhlgdkiaaGreat
open Go.RowKit M
set_option maxRecDepth 100000

theorem pow31 {d : Nat} (hd : d < 32) : 2 ^ d ≤ 2147483648 := by
  have : 2 ^ d ≤ 2 ^ 31 := Nat.pow_le_pow_right (by omega) (by omega)
  omega
theorem shl_bound {y d : Nat} (hd : d < 32) (hy : y < 4294967296) : y * 2 ^ d ≤ 9223372034707292160 := by
  have h1 : y * 2 ^ d ≤ 4294967295 * 2147483648 := Nat.mul_le_mul (by omega) (pow31 hd)
  omega
theorem or_shl {c y d : Nat} (hc : c < 2 ^ d) (hd : d < 32) (hy : y < 4294967296) : Go.bits .or .u64 (c : Int) (IntKind.u64.wrap ((y : Int) * 2 ^ d)) = ((c + y * 2 ^ d : Nat) : Int) := by
  have hb := shl_bound hd hy
  have hp := pow31 hd
  have e : (y : Int) * 2 ^ d = ((y * 2 ^ d : Nat) : Int) := by rw [Int.natCast_mul, Int.natCast_pow]; rfl
  rw [e, show IntKind.u64.wrap ((y * 2 ^ d : Nat) : Int) = ((y * 2 ^ d : Nat) : Int) from by rw [show ∀ n, IntKind.u64.wrap n = n % 18446744073709551616 from fun n => by simp [IntKind.wrap, IntKind.bits, IntKind.signed]]; omega]
  rw [u64_or_nat _ _ (by omega) (by omega), Nat.or_comm, nat_join d (y * 2 ^ d) c (Nat.mul_mod_left _ _) hc, Nat.add_comm]

set_option maxHeartbeats 1000000 in
theorem shiftUp_any (w : World) (g o n cap : Nat) (pre s post : List Nat) (bo : Option Addr) (m bcap N d : Nat) (xs : List Nat)
    (h : Sg w g o n pre s post) (hb : Sl N w bo m bcap xs) (hN : N ≤ g) (hn : n ≤ 1099511627776) (hm : n = m + 1) (hd : d < 32) :
    Calls Tryz.prog 115 #[.slice (some ⟨g, o, none⟩) n cap, .slice bo m bcap, .int .i64 (d : Int)] w fun e w' => ∃ s', e = .returned (.tuple #[]) ∧ Fr g w w' ∧ Sg w' g o n pre s' post ∧ val s' = val xs * 2 ^ d := by
  subst hm
  go_enter Tryz.func115, Tryz.ntmps115
  go_wp2
  go_loopw [6, 11] (fun cv iv wr => ∃ k c s', k ≤ m ∧ cv = .int .u64 ((c : Nat) : Int) ∧ iv = .int .i64 ((k : Nat) : Int) ∧ Fr g w wr ∧ Sg wr g o (m + 1) pre s' post ∧ ShInv s' xs (m + 1) (2 ^ d) k c) (fun _ iv _ => m - (intOf iv).toNat)
  case atStart => exact ⟨0, 0, s, Nat.zero_le _, rfl, rfl, Fr.refl _ _, h, ShInv.start h.lim h.len (Nat.two_pow_pos d)⟩
  case round =>
    obtain ⟨k, c, s', hk, rfl, rfl, hf, hs, hi⟩ := hrel
    have hc1 := hi.car
    by_cases hlt : k < m
    · obtain ⟨x, hx1, hx2, hx3, HX⟩ := hs.cell k (by omega)
      obtain ⟨b, p, y, rfl, hy0, hy1, hy2, HY⟩ := (hb.fr hf hN).cell k hlt
      have HC : Hid (c < 2 ^ d) := hc1
      clear hc1
      go_wp2
      rw [or_shl HC.out hd hy2]
      have hsb := shl_bound hd hy2
      have hpw := pow31 hd
      have hc2 := HC.out
      have ev : ((c + y * 2 ^ d : Nat) : Int) % 4294967296 = (((c + y * 2 ^ d) % 4294967296 : Nat) : Int) := by omega
      have ec : ((c + y * 2 ^ d : Nat) : Int) / 4294967296 = (((c + y * 2 ^ d) / 4294967296 : Nat) : Int) := by omega
      rw [ev, ec]
      go_roundw
      case rel => exact ⟨k + 1, (c + y * 2 ^ d) / 4294967296, s'.set k ((c + y * 2 ^ d) % 4294967296), by omega, rfl, by go_num, hf.set _ _, hs.set (by omega) (by omega),
        hi.step (by omega) (hb.lim.getD k) (by rw [← HY.out]) (by rw [← HY.out])⟩
      case measure => simp [intOf]; omega
    · obtain rfl : k = m := by omega
      obtain ⟨x, hx1, hx2, hx3, HX⟩ := hs.cell k (by omega)
      have hpw := pow31 hd
      have hc3 : c < 4294967296 := by omega
      have HD : Hid (val (s'.set k c) = val xs * 2 ^ d) := by
        have := hi.done hb.len (by omega)
        rwa [List.take_of_length_le (by rw [List.length_set, hs.len]; exact Nat.le_refl _)] at this
      clear hpw hc1
      go_wp2
      go_end0
      exact ⟨s'.set k c, rfl, hf.set _ _, hs.set (by omega) hc3, HD.out⟩

end Go.Proofs.YtbobhhnhlgdkiaaGreat
