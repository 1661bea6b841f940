/- Slices of limbs in memory: read ('Rd'), owned ('Own'), written ('Upd'). -/
import Derived.Test.YthcclkjccaoniaaRows
import Derived.Test.YthcclkjccaoniaaMc
import Derived.WalkKit
import Derived.WalkSpells
import Derived.WalkLawsBesides
import Derived.Deep.QuietTactic
import Derived.BigQuiet
import Derived.Laws.CopyOwn
import Derived.Deep.WholeRow
namespace Go.Proofs.Ythcclkjccaoniaa
open Go.RowKit M

def u32s (zs : List Nat) : Array Value := (zs.map fun x : Nat => Value.int .u32 (x : Int)).toArray

theorem u32s_size (zs : List Nat) : (u32s zs).size = zs.length := by simp [u32s]
theorem u32s_get (zs : List Nat) (i : Nat) (h : i < zs.length) : (u32s zs)[i]? = some (.int .u32 ((zs.getD i 0 : Nat) : Int)) := by
  simp [u32s, h]
theorem u32s_set (zs : List Nat) (i v : Nat) : (u32s zs).setIfInBounds i (.int .u32 (v : Int)) = u32s (zs.set i v) := by
  simp [u32s, List.map_set]

/-- Block g is a row of limbs, and may be written. -/
def Own (w : World) (g : Nat) (zs : List Nat) : Prop := w.heap[g]? = some (.cells (u32s zs) 32 (0, 0))

theorem Own.cell {w : World} {g : Nat} {zs : List Nat} (h : Own w g zs) {i : Nat} (hi : i < zs.length) : w.cell? ⟨g, i, none⟩ = some (.int .u32 ((zs.getD i 0 : Nat) : Int)) := by
  rw [cell_of_row w g i _ _ _ h, u32s_get zs i hi]
theorem Own.free {w : World} {g : Nat} {zs : List Nat} (h : Own w g zs) (i : Nat) : w.frozen? ⟨g, i, none⟩ = false := frozen_of_row w g i _ _ h
theorem Own.lt {w : World} {g : Nat} {zs : List Nat} (h : Own w g zs) : g < w.heap.size := (Array.getElem?_eq_some_iff.1 h).1
theorem Own.set {w : World} {g : Nat} {zs : List Nat} (h : Own w g zs) (i v : Nat) : Own (w.setCell ⟨g, i, none⟩ (.int .u32 (v : Int))) g (zs.set i v) := by
  unfold Own; rw [heap_setCell_same w g i _ _ _ h, u32s_set]
theorem Own.alloc (w : World) (zs : List Nat) : Own (w.alloc (.cells (u32s zs) 32)) w.heap.size zs := heap_alloc_new _ _
theorem Own.below {w w' : World} {g N : Nat} {zs : List Nat} (h : Own w g zs) (hb : Below N w w') (hg : g < N) : Own w' g zs := by
  unfold Own; rw [hb.block g hg]; exact h

/-- A slice that can be read: its address, length and capacity, and the limbs that stand there, below block N. -/
structure Sl (N : Nat) (w : World) (ao : Option Addr) (n cap : Nat) (xs : List Nat) : Prop where
  len : xs.length = n
  le : n ≤ cap
  lim : Lim xs
  there : 0 < n → ∃ b o, ao = some ⟨b, o, none⟩ ∧ b < N ∧ ∀ i, i < n → w.cell? ⟨b, o + i, none⟩ = some (.int .u32 ((xs.getD i 0 : Nat) : Int))
  nilc : ao = none → cap = 0

theorem Sl.nil (N : Nat) (w : World) : Sl N w none 0 0 [] := ⟨rfl, Nat.zero_le _, Lim.nil, fun h => absurd h (Nat.lt_irrefl _), fun _ => rfl⟩
theorem Sl.below {N n cap : Nat} {w w' : World} {ao : Option Addr} {xs : List Nat} (h : Sl N w ao n cap xs) (hb : Below N w w') : Sl N w' ao n cap xs :=
  ⟨h.len, h.le, h.lim, fun hne => by
    obtain ⟨b, o, h1, h2, h3⟩ := h.there hne
    exact ⟨b, o, h1, h2, fun i hi => by rw [hb.cell (p := ⟨b, o + i, none⟩) h2]; exact h3 i hi⟩, h.nilc⟩
theorem Sl.mono {N N' n cap : Nat} {w : World} {ao : Option Addr} {xs : List Nat} (h : Sl N w ao n cap xs) (hn : N ≤ N') : Sl N' w ao n cap xs :=
  ⟨h.len, h.le, h.lim, fun hne => by obtain ⟨b, o, h1, h2, h3⟩ := h.there hne; exact ⟨b, o, h1, by omega, h3⟩, h.nilc⟩
/-- The same slice in a later world, where nothing that was there has turned. -/
theorem Sl.later {n cap : Nat} {w w' : World} {ao : Option Addr} {xs : List Nat} (h : Sl w.heap.size w ao n cap xs) (hb : Below w.heap.size w w') : Sl w'.heap.size w' ao n cap xs :=
  (h.below hb).mono hb.size
theorem Sl.take {N n cap : Nat} {w : World} {ao : Option Addr} {xs : List Nat} (h : Sl N w ao n cap xs) (k : Nat) (hk : k ≤ n) : Sl N w ao k cap (xs.take k) :=
  ⟨by rw [List.length_take, h.len]; omega, by have := h.le; omega, h.lim.take k, fun hne => by
    obtain ⟨b, o, h1, h2, h3⟩ := h.there (by omega)
    exact ⟨b, o, h1, h2, fun i hi => by
      rw [getD_take _ _ _ hi]; exact h3 i (by omega)⟩, h.nilc⟩
theorem Sl.part {w : World} {g : Nat} {zs : List Nat} (h : Own w g zs) (hl : Lim zs) {N : Nat} (hg : g < N) (o n cap : Nat) (hn : o + n ≤ zs.length) (hc : n ≤ cap) : Sl N w (some ⟨g, o, none⟩) n cap ((zs.drop o).take n) :=
  ⟨by rw [List.length_take, List.length_drop]; omega, hc, (hl.drop o).take n, fun _ => ⟨g, o, rfl, hg, fun i hi => by
    rw [getD_take _ _ _ hi, getD_drop]; exact h.cell (by omega)⟩, fun h => by simp at h⟩
theorem Sl.own {w : World} {g : Nat} {zs : List Nat} (h : Own w g zs) (hl : Lim zs) {N : Nat} (hg : g < N) (n cap : Nat) (hn : zs.length = n) (hc : n ≤ cap) : Sl N w (some ⟨g, 0, none⟩) n cap zs :=
  ⟨hn, hc, hl, fun _ => ⟨g, 0, rfl, hg, fun i hi => by rw [Nat.zero_add]; exact h.cell (by omega)⟩, fun h => by simp at h⟩
theorem Sl.lt {N n cap : Nat} {w : World} {ao : Option Addr} {xs : List Nat} (h : Sl N w ao n cap xs) : val xs < Bp n := by rw [← h.len]; exact val_lt h.lim
/-- One cell that is read, its number under a name. -/
theorem Sl.cell {N n cap : Nat} {w : World} {ao : Option Addr} {xs : List Nat} (h : Sl N w ao n cap xs) (k : Nat) (hk : k < n) :
    ∃ (b o x : Nat), ao = some ⟨b, o, none⟩ ∧ b < N ∧ w.cell? ⟨b, o + k, none⟩ = some (.int .u32 (x : Int)) ∧ x < 4294967296 ∧ Hid (x = xs.getD k 0) := by
  obtain ⟨b, o, h1, h2, h3⟩ := h.there (by omega)
  exact ⟨b, o, xs.getD k 0, h1, h2, h3 k hk, h.lim.getD k, rfl⟩

/-- Nothing has turned but the count of what was drawn. -/
structure Qt (w w' : World) : Prop where
  os : w'.os = w.os
  tape : w'.tape = w.tape
  output : w'.output = w.output
  heap : w'.heap = w.heap
theorem Qt.refl (w : World) : Qt w w := ⟨rfl, rfl, rfl, rfl⟩
theorem Qt.drewN {w w' : World} (h : Qt w w') (n : Nat) : Qt w (w'.drewN n) := ⟨h.os, h.tape, h.output, h.heap⟩
theorem Qt.drew {w w' : World} (h : Qt w w') : Qt w w'.drew := ⟨h.os, h.tape, h.output, h.heap⟩
theorem Qt.trans {w w1 w2 : World} (h : Qt w w1) (k : Qt w1 w2) : Qt w w2 := ⟨k.os.trans h.os, k.tape.trans h.tape, k.output.trans h.output, k.heap.trans h.heap⟩
theorem Qt.below {w w' : World} (h : Qt w w') (N : Nat) : Below N w w' := ⟨h.os, h.tape, h.output, by rw [h.heap]; exact Nat.le_refl _, fun k _ => by rw [h.heap]⟩
theorem Qt.size {w w' : World} (h : Qt w w') : w'.heap.size = w.heap.size := by rw [h.heap]
theorem Qt.sl {N n cap : Nat} {w w' : World} {ao : Option Addr} {xs : List Nat} (h : Qt w w') (s : Sl N w ao n cap xs) : Sl N w' ao n cap xs := s.below (h.below N)
theorem Qt.own {w w' : World} {g : Nat} {zs : List Nat} (h : Qt w w') (s : Own w g zs) : Own w' g zs := by unfold Own; rw [h.heap]; exact s

/-- From w to w' block g alone has been written. -/
structure Fr (g : Nat) (w w' : World) : Prop where
  os : w'.os = w.os
  tape : w'.tape = w.tape
  output : w'.output = w.output
  size : w'.heap.size = w.heap.size
  block : ∀ k, k ≠ g → w'.heap[k]? = w.heap[k]?

theorem Fr.refl (g : Nat) (w : World) : Fr g w w := ⟨rfl, rfl, rfl, rfl, fun _ _ => rfl⟩
theorem Fr.set {g : Nat} {w w' : World} (h : Fr g w w') (i : Nat) (u : Value) : Fr g w (w'.setCell ⟨g, i, none⟩ u) :=
  ⟨h.os, h.tape, h.output, by rw [← h.size]; simp [World.setCell], fun k hk => by rw [heap_setCell_other w' _ k _ (by simpa using hk)]; exact h.block k hk⟩
theorem Fr.trans {g : Nat} {w w1 w2 : World} (h : Fr g w w1) (k : Fr g w1 w2) : Fr g w w2 :=
  ⟨k.os.trans h.os, k.tape.trans h.tape, k.output.trans h.output, k.size.trans h.size, fun i hi => (k.block i hi).trans (h.block i hi)⟩
theorem Fr.qt {g : Nat} {w w1 w2 : World} (h : Fr g w w1) (k : Qt w1 w2) : Fr g w w2 :=
  ⟨k.os.trans h.os, k.tape.trans h.tape, k.output.trans h.output, by rw [k.size]; exact h.size, fun i hi => by rw [k.heap]; exact h.block i hi⟩
theorem Fr.below {g : Nat} {w w' : World} (h : Fr g w w') {N : Nat} (hN : N ≤ g) : Below N w w' :=
  ⟨h.os, h.tape, h.output, by rw [h.size]; exact Nat.le_refl _, fun k hk => h.block k (by omega)⟩
/-- Read, where another block is written. -/
theorem Sl.fr {N g n cap : Nat} {w w' : World} {ao : Option Addr} {xs : List Nat} (h : Sl N w ao n cap xs) (hu : Fr g w w') (hN : N ≤ g) : Sl N w' ao n cap xs := h.below (hu.below hN)
theorem Own.fr {g k : Nat} {w w' : World} {zs : List Nat} (h : Own w k zs) (hu : Fr g w w') (hk : k ≠ g) : Own w' k zs := by unfold Own; rw [hu.block k hk]; exact h

/-- A piece of a row that may be written: block g holds pre, s, post one behind the other; the piece s begins at place o and has n limbs. -/
structure Sg (w : World) (g o n : Nat) (pre s post : List Nat) : Prop where
  own : Own w g (pre ++ (s ++ post))
  off : pre.length = o
  len : s.length = n
  lim : Lim s

theorem seg_get (pre s post : List Nat) (k : Nat) (hk : k < s.length) : (pre ++ (s ++ post)).getD (pre.length + k) 0 = s.getD k 0 := by
  rw [List.getD_eq_getElem?_getD, List.getElem?_append_right (by omega), Nat.add_sub_cancel_left, List.getElem?_append_left hk, List.getD_eq_getElem?_getD]
theorem seg_set (pre s post : List Nat) (k v : Nat) (hk : k < s.length) : (pre ++ (s ++ post)).set (pre.length + k) v = pre ++ (s.set k v ++ post) := by
  rw [List.set_append_right _ _ (by omega), Nat.add_sub_cancel_left, List.set_append_left _ _ hk]

theorem Sg.cell {w : World} {g o n : Nat} {pre s post : List Nat} (h : Sg w g o n pre s post) (k : Nat) (hk : k < n) :
    ∃ x : Nat, w.cell? ⟨g, o + k, none⟩ = some (.int .u32 (x : Int)) ∧ w.frozen? ⟨g, o + k, none⟩ = false ∧ x < 4294967296 ∧ Hid (x = s.getD k 0) := by
  have hl := h.len
  refine ⟨s.getD k 0, ?_, h.own.free _, h.lim.getD k, rfl⟩
  have := h.own.cell (i := o + k) (by rw [List.length_append, List.length_append, h.off]; omega)
  rw [← h.off, seg_get pre s post k (by omega)] at this
  rw [← h.off]; exact this
theorem Sg.set {w : World} {g o n : Nat} {pre s post : List Nat} (h : Sg w g o n pre s post) {k v : Nat} (hk : k < n) (hv : v < 4294967296) :
    Sg (w.setCell ⟨g, o + k, none⟩ (.int .u32 (v : Int))) g o n pre (s.set k v) post :=
  ⟨by have := h.own.set (o + k) v; rw [← h.off, seg_set pre s post k v (by rw [h.len]; exact hk)] at this; rw [← h.off]; exact this, h.off, by rw [List.length_set, h.len], h.lim.set k hv⟩
theorem Sg.set0 {w : World} {g n : Nat} {pre s post : List Nat} (h : Sg w g 0 n pre s post) {k v : Nat} (hk : k < n) (hv : v < 4294967296) :
    Sg (w.setCell ⟨g, k, none⟩ (.int .u32 (v : Int))) g 0 n pre (s.set k v) post := by
  have := h.set hk hv
  rwa [Nat.zero_add] at this
theorem Sg.cell0 {w : World} {g n : Nat} {pre s post : List Nat} (h : Sg w g 0 n pre s post) (k : Nat) (hk : k < n) :
    ∃ x : Nat, w.cell? ⟨g, k, none⟩ = some (.int .u32 (x : Int)) ∧ w.frozen? ⟨g, k, none⟩ = false ∧ x < 4294967296 ∧ Hid (x = s.getD k 0) := by
  have := h.cell k hk
  rwa [Nat.zero_add] at this
theorem Sg.qt {w w' : World} {g o n : Nat} {pre s post : List Nat} (h : Sg w g o n pre s post) (k : Qt w w') : Sg w' g o n pre s post := ⟨k.own h.own, h.off, h.len, h.lim⟩
/-- A whole row. -/
theorem Sg.whole {w : World} {g : Nat} {s : List Nat} (h : Own w g s) (hl : Lim s) {n : Nat} (hn : s.length = n) : Sg w g 0 n [] s [] := ⟨by simpa using h, rfl, hn, hl⟩
theorem Sg.all {w : World} {g n : Nat} {s : List Nat} (h : Sg w g 0 n [] s []) : Own w g s := by simpa using h.own
/-- A piece of a row. -/
theorem Sg.cut {w : World} {g : Nat} {P : List Nat} (h : Own w g P) (hl : Lim P) (o n : Nat) (hn : o + n ≤ P.length) : Sg w g o n (P.take o) ((P.drop o).take n) (P.drop (o + n)) :=
  ⟨by rw [← List.drop_drop, List.take_append_drop, List.take_append_drop]; exact h, by rw [List.length_take]; omega, by rw [List.length_take, List.length_drop]; omega, (hl.drop o).take n⟩
/-- A piece that is read. -/
theorem Sg.read {w : World} {g o n : Nat} {pre s post : List Nat} (h : Sg w g o n pre s post) {N : Nat} (hg : g < N) (cap : Nat) (hc : n ≤ cap) : Sl N w (some ⟨g, o, none⟩) n cap s :=
  ⟨h.len, hc, h.lim, fun _ => ⟨g, o, rfl, hg, fun i hi => by
    have := h.own.cell (i := o + i) (by rw [List.length_append, List.length_append, h.off, h.len]; omega)
    rw [← h.off, seg_get pre s post i (by rw [h.len]; exact hi)] at this
    rw [← h.off]; exact this⟩, fun h => by simp at h⟩

/-- What a function that hands back a natural leaves: a slice that reads as ys; nothing that was there has turned. -/
def Gives (w : World) (ys : List Nat) (e : Ending) (w' : World) : Prop :=
  ∃ ao n cap, e = .returned (.slice ao n cap) ∧ Sl w'.heap.size w' ao n cap ys ∧ Below w.heap.size w w'

theorem info38 : (Try.prog.info? 32).map (fun i => (i.zero, i.size, i.bytes)) = some (some (.int .u32 0), 1, 4) := by kernel_rfl

theorem madeCells_u32 (n : Nat) : madeCells #[.int .u32 0] n = u32s (List.replicate n 0) := by
  apply Array.ext'
  rw [toList_madeCells_one]
  simp [u32s]

/-- 'make([]uint32, n)'. -/
theorem make_run (n : Nat) (hn : n ≤ 70368744177664) (u : World) : (Instr.makeSlice 22 (.int .i64 (n : Int)) (.int .i64 (n : Int))).run Try.prog u =
    .ok (.slice (some ⟨u.heap.size, 0, none⟩) n n) (u.alloc (.cells (u32s (List.replicate n 0)) 32)) := by
  obtain ⟨i0, hi, hz0, hz1, hz2⟩ := info_parts info38
  have h := run_make (P := Try.prog) u 22 32 i0 (.int .u32 0) Try.underlying22 hi hz0 .i64 .i64 (n : Int) (n : Int) (by omega) (Int.le_refl _) (by rw [hz2]; omega) (by omega)
  rw [Int.toNat_natCast] at h
  rw [← madeCells_u32]
  simpa [hz1, Value.cells] using h

theorem size38 : (Try.prog.info? 32).map (·.size) = some 1 := by kernel_rfl

/-- 'copy(out, a)', out the block that was made last, of zeros, not shorter than a. -/
theorem copy_run (w : World) (ao : Option Addr) (n cap dn : Nat) (ys : List Nat) (h : Sl w.heap.size w ao n cap ys) (hd : n ≤ dn) :
    (Builtin.copy_ #[22, 22] 3 #[.slice (some ⟨w.heap.size, 0, none⟩) dn dn, .slice ao n cap]).run Try.prog (w.alloc (.cells (u32s (List.replicate dn 0)) 32)) =
      .ok (.int .i64 (n : Int)) (w.alloc (.cells (u32s (ys ++ List.replicate (dn - n) 0)) 32)) := by
  by_cases h0 : n = 0
  · subst h0
    obtain rfl : ys = [] := List.eq_nil_of_length_eq_zero h.len
    rw [run_copy_none (P := Try.prog) _ 22 22 3 32 _ _ _ _ _ _ Try.underlying22 size38 (by simp)]
    rfl
  · obtain ⟨b, o, rfl, hb, hc⟩ := h.there (by omega)
    have hlen := h.len
    rw [run_copy_row (P := Try.prog) _ 22 22 3 32 w.heap.size 0 dn dn ⟨b, o, none⟩ n cap (u32s (List.replicate dn 0)) 32 (ys.map fun x : Nat => Value.int .u32 (x : Int)) Try.underlying22 size38
      (heap_alloc_new _ _) (by simp [hlen, Nat.min_eq_left hd]) ?_ (by simp [u32s_size, hlen, hd]) (by intro v hv; simp at hv; obtain ⟨x, _, rfl⟩ := hv; rfl)]
    · rw [World.setRow_alloc_new]
      simp [u32s, hlen, goInt]
    · intro j v hv
      rw [List.getElem?_map] at hv
      have hj : j < n := by
        by_cases hj : j < n
        · exact hj
        · rw [List.getElem?_eq_none (by omega)] at hv; simp at hv
      have hadd : (⟨b, o, none⟩ : Addr).add j = ⟨b, o + j, none⟩ := by unfold Addr.add; split <;> simp_all
      rw [hadd, World.cell?_of_block (w := w) (a := ⟨b, o + j, none⟩) (Below.heap_alloc w _ b hb), hc j hj]
      rw [List.getElem?_eq_getElem (by omega)] at hv
      simp at hv
      rw [← hv, List.getD_eq_getElem?_getD, List.getElem?_eq_getElem (by omega)]
      rfl

end Go.Proofs.Ythcclkjccaoniaa
