/- root.combination.apply. -/
import Derived.Test.YthcclkjccaoniaaMh
import Derived.Test.YthcclkjccaoniaaGf
namespace Go.Proofs.Ythcclkjccaoniaa
open Go.RowKit M

/-- From w to w' the blocks of S alone have been written. -/
structure Fx (S : List Nat) (w w' : World) : Prop where
  os : w'.os = w.os
  tape : w'.tape = w.tape
  output : w'.output = w.output
  size : w'.heap.size = w.heap.size
  block : ∀ k, k ∉ S → w'.heap[k]? = w.heap[k]?
theorem Fx.refl (S : List Nat) (w : World) : Fx S w w := ⟨rfl, rfl, rfl, rfl, fun _ _ => rfl⟩
theorem Fx.qt {S : List Nat} {w w1 w2 : World} (h : Fx S w w1) (k : Qt w1 w2) : Fx S w w2 :=
  ⟨k.os.trans h.os, k.tape.trans h.tape, k.output.trans h.output, by rw [k.size]; exact h.size, fun i hi => by rw [k.heap]; exact h.block i hi⟩
theorem Fx.fr {S : List Nat} {g : Nat} {w w1 w2 : World} (h : Fx S w w1) (k : Fr g w1 w2) (hg : g ∈ S) : Fx S w w2 :=
  ⟨k.os.trans h.os, k.tape.trans h.tape, k.output.trans h.output, k.size.trans h.size, fun i hi => (k.block i (fun e => hi (e ▸ hg))).trans (h.block i hi)⟩
theorem Fx.below {S : List Nat} {w w' : World} (h : Fx S w w') {N : Nat} (hN : ∀ g, g ∈ S → N ≤ g) : Below N w w' :=
  ⟨h.os, h.tape, h.output, by rw [h.size]; exact Nat.le_refl _, fun k hk => h.block k (fun hs => by have := hN k hs; omega)⟩

/-- Block g is a combination. -/
structure Cb (w : World) (g t0 l0 t1 l1 : Nat) : Prop where
  at_ : w.heap[g]? = some (.cells #[.int .u64 (t0 : Int), .int .u64 (l0 : Int), .int .u64 (t1 : Int), .int .u64 (l1 : Int)] 51 (0, 0))
theorem Cb.cells {w : World} {g t0 l0 t1 l1 : Nat} (h : Cb w g t0 l0 t1 l1) : w.cell? ⟨g, 0, none⟩ = some (.int .u64 (t0 : Int)) ∧ w.cell? ⟨g, 1, none⟩ = some (.int .u64 (l0 : Int)) ∧ w.cell? ⟨g, 2, none⟩ = some (.int .u64 (t1 : Int)) ∧ w.cell? ⟨g, 3, none⟩ = some (.int .u64 (l1 : Int)) :=
  ⟨by rw [cell_of_row w g 0 _ _ _ h.at_]; rfl, by rw [cell_of_row w g 1 _ _ _ h.at_]; rfl, by rw [cell_of_row w g 2 _ _ _ h.at_]; rfl, by rw [cell_of_row w g 3 _ _ _ h.at_]; rfl⟩
theorem Cb.keep {w w' : World} {g t0 l0 t1 l1 : Nat} (h : Cb w g t0 l0 t1 l1) (hb : w'.heap[g]? = w.heap[g]?) : Cb w' g t0 l0 t1 l1 := ⟨by rw [hb]; exact h.at_⟩
theorem Cb.lt {w : World} {g t0 l0 t1 l1 : Nat} (h : Cb w g t0 l0 t1 l1) : g < w.heap.size := (Array.getElem?_eq_some_iff.1 h.at_).1

/-- The memory of apply: both rows, both differences, the combination. -/
structure St (B ga gb gc n ca cb t0 l0 t1 l1 : Nat) (w u : World) (oa ob : List Nat) (c l b c2 l2 b2 : Nat) : Prop where
  fx : Fx [ga, gb, gc + 1, gc + 2] w u
  ne : ga ≠ gb
  lta : ga < gc
  ltb : gb < gc
  ra : Ow B u (.slice (some ⟨ga, 0, none⟩) n ca) oa
  rb : Ow B u (.slice (some ⟨gb, 0, none⟩) n cb) ob
  d1 : Df u (gc + 1) c l b
  d2 : Df u (gc + 2) c2 l2 b2
  box : Cb u gc t0 l0 t1 l1

section
variable {B ga gb gc n ca cb t0 l0 t1 l1 : Nat} {w u u' : World} {oa ob : List Nat} {c l b c2 l2 b2 : Nat}
theorem St.qt (h : St B ga gb gc n ca cb t0 l0 t1 l1 w u oa ob c l b c2 l2 b2) (q : Qt u u') : St B ga gb gc n ca cb t0 l0 t1 l1 w u' oa ob c l b c2 l2 b2 :=
  ⟨h.fx.qt q, h.ne, h.lta, h.ltb, h.ra.qt q, h.rb.qt q, h.d1.qt q, h.d2.qt q, h.box.keep (by rw [q.heap])⟩
theorem St.next1 (h : St B ga gb gc n ca cb t0 l0 t1 l1 w u oa ob c l b c2 l2 b2) {c' l' b' : Nat} (d : Df u' (gc + 1) c' l' b') (f : Fr (gc + 1) u u') : St B ga gb gc n ca cb t0 l0 t1 l1 w u' oa ob c' l' b' c2 l2 b2 := by
  have := h.lta
  have := h.ltb
  exact ⟨h.fx.fr f (by simp), h.ne, h.lta, h.ltb, h.ra.keep fun g hg => f.block g (by simp at hg; omega), h.rb.keep fun g hg => f.block g (by simp at hg; omega), d, h.d2.keep (f.block _ (by omega)), h.box.keep (f.block _ (by omega))⟩
theorem St.next2 (h : St B ga gb gc n ca cb t0 l0 t1 l1 w u oa ob c l b c2 l2 b2) {c' l' b' : Nat} (d : Df u' (gc + 2) c' l' b') (f : Fr (gc + 2) u u') : St B ga gb gc n ca cb t0 l0 t1 l1 w u' oa ob c l b c' l' b' := by
  have := h.lta
  have := h.ltb
  exact ⟨h.fx.fr f (by simp), h.ne, h.lta, h.ltb, h.ra.keep fun g hg => f.block g (by simp at hg; omega), h.rb.keep fun g hg => f.block g (by simp at hg; omega), h.d1.keep (f.block _ (by omega)), d, h.box.keep (f.block _ (by omega))⟩
theorem St.setA (h : St B ga gb gc n ca cb t0 l0 t1 l1 w u oa ob c l b c2 l2 b2) (i : Nat) {v : Nat} (hv : v < 4294967296) : St B ga gb gc n ca cb t0 l0 t1 l1 w (u.setCell ⟨ga, i, none⟩ (.int .u32 (v : Int))) (oa.set i v) ob c l b c2 l2 b2 := by
  have := h.lta
  have := h.ltb
  have := h.ne
  have f := (Fr.refl ga u).set i (.int .u32 (v : Int))
  exact ⟨h.fx.fr f (by simp), h.ne, h.lta, h.ltb, h.ra.set i hv, h.rb.keep fun g hg => f.block g (by simp at hg; omega), h.d1.keep (f.block _ (by omega)), h.d2.keep (f.block _ (by omega)), h.box.keep (f.block _ (by omega))⟩
theorem St.setB (h : St B ga gb gc n ca cb t0 l0 t1 l1 w u oa ob c l b c2 l2 b2) (i : Nat) {v : Nat} (hv : v < 4294967296) : St B ga gb gc n ca cb t0 l0 t1 l1 w (u.setCell ⟨gb, i, none⟩ (.int .u32 (v : Int))) oa (ob.set i v) c l b c2 l2 b2 := by
  have := h.lta
  have := h.ltb
  have := h.ne
  have f := (Fr.refl gb u).set i (.int .u32 (v : Int))
  exact ⟨h.fx.fr f (by simp), h.ne, h.lta, h.ltb, h.ra.keep fun g hg => f.block g (by simp at hg; omega), h.rb.set i hv, h.d1.keep (f.block _ (by omega)), h.d2.keep (f.block _ (by omega)), h.box.keep (f.block _ (by omega))⟩
end

/-- The three blocks that apply makes. -/
theorem St.start {B ga gb n ca cb t0 l0 t1 l1 : Nat} {w : World} {xs ys : List Nat} (ha : Ow B w (.slice (some ⟨ga, 0, none⟩) n ca) xs) (hb : Ow B w (.slice (some ⟨gb, 0, none⟩) n cb) ys) (hne : ga ≠ gb) :
    ∃ w0, w0 = (((w.alloc (.cells #[.int .u64 (t0 : Int), .int .u64 (l0 : Int), .int .u64 (t1 : Int), .int .u64 (l1 : Int)] 51)).alloc (.cells #[.int .u64 0, .int .u64 0, .int .u32 0] 69)).alloc (.cells #[.int .u64 0, .int .u64 0, .int .u32 0] 69)) ∧
      Below w.heap.size w w0 ∧ St B ga gb w.heap.size n ca cb t0 l0 t1 l1 w0 w0 xs ys 0 0 0 0 0 0 := by
  refine ⟨_, rfl, ?_, ?_⟩
  · exact (((Below.refl _ _).alloc (Nat.le_refl _) _).alloc (by simp) _).alloc (by simp; omega) _
  · have hbl : Below w.heap.size w (((w.alloc (.cells #[.int .u64 (t0 : Int), .int .u64 (l0 : Int), .int .u64 (t1 : Int), .int .u64 (l1 : Int)] 51)).alloc (.cells #[.int .u64 0, .int .u64 0, .int .u32 0] 69)).alloc (.cells #[.int .u64 0, .int .u64 0, .int .u32 0] 69)) :=
      (((Below.refl _ _).alloc (Nat.le_refl _) _).alloc (by simp) _).alloc (by simp; omega) _
    refine ⟨Fx.refl _ _, hne, ha.block.2, hb.block.2, ha.later hbl, hb.later hbl, ⟨?_⟩, ⟨?_⟩, ⟨?_⟩⟩
    · rw [heap_alloc_old _ _ (by simp)]
      have := heap_alloc_new (w.alloc (.cells #[.int .u64 (t0 : Int), .int .u64 (l0 : Int), .int .u64 (t1 : Int), .int .u64 (l1 : Int)] 51)) (.cells #[.int .u64 0, .int .u64 0, .int .u32 0] 69)
      simpa using this
    · have := heap_alloc_new ((w.alloc (.cells #[.int .u64 (t0 : Int), .int .u64 (l0 : Int), .int .u64 (t1 : Int), .int .u64 (l1 : Int)] 51)).alloc (.cells #[.int .u64 0, .int .u64 0, .int .u32 0] 69)) (.cells #[.int .u64 0, .int .u64 0, .int .u32 0] 69)
      simpa using this
    · rw [heap_alloc_old _ _ (by simp; omega), heap_alloc_old _ _ (by simp)]
      exact heap_alloc_new _ _
end Go.Proofs.Ythcclkjccaoniaa
