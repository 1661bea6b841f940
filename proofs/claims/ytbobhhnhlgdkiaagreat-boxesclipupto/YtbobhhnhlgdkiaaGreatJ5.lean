/- root.combination.apply. -/
import Derived.Test.YtbobhhnhlgdkiaaGreatJ1
import Derived.Test.YtbobhhnhlgdkiaaGreatJ4
import Derived.Laws.ResultCell
import Derived.Deep.LoopGhost
namespace Go.Proofs.YtbobhhnhlgdkiaaGreat
open Go.RowKit M
set_option maxRecDepth 100000

/-- From w to w' the blocks of S alone have been written. -/
structure Fx (S : List Nat) (w w' : World) : Prop where
  os : w'.os = w.os
  tape : w'.tape = w.tape
  output : w'.output = w.output
  size : w'.heap.size = w.heap.size
  block : ∀ k, k ∉ S → w'.heap[k]? = w.heap[k]?
theorem Fx.refl (S : List Nat) (w : World) : Fx S w w := ⟨rfl, rfl, rfl, rfl, fun _ _ => rfl⟩
theorem Fx.qt {S : List Nat} {w w1 w2 : World} (h : Fx S w w1) (k : Qt w1 w2) : Fx S w w2 :=
  ⟨k.os.trans h.os, k.tape.trans h.tape, k.output.trans h.output, by rw [k.size]; exact h.size, fun i hi => by rw [k.heap]; exact h.block i hi⟩
theorem Fx.fr {S : List Nat} {g : Nat} {w w1 w2 : World} (h : Fx S w w1) (k : Fr g w1 w2) (hg : g ∈ S) : Fx S w w2 :=
  ⟨k.os.trans h.os, k.tape.trans h.tape, k.output.trans h.output, k.size.trans h.size, fun i hi => (k.block i (fun e => hi (e ▸ hg))).trans (h.block i hi)⟩
theorem Fx.below {S : List Nat} {w w' : World} (h : Fx S w w') {N : Nat} (hN : ∀ g, g ∈ S → N ≤ g) : Below N w w' :=
  ⟨h.os, h.tape, h.output, by rw [h.size]; exact Nat.le_refl _, fun k hk => h.block k (fun hs => by have := hN k hs; omega)⟩

/-- Block g is a combination. -/
structure Cb (w : World) (g t0 l0 t1 l1 : Nat) : Prop where
  at_ : w.heap[g]? = some (.cells #[.int .u64 (t0 : Int), .int .u64 (l0 : Int), .int .u64 (t1 : Int), .int .u64 (l1 : Int)] 118 (0, 0))
theorem Cb.cells {w : World} {g t0 l0 t1 l1 : Nat} (h : Cb w g t0 l0 t1 l1) : w.cell? ⟨g, 0, none⟩ = some (.int .u64 (t0 : Int)) ∧ w.cell? ⟨g, 1, none⟩ = some (.int .u64 (l0 : Int)) ∧ w.cell? ⟨g, 2, none⟩ = some (.int .u64 (t1 : Int)) ∧ w.cell? ⟨g, 3, none⟩ = some (.int .u64 (l1 : Int)) :=
  ⟨by rw [cell_of_row w g 0 _ _ _ h.at_]; rfl, by rw [cell_of_row w g 1 _ _ _ h.at_]; rfl, by rw [cell_of_row w g 2 _ _ _ h.at_]; rfl, by rw [cell_of_row w g 3 _ _ _ h.at_]; rfl⟩
theorem Cb.keep {w w' : World} {g t0 l0 t1 l1 : Nat} (h : Cb w g t0 l0 t1 l1) (hb : w'.heap[g]? = w.heap[g]?) : Cb w' g t0 l0 t1 l1 := ⟨by rw [hb]; exact h.at_⟩
theorem Cb.lt {w : World} {g t0 l0 t1 l1 : Nat} (h : Cb w g t0 l0 t1 l1) : g < w.heap.size := (Array.getElem?_eq_some_iff.1 h.at_).1

/-- The memory of apply: both rows, both differences, the combination. -/
structure St (B ga gb gc n ca cb t0 l0 t1 l1 : Nat) (w u : World) (oa ob : List Nat) (c l b c2 l2 b2 : Nat) : Prop where
  fx : Fx [ga, gb, gc + 1, gc + 2] w u
  ne : ga ≠ gb
  lta : ga < gc
  ltb : gb < gc
  ra : Ow B u (.slice (some ⟨ga, 0, none⟩) n ca) oa
  rb : Ow B u (.slice (some ⟨gb, 0, none⟩) n cb) ob
  d1 : Df u (gc + 1) c l b
  d2 : Df u (gc + 2) c2 l2 b2
  box : Cb u gc t0 l0 t1 l1

section
variable {B ga gb gc n ca cb t0 l0 t1 l1 : Nat} {w u u' : World} {oa ob : List Nat} {c l b c2 l2 b2 : Nat}
theorem St.qt (h : St B ga gb gc n ca cb t0 l0 t1 l1 w u oa ob c l b c2 l2 b2) (q : Qt u u') : St B ga gb gc n ca cb t0 l0 t1 l1 w u' oa ob c l b c2 l2 b2 :=
  ⟨h.fx.qt q, h.ne, h.lta, h.ltb, h.ra.qt q, h.rb.qt q, h.d1.qt q, h.d2.qt q, h.box.keep (by rw [q.heap])⟩
theorem St.next1 (h : St B ga gb gc n ca cb t0 l0 t1 l1 w u oa ob c l b c2 l2 b2) {c' l' b' : Nat} (d : Df u' (gc + 1) c' l' b') (f : Fr (gc + 1) u u') : St B ga gb gc n ca cb t0 l0 t1 l1 w u' oa ob c' l' b' c2 l2 b2 := by
  have := h.lta
  have := h.ltb
  exact ⟨h.fx.fr f (by simp), h.ne, h.lta, h.ltb, h.ra.keep fun g hg => f.block g (by simp at hg; omega), h.rb.keep fun g hg => f.block g (by simp at hg; omega), d, h.d2.keep (f.block _ (by omega)), h.box.keep (f.block _ (by omega))⟩
theorem St.next2 (h : St B ga gb gc n ca cb t0 l0 t1 l1 w u oa ob c l b c2 l2 b2) {c' l' b' : Nat} (d : Df u' (gc + 2) c' l' b') (f : Fr (gc + 2) u u') : St B ga gb gc n ca cb t0 l0 t1 l1 w u' oa ob c l b c' l' b' := by
  have := h.lta
  have := h.ltb
  exact ⟨h.fx.fr f (by simp), h.ne, h.lta, h.ltb, h.ra.keep fun g hg => f.block g (by simp at hg; omega), h.rb.keep fun g hg => f.block g (by simp at hg; omega), h.d1.keep (f.block _ (by omega)), d, h.box.keep (f.block _ (by omega))⟩
theorem St.setA (h : St B ga gb gc n ca cb t0 l0 t1 l1 w u oa ob c l b c2 l2 b2) (i : Nat) {v : Nat} (hv : v < 4294967296) : St B ga gb gc n ca cb t0 l0 t1 l1 w (u.setCell ⟨ga, i, none⟩ (.int .u32 (v : Int))) (oa.set i v) ob c l b c2 l2 b2 := by
  have := h.lta
  have := h.ltb
  have := h.ne
  have f := (Fr.refl ga u).set i (.int .u32 (v : Int))
  exact ⟨h.fx.fr f (by simp), h.ne, h.lta, h.ltb, h.ra.set i hv, h.rb.keep fun g hg => f.block g (by simp at hg; omega), h.d1.keep (f.block _ (by omega)), h.d2.keep (f.block _ (by omega)), h.box.keep (f.block _ (by omega))⟩
theorem St.setB (h : St B ga gb gc n ca cb t0 l0 t1 l1 w u oa ob c l b c2 l2 b2) (i : Nat) {v : Nat} (hv : v < 4294967296) : St B ga gb gc n ca cb t0 l0 t1 l1 w (u.setCell ⟨gb, i, none⟩ (.int .u32 (v : Int))) oa (ob.set i v) c l b c2 l2 b2 := by
  have := h.lta
  have := h.ltb
  have := h.ne
  have f := (Fr.refl gb u).set i (.int .u32 (v : Int))
  exact ⟨h.fx.fr f (by simp), h.ne, h.lta, h.ltb, h.ra.keep fun g hg => f.block g (by simp at hg; omega), h.rb.set i hv, h.d1.keep (f.block _ (by omega)), h.d2.keep (f.block _ (by omega)), h.box.keep (f.block _ (by omega))⟩
end

/-- The three blocks that apply makes. -/
theorem St.start {B ga gb n ca cb t0 l0 t1 l1 : Nat} {w : World} {xs ys : List Nat} (ha : Ow B w (.slice (some ⟨ga, 0, none⟩) n ca) xs) (hb : Ow B w (.slice (some ⟨gb, 0, none⟩) n cb) ys) (hne : ga ≠ gb) :
    ∃ w0, w0 = (((w.alloc (.cells #[.int .u64 (t0 : Int), .int .u64 (l0 : Int), .int .u64 (t1 : Int), .int .u64 (l1 : Int)] 118)).alloc (.cells #[.int .u64 0, .int .u64 0, .int .u32 0] 130)).alloc (.cells #[.int .u64 0, .int .u64 0, .int .u32 0] 130)) ∧
      Below w.heap.size w w0 ∧ St B ga gb w.heap.size n ca cb t0 l0 t1 l1 w0 w0 xs ys 0 0 0 0 0 0 := by
  refine ⟨_, rfl, ?_, ?_⟩
  · exact (((Below.refl _ _).alloc (Nat.le_refl _) _).alloc (by simp) _).alloc (by simp; omega) _
  · have hbl : Below w.heap.size w (((w.alloc (.cells #[.int .u64 (t0 : Int), .int .u64 (l0 : Int), .int .u64 (t1 : Int), .int .u64 (l1 : Int)] 118)).alloc (.cells #[.int .u64 0, .int .u64 0, .int .u32 0] 130)).alloc (.cells #[.int .u64 0, .int .u64 0, .int .u32 0] 130)) :=
      (((Below.refl _ _).alloc (Nat.le_refl _) _).alloc (by simp) _).alloc (by simp; omega) _
    refine ⟨Fx.refl _ _, hne, ha.block.2, hb.block.2, ha.later hbl, hb.later hbl, ⟨?_⟩, ⟨?_⟩, ⟨?_⟩⟩
    · rw [heap_alloc_old _ _ (by simp)]
      have := heap_alloc_new (w.alloc (.cells #[.int .u64 (t0 : Int), .int .u64 (l0 : Int), .int .u64 (t1 : Int), .int .u64 (l1 : Int)] 118)) (.cells #[.int .u64 0, .int .u64 0, .int .u32 0] 130)
      simpa using this
    · have := heap_alloc_new ((w.alloc (.cells #[.int .u64 (t0 : Int), .int .u64 (l0 : Int), .int .u64 (t1 : Int), .int .u64 (l1 : Int)] 118)).alloc (.cells #[.int .u64 0, .int .u64 0, .int .u32 0] 130)) (.cells #[.int .u64 0, .int .u64 0, .int .u32 0] 130)
      simpa using this
    · rw [heap_alloc_old _ _ (by simp; omega), heap_alloc_old _ _ (by simp)]
      exact heap_alloc_new _ _
end Go.Proofs.YtbobhhnhlgdkiaaGreat

/- root.combination.apply: the walk. -/
namespace Go.Proofs.YtbobhhnhlgdkiaaGreat
open Go.RowKit M
set_option maxRecDepth 100000

theorem mul_int {p x : Nat} (hp : p < 4294967296) (hx : x < 4294967296) : (0 : Int) ≤ (p : Int) * (x : Int) ∧ (p : Int) * (x : Int) ≤ 18446744065119617025 := by
  have := mul_bound hp hx
  rw [← Int.natCast_mul]; omega

set_option maxHeartbeats 2000000 in
theorem apply_any (w : World) (B ga gb n ca cb t0 l0 t1 l1 : Nat) (xs ys : List Nat) (ha : Ow B w (.slice (some ⟨ga, 0, none⟩) n ca) xs) (hb : Ow B w (.slice (some ⟨gb, 0, none⟩) n cb) ys) (hne : ga ≠ gb) (hn : n ≤ 1099511627776)
    (h1 : t0 < 4294967296) (h2 : l0 < 4294967296) (h3 : t1 < 4294967296) (h4 : l1 < 4294967296) :
    Calls Tryz.prog 105 #[.agg #[.int .u64 (t0 : Int), .int .u64 (l0 : Int), .int .u64 (t1 : Int), .int .u64 (l1 : Int)], .slice (some ⟨ga, 0, none⟩) n ca, .slice (some ⟨gb, 0, none⟩) n cb] w fun e w' =>
      ∃ oa ob c l b c2 l2 b2, e = .returned (.tuple #[]) ∧ Below B w w' ∧ Ow B w' (.slice (some ⟨ga, 0, none⟩) n ca) oa ∧ Ow B w' (.slice (some ⟨gb, 0, none⟩) n cb) ob ∧ DfInv n xs ys oa t0 l0 n c l b ∧ DfInv n ys xs ob t1 l1 n c2 l2 b2 := by
  have hxl := ha.len
  have hyl := hb.len
  have hxm := ha.lim
  have hym := hb.lim
  have hBa := ha.block.1
  have hBb := hb.block.1
  obtain ⟨w0, hw0, bw0, s0⟩ := St.start (t0 := t0) (l0 := l0) (t1 := t1) (l1 := l1) ha hb hne
  have hBc : B ≤ w.heap.size := by have := ha.block; omega
  go_enter Tryz.func105, Tryz.ntmps105
  go_wp2
  rw [← hw0]
  obtain ⟨gc, hgc⟩ : ∃ gc, gc = w.heap.size := ⟨_, rfl⟩
  rw [← hgc] at s0 hBc bw0 ⊢
  have HW : Hid (Below gc w w0) := bw0
  have I1 : Hid (DfInv n xs ys xs t0 l0 0 0 0 0) := DfInv.start _ _ hxm hxl
  have I2 : Hid (DfInv n ys xs ys t1 l1 0 0 0 0) := DfInv.start _ _ hym hyl
  have HXM : Hid (Lim xs) := hxm
  have HYM : Hid (Lim ys) := hym
  clear ha hb hw0 bw0 hxl hyl hxm hym hgc
  rw [show gc + 1 + 1 = gc + 2 from rfl]
  go_loopw [13] (fun iv wr => ∃ k oa ob c l b c2 l2 b2, k ≤ n ∧ iv = .int .i64 ((k : Nat) : Int) ∧ St B ga gb gc n ca cb t0 l0 t1 l1 w0 wr oa ob c l b c2 l2 b2 ∧ Hid (DfInv n xs ys oa t0 l0 k c l b) ∧ Hid (DfInv n ys xs ob t1 l1 k c2 l2 b2)) (fun iv _ => n - (intOf iv).toNat)
  case atStart => exact ⟨0, xs, ys, 0, 0, 0, 0, 0, 0, Nat.zero_le _, rfl, s0, I1, I2⟩
  case round =>
    clear s0 I1 I2
    obtain ⟨k, oa, ob, c, l, b, c2, l2, b2, hk, rfl, st, J1, J2⟩ := hrel
    by_cases hlt : k < n
    · obtain ⟨x, cx, fx, hx, HX⟩ := st.ra.cell k hlt
      obtain ⟨y, cy, fy, hy, HY⟩ := st.rb.cell k hlt
      have HX2 : Hid (xs.getD k 0 = x) := by show xs.getD k 0 = x; rw [HX.out]; exact (J1.out.rest k (Nat.le_refl _)).symm
      have HY2 : Hid (ys.getD k 0 = y) := by show ys.getD k 0 = y; rw [HY.out]; exact (J2.out.rest k (Nat.le_refl _)).symm
      have m1 := mul_int h1 hx
      have m2 := mul_int h2 hy
      have m3 := mul_int h3 hy
      have m4 := mul_int h4 hx
      have HS : Hid (St B ga gb gc n ca cb t0 l0 t1 l1 w0 wr oa ob c l b c2 l2 b2) := st
      clear st HX HY
      go_wp2
      go_quiet (fail)
      have st2 := HS.out.qt ((Qt.refl wr).drewN nq)
      generalize wr.drewN nq = wq at st2 ⊢
      clear cx cy fx fy HS
      obtain ⟨q0, q1, q2, q3⟩ := st2.box.cells
      go_wp2_with fail
      rw [← Int.natCast_mul, ← Int.natCast_mul]
      refine (dnext_any wq (gc + 1) c l b (t0 * x) (l0 * y) st2.d1 J1.out.car J1.out.les J1.out.bor (mul_bound h1 hx) (mul_bound h2 hy)).mono ?_
      rintro e w2 ⟨v, b', rfl, hv, hb', he, d', f'⟩
      have st3 := st2.next1 d' f'
      have K1 : Hid (DfInv n xs ys (oa.set k v) t0 l0 (k + 1) ((c + t0 * x) / 4294967296) ((l + l0 * y) / 4294967296) b') := by
        have := J1.out.step (v := v) (b' := b') hlt h1 h2 (HXM.out.getD k) (HYM.out.getD k) hv hb' (by rw [HX2.out, HY2.out]; exact he)
        rw [HX2.out, HY2.out] at this
        exact this
      clear he d' f' st2 q0 q1 q2 q3 m1 m2 J1
      rw [Int.natCast_mul, Int.natCast_mul]
      generalize (c + t0 * x) / 4294967296 = c' at *
      generalize (l + l0 * y) / 4294967296 = l' at *
      obtain ⟨q0, q1, q2, q3⟩ := st3.box.cells
      obtain ⟨_, cx, fx, _, _⟩ := st3.ra.cell k hlt
      have hac := st3.lta
      go_wp2_with fail
      have st4 := st3.setA k hv
      generalize w2.setCell ⟨ga, k, none⟩ (.int .u32 (v : Int)) = w3 at st4 ⊢
      clear st3 q0 q1 q2 q3 cx fx
      rw [← Int.natCast_mul, ← Int.natCast_mul]
      refine (dnext_any w3 (gc + 2) c2 l2 b2 (t1 * y) (l1 * x) st4.d2 J2.out.car J2.out.les J2.out.bor (mul_bound h3 hy) (mul_bound h4 hx)).mono ?_
      rintro e w4 ⟨v2, b2', rfl, hv2, hb2', he, d', f'⟩
      have st5 := st4.next2 d' f'
      have K2 : Hid (DfInv n ys xs (ob.set k v2) t1 l1 (k + 1) ((c2 + t1 * y) / 4294967296) ((l2 + l1 * x) / 4294967296) b2') := by
        have := J2.out.step (v := v2) (b' := b2') hlt h3 h4 (HYM.out.getD k) (HXM.out.getD k) hv2 hb2' (by rw [HX2.out, HY2.out]; exact he)
        rw [HX2.out, HY2.out] at this
        exact this
      clear he d' f' st4 m3 m4 J2
      rw [Int.natCast_mul, Int.natCast_mul]
      generalize (c2 + t1 * y) / 4294967296 = c2' at *
      generalize (l2 + l1 * x) / 4294967296 = l2' at *
      obtain ⟨_, cy, fy, _, _⟩ := st5.rb.cell k hlt
      go_wp2
      go_roundw
      case rel => exact ⟨k + 1, oa.set k v, ob.set k v2, c', l', b', c2', l2', b2', by omega, by go_num, st5.setB k hv2, K1, K2⟩
      case measure => simp [intOf]; omega
    · obtain rfl : k = n := by omega
      go_wp2
      go_end0
      have hS : ∀ g, g ∈ [ga, gb, gc + 1, gc + 2] → B ≤ g := by intro g hg; simp at hg; omega
      exact ⟨oa, ob, c, l, b, c2, l2, b2, rfl, (HW.out.mono hBc).trans (st.fx.below hS), st.ra, st.rb, J1.out, J2.out⟩
end Go.Proofs.YtbobhhnhlgdkiaaGreat

/- root.foresee. -/
namespace Go.Proofs.YtbobhhnhlgdkiaaGreat
open Go.RowKit M
set_option maxRecDepth 100000

/-- Block g is an array of three words. -/
structure Tr (w : World) (g u0 u1 u2 : Nat) : Prop where
  at_ : w.heap[g]? = some (.cells #[.int .u64 (u0 : Int), .int .u64 (u1 : Int), .int .u64 (u2 : Int)] 128 (0, 0))
theorem Tr.cells {w : World} {g u0 u1 u2 : Nat} (h : Tr w g u0 u1 u2) : w.cell? ⟨g, 0, none⟩ = some (.int .u64 (u0 : Int)) ∧ w.cell? ⟨g, 1, none⟩ = some (.int .u64 (u1 : Int)) ∧ w.cell? ⟨g, 2, none⟩ = some (.int .u64 (u2 : Int)) :=
  ⟨by rw [cell_of_row w g 0 _ _ _ h.at_]; rfl, by rw [cell_of_row w g 1 _ _ _ h.at_]; rfl, by rw [cell_of_row w g 2 _ _ _ h.at_]; rfl⟩
theorem Tr.free {w : World} {g u0 u1 u2 : Nat} (h : Tr w g u0 u1 u2) (i : Nat) : w.frozen? ⟨g, i, none⟩ = false := frozen_of_row w g i _ _ h.at_
theorem Tr.keep {w w' : World} {g u0 u1 u2 : Nat} (h : Tr w g u0 u1 u2) (hb : w'.heap[g]? = w.heap[g]?) : Tr w' g u0 u1 u2 := ⟨by rw [hb]; exact h.at_⟩
theorem Tr.put {w : World} {g u0 u1 u2 : Nat} (h : Tr w g u0 u1 u2) (x y z : Nat) : Tr (((w.setCell ⟨g, 0, none⟩ (.int .u64 (x : Int))).setCell ⟨g, 1, none⟩ (.int .u64 (y : Int))).setCell ⟨g, 2, none⟩ (.int .u64 (z : Int))) g x y z := ⟨by
  have a1 := heap_setCell_same w g 0 _ _ (.int .u64 (x : Int)) h.at_
  have a2 := heap_setCell_same _ g 1 _ _ (.int .u64 (y : Int)) a1
  rw [heap_setCell_same _ g 2 _ _ _ a2]; rfl⟩
theorem Fr.put (g : Nat) (w : World) (x y z : Value) : Fr g w (((w.setCell ⟨g, 0, none⟩ x).setCell ⟨g, 1, none⟩ y).setCell ⟨g, 2, none⟩ z) := (((Fr.refl g w).set 0 x).set 1 y).set 2 z

/-- The memory of foresee. -/
structure Fm (g : Nat) (w u : World) (u0 u1 u2 v0 v1 v2 : Nat) : Prop where
  fx : Fx [g, g + 1, g + 2] w u
  ofA : Tr u (g + 1) u0 u1 u2
  ofB : Tr u (g + 2) v0 v1 v2
  res : Cb u g 0 0 0 0
section
variable {g : Nat} {w u u' : World} {u0 u1 u2 v0 v1 v2 : Nat}
theorem Fm.qt (h : Fm g w u u0 u1 u2 v0 v1 v2) (q : Qt u u') : Fm g w u' u0 u1 u2 v0 v1 v2 :=
  ⟨h.fx.qt q, h.ofA.keep (by rw [q.heap]), h.ofB.keep (by rw [q.heap]), h.res.keep (by rw [q.heap])⟩
theorem Fm.putA (h : Fm g w u u0 u1 u2 v0 v1 v2) (x y z : Nat) : Fm g w (((u.setCell ⟨g + 1, 0, none⟩ (.int .u64 (x : Int))).setCell ⟨g + 1, 1, none⟩ (.int .u64 (y : Int))).setCell ⟨g + 1, 2, none⟩ (.int .u64 (z : Int))) x y z v0 v1 v2 :=
  have f := Fr.put (g + 1) u (.int .u64 (x : Int)) (.int .u64 (y : Int)) (.int .u64 (z : Int))
  ⟨h.fx.fr f (by simp), h.ofA.put x y z, h.ofB.keep (f.block _ (by omega)), h.res.keep (f.block _ (by omega))⟩
theorem Fm.putB (h : Fm g w u u0 u1 u2 v0 v1 v2) (x y z : Nat) : Fm g w (((u.setCell ⟨g + 2, 0, none⟩ (.int .u64 (x : Int))).setCell ⟨g + 2, 1, none⟩ (.int .u64 (y : Int))).setCell ⟨g + 2, 2, none⟩ (.int .u64 (z : Int))) u0 u1 u2 x y z :=
  have f := Fr.put (g + 2) u (.int .u64 (x : Int)) (.int .u64 (y : Int)) (.int .u64 (z : Int))
  ⟨h.fx.fr f (by simp), h.ofA.keep (f.block _ (by omega)), h.ofB.put x y z, h.res.keep (f.block _ (by omega))⟩
end
theorem Fm.start (w : World) : ∃ w0, w0 = (((w.alloc (.cells #[.int .u64 0, .int .u64 0, .int .u64 0, .int .u64 0] 118)).alloc (.cells #[.int .u64 0, .int .u64 1, .int .u64 0] 128)).alloc (.cells #[.int .u64 0, .int .u64 0, .int .u64 1] 128)) ∧
    Below w.heap.size w w0 ∧ Fm w.heap.size w0 w0 0 1 0 0 0 1 := by
  refine ⟨_, rfl, (((Below.refl _ _).alloc (Nat.le_refl _) _).alloc (by simp) _).alloc (by simp; omega) _, ⟨Fx.refl _ _, ⟨?_⟩, ⟨?_⟩, ⟨?_⟩⟩⟩
  · rw [heap_alloc_old _ _ (by simp)]
    have := heap_alloc_new (w.alloc (.cells #[.int .u64 0, .int .u64 0, .int .u64 0, .int .u64 0] 118)) (.cells #[.int .u64 0, .int .u64 1, .int .u64 0] 128)
    simpa using this
  · have := heap_alloc_new ((w.alloc (.cells #[.int .u64 0, .int .u64 0, .int .u64 0, .int .u64 0] 118)).alloc (.cells #[.int .u64 0, .int .u64 1, .int .u64 0] 128)) (.cells #[.int .u64 0, .int .u64 0, .int .u64 1] 128)
    simpa using this
  · rw [heap_alloc_old _ _ (by simp; omega), heap_alloc_old _ _ (by simp)]
    exact heap_alloc_new _ _

theorem Cb.put {w : World} {g t0 l0 t1 l1 : Nat} (h : Cb w g t0 l0 t1 l1) (x y z v : Nat) : Cb ((((w.setCell ⟨g, 0, none⟩ (.int .u64 (x : Int))).setCell ⟨g, 1, none⟩ (.int .u64 (y : Int))).setCell ⟨g, 2, none⟩ (.int .u64 (z : Int))).setCell ⟨g, 3, none⟩ (.int .u64 (v : Int))) g x y z v := ⟨by
  have a1 := heap_setCell_same w g 0 _ _ (.int .u64 (x : Int)) h.at_
  have a2 := heap_setCell_same _ g 1 _ _ (.int .u64 (y : Int)) a1
  have a3 := heap_setCell_same _ g 2 _ _ (.int .u64 (z : Int)) a2
  rw [heap_setCell_same _ g 3 _ _ _ a3]; rfl⟩
theorem Fr.put4 (g : Nat) (w : World) (x y z v : Value) : Fr g w ((((w.setCell ⟨g, 0, none⟩ x).setCell ⟨g, 1, none⟩ y).setCell ⟨g, 2, none⟩ z).setCell ⟨g, 3, none⟩ v) := ((((Fr.refl g w).set 0 x).set 1 y).set 2 z).set 3 v

/-- What foresee hands back. -/
def Foresaw (w : World) (a b : Nat) (e : Ending) (w' : World) : Prop := ∃ t u0 u1 v0 v1, e = .returned (.tuple #[.agg #[.int .u64 ((u0 : Nat) : Int), .int .u64 ((v0 : Nat) : Int), .int .u64 ((v1 : Nat) : Int), .int .u64 ((u1 : Nat) : Int)], .bool t]) ∧
      Below w.heap.size w w' ∧ (v0 = 0 ∨ ∃ r r', Sure t a b u0 u1 v0 v1 r r')

theorem size51 : (Tryz.prog.info? 118).map (·.size) = some 4 := by kernel_rfl

theorem foresee_ret {w w0 wr : World} {g a b : Nat} {t : Bool} {u0 u1 u2 v0 v1 v2 x y : Nat} {act : Act} (hw : Below g w w0) (hg : g = w.heap.size) (st : Fm g w0 wr u0 u1 u2 v0 v1 v2) (J : Fs t a b x y u0 u1 u2 v0 v1 v2)
    (h4 : act.tmps.getD 4 undef = .pointer (some ⟨g, 0, none⟩)) (h5 : act.tmps.getD 5 undef = .bool t) (hd : act.defers = []) :
    bodyPost Tryz.prog Tryz.f104 (Foresaw w a b) .ret act ((((wr.setCell ⟨g, 0, none⟩ (.int .u64 (u0 : Int))).setCell ⟨g, 1, none⟩ (.int .u64 (v0 : Int))).setCell ⟨g, 2, none⟩ (.int .u64 (v1 : Int))).setCell ⟨g, 3, none⟩ (.int .u64 (u1 : Int))) := by
  have cb := st.res.put u0 v0 v1 u1
  have fr := Fr.put4 g wr (.int .u64 (u0 : Int)) (.int .u64 (v0 : Int)) (.int .u64 (v1 : Int)) (.int .u64 (u1 : Int))
  have fx := st.fx.fr fr (by simp)
  refine bodyPost_ret (v := .tuple #[.agg #[.int .u64 (u0 : Int), .int .u64 (v0 : Int), .int .u64 (v1 : Int), .int .u64 (u1 : Int)], .bool t]) ?_ hd ⟨t, u0, u1, v0, v1, rfl, ?_, J.past⟩
  · rw [results_cell_tmp rfl, h4, h5]
    simp [asAddr, run_loadVar_row _ g _ 118 _ _ _ cb.at_ Tryz.underlying118 rfl size51]
  · rw [← hg]
    exact hw.trans (fx.below (by intro k hk; simp at hk; omega))

set_option maxHeartbeats 2000000 in
theorem foresee_any (w : World) (a b : Nat) (ha : a < 18446744073709551616) (hb : b ≤ a) (h1 : 1 ≤ a) :
    Calls Tryz.prog 104 #[.int .u64 (a : Int), .int .u64 (b : Int)] w (Foresaw w a b) := by
  obtain ⟨w0, hw0, bw0, s0⟩ := Fm.start w
  have F0 : Hid (Fs true a b a b 0 1 0 0 0 1) := Fs.start hb h1
  go_enter Tryz.func104, Tryz.ntmps104
  go_wp2
  rw [← hw0]
  obtain ⟨g, hg⟩ : ∃ g, g = w.heap.size := ⟨_, rfl⟩
  rw [← hg] at s0 bw0 ⊢
  have HW : Hid (Below g w w0) := bw0
  have HGS : Hid (g = w.heap.size) := hg
  clear hw0 bw0 hg
  rw [show g + 1 + 1 = g + 2 from rfl]
  go_loopw [0, 1, 6] (fun av bv tv wr => ∃ t x y u0 u1 u2 v0 v1 v2, av = .int .u64 ((x : Nat) : Int) ∧ bv = .int .u64 ((y : Nat) : Int) ∧ tv = .bool t ∧ Fm g w0 wr u0 u1 u2 v0 v1 v2 ∧ Hid (Fs t a b x y u0 u1 u2 v0 v1 v2)) (fun _ bv _ _ => (intOf bv).toNat)
  case atStart => exact ⟨true, a, b, 0, 1, 0, 0, 0, 1, rfl, rfl, rfl, s0, F0⟩
  case round =>
    clear s0 F0
    obtain ⟨t, x, y, u0, u1, u2, v0, v1, v2, rfl, rfl, rfl, st, J⟩ := hrel
    obtain ⟨n1, n2, n3, n4⟩ := J.out.bounds
    have hyx := J.out.le
    have hx1 := J.out.pos
    have hv1 := J.out.one
    obtain ⟨p0, p1, p2⟩ := st.ofA.cells
    obtain ⟨q0, q1, q2⟩ := st.ofB.cells
    by_cases t1 : v2 ≤ y
    · have hs : v1 + v2 ≤ a := by
        have e := J.out.ea
        have e1 := Nat.le_mul_of_pos_right v2 hx1
        have e2 := Nat.le_mul_of_pos_right v1 (show 0 < y by omega)
        omega
      have d1 : decide ((v2 : Int) ≤ (y : Int)) = true := by simp; omega
      by_cases t2 : v1 + v2 ≤ x - y
      · have d2 : decide ((v1 : Int) + (v2 : Int) ≤ (x : Int) - (y : Int)) = true := by simp; omega
        have J2 := J.out.step t1 t2
        obtain ⟨b1, b2, b3, b4⟩ := J2.bounds
        have hy0 : 0 < y := by omega
        have hml := Nat.mod_lt x hy0
        have hyb : ((y : Int) == 0) = false := by rw [beq_eq_false_iff_ne]; omega
        obtain ⟨q, hq⟩ : ∃ q, q = x / y := ⟨_, rfl⟩
        obtain ⟨m, hm⟩ : ∃ m, m = x % y := ⟨_, rfl⟩
        have ed : (x : Int) / (y : Int) = (q : Int) := by rw [hq, Int.natCast_ediv]
        have et : (x : Int).tdiv (y : Int) = (q : Int) := by rw [Int.tdiv_eq_ediv_of_nonneg (by omega)]; exact ed
        have em : (x : Int) % (y : Int) = (m : Int) := by rw [hm, Int.natCast_emod]
        have eu : (x : Int).tmod (y : Int) = (m : Int) := by rw [Int.tmod_eq_emod_of_nonneg (by omega)]; exact em
        have hqx : q ≤ x := by rw [hq]; exact Nat.div_le_self _ _
        rw [← hq] at J2 b1 b3
        rw [← hm] at J2 hml
        have k1 : (0 : Int) ≤ (q : Int) * (u2 : Int) ∧ (u1 : Int) + (q : Int) * (u2 : Int) ≤ 18446744073709551615 := by rw [← Int.natCast_mul]; omega
        have k2 : (0 : Int) ≤ (q : Int) * (v2 : Int) ∧ (v1 : Int) + (q : Int) * (v2 : Int) ≤ 18446744073709551615 := by rw [← Int.natCast_mul]; omega
        have hq64 : q < 18446744073709551616 := by omega
        have hx64 : x < 18446744073709551616 := by omega
        have hu64 : u1 < 18446744073709551616 ∧ u2 < 18446744073709551616 ∧ v1 < 18446744073709551616 ∧ v2 < 18446744073709551616 := by omega
        obtain ⟨hu1, hu2, hu3, hu4⟩ := hu64
        obtain ⟨k3, k4⟩ := k1
        obtain ⟨k5, k6⟩ := k2
        have HJ : Hid (Fs (!t) a b y m u1 u2 (u1 + q * u2) v1 v2 (v1 + q * v2)) := J2
        have HS : Hid (Fm g w0 wr u0 u1 u2 v0 v1 v2) := st
        clear st J2 J hq hm b1 b2 b3 b4 n1 n2 n3 n4 hx1 hv1
        go_wp2
        go_quiet (fail)
        have st2 := HS.out.qt ((Qt.refl wr).drewN nq)
        generalize wr.drewN nq = wq at st2 ⊢
        clear p0 p1 p2 q0 q1 q2 HS
        obtain ⟨p0, p1, p2⟩ := st2.ofA.cells
        obtain ⟨q0, q1, q2⟩ := st2.ofB.cells
        have z0 := st2.ofA.free 0
        have z1 := st2.ofA.free 1
        have z2 := st2.ofA.free 2
        have y0 := st2.ofB.free 0
        have y1 := st2.ofB.free 1
        have y2 := st2.ofB.free 2
        have HS : Hid (Fm g w0 wq u0 u1 u2 v0 v1 v2) := st2
        clear st2
        go_wp2
        have st3 := (HS.out.putA u1 u2 (u1 + q * u2)).putB v1 v2 (v1 + q * v2)
        rw [show ((u1 + q * u2 : Nat) : Int) = (u1 : Int) + (q : Int) * (u2 : Int) from by rw [Int.natCast_add, Int.natCast_mul], show ((v1 + q * v2 : Nat) : Int) = (v1 : Int) + (q : Int) * (v2 : Int) from by rw [Int.natCast_add, Int.natCast_mul]] at st3
        go_roundw
        case rel => exact ⟨!t, y, m, u1, u2, u1 + q * u2, v1, v2, v1 + q * v2, rfl, rfl, rfl, st3, HJ⟩
        case measure => simp [intOf]; omega
      · have d2 : decide ((v1 : Int) + (v2 : Int) ≤ (x : Int) - (y : Int)) = false := by simp; omega
        have HS : Hid (Fm g w0 wr u0 u1 u2 v0 v1 v2) := st
        obtain ⟨c0, c1, c2, c3⟩ := st.res.cells
        have z0 := frozen_of_row wr g 0 _ _ st.res.at_
        have z1 := frozen_of_row wr g 1 _ _ st.res.at_
        have z2 := frozen_of_row wr g 2 _ _ st.res.at_
        have z3 := frozen_of_row wr g 3 _ _ st.res.at_
        clear st
        go_wp2
        exact foresee_ret HW.out HGS.out HS.out J.out rfl rfl rfl
    · have d1 : decide ((v2 : Int) ≤ (y : Int)) = false := by simp; omega
      have HS : Hid (Fm g w0 wr u0 u1 u2 v0 v1 v2) := st
      obtain ⟨c0, c1, c2, c3⟩ := st.res.cells
      have z0 := frozen_of_row wr g 0 _ _ st.res.at_
      have z1 := frozen_of_row wr g 1 _ _ st.res.at_
      have z2 := frozen_of_row wr g 2 _ _ st.res.at_
      have z3 := frozen_of_row wr g 3 _ _ st.res.at_
      clear st
      go_wp2
      exact foresee_ret HW.out HGS.out HS.out J.out rfl rfl rfl
end Go.Proofs.YtbobhhnhlgdkiaaGreat

/- root.shrunk. -/
namespace Go.Proofs.YtbobhhnhlgdkiaaGreat
open Go.RowKit M
set_option maxRecDepth 100000

/-- What shrunk leaves: two lesser naturals of the same common divisors, in memory of their own. -/
def Shrunk (B : Nat) (w : World) (A C : Nat) (e : Ending) (w' : World) : Prop :=
  ∃ a1 n1 c1 a2 n2 c2 R R', e = .returned (.tuple #[.slice a1 n1 c1, .slice a2 n2 c2]) ∧ Below B w w' ∧ Ow B w' (.slice a1 n1 c1) (toL R) ∧ Ow B w' (.slice a2 n2 c2) (toL R') ∧
    (∀ g, a1 = some ⟨g, 0, none⟩ → a2 ≠ some ⟨g, 0, none⟩) ∧ R' ≤ R ∧ R ≤ A ∧ R + R' < A + C ∧ Nat.gcd R R' = Nat.gcd A C

theorem val_pad (xs : List Nat) (k : Nat) : val (xs ++ List.replicate k 0) = val xs := by rw [val_append, val_rep]; omega
theorem Ow.trimr {B n cap g V : Nat} {w : World} {zs : List Nat} (h : Ow B w (.slice (some ⟨g, 0, none⟩) n cap) zs) (hv : val zs = V) : Ow B w (.slice (some ⟨g, 0, none⟩) (toL V).length cap) (toL V) := by
  subst hv
  have hk : (toL (val zs)).length ≤ n := toL_len_le (by rw [← h.len]; exact val_lt h.lim)
  have := h.cut _ hk
  rwa [← toL_take h.lim] at this

/-- Behind the append the other row and the combination are as they were. -/
theorem appended {w3 : World} {B ga gb g na ca nb cb u0 v0 v1 u1 : Nat} {xs ys : List Nat} (oa : Ow B w3 (.slice (some ⟨ga, 0, none⟩) na ca) xs) (ob : Ow B w3 (.slice (some ⟨gb, 0, none⟩) nb cb) ys) (c : Cb w3 g u0 v0 v1 u1) (hne : ga ≠ gb) (hgb : gb ≠ g) (hB : B ≤ w3.heap.size) :
    ∀ (g' : Nat) (w4 : World), w3.grownBy w4 (some gb) → (g' = gb ∨ w3.heap.size ≤ g') → ga ≠ g' ∧ Ow B w4 (.slice (some ⟨ga, 0, none⟩) na ca) xs ∧ Cb w4 g u0 v0 v1 u1 ∧ Below B w3 w4 := by
  intro g' w4 hg hs
  have h1 := oa.block
  have h2 := ob.block
  have h3 := c.lt
  refine ⟨by omega, oa.keep fun k hk => ?_, c.keep (hg.block g h3 (by simp; omega)), (Below.refl B w3).grown hg hB fun k hk => ?_⟩
  · simp only [Option.some.injEq, Addr.mk.injEq, and_true] at hk
    subst hk
    exact hg.block ga h1.2 (by simp; omega)
  · simp only [Option.some.injEq] at hk
    omega

set_option maxHeartbeats 2000000 in
theorem shrunk_any (w : World) (B ga gb n ca m cb A C : Nat) (ha : Ow B w (.slice (some ⟨ga, 0, none⟩) (n + 3) ca) (toL A)) (hb : Ow B w (.slice (some ⟨gb, 0, none⟩) (m + 3) cb) (toL C)) (hne : ga ≠ gb) (hle : C ≤ A) (hn : n ≤ 17179869184) :
    Calls Tryz.prog 92 #[.slice (some ⟨ga, 0, none⟩) (n + 3) ca, .slice (some ⟨gb, 0, none⟩) (m + 3) cb] w (Shrunk B w A C) := by
  have hBw : B ≤ w.heap.size := by have := ha.block; omega
  have hmn : m ≤ n := by
    have h1 := ha.len
    have h2 := hb.len
    by_cases hh : (toL A).length < (toL C).length
    · have := toL_len_lt hh; omega
    · omega
  go_enter Tryz.func92, Tryz.ntmps92
  go_wp2_with fail
  refine (heads_any w.heap.size w _ _ n ca (m + 3) cb A C ha.rd hb.rd (by omega) hle).mono ?_
  rintro e w1 ⟨a, b, P, x, y, rfl, q1, h64, hba, h1a, eA, lx, eC, ly⟩
  go_wp2_with fail
  refine (foresee_any w1 a b h64 hba h1a).mono ?_
  rintro e w2 ⟨t, u0, u1, v0, v1, rfl, b2, hp⟩
  have hb2 : Below w.heap.size w w2 := (q1.below _).trans (b2.mono (by rw [q1.size]; exact Nat.le_refl _))
  have HA : Hid (A = P * a + x) := eA
  have HC : Hid (C = P * b + y) := eC
  have oa2 : Ow B w2 (.slice (some ⟨ga, 0, none⟩) (n + 3) ca) (toL A) := ha.later hb2
  have ob2 : Ow B w2 (.slice (some ⟨gb, 0, none⟩) (m + 3) cb) (toL C) := hb.later hb2
  clear ha hb eA eC q1 b2
  by_cases h0 : v0 = 0
  · subst h0
    clear hp
    go_wp2_with fail
    have hb3 : Below w2.heap.size w2 (w2.alloc (.cells #[.int .u64 (u0 : Int), .int .u64 0, .int .u64 (v1 : Int), .int .u64 (u1 : Int)] 118)) := (Below.refl _ _).alloc (Nat.le_refl _) _
    generalize w2.alloc (.cells #[.int .u64 (u0 : Int), .int .u64 0, .int .u64 (v1 : Int), .int .u64 (u1 : Int)] 118) = w3 at hb3 ⊢
    have oa3 := oa2.later hb3
    have ob3 := ob2.later hb3
    have B3 : Hid (Below B w w3) := (hb2.mono hBw).trans (hb3.mono (by have := hb2.size; omega))
    have S3 : Hid (B ≤ w3.heap.size) := by show B ≤ w3.heap.size; have := hb2.size; have := hb3.size; omega
    clear oa2 ob2 hb2 hb3
    refine (divMod_own w3 _ _ (n + 3) ca (m + 1) cb A C oa3.rd ob3.rd (by omega) hle).mono ?_
    rintro e w4 ⟨qo, qn, qc, ro, rn, rc, rfl, _, or4, b4⟩
    have ob4 := ob3.later b4
    have hgb := ob3.block.2
    have hC0 : 0 < C := by
      have := ob3.len
      rcases Nat.eq_zero_or_pos C with h | h
      · rw [h, toL_zero] at this; simp at this
      · exact h
    have hml := Nat.mod_lt A hC0
    go_wp2
    go_ret2
    refine ⟨_, _, _, ro, rn, rc, C, A % C, rfl, B3.out.trans (b4.mono S3.out), ob4, or4.mono S3.out, ?_, by omega, hle, by omega, gcd_turn A C⟩
    intro g hg hro
    simp only [Option.some.injEq, Addr.mk.injEq, and_true] at hg
    subst hg hro
    have := or4.block.1
    omega
  · obtain ⟨r, r', S⟩ := hp.resolve_left h0
    obtain ⟨s1, s2, s3, s4⟩ := S.small h0 h64
    obtain ⟨R, R', L⟩ := S.lehm h0 HA.out lx HC.out ly
    have HL : Hid (Lehm t A C u0 u1 v0 v1 R R') := L
    have h0b : ((v0 : Int) == 0) = false := by rw [beq_eq_false_iff_ne]; omega
    clear hp S L HA HC lx ly h64 hba h1a
    have hb3 : Below w2.heap.size w2 (w2.alloc (.cells #[.int .u64 (u0 : Int), .int .u64 (v0 : Int), .int .u64 (v1 : Int), .int .u64 (u1 : Int)] 118)) := (Below.refl _ _).alloc (Nat.le_refl _) _
    have cb3 : Cb (w2.alloc (.cells #[.int .u64 (u0 : Int), .int .u64 (v0 : Int), .int .u64 (v1 : Int), .int .u64 (u1 : Int)] 118)) w2.heap.size u0 v0 v1 u1 := ⟨heap_alloc_new _ _⟩
    have ob3 := ob2.later hb3
    have oa3 := oa2.later hb3
    have hB3 : B ≤ (w2.alloc (.cells #[.int .u64 (u0 : Int), .int .u64 (v0 : Int), .int .u64 (v1 : Int), .int .u64 (u1 : Int)] 118)).heap.size := by have := hb2.size; have := hb3.size; omega
    have B3 : Hid (Below B w (w2.alloc (.cells #[.int .u64 (u0 : Int), .int .u64 (v0 : Int), .int .u64 (v1 : Int), .int .u64 (u1 : Int)] 118))) := (hb2.mono hBw).trans (hb3.mono (by have := hb2.size; omega))
    have hAB : A < Bp (n + 3) := by have := oa2.rd.lt; rwa [val_toL] at this
    have hC0 : 0 < C := by
      have := ob2.len
      rcases Nat.eq_zero_or_pos C with h | h
      · rw [h, toL_zero] at this; simp at this
      · exact h
    have hBc : B ≤ w2.heap.size := by have := hb2.size; omega
    have hgaw := oa2.block.2
    have hgbw := ob2.block.2
    have hsz3 : (w2.alloc (.cells #[.int .u64 (u0 : Int), .int .u64 (v0 : Int), .int .u64 (v1 : Int), .int .u64 (u1 : Int)] 118)).heap.size = w2.heap.size + 1 := by simp
    have after := appended (g := w2.heap.size) oa3 ob3 cb3 hne (by have := ob2.block.2; omega) hB3
    have AF : Hid _ := after
    clear after oa3 cb3 hb3 hb2 oa2 ob2
    cases t
    · go_wp2_with (at_builtin; refine wp_appZ (m := n - m) rfl _ _ rfl ob3 rfl rfl (by omega) (by omega) (by omega) hB3 ?_; intro g' cap' w4 ho4 hg4 hs4; obtain ⟨hne4, oa4, cb4, b4⟩ := AF.out _ _ hg4 hs4; rw [hsz3] at hs4; obtain ⟨q0, q1, q2, q3⟩ := cb4.cells)
      rw [show m + 3 + (n - m) = n + 3 from by omega] at ho4 ⊢
      have hyl := ho4.len
      have hxl := oa4.len
      refine (apply_any w4 B ga g' (n + 3) ca cap' u0 v0 v1 u1 _ _ oa4 ho4 hne4 (by omega) s1 s3 s4 s2).mono ?_
      rintro e w5 ⟨za, zb, c, l, b', c2, l2, b2', rfl, b5, o1, o2, D1, D2⟩
      have e1 : val za = R := D1.done hxl hyl (by simp only [val_pad, val_toL]; have := HL.out.er; simpa using this) (Nat.lt_of_le_of_lt (by have := HL.out.sum; omega) hAB)
      have e2 : val zb = R' := D2.done hyl hxl (by simp only [val_pad, val_toL]; have := HL.out.er'; simpa using this) (Nat.lt_of_le_of_lt (by have := HL.out.sum; omega) hAB)
      clear D1 D2 ho4 oa4 cb4 q0 q1 q2 q3
      go_wp2_with fail
      refine (rtrimmed_any w5.heap.size w5 _ _ _ _ o1.rd (by omega)).mono ?_
      rintro e w6 ⟨rfl, rfl⟩
      rw [e1]
      go_wp2_with fail
      refine (rtrimmed_any w5.heap.size w5 _ _ _ _ o2.rd (by omega)).mono ?_
      rintro e w6 ⟨rfl, rfl⟩
      rw [e2]
      have p1 := o1.trimr e1
      have p2 := o2.trimr e2
      go_wp2
      go_ret2
      refine ⟨_, _, _, _, _, _, R, R', rfl, (B3.out.trans b4).trans b5, p1, p2, ?_, HL.out.le, by have := HL.out.sum; omega, by have := HL.out.sum; omega, HL.out.gcd⟩
      intro g hg hro
      simp only [Option.some.injEq, Addr.mk.injEq, and_true] at hg hro
      omega
    · go_wp2_with (at_builtin; refine wp_appZ (m := n - m) rfl _ _ rfl ob3 rfl rfl (by omega) (by omega) (by omega) hB3 ?_; intro g' cap' w4 ho4 hg4 hs4; obtain ⟨hne4, oa4, cb4, b4⟩ := AF.out _ _ hg4 hs4; rw [hsz3] at hs4; obtain ⟨q0, q1, q2, q3⟩ := cb4.cells; have z0 := frozen_of_row w4 w2.heap.size 0 _ _ cb4.at_; have z1 := frozen_of_row w4 w2.heap.size 1 _ _ cb4.at_; have z2 := frozen_of_row w4 w2.heap.size 2 _ _ cb4.at_; have z3 := frozen_of_row w4 w2.heap.size 3 _ _ cb4.at_)
      rw [show m + 3 + (n - m) = n + 3 from by omega] at ho4 ⊢
      have hyl := ho4.len
      have hxl := oa4.len
      have fr4 := Fr.put4 w2.heap.size w4 (.int .u64 (v0 : Int)) (.int .u64 (u0 : Int)) (.int .u64 (u1 : Int)) (.int .u64 (v1 : Int))
      generalize (((w4.setCell ⟨w2.heap.size, 0, none⟩ (.int .u64 (v0 : Int))).setCell ⟨w2.heap.size, 1, none⟩ (.int .u64 (u0 : Int))).setCell ⟨w2.heap.size, 2, none⟩ (.int .u64 (u1 : Int))).setCell ⟨w2.heap.size, 3, none⟩ (.int .u64 (v1 : Int)) = w4' at fr4 ⊢
      have oa5 : Ow B w4' (.slice (some ⟨ga, 0, none⟩) (n + 3) ca) (toL A) := oa4.keep fun k hk => by
        simp only [Option.some.injEq, Addr.mk.injEq, and_true] at hk
        subst hk
        exact fr4.block ga (by omega)
      have ob5 : Ow B w4' (.slice (some ⟨g', 0, none⟩) (n + 3) cap') _ := ho4.keep fun k hk => by
        simp only [Option.some.injEq, Addr.mk.injEq, and_true] at hk
        subst hk
        exact fr4.block g' (by have := hs4; omega)
      refine (apply_any w4' B g' ga (n + 3) cap' ca v0 u0 u1 v1 _ _ ob5 oa5 (Ne.symm hne4) (by omega) s3 s1 s2 s4).mono ?_
      rintro e w5 ⟨za, zb, c, l, b', c2, l2, b2', rfl, b5, o1, o2, D1, D2⟩
      have e1 : val za = R := D1.done hyl hxl (by simp only [val_pad, val_toL]; have := HL.out.er; simpa using this) (Nat.lt_of_le_of_lt (by have := HL.out.sum; omega) hAB)
      have e2 : val zb = R' := D2.done hxl hyl (by simp only [val_pad, val_toL]; have := HL.out.er'; simpa using this) (Nat.lt_of_le_of_lt (by have := HL.out.sum; omega) hAB)
      clear D1 D2 ho4 oa4 cb4 q0 q1 q2 q3 z0 z1 z2 z3 oa5 ob5
      go_wp2_with fail
      refine (rtrimmed_any w5.heap.size w5 _ _ _ _ o1.rd (by omega)).mono ?_
      rintro e w6 ⟨rfl, rfl⟩
      rw [e1]
      go_wp2_with fail
      refine (rtrimmed_any w5.heap.size w5 _ _ _ _ o2.rd (by omega)).mono ?_
      rintro e w6 ⟨rfl, rfl⟩
      rw [e2]
      have p1 := o1.trimr e1
      have p2 := o2.trimr e2
      go_wp2
      go_ret2
      refine ⟨_, _, _, _, _, _, R, R', rfl, ((B3.out.trans b4).trans (fr4.below hBc)).trans b5, p1, p2, ?_, HL.out.le, by have := HL.out.sum; omega, by have := HL.out.sum; omega, HL.out.gcd⟩
      intro g hg hro
      simp only [Option.some.injEq, Addr.mk.injEq, and_true] at hg hro
      omega
end Go.Proofs.YtbobhhnhlgdkiaaGreat

/- root.Gcd. -/
namespace Go.Proofs.YtbobhhnhlgdkiaaGreat
open Go.RowKit M
set_option maxRecDepth 100000

/-- What Gcd's loop keeps. -/
structure Gl (B K G gk : Nat) (w u : World) (a1 : Option Addr) (n1 c1 : Nat) (a2 : Option Addr) (n2 c2 A C : Nat) : Prop where
  great : Ow B u (.slice a1 n1 c1) (toL A)
  small : Ow B u (.slice a2 n2 c2) (toL C)
  sep : ∀ g, a1 = some ⟨g, 0, none⟩ → a2 ≠ some ⟨g, 0, none⟩
  le : C ≤ A
  bd : A < Bp K
  gcd : Nat.gcd A C = G
  below : Below B w u
  size : B ≤ u.heap.size
  meas : gk = A + C
theorem Gl.n1 {B K G gk n1 c1 n2 c2 A C : Nat} {w u : World} {a1 a2 : Option Addr} (h : Gl B K G gk w u a1 n1 c1 a2 n2 c2 A C) : n1 ≤ K := h.great.rd.ln h.bd
theorem Gl.n2 {B K G gk n1 c1 n2 c2 A C : Nat} {w u : World} {a1 a2 : Option Addr} (h : Gl B K G gk w u a1 n1 c1 a2 n2 c2 A C) : n2 ≤ n1 := by
  have h1 := h.great.len
  have h2 := h.small.len
  by_cases hh : (toL A).length < (toL C).length
  · have := toL_len_lt hh; have := h.le; omega
  · omega

theorem Gl.shrunk {B K G gk n1 c1 n2 c2 A C : Nat} {w u u' : World} {a1 a2 : Option Addr} (h : Gl B K G gk w u a1 n1 c1 a2 n2 c2 A C) {b1 : Option Addr} {m1 d1 : Nat} {b2 : Option Addr} {m2 d2 R R' : Nat}
    (hb : Below B u u') (o1 : Ow B u' (.slice b1 m1 d1) (toL R)) (o2 : Ow B u' (.slice b2 m2 d2) (toL R')) (hs : ∀ g, b1 = some ⟨g, 0, none⟩ → b2 ≠ some ⟨g, 0, none⟩) (hle : R' ≤ R) (hRA : R ≤ A) (hg : Nat.gcd R R' = Nat.gcd A C) :
    Gl B K G (R + R') w u' b1 m1 d1 b2 m2 d2 R R' :=
  ⟨o1, o2, hs, hle, Nat.lt_of_le_of_lt hRA h.bd, hg.trans h.gcd, h.below.trans hb, Nat.le_trans h.size hb.size, rfl⟩

set_option maxHeartbeats 2000000 in
theorem gcd_k {w : World} {ao bo : Option Addr} {n cap m bcap : Nat} {xs ys : List Nat} (h : Sl w.heap.size w ao n cap xs) (h2 : Sl w.heap.size w bo m bcap ys) (i : Nat) (hi : n ≤ i) (hj : m ≤ i) (hb : i ≤ 17179869184) :
    Calls Tryz.prog 76 #[.slice ao n cap, .slice bo m bcap] w (Gv w i (toL (Nat.gcd (val xs) (val ys)))) := by
  have v1 := h.bd hi
  have v2 := h2.bd hj
  obtain ⟨G, hG⟩ : ∃ G, G = Nat.gcd (val xs) (val ys) := ⟨_, rfl⟩
  rw [← hG]
  go_enter Tryz.func76, Tryz.ntmps76
  go_wp2_with fail
  refine (norm_own w ao n cap xs h (by omega)).mono ?_
  rintro e w1 ⟨a1, n1, c1, rfl, o1, b1⟩
  go_wp2_with fail
  refine (norm_own w1 bo m bcap ys (h2.later b1) (by omega)).mono ?_
  rintro e w2 ⟨a2, n2, c2, rfl, o2, b2⟩
  have o1' := o1.later b2
  have sep1 : ∀ g, a1 = some ⟨g, 0, none⟩ → a2 ≠ some ⟨g, 0, none⟩ := by
    intro g hg1 hg2
    subst hg1 hg2
    have := o1.block.2
    have := o2.block.1
    omega
  have bel : Below w.heap.size w w2 := b1.trans (b2.mono b1.size)
  have o2' : Ow w.heap.size w2 (.slice a2 n2 c2) (toL (val ys)) := o2.mono b1.size
  have hsz : w.heap.size ≤ w2.heap.size := bel.size
  have hn1 : n1 ≤ i := o1'.rd.ln v1
  have hn2 : n2 ≤ i := o2'.rd.ln v2
  clear o1 o2 b1 b2 h h2
  obtain ⟨A, hA⟩ : ∃ A, A = val xs := ⟨_, rfl⟩
  obtain ⟨C, hC⟩ : ∃ C, C = val ys := ⟨_, rfl⟩
  rw [← hA] at o1' v1 hG
  rw [← hC] at o2' v2 hG
  obtain ⟨B, hBB⟩ : ∃ B, B = w.heap.size := ⟨_, rfl⟩
  rw [← hBB] at o1' o2' bel hsz
  have HB : Hid (B = w.heap.size) := hBB
  have HG : Hid (G = Nat.gcd A C) := hG
  have V1 : Hid (A < Bp i) := v1
  have V2 : Hid (C < Bp i) := v2
  clear hBB hA hC hG v1 v2
  go_wp2_with fail
  refine (cmp_any w2 a1 a2 n1 c1 n2 c2 w2.heap.size _ _ o1'.rd o2'.rd (by omega) (by omega)).mono ?_
  rintro e w3 ⟨rfl, q3⟩
  rw [val_toL, val_toL]
  have o1 := o1'.qt q3
  have o2 := o2'.qt q3
  have bel3 : Below B w w3 := bel.trans (q3.below _)
  have hsz3 : B ≤ w3.heap.size := by rw [q3.size]; exact hsz
  clear o1' o2' bel hsz q3
  have sepr : ∀ g, a2 = some ⟨g, 0, none⟩ → a1 ≠ some ⟨g, 0, none⟩ := fun g h1 h2 => sep1 g h2 h1
  by_cases hlt : A < C
  · have ST : Hid (Gl B i G (A + C) w w3 a2 n2 c2 a1 n1 c1 C A) := ⟨o2, o1, sepr, by omega, V2.out, by rw [Nat.gcd_comm]; exact HG.out.symm, bel3, hsz3, by omega⟩
    rw [cmpN_lt hlt]
    clear hlt o1 o2 bel3 hsz3 sep1 sepr
    go_wp2
    go_loopg [5, 6] (A + C) (fun gk av bv wr => ∃ a1 n1 c1 a2 n2 c2 A C, av = .slice a1 n1 c1 ∧ bv = .slice a2 n2 c2 ∧ Hid (Gl B i G gk w wr a1 n1 c1 a2 n2 c2 A C))
    case atStart => exact ⟨a2, n2, c2, a1, n1, c1, C, A, rfl, rfl, ST⟩
    case round =>
      clear ST HG V1 V2
      obtain ⟨a1, n1, c1, a2, n2, c2, A, C, rfl, rfl, HL⟩ := hrel
      have hn1 := HL.out.n1
      have hn2 := HL.out.n2
      by_cases h3 : 2 < n2
      · obtain ⟨ga, _, rfl, _⟩ := HL.out.great.inv (by omega)
        obtain ⟨gb, _, rfl, _⟩ := HL.out.small.inv (by omega)
        obtain ⟨p, rfl⟩ : ∃ p, n1 = p + 3 := ⟨n1 - 3, by omega⟩
        obtain ⟨q, rfl⟩ : ∃ q, n2 = q + 3 := ⟨n2 - 3, by omega⟩
        have hne : ga ≠ gb := fun e => HL.out.sep ga rfl (by rw [e])
        have h3b : decide ((2 : Int) < (q : Int) + 3) = true := by simp; omega
        go_wp2_with fail
        refine (shrunk_any wr B ga gb p c1 q c2 A C HL.out.great HL.out.small hne HL.out.le (by omega)).mono ?_
        rintro e w4 ⟨b1, m1, d1, b2, m2, d2, R, R', rfl, hb4, o1, o2, hs, hle, hRA, hsum, hg⟩
        have HN : Hid (Gl B i G (R + R') w w4 b1 m1 d1 b2 m2 d2 R R') := HL.out.shrunk hb4 o1 o2 hs hle hRA hg
        have HM : Hid (R + R' < gk) := by show R + R' < gk; have := HL.out.meas; omega
        clear hb4 o1 o2 hs hle hRA hsum hg HL h3 h3b hn1 hn2
        go_wp2
        go_roundg (R + R')
        case measure => exact HM.out
        case rel => exact ⟨b1, m1, d1, b2, m2, d2, R, R', rfl, rfl, HN⟩
      · have HBS : Hid (Below w.heap.size w wr) := by show Below w.heap.size w wr; rw [← HB.out]; exact HL.out.below
        by_cases h0 : n2 = 0
        · subst h0
          have hC0 : C = 0 := by have := HL.out.small.len; exact toL_length_zero.1 this
          have HA : Hid (A = G) := by show A = G; have := HL.out.gcd; rwa [hC0, Nat.gcd_zero_right] at this
          have HS : Hid (Sl wr.heap.size wr a1 n1 c1 (toL A)) := HL.out.great.rd
          clear HL hC0
          go_wp2
          go_ret
          exact ⟨a1, n1, c1, rfl, by rw [← HA.out]; exact HS.out, hn1, HBS.out⟩
        · have hC0 : C ≠ 0 := by
            intro hz
            have := HL.out.small.len
            rw [hz, toL_zero] at this
            exact h0 this.symm
          have sg := HL.out.great.rd
          have ss := HL.out.small.rd
          have HGG : Hid (Nat.gcd C (A % C) = G) := by show Nat.gcd C (A % C) = G; rw [gcd_turn]; exact HL.out.gcd
          have hC64 : C < 18446744073709551616 := by
            have := ss.bd (show n2 ≤ 2 by omega)
            rw [val_toL, Bp_succ, Bp_succ, Bp_zero] at this
            omega
          have hR : A % C < C := Nat.mod_lt _ (Nat.pos_of_ne_zero hC0)
          have HCA : Hid (C < Bp i) := Nat.lt_of_le_of_lt HL.out.le HL.out.bd
          have h3b : decide ((2 : Int) < (n2 : Int)) = false := by simp; omega
          have h0b : ((n2 : Int) == 0) = false := by rw [beq_eq_false_iff_ne]; omega
          clear HL
          go_wp2_with fail
          refine (divMod_k sg ss i hn1 (by omega) (by omega) (by rw [val_toL]; exact hC0)).mono ?_
          rintro e w4 ⟨qo, qn, qc, ro, rn, rc, rfl, _, sr, _, _, b4⟩
          rw [val_toL, val_toL] at sr
          have ss4 := ss.later b4
          have hrn : rn ≤ 2 := sr.ln (by rw [Bp_succ, Bp_succ, Bp_zero]; omega)
          clear sg ss
          go_wp2_with fail
          refine (word_any _ w4 a2 n2 c2 _ ss4 (by omega)).mono ?_
          rintro e w5 ⟨rfl, rfl⟩
          rw [val_toL]
          go_wp2_with fail
          refine (word_any _ w4 ro rn rc _ sr hrn).mono ?_
          rintro e w5 ⟨rfl, rfl⟩
          rw [val_toL]
          generalize A % C = Rm at *
          clear ss4 sr
          go_wp2_with fail
          refine (gcdOfWords_any w4 C Rm hC64 (by omega)).mono ?_
          rintro e w5 ⟨rfl, q5⟩
          have HG5 := HGG.out
          rw [HG5]
          have hGC : G ≤ C := by rw [← HG5]; exact Nat.gcd_le_left _ (Nat.pos_of_ne_zero hC0)
          clear HG5
          go_wp2_with fail
          refine (of_any w5 G (by omega)).mono ?_
          rintro e w6 ⟨a6, n6, c6, rfl, s6, b6⟩
          have hn6 : n6 ≤ i := s6.ln (Nat.lt_of_le_of_lt hGC HCA.out)
          have hb6 : Below w.heap.size w w6 := ((HBS.out.trans (b4.mono HBS.out.size)).trans (q5.below _)).trans (b6.mono (by rw [q5.size]; have := HBS.out.size; have := b4.size; omega))
          clear b4 b6 q5
          go_wp2
          go_ret
          exact ⟨a6, n6, c6, rfl, s6, hn6, hb6⟩
  · have ST : Hid (Gl B i G (A + C) w w3 a1 n1 c1 a2 n2 c2 A C) := ⟨o1, o2, sep1, by omega, V1.out, HG.out.symm, bel3, hsz3, rfl⟩
    have hcm : decide (cmpN A C < 0) = false := by unfold cmpN; rw [if_neg hlt]; split <;> rfl
    have hcm2 : 0 ≤ cmpN A C := by unfold cmpN; rw [if_neg hlt]; split <;> omega
    generalize cmpN A C = cm at hcm hcm2 ⊢
    clear hlt o1 o2 bel3 hsz3 sep1 sepr
    go_wp2
    go_loopg [5, 6] (A + C) (fun gk av bv wr => ∃ a1 n1 c1 a2 n2 c2 A C, av = .slice a1 n1 c1 ∧ bv = .slice a2 n2 c2 ∧ Hid (Gl B i G gk w wr a1 n1 c1 a2 n2 c2 A C))
    case atStart => exact ⟨a1, n1, c1, a2, n2, c2, A, C, rfl, rfl, ST⟩
    case round =>
      clear ST HG V1 V2
      obtain ⟨a1, n1, c1, a2, n2, c2, A, C, rfl, rfl, HL⟩ := hrel
      have hn1 := HL.out.n1
      have hn2 := HL.out.n2
      by_cases h3 : 2 < n2
      · obtain ⟨ga, _, rfl, _⟩ := HL.out.great.inv (by omega)
        obtain ⟨gb, _, rfl, _⟩ := HL.out.small.inv (by omega)
        obtain ⟨p, rfl⟩ : ∃ p, n1 = p + 3 := ⟨n1 - 3, by omega⟩
        obtain ⟨q, rfl⟩ : ∃ q, n2 = q + 3 := ⟨n2 - 3, by omega⟩
        have hne : ga ≠ gb := fun e => HL.out.sep ga rfl (by rw [e])
        have h3b : decide ((2 : Int) < (q : Int) + 3) = true := by simp; omega
        go_wp2_with fail
        refine (shrunk_any wr B ga gb p c1 q c2 A C HL.out.great HL.out.small hne HL.out.le (by omega)).mono ?_
        rintro e w4 ⟨b1, m1, d1, b2, m2, d2, R, R', rfl, hb4, o1, o2, hs, hle, hRA, hsum, hg⟩
        have HN : Hid (Gl B i G (R + R') w w4 b1 m1 d1 b2 m2 d2 R R') := HL.out.shrunk hb4 o1 o2 hs hle hRA hg
        have HM : Hid (R + R' < gk) := by show R + R' < gk; have := HL.out.meas; omega
        clear hb4 o1 o2 hs hle hRA hsum hg HL h3 h3b hn1 hn2
        go_wp2
        go_roundg (R + R')
        case measure => exact HM.out
        case rel => exact ⟨b1, m1, d1, b2, m2, d2, R, R', rfl, rfl, HN⟩
      · have HBS : Hid (Below w.heap.size w wr) := by show Below w.heap.size w wr; rw [← HB.out]; exact HL.out.below
        by_cases h0 : n2 = 0
        · subst h0
          have hC0 : C = 0 := by have := HL.out.small.len; exact toL_length_zero.1 this
          have HA : Hid (A = G) := by show A = G; have := HL.out.gcd; rwa [hC0, Nat.gcd_zero_right] at this
          have HS : Hid (Sl wr.heap.size wr a1 n1 c1 (toL A)) := HL.out.great.rd
          clear HL hC0
          go_wp2
          go_ret
          exact ⟨a1, n1, c1, rfl, by rw [← HA.out]; exact HS.out, hn1, HBS.out⟩
        · have hC0 : C ≠ 0 := by
            intro hz
            have := HL.out.small.len
            rw [hz, toL_zero] at this
            exact h0 this.symm
          have sg := HL.out.great.rd
          have ss := HL.out.small.rd
          have HGG : Hid (Nat.gcd C (A % C) = G) := by show Nat.gcd C (A % C) = G; rw [gcd_turn]; exact HL.out.gcd
          have hC64 : C < 18446744073709551616 := by
            have := ss.bd (show n2 ≤ 2 by omega)
            rw [val_toL, Bp_succ, Bp_succ, Bp_zero] at this
            omega
          have hR : A % C < C := Nat.mod_lt _ (Nat.pos_of_ne_zero hC0)
          have HCA : Hid (C < Bp i) := Nat.lt_of_le_of_lt HL.out.le HL.out.bd
          have h3b : decide ((2 : Int) < (n2 : Int)) = false := by simp; omega
          have h0b : ((n2 : Int) == 0) = false := by rw [beq_eq_false_iff_ne]; omega
          clear HL
          go_wp2_with fail
          refine (divMod_k sg ss i hn1 (by omega) (by omega) (by rw [val_toL]; exact hC0)).mono ?_
          rintro e w4 ⟨qo, qn, qc, ro, rn, rc, rfl, _, sr, _, _, b4⟩
          rw [val_toL, val_toL] at sr
          have ss4 := ss.later b4
          have hrn : rn ≤ 2 := sr.ln (by rw [Bp_succ, Bp_succ, Bp_zero]; omega)
          clear sg ss
          go_wp2_with fail
          refine (word_any _ w4 a2 n2 c2 _ ss4 (by omega)).mono ?_
          rintro e w5 ⟨rfl, rfl⟩
          rw [val_toL]
          go_wp2_with fail
          refine (word_any _ w4 ro rn rc _ sr hrn).mono ?_
          rintro e w5 ⟨rfl, rfl⟩
          rw [val_toL]
          generalize A % C = Rm at *
          clear ss4 sr
          go_wp2_with fail
          refine (gcdOfWords_any w4 C Rm hC64 (by omega)).mono ?_
          rintro e w5 ⟨rfl, q5⟩
          have HG5 := HGG.out
          rw [HG5]
          have hGC : G ≤ C := by rw [← HG5]; exact Nat.gcd_le_left _ (Nat.pos_of_ne_zero hC0)
          clear HG5
          go_wp2_with fail
          refine (of_any w5 G (by omega)).mono ?_
          rintro e w6 ⟨a6, n6, c6, rfl, s6, b6⟩
          have hn6 : n6 ≤ i := s6.ln (Nat.lt_of_le_of_lt hGC HCA.out)
          have hb6 : Below w.heap.size w w6 := ((HBS.out.trans (b4.mono HBS.out.size)).trans (q5.below _)).trans (b6.mono (by rw [q5.size]; have := HBS.out.size; have := b4.size; omega))
          clear b4 b6 q5
          go_wp2
          go_ret
          exact ⟨a6, n6, c6, rfl, s6, hn6, hb6⟩
end Go.Proofs.YtbobhhnhlgdkiaaGreat

/- root.rootOf, Sqrt. -/
namespace Go.Proofs.YtbobhhnhlgdkiaaGreat
open Go.RowKit M
set_option maxRecDepth 100000

/-- 'a[k:]'. -/
theorem Sl.drop {N n cap k : Nat} {w : World} {b o : Nat} {xs : List Nat} (h : Sl N w (some ⟨b, o, none⟩) n cap xs) (hk : k ≤ n) : Sl N w (some ⟨b, o + k, none⟩) (n - k) (cap - k) (xs.drop k) :=
  ⟨by rw [List.length_drop, h.len], by have := h.le; omega, h.lim.drop k, fun hne => by
    obtain ⟨b', o', h1, h2, h3⟩ := h.there (by omega)
    simp only [Option.some.injEq, Addr.mk.injEq, and_true] at h1
    obtain ⟨rfl, rfl⟩ := h1
    exact ⟨b, o + k, rfl, h2, fun i hi => by rw [getD_drop, Nat.add_assoc]; exact h3 (k + i) (by omega)⟩, fun h => by simp at h⟩

theorem cmp_same (a b : Nat) : (cmpN a b == 0) = decide (a = b) := by
  rcases Nat.lt_trichotomy a b with h | h | h
  · rw [cmpN_lt h, decide_eq_false (by omega)]; rfl
  · rw [cmpN_eq h, decide_eq_true h]; rfl
  · rw [cmpN_gt h, decide_eq_false (by omega)]; rfl

end Go.Proofs.YtbobhhnhlgdkiaaGreat

/- root.Gcd and root.Sqrt, by their contracts gcd_k and sqrt_k. -/
