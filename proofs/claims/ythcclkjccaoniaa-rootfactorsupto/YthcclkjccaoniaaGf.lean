/- root.difference.next. -/
import Derived.Test.YthcclkjccaoniaaGe
namespace Go.Proofs.Ythcclkjccaoniaa
open Go.RowKit M

/-- Block g is a difference: what it carries. -/
structure Df (w : World) (g p q b : Nat) : Prop where
  at_ : w.heap[g]? = some (.cells #[.int .u64 (p : Int), .int .u64 (q : Int), .int .u32 (b : Int)] 69 (0, 0))

theorem Df.cells {w : World} {g p q b : Nat} (h : Df w g p q b) : w.cell? ⟨g, 0, none⟩ = some (.int .u64 (p : Int)) ∧ w.cell? ⟨g, 1, none⟩ = some (.int .u64 (q : Int)) ∧ w.cell? ⟨g, 2, none⟩ = some (.int .u32 (b : Int)) :=
  ⟨by rw [cell_of_row w g 0 _ _ _ h.at_]; rfl, by rw [cell_of_row w g 1 _ _ _ h.at_]; rfl, by rw [cell_of_row w g 2 _ _ _ h.at_]; rfl⟩
theorem Df.free {w : World} {g p q b : Nat} (h : Df w g p q b) (i : Nat) : w.frozen? ⟨g, i, none⟩ = false := frozen_of_row w g i _ _ h.at_
theorem Df.set0 {w : World} {g p q b : Nat} (h : Df w g p q b) (x : Nat) : Df (w.setCell ⟨g, 0, none⟩ (.int .u64 (x : Int))) g x q b := ⟨by
  rw [heap_setCell_same w g 0 _ _ _ h.at_]; rfl⟩
theorem Df.set1 {w : World} {g p q b : Nat} (h : Df w g p q b) (x : Nat) : Df (w.setCell ⟨g, 1, none⟩ (.int .u64 (x : Int))) g p x b := ⟨by
  rw [heap_setCell_same w g 1 _ _ _ h.at_]; rfl⟩
theorem Df.set2 {w : World} {g p q b : Nat} (h : Df w g p q b) (x : Nat) : Df (w.setCell ⟨g, 2, none⟩ (.int .u32 (x : Int))) g p q x := ⟨by
  rw [heap_setCell_same w g 2 _ _ _ h.at_]; rfl⟩
theorem Df.lt {w : World} {g p q b : Nat} (h : Df w g p q b) : g < w.heap.size := (Array.getElem?_eq_some_iff.1 h.at_).1
theorem Df.keep {w w' : World} {g p q b : Nat} (h : Df w g p q b) (hb : w'.heap[g]? = w.heap[g]?) : Df w' g p q b := ⟨by rw [hb]; exact h.at_⟩
theorem Df.qt {w w' : World} {g p q b : Nat} (h : Df w g p q b) (k : Qt w w') : Df w' g p q b := h.keep (by rw [k.heap])

set_option maxHeartbeats 1000000 in
theorem dnext_any (w : World) (g p q b x y : Nat) (hb : Df w g p q b)
    (hp : p < 4294967296) (hq : q < 4294967296) (hb1 : b ≤ 1) (hx : x ≤ 18446744065119617025) (hy : y ≤ 18446744065119617025) :
    Calls Try.prog 57 #[.pointer (some ⟨g, 0, none⟩), .int .u64 (x : Int), .int .u64 (y : Int)] w fun e w' => ∃ v b' : Nat, e = .returned (.int .u32 (v : Int)) ∧ v < 4294967296 ∧ b' ≤ 1 ∧
      v + ((q + y) % 4294967296 + b) = (p + x) % 4294967296 + 4294967296 * b' ∧ Df w' g ((p + x) / 4294967296) ((q + y) / 4294967296) b' ∧ Fr g w w' := by
  obtain ⟨c0, c1, c2⟩ := hb.cells
  have f0 := hb.free 0
  have f1 := hb.free 1
  have f2 := hb.free 2
  have HB : Hid _ := hb
  clear hb
  go_enter Try.func57, Try.ntmps57
  go_wp2
  have d1 := (HB.out.set0 (p + x)).set1 (q + y)
  have r1 := ((Fr.refl g w).set 0 (.int .u64 ((p + x : Nat) : Int))).set 1 (.int .u64 ((q + y : Nat) : Int))
  rw [Int.natCast_add, Int.natCast_add] at d1 r1
  generalize (w.setCell ⟨g, 0, none⟩ (.int .u64 ((p : Int) + (x : Int)))).setCell ⟨g, 1, none⟩ (.int .u64 ((q : Int) + (y : Int))) = w1 at d1 r1 ⊢
  clear c0 c1 c2 f0 f1 f2 HB
  obtain ⟨X, hX⟩ : ∃ X, X = p + x := ⟨_, rfl⟩
  obtain ⟨Y, hY⟩ : ∃ Y, Y = q + y := ⟨_, rfl⟩
  rw [← Int.natCast_add, ← Int.natCast_add, ← hX, ← hY]
  rw [← hX, ← hY] at d1
  have hX1 : X < 18446744073709551616 := by omega
  have hY1 : Y < 18446744073709551616 := by omega
  obtain ⟨c0, c1, c2⟩ := d1.cells
  obtain ⟨v, b2, ev, eb, hv, hb2, he⟩ := sub_step (x := X % 4294967296) (y := Y % 4294967296) (c := b) (by omega) (by omega) hb1
  have hc : ∀ u, Calls Try.prog 62 #[.int .u32 ((X : Int) % 4294967296), .int .u32 ((Y : Int) % 4294967296), .int .u32 (b : Int)] u fun e w' => e = .returned (.tuple #[.int .u32 (v : Int), .int .u32 (b2 : Int)]) ∧ w' = u := by
    intro u
    refine (sub32_any _ _ _ u (by omega) (by omega) (by omega) (by omega) (by omega) (by omega)).mono ?_
    rintro e w' ⟨rfl, rfl⟩
    refine ⟨?_, rfl⟩
    rw [show (X : Int) % 4294967296 = ((X % 4294967296 : Nat) : Int) from by omega, show (Y : Int) % 4294967296 = ((Y % 4294967296 : Nat) : Int) from by omega, ev, eb]
  have HC : Hid _ := hc
  have HE : Hid _ := he
  have HXE : Hid (X = p + x) := hX
  have HYE : Hid (Y = q + y) := hY
  have D1 : Hid _ := d1
  have R1 : Hid _ := r1
  clear hc he ev eb d1 r1 hX hY
  have w32x : IntKind.u32.wrap (X : Int) = (X : Int) % 4294967296 := IntKind.wrap_u32 _
  have w32y : IntKind.u32.wrap (Y : Int) = (Y : Int) % 4294967296 := IntKind.wrap_u32 _
  go_quiet ((go_at_call 62; exact Calls.quiet_of_same (HC.out _)))
  have D2 : Df (w1.drewN nq) g X Y b := D1.out.qt ((Qt.refl _).drewN _)
  have R2 : Fr g w (w1.drewN nq) := R1.out.qt ((Qt.refl _).drewN _)
  generalize w1.drewN nq = w2 at D2 R2 ⊢
  clear c0 c1 c2 D1 R1
  obtain ⟨c0, c1, c2⟩ := D2.cells
  have f0 := D2.free 0
  have f1 := D2.free 1
  have f2 := D2.free 2
  have D3 : Hid _ := D2
  have R3 : Hid _ := R2
  clear D2 R2 HC w32x w32y
  go_wp2
  go_ret
  have e1 : (X : Int) / 4294967296 = ((X / 4294967296 : Nat) : Int) := by omega
  have e2 : (Y : Int) / 4294967296 = ((Y / 4294967296 : Nat) : Int) := by omega
  rw [e1, e2, ← HXE.out, ← HYE.out]
  exact ⟨v, b2, rfl, hv, hb2, by have := HE.out; omega, ((D3.out.set0 _).set1 _).set2 _, ((R3.out.set _ _).set _ _).set _ _⟩
end Go.Proofs.Ythcclkjccaoniaa
