/- Vecs in memory; what a call that hands one back leaves. -/
import Derived.Test.YtbobhhnhlgdkiaaGreatJ9
namespace Go.Proofs.YtbobhhnhlgdkiaaGreat
open Go.RowKit M Kahn

abbrev Qp (u : World) (r : RP) (q : Rat) (K : Nat) : Prop := Qn u r.s r.no r.nn r.nc r.eo r.en r.ec q K
abbrev Cp (u : World) (r : RP) (q : Rat) (K : Nat) : Prop := Cq u r.s r.no r.nn r.nc r.eo r.en r.ec q K
/-- Block g is a Vec: its nine cells. -/
structure Vb (w : World) (g : Nat) (a b c : RP) : Prop where
  at_ : w.heap[g]? = some (.cells #[.bool a.s, .slice a.no a.nn a.nc, .slice a.eo a.en a.ec, .bool b.s, .slice b.no b.nn b.nc, .slice b.eo b.en b.ec, .bool c.s, .slice c.no c.nn c.nc, .slice c.eo c.en c.ec] 26 (0, 0))
def zRP : RP := ⟨false, none, 0, 0, none, 0, 0⟩
section
variable {w w' : World} {g : Nat} {a b c : RP}
theorem Vb.lt (h : Vb w g a b c) : g < w.heap.size := (Array.getElem?_eq_some_iff.1 h.at_).1
theorem Vb.c0 (h : Vb w g a b c) : w.cell? ⟨g, 0, none⟩ = some (.bool a.s) ∧ w.cell? ⟨g, 1, none⟩ = some (.slice a.no a.nn a.nc) ∧ w.cell? ⟨g, 2, none⟩ = some (.slice a.eo a.en a.ec) :=
  ⟨by rw [cell_of_row w g 0 _ _ _ h.at_]; rfl, by rw [cell_of_row w g 1 _ _ _ h.at_]; rfl, by rw [cell_of_row w g 2 _ _ _ h.at_]; rfl⟩
theorem Vb.c1 (h : Vb w g a b c) : w.cell? ⟨g, 3, none⟩ = some (.bool b.s) ∧ w.cell? ⟨g, 4, none⟩ = some (.slice b.no b.nn b.nc) ∧ w.cell? ⟨g, 5, none⟩ = some (.slice b.eo b.en b.ec) :=
  ⟨by rw [cell_of_row w g 3 _ _ _ h.at_]; rfl, by rw [cell_of_row w g 4 _ _ _ h.at_]; rfl, by rw [cell_of_row w g 5 _ _ _ h.at_]; rfl⟩
theorem Vb.c2 (h : Vb w g a b c) : w.cell? ⟨g, 6, none⟩ = some (.bool c.s) ∧ w.cell? ⟨g, 7, none⟩ = some (.slice c.no c.nn c.nc) ∧ w.cell? ⟨g, 8, none⟩ = some (.slice c.eo c.en c.ec) :=
  ⟨by rw [cell_of_row w g 6 _ _ _ h.at_]; rfl, by rw [cell_of_row w g 7 _ _ _ h.at_]; rfl, by rw [cell_of_row w g 8 _ _ _ h.at_]; rfl⟩
theorem Vb.free (h : Vb w g a b c) (i : Nat) : w.frozen? ⟨g, i, none⟩ = false := frozen_of_row w g i _ _ h.at_
theorem Vb.keep (h : Vb w g a b c) (hb : w'.heap[g]? = w.heap[g]?) : Vb w' g a b c := ⟨by rw [hb]; exact h.at_⟩
theorem Vb.later (h : Vb w g a b c) (hb : Below w.heap.size w w') : Vb w' g a b c := h.keep (hb.block g h.lt)
/-- The world behind a store of a whole Vec. -/
def putV (w : World) (g : Nat) (x y z : RP) : World := (((((((((w.setCell ⟨g, 0, none⟩ (.bool x.s)).setCell ⟨g, 1, none⟩ (.slice x.no x.nn x.nc)).setCell ⟨g, 2, none⟩ (.slice x.eo x.en x.ec)).setCell ⟨g, 3, none⟩ (.bool y.s)).setCell ⟨g, 4, none⟩ (.slice y.no y.nn y.nc)).setCell ⟨g, 5, none⟩ (.slice y.eo y.en y.ec)).setCell ⟨g, 6, none⟩ (.bool z.s)).setCell ⟨g, 7, none⟩ (.slice z.no z.nn z.nc)).setCell ⟨g, 8, none⟩ (.slice z.eo z.en z.ec))
theorem Vb.put (h : Vb w g a b c) (x y z : RP) : Vb (putV w g x y z) g x y z := ⟨by
  have a0 := heap_setCell_same w g 0 _ _ (.bool x.s) h.at_
  have a1 := heap_setCell_same _ g 1 _ _ (.slice x.no x.nn x.nc) a0
  have a2 := heap_setCell_same _ g 2 _ _ (.slice x.eo x.en x.ec) a1
  have a3 := heap_setCell_same _ g 3 _ _ (.bool y.s) a2
  have a4 := heap_setCell_same _ g 4 _ _ (.slice y.no y.nn y.nc) a3
  have a5 := heap_setCell_same _ g 5 _ _ (.slice y.eo y.en y.ec) a4
  have a6 := heap_setCell_same _ g 6 _ _ (.bool z.s) a5
  have a7 := heap_setCell_same _ g 7 _ _ (.slice z.no z.nn z.nc) a6
  have a8 := heap_setCell_same _ g 8 _ _ (.slice z.eo z.en z.ec) a7
  simp only [List.setIfInBounds_toArray, List.set_cons_succ, List.set_cons_zero] at a8
  unfold putV
  exact a8⟩
theorem putV.fr (g : Nat) (w : World) (x y z : RP) : Fr g w (putV w g x y z) := (((((((((Fr.refl g w).set 0 (.bool x.s)).set 1 (.slice x.no x.nn x.nc)).set 2 (.slice x.eo x.en x.ec)).set 3 (.bool y.s)).set 4 (.slice y.no y.nn y.nc)).set 5 (.slice y.eo y.en y.ec)).set 6 (.bool z.s)).set 7 (.slice z.no z.nn z.nc)).set 8 (.slice z.eo z.en z.ec)
theorem Vb.alloc (w : World) (a b c : RP) : Vb (w.alloc (.cells #[.bool a.s, .slice a.no a.nn a.nc, .slice a.eo a.en a.ec, .bool b.s, .slice b.no b.nn b.nc, .slice b.eo b.en b.ec, .bool c.s, .slice c.no c.nn c.nc, .slice c.eo c.en c.ec] 26)) w.heap.size a b c := ⟨heap_alloc_new _ _⟩
/-- Three Rats that are read as these numbers; .. that are the canonical ones. -/
structure Qv (w : World) (a b c : RP) (p q r : Rat) (K : Nat) : Prop where
  x : Qp w a p K
  y : Qp w b q K
  z : Qp w c r K
structure Cv (w : World) (a b c : RP) (p q r : Rat) (K : Nat) : Prop where
  x : Cp w a p K
  y : Cp w b q K
  z : Cp w c r K
section
variable {p q r : Rat} {K : Nat}
theorem Qv.later (h : Qv w a b c p q r K) (hb : Below w.heap.size w w') : Qv w' a b c p q r K := ⟨h.x.later hb, h.y.later hb, h.z.later hb⟩
theorem Cv.later (h : Cv w a b c p q r K) (hb : Below w.heap.size w w') : Cv w' a b c p q r K := ⟨h.x.later hb, h.y.later hb, h.z.later hb⟩
theorem Cv.rd (h : Cv w a b c p q r K) : Qv w a b c p q r K := ⟨h.x.rd, h.y.rd, h.z.rd⟩
theorem Cv.mono {K' : Nat} (h : Cv w a b c p q r K) (hk : K ≤ K') : Cv w a b c p q r K' := ⟨h.x.mono hk, h.y.mono hk, h.z.mono hk⟩
theorem Qv.mono {K' : Nat} (h : Qv w a b c p q r K) (hk : K ≤ K') : Qv w a b c p q r K' := ⟨h.x.mono hk, h.y.mono hk, h.z.mono hk⟩
end
/-- The canonical Vec of three numbers. -/
def VG (p q r : Rat) (K : Nat) : Value → World → Prop := fun v u => ∃ a b c : RP, v = .agg #[.bool a.s, .slice a.no a.nn a.nc, .slice a.eo a.en a.ec, .bool b.s, .slice b.no b.nn b.nc, .slice b.eo b.en b.ec, .bool c.s, .slice c.no c.nn c.nc, .slice c.eo c.en c.ec] ∧ Cv u a b c p q r K
theorem VG.lasts (p q r : Rat) (K : Nat) : Lasts (VG p q r K) := fun _ _ _ hb ⟨a, b, c, h1, h2⟩ => ⟨a, b, c, h1, h2.later hb⟩
end
end Go.Proofs.YtbobhhnhlgdkiaaGreat

/- penumbraref05: Read, Add, Sub, Scale, Dot. -/
namespace Go.Proofs.YtbobhhnhlgdkiaaGreat
open Go.RowKit M Kahn

end Go.Proofs.YtbobhhnhlgdkiaaGreat

/- penumbraref05: Is, Zero, Of. -/
namespace Go.Proofs.YtbobhhnhlgdkiaaGreat
open Go.RowKit M Kahn
set_option maxRecDepth 100000

theorem cq_iff {u : World} {a b : RP} {p q : Rat} {K L : Nat} (h : Cp u a p K) (h' : Cp u b q L) : (a.s = b.s ∧ toL p.num.natAbs = toL q.num.natAbs ∧ toL p.den = toL q.den) ↔ p = q := by
  constructor
  · rintro ⟨h1, h2, h3⟩
    rw [h.sgn, h'.sgn] at h1
    have h2 := toL_inj h2
    have h3 := toL_inj h3
    rw [← rq_self p, ← rq_self q, h1, h2, h3]
  · rintro rfl
    exact ⟨by rw [h.sgn, h'.sgn], rfl, rfl⟩
end Go.Proofs.YtbobhhnhlgdkiaaGreat
