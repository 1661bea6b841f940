/- penumbraref05: Of, Zero, Cross. -/
import Derived.Test.YtbobhhnhlgdkiaaGreatJp
import Derived.Test.YtbobhhnhlgdkiaaGreatJe
import Derived.Test.YtbobhhnhlgdkiaaGreatJb
namespace Go.Proofs.YtbobhhnhlgdkiaaGreat
open Go.RowKit M Kahn
set_option maxRecDepth 100000

end Go.Proofs.YtbobhhnhlgdkiaaGreat

/- penumbraref03: Over. -/
namespace Go.Proofs.YtbobhhnhlgdkiaaGreat
open Go.RowKit M Kahn
set_option maxRecDepth 100000

set_option maxHeartbeats 4000000 in
theorem over3_any {w : World} {a b : RP} {q p : Rat} {K L : Nat} (ha0 : Qp w a q K) (hb0 : Qp w b p L) (K1 : 1 ≤ K) (L1 : 1 ≤ L) (hK : K + L + 1 ≤ 17179869184) :
    Calls Tryz.prog 55 #[.agg #[.bool a.s, .slice a.no a.nn a.nc, .slice a.eo a.en a.ec], .agg #[.bool b.s, .slice b.no b.nn b.nc, .slice b.eo b.en b.ec]] w (Gq w (K + L) (q / p)) := by
  obtain ⟨w0, hw0, x0, x1, x2, b0⟩ := box3 w (.bool a.s) (.slice a.no a.nn a.nc) (.slice a.eo a.en a.ec) (.bool b.s) (.slice b.no b.nn b.nc) (.slice b.eo b.en b.ec)
  have ha := ha0.later b0
  have hb := hb0.later b0
  clear ha0 hb0
  obtain ⟨c0, c1, c2⟩ := x0.cells
  obtain ⟨d0, d1, d2⟩ := x1.cells
  rw [hw0] at c0 c1 c2 d0 d1 d2
  obtain ⟨g2, hg2⟩ : ∃ g2, g2 = w.heap.size + 2 := ⟨_, rfl⟩
  have HG : Hid (w.heap.size ≤ g2) := by show w.heap.size ≤ g2; omega
  go_enter Tryz.func55, Tryz.ntmps55
  go_wp2_with fail
  rw [← hw0, ← hg2]
  rw [← hg2] at x2
  clear c0 c1 c2 d0 d1 d2
  refine (div3_any w0 a.s a.no a.nn a.nc a.eo a.en a.ec b.s b.no b.nn b.nc b.eo b.en b.ec K L q p ha hb K1 L1 hK).mono ?_
  rintro e w1 ⟨s1, no1, nn1, nc1, eo1, en1, ec1, rfl, cq, lb⟩
  replace x2 := x2.later lb
  replace b0 := b0.trans (lb.mono b0.size)
  obtain ⟨r0, r1, r2⟩ := x2.cells
  have f0 := x2.free 0
  have f1 := x2.free 1
  have f2 := x2.free 2
  have fr := Rb.putFr g2 w1 (.bool s1) (.slice no1 nn1 nc1) (.slice eo1 en1 ec1)
  have yb := x2.put (.bool s1) (.slice no1 nn1 nc1) (.slice eo1 en1 ec1)
  have cs := cq.store x2 fr
  have hlt := x2.lt
  clear hw0 hg2 x0 x1 ha hb lb
  go_wp2
  have B2 := b0.trans (fr.below HG.out)
  generalize ((w1.setCell ⟨g2, 0, none⟩ (.bool s1)).setCell ⟨g2, 1, none⟩ (.slice no1 nn1 nc1)).setCell ⟨g2, 2, none⟩ (.slice eo1 en1 ec1) = w2 at *
  have lc : Below w2.heap.size w2 (w2.alloc (.cells #[.bool s1, .slice no1 nn1 nc1, .slice eo1 en1 ec1] 24)) := (Below.refl _ _).alloc (Nat.le_refl _) _
  exact ret_rat rfl rfl rfl (yb.later lc) ⟨s1, no1, nn1, nc1, eo1, en1, ec1, rfl, cs.later lc, B2.trans (lc.mono B2.size)⟩
end Go.Proofs.YtbobhhnhlgdkiaaGreat

/- penumbraref05: Unit. -/
namespace Go.Proofs.YtbobhhnhlgdkiaaGreat
open Go.RowKit M Kahn
set_option maxRecDepth 100000

/-- Is there a length; the direction's numbers; the length. -/
def uok (n : Rat) : Bool := qsq n && decide (qsqrt n ≠ 0)
def uv (n x : Rat) : Rat := if uok n then 1 / qsqrt n * x else 0
/-- All blocks but g stay; it is a Vec. -/
structure BX (g : Nat) (w u : World) : Prop where
  os : u.os = w.os
  tape : u.tape = w.tape
  output : u.output = w.output
  size : w.heap.size ≤ u.heap.size
  block : ∀ k, k < w.heap.size → k ≠ g → u.heap[k]? = w.heap[k]?
  lt : g < w.heap.size
  vec : ∃ a b c, Vb u g a b c
section
variable {g : Nat} {w u u' : World} {a b c : RP}
theorem BX.start (h : Vb w g a b c) : BX g w { w with drawn := w.drawn + 1 } := ⟨rfl, rfl, rfl, Nat.le_refl _, fun _ _ _ => rfl, h.lt, a, b, c, ⟨h.at_⟩⟩
theorem BX.trans (h : BX g w u) (hb : Below w.heap.size u u') : BX g w u' := by
  obtain ⟨a, b, c, hv⟩ := h.vec
  exact ⟨hb.os.trans h.os, hb.tape.trans h.tape, hb.output.trans h.output, Nat.le_trans h.size hb.size, fun k hk hne => (hb.block k hk).trans (h.block k hk hne), h.lt, a, b, c, hv.keep (hb.block g h.lt)⟩
theorem BX.store (h : BX g w u) (hf : Fr g u u') (hv : Vb u' g a b c) : BX g w u' :=
  ⟨hf.os.trans h.os, hf.tape.trans h.tape, hf.output.trans h.output, by rw [hf.size]; exact h.size, fun k hk hne => (hf.block k hne).trans (h.block k hk hne), h.lt, a, b, c, hv⟩
theorem BX.below {N : Nat} (h : BX g w u) (hN : N ≤ g) : Below N w u := ⟨h.os, h.tape, h.output, h.size, fun k hk => h.block k (by have := h.lt; omega) (by omega)⟩
theorem Sl.bx {ao : Option Addr} {n cap : Nat} {xs : List Nat} (h : Sl w.heap.size w ao n cap xs) (hv : Vb w g a b c) (hx : BX g w u) : Sl u.heap.size u ao n cap xs := by
  refine ⟨h.len, h.le, h.lim, fun h0 => ?_, h.nilc⟩
  obtain ⟨k, o, e1, e2, e3⟩ := h.there h0
  have hne : k ≠ g := by
    intro he
    subst he
    have hc := e3 0 h0
    rw [Nat.add_zero, cell_of_row w k o _ _ _ hv.at_] at hc
    have hm := Array.mem_of_getElem? hc
    simp at hm
  exact ⟨k, o, e1, Nat.lt_of_lt_of_le e2 hx.size, fun i hi => (World.cell?_of_block (w := w) (a := ⟨k, o + i, none⟩) (hx.block k e2 hne)).trans (e3 i hi)⟩
theorem Qn.bx {s : Bool} {no : Option Addr} {nn nc : Nat} {eo : Option Addr} {en ec : Nat} {q : Rat} {K : Nat} (h : Qn w s no nn nc eo en ec q K) (hv : Vb w g a b c) (hx : BX g w u) : Qn u s no nn nc eo en ec q K := by
  obtain ⟨xs, ys, h1, h2, h3⟩ := h.there
  exact ⟨⟨xs, ys, h1.bx hv hx, h2.bx hv hx, h3⟩, h.ln, h.ld⟩
theorem Cq.bx {s : Bool} {no : Option Addr} {nn nc : Nat} {eo : Option Addr} {en ec : Nat} {q : Rat} {K : Nat} (h : Cq w s no nn nc eo en ec q K) (hv : Vb w g a b c) (hx : BX g w u) : Cq u s no nn nc eo en ec q K := ⟨h.sgn, h.num.bx hv hx, h.den.bx hv hx, h.ln, h.ld⟩
theorem Qv.bx {x y z : RP} {p q r : Rat} {K : Nat} (h : Qv w x y z p q r K) (hv : Vb w g a b c) (hx : BX g w u) : Qv u x y z p q r K := ⟨h.x.bx hv hx, h.y.bx hv hx, h.z.bx hv hx⟩
/-- A store of a Vec into block g. -/
def StV (g : Nat) (u u' : World) : Prop := (∃ a b c, Vb u g a b c) ∧ Fr g u u'
def LastsV (g : Nat) (φ : Value → World → Prop) : Prop := ∀ v u u', StV g u u' → φ v u → φ v u'
/-- Block g holds the Vec v. -/
def VSg (g : Nat) : Value → World → Prop := fun v u => ∃ a b c : RP, v = .agg #[.bool a.s, .slice a.no a.nn a.nc, .slice a.eo a.en a.ec, .bool b.s, .slice b.no b.nn b.nc, .slice b.eo b.en b.ec, .bool c.s, .slice c.no c.nn c.nc, .slice c.eo c.en c.ec] ∧ Vb u g a b c
theorem VSg.lasts (g : Nat) : Lasts (VSg g) := fun _ _ _ hb ⟨a, b, c, h1, h2⟩ => ⟨a, b, c, h1, h2.later hb⟩
def LstV (g m : Nat) : Nat → List (Value → World → Prop) → Prop
  | _, [] => True
  | k, φ :: l => (k ≠ m → LastsV g φ) ∧ LstV g m (k + 1) l
theorem LstV.get {m : Nat} : ∀ {l : List (Value → World → Prop)} {k : Nat}, LstV g m k l → ∀ i φ, l[i]? = some φ → k + i ≠ m → LastsV g φ
  | [], _, _, i, φ, h, _ => by simp at h
  | _ :: _, k, hl, 0, φ, h, hm => by
    simp at h
    subst h
    exact hl.1 hm
  | _ :: l, k, hl, i + 1, φ, h, hm => LstV.get (k := k + 1) hl.2 i φ (by simpa using h) (by omega)
end
end Go.Proofs.YtbobhhnhlgdkiaaGreat

/- How long numbers can be: by value. -/
namespace Go.Proofs.YtbobhhnhlgdkiaaGreat
open Go.RowKit M Kahn
set_option maxRecDepth 100000

/-- Numerator and denominator have at most K limbs. -/
def Bd (q : Rat) (K : Nat) : Prop := q.num.natAbs < Bp K ∧ q.den < Bp K
theorem Bd.one {q : Rat} {K : Nat} (h : Bd q K) : 1 ≤ K := by
  rcases Nat.eq_zero_or_pos K with rfl | hk
  · have h2 := h.2
    have := q.den_pos
    have h0 : Bp 0 = 1 := rfl
    omega
  · exact hk
theorem Bd.mono {q : Rat} {K L : Nat} (h : Bd q K) (hk : K ≤ L) : Bd q L := ⟨Nat.lt_of_lt_of_le h.1 (Bp_mono hk), Nat.lt_of_lt_of_le h.2 (Bp_mono hk)⟩
theorem Bd.mul {q p : Rat} {K L : Nat} (h : Bd q K) (h' : Bd p L) : Bd (q * p) (K + L) := by
  have m1 := Nat.mul_lt_mul'' h.1 h'.1
  have m2 := Nat.mul_lt_mul'' h.2 h'.2
  rw [← Bp_add] at m1 m2
  rw [← rq_self q, ← rq_self p, rq_mul]
  exact num_bd m1 m2 (by have := h.one; omega)
theorem Bd.add {q p : Rat} {K L : Nat} (h : Bd q K) (h' : Bd p L) : Bd (q + p) (K + L + 1) := by
  have m1 := Nat.mul_lt_mul'' h.1 h'.2
  have m2 := Nat.mul_lt_mul'' h'.1 h.2
  have m3 := Nat.mul_lt_mul'' h.2 h'.2
  rw [Nat.mul_comm (Bp L) (Bp K)] at m2
  rw [← Bp_add] at m1 m2 m3
  have hB := Bp_succ (K + L)
  have hp : 0 < Bp (K + L) := Bp_pos _
  have hs := rq_add_any (s := decide (q.num < 0)) (t := decide (p.num < 0)) (X := q.num.natAbs) (U := p.num.natAbs) q.den_nz p.den_nz (psg_pab _ _ (q.num.natAbs * p.den) (p.num.natAbs * q.den))
  rw [rq_self, rq_self] at hs
  rw [← hs]
  refine num_bd ?_ (by omega) (by omega)
  have : pab (decide (q.num < 0)) (decide (p.num < 0)) (q.num.natAbs * p.den) (p.num.natAbs * q.den) ≤ q.num.natAbs * p.den + p.num.natAbs * q.den := by unfold pab; split <;> (try split) <;> omega
  omega
theorem Bd.neg {q : Rat} {K : Nat} (h : Bd q K) : Bd (-q) K := by
  refine ⟨?_, h.2⟩
  rw [Rat.neg_num, Int.natAbs_neg]
  exact h.1
theorem Bd.sub {q p : Rat} {K L : Nat} (h : Bd q K) (h' : Bd p L) : Bd (q - p) (K + L + 1) := by
  rw [Rat.sub_eq_add_neg]
  exact h.add h'.neg
theorem Cq.tb {w : World} {s : Bool} {no : Option Addr} {nn nc : Nat} {eo : Option Addr} {en ec : Nat} {q : Rat} {K K' : Nat} (h : Cq w s no nn nc eo en ec q K) (hb : Bd q K') : Cq w s no nn nc eo en ec q K' := h.tight hb.1 hb.2
theorem Cv.tb {w : World} {a b c : RP} {p q r : Rat} {K K' : Nat} (h : Cv w a b c p q r K) (h1 : Bd p K') (h2 : Bd q K') (h3 : Bd r K') : Cv w a b c p q r K' := ⟨h.x.tb h1, h.y.tb h2, h.z.tb h3⟩
end Go.Proofs.YtbobhhnhlgdkiaaGreat
