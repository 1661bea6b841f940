/- penumbraref03: Mul. -/
import Derived.Test.YtmoicmjljflcgaaJ8
namespace Go.Proofs.Ytmoicmjljflcgaa
open Go.RowKit M Kahn
set_option maxRecDepth 100000

end Go.Proofs.Ytmoicmjljflcgaa

/- penumbraref03: Add, Sub, Cmp. -/
namespace Go.Proofs.Ytmoicmjljflcgaa
open Go.RowKit M Kahn
set_option maxRecDepth 100000

end Go.Proofs.Ytmoicmjljflcgaa

/- penumbraref03: Sub, Cmp, Div. -/
namespace Go.Proofs.Ytmoicmjljflcgaa
open Go.RowKit M Kahn
set_option maxRecDepth 100000


/-- What a call leaves that hands back a number and whether there is one. -/
def Gqb (w : World) (K : Nat) (q : Rat) (b : Bool) (e : Ending) (w' : World) : Prop :=
  ∃ s no nn nc eo en ec, e = .returned (.tuple #[.agg #[.bool s, .slice no nn nc, .slice eo en ec], .bool b]) ∧ Cq w' s no nn nc eo en ec q K ∧ Below w.heap.size w w'
theorem ret_store2 {fn : Func} {p t : Tmp} {act : Act} {w u : World} {g K : Nat} {q : Rat} {b s : Bool} {no : Option Addr} {nn nc : Nat} {eo : Option Addr} {en ec : Nat} (h : fn.results = #[.cell p 24, .tmp t]) (hp : act.tmps.getD p undef = .pointer (some ⟨g, 0, none⟩)) (ht : act.tmps.getD t undef = .bool b) (hd : act.defers = [])
    (hb : Rb u g (.bool false) (.slice none 0 0) (.slice none 0 0)) (hg : w.heap.size ≤ g) (hc : Cq u s no nn nc eo en ec q K) (h5 : Below w.heap.size w u) :
    bodyPost Try.prog fn (Gqb w K q b) .ret act (((u.setCell ⟨g, 0, none⟩ (.bool s)).setCell ⟨g, 1, none⟩ (.slice no nn nc)).setCell ⟨g, 2, none⟩ (.slice eo en ec)) := by
  have fr := Rb.putFr g u (.bool s) (.slice no nn nc) (.slice eo en ec)
  exact ret_rat2 h hp ht hd (hb.put _ _ _) ⟨s, no, nn, nc, eo, en, ec, rfl, hc.store hb fr, h5.trans (fr.below hg)⟩

end Go.Proofs.Ytmoicmjljflcgaa

/- penumbraref03: One, abs, Of, Floor, Sqrt. -/
namespace Go.Proofs.Ytmoicmjljflcgaa
open Go.RowKit M Kahn
set_option maxRecDepth 100000

set_option maxHeartbeats 400000 in
theorem abs3i_any (w : World) (z : Int) (h1 : -9223372036854775808 ≤ z) (h2 : z ≤ 9223372036854775807) : Calls Try.prog 58 #[.int .i64 z] w (Gv w 2 (toL z.natAbs)) := by
  by_cases hz : z < 0
  · have hc := rof_k (w := w) (x := z.natAbs) (by omega)
    rw [show ((z.natAbs : Nat) : Int) = -(z + 1) + 1 from by omega] at hc
    have HC : Hid _ := hc
    clear hc
    go_enter Try.func58, Try.ntmps58
    go_wp2_with fail
    refine Calls.mono HC.out ?_
    rintro e w1 ⟨ao, n, c, rfl, s1, l1, b1⟩
    go_wp2
    go_ret
    exact ⟨ao, n, c, rfl, s1, l1, b1⟩
  · have hc := rof_k (w := w) (x := z.natAbs) (by omega)
    rw [show ((z.natAbs : Nat) : Int) = z from by omega] at hc
    have HC : Hid _ := hc
    have hz2 : 0 ≤ z := by omega
    clear hc hz
    go_enter Try.func58, Try.ntmps58
    go_wp2_with fail
    refine Calls.mono HC.out ?_
    rintro e w1 ⟨ao, n, c, rfl, s1, l1, b1⟩
    go_wp2
    go_ret
    exact ⟨ao, n, c, rfl, s1, l1, b1⟩

theorem rq_of (n d : Int) : rq (decide (n < 0) != decide (d < 0)) n.natAbs d.natAbs = (n : Rat) / (d : Rat) := by
  have h1 : ∀ z : Int, (z : Rat) = rq (decide (z < 0)) z.natAbs 1 := by
    intro z
    rw [rq_one]
    congr 1
    unfold sg
    by_cases h : z < 0
    · simp [h]; omega
    · simp [h]; omega
  rw [h1 n, h1 d, Rat.div_def, rq_inv, rq_mul, Nat.mul_one, Nat.one_mul]

set_option maxHeartbeats 1000000 in
theorem of3_any (w : World) (n d : Int) (h1 : -9223372036854775808 ≤ n) (h2 : n ≤ 9223372036854775807) (h3 : -9223372036854775808 ≤ d) (h4 : d ≤ 9223372036854775807) :
    Calls Try.prog 44 #[.int .i64 n, .int .i64 d] w (Gq w 2 ((n : Rat) / (d : Rat))) := by
  have HQ : Hid (rq (decide (n < 0) != decide (d < 0)) n.natAbs d.natAbs = (n : Rat) / (d : Rat)) := rq_of n d
  have C1 : Hid (∀ u, Calls Try.prog 58 #[.int .i64 n] u (Gv u 2 (toL n.natAbs))) := fun u => abs3i_any u n h1 h2
  have C2 : Hid (∀ u, Calls Try.prog 58 #[.int .i64 d] u (Gv u 2 (toL d.natAbs))) := fun u => abs3i_any u d h3 h4
  have rs0 : Rb (w.alloc (.cells #[.bool false, .slice none 0 0, .slice none 0 0] 24)) w.heap.size (.bool false) (.slice none 0 0) (.slice none 0 0) := ⟨heap_alloc_new _ _⟩
  have b0 : Below w.heap.size w (w.alloc (.cells #[.bool false, .slice none 0 0, .slice none 0 0] 24)) := (Below.refl _ _).alloc (Nat.le_refl _) _
  rcases (show (n < 0 ∧ d < 0) ∨ (n < 0 ∧ 0 ≤ d) ∨ (0 ≤ n ∧ d < 0) ∨ (0 ≤ n ∧ 0 ≤ d) from by omega) with ⟨hn, hd⟩ | ⟨hn, hd⟩ | ⟨hn, hd⟩ | ⟨hn, hd⟩
  · have dn : decide (0 ≤ n) = false := by simp; omega
    have dd : decide (0 ≤ d) = false := by simp; omega
    have en : decide (n < 0) = true := by simp; omega
    have ed : decide (d < 0) = true := by simp; omega
    have HS : Hid (rq false n.natAbs d.natAbs = (n : Rat) / (d : Rat)) := by
      have := HQ.out
      rw [en, ed] at this
      exact this
    generalize (n : Rat) / (d : Rat) = q at *
    go_enter Try.func44, Try.ntmps44
    go_wp2_with fail
    generalize w.alloc (.cells #[.bool false, .slice none 0 0, .slice none 0 0] 24) = w0 at *
    refine Calls.mono (C1.out w0) ?_
    rintro e w1 ⟨xo, xn, xc, rfl, sx, lx, b1⟩
    go_wp2_with fail
    refine Calls.mono (C2.out w1) ?_
    rintro e w2 ⟨yo, yn, yc, rfl, sy, ly, b2⟩
    have sx2 := sx.later b2
    have bb := (b0.trans (b1.mono b0.size)).trans (b2.mono (by have := b0.size; have := b1.size; omega))
    have rs2 := (rs0.later b1).later b2
    clear sx b1 b2 b0 rs0
    go_wp2_with fail
    refine (read3_any w2 false xo xn xc yo yn yc 2 q ⟨⟨_, _, sx2, sy, by rw [val_toL, val_toL]; exact HS.out⟩, lx, ly⟩ (by omega) (by omega)).mono ?_
    rintro e w3 ⟨s1, no1, nn1, nc1, eo1, en1, ec1, rfl, cq, lb⟩
    have rs1 := rs2.later lb
    obtain ⟨r0, r1, r2⟩ := rs1.cells
    have f0 := rs1.free 0
    have f1 := rs1.free 1
    have f2 := rs1.free 2
    go_wp2
    exact ret_store rfl rfl rfl rs1 (by omega) cq (bb.trans (lb.mono bb.size))
  · have dn : decide (0 ≤ n) = false := by simp; omega
    have dd : decide (0 ≤ d) = true := by simp; omega
    have en : decide (n < 0) = true := by simp; omega
    have ed : decide (d < 0) = false := by simp; omega
    have HS : Hid (rq true n.natAbs d.natAbs = (n : Rat) / (d : Rat)) := by
      have := HQ.out
      rw [en, ed] at this
      exact this
    generalize (n : Rat) / (d : Rat) = q at *
    go_enter Try.func44, Try.ntmps44
    go_wp2_with fail
    generalize w.alloc (.cells #[.bool false, .slice none 0 0, .slice none 0 0] 24) = w0 at *
    refine Calls.mono (C1.out w0) ?_
    rintro e w1 ⟨xo, xn, xc, rfl, sx, lx, b1⟩
    go_wp2_with fail
    refine Calls.mono (C2.out w1) ?_
    rintro e w2 ⟨yo, yn, yc, rfl, sy, ly, b2⟩
    have sx2 := sx.later b2
    have bb := (b0.trans (b1.mono b0.size)).trans (b2.mono (by have := b0.size; have := b1.size; omega))
    have rs2 := (rs0.later b1).later b2
    clear sx b1 b2 b0 rs0
    go_wp2_with fail
    refine (read3_any w2 true xo xn xc yo yn yc 2 q ⟨⟨_, _, sx2, sy, by rw [val_toL, val_toL]; exact HS.out⟩, lx, ly⟩ (by omega) (by omega)).mono ?_
    rintro e w3 ⟨s1, no1, nn1, nc1, eo1, en1, ec1, rfl, cq, lb⟩
    have rs1 := rs2.later lb
    obtain ⟨r0, r1, r2⟩ := rs1.cells
    have f0 := rs1.free 0
    have f1 := rs1.free 1
    have f2 := rs1.free 2
    go_wp2
    exact ret_store rfl rfl rfl rs1 (by omega) cq (bb.trans (lb.mono bb.size))
  · have dn : decide (0 ≤ n) = true := by simp; omega
    have dd : decide (0 ≤ d) = false := by simp; omega
    have en : decide (n < 0) = false := by simp; omega
    have ed : decide (d < 0) = true := by simp; omega
    have HS : Hid (rq true n.natAbs d.natAbs = (n : Rat) / (d : Rat)) := by
      have := HQ.out
      rw [en, ed] at this
      exact this
    generalize (n : Rat) / (d : Rat) = q at *
    go_enter Try.func44, Try.ntmps44
    go_wp2_with fail
    generalize w.alloc (.cells #[.bool false, .slice none 0 0, .slice none 0 0] 24) = w0 at *
    refine Calls.mono (C1.out w0) ?_
    rintro e w1 ⟨xo, xn, xc, rfl, sx, lx, b1⟩
    go_wp2_with fail
    refine Calls.mono (C2.out w1) ?_
    rintro e w2 ⟨yo, yn, yc, rfl, sy, ly, b2⟩
    have sx2 := sx.later b2
    have bb := (b0.trans (b1.mono b0.size)).trans (b2.mono (by have := b0.size; have := b1.size; omega))
    have rs2 := (rs0.later b1).later b2
    clear sx b1 b2 b0 rs0
    go_wp2_with fail
    refine (read3_any w2 true xo xn xc yo yn yc 2 q ⟨⟨_, _, sx2, sy, by rw [val_toL, val_toL]; exact HS.out⟩, lx, ly⟩ (by omega) (by omega)).mono ?_
    rintro e w3 ⟨s1, no1, nn1, nc1, eo1, en1, ec1, rfl, cq, lb⟩
    have rs1 := rs2.later lb
    obtain ⟨r0, r1, r2⟩ := rs1.cells
    have f0 := rs1.free 0
    have f1 := rs1.free 1
    have f2 := rs1.free 2
    go_wp2
    exact ret_store rfl rfl rfl rs1 (by omega) cq (bb.trans (lb.mono bb.size))
  · have dn : decide (0 ≤ n) = true := by simp; omega
    have dd : decide (0 ≤ d) = true := by simp; omega
    have en : decide (n < 0) = false := by simp; omega
    have ed : decide (d < 0) = false := by simp; omega
    have HS : Hid (rq false n.natAbs d.natAbs = (n : Rat) / (d : Rat)) := by
      have := HQ.out
      rw [en, ed] at this
      exact this
    generalize (n : Rat) / (d : Rat) = q at *
    go_enter Try.func44, Try.ntmps44
    go_wp2_with fail
    generalize w.alloc (.cells #[.bool false, .slice none 0 0, .slice none 0 0] 24) = w0 at *
    refine Calls.mono (C1.out w0) ?_
    rintro e w1 ⟨xo, xn, xc, rfl, sx, lx, b1⟩
    go_wp2_with fail
    refine Calls.mono (C2.out w1) ?_
    rintro e w2 ⟨yo, yn, yc, rfl, sy, ly, b2⟩
    have sx2 := sx.later b2
    have bb := (b0.trans (b1.mono b0.size)).trans (b2.mono (by have := b0.size; have := b1.size; omega))
    have rs2 := (rs0.later b1).later b2
    clear sx b1 b2 b0 rs0
    go_wp2_with fail
    refine (read3_any w2 false xo xn xc yo yn yc 2 q ⟨⟨_, _, sx2, sy, by rw [val_toL, val_toL]; exact HS.out⟩, lx, ly⟩ (by omega) (by omega)).mono ?_
    rintro e w3 ⟨s1, no1, nn1, nc1, eo1, en1, ec1, rfl, cq, lb⟩
    have rs1 := rs2.later lb
    obtain ⟨r0, r1, r2⟩ := rs1.cells
    have f0 := rs1.free 0
    have f1 := rs1.free 1
    have f2 := rs1.free 2
    go_wp2
    exact ret_store rfl rfl rfl rs1 (by omega) cq (bb.trans (lb.mono bb.size))

end Go.Proofs.Ytmoicmjljflcgaa

/- penumbraref03: Floor. -/
namespace Go.Proofs.Ytmoicmjljflcgaa
open Go.RowKit M Kahn
set_option maxRecDepth 100000

end Go.Proofs.Ytmoicmjljflcgaa

/- penumbraref03: Check. -/
namespace Go.Proofs.Ytmoicmjljflcgaa
open Go.RowKit M Kahn
set_option maxRecDepth 100000

end Go.Proofs.Ytmoicmjljflcgaa

/- Lists of Rats; fresh memory inside a region. -/
namespace Go.Proofs.Ytmoicmjljflcgaa
open Go.RowKit M Kahn
set_option maxRecDepth 100000

theorem Kahn.Goes.run {P : Program} {o : Oper} {ρ : Operand → Value} {u : World} {R : Value → World → Prop} (x : Value) (u' : World) (h : (execOp ρ o).run P u = .ok (.value x) u') (hR : R x u') : Goes P o ρ u R := by
  unfold Goes
  rw [h]
  exact hR

/-- The parts of a Rat. -/
structure RP where
  s : Bool
  no : Option Addr
  nn : Nat
  nc : Nat
  eo : Option Addr
  en : Nat
  ec : Nat
def RP.cells (r : RP) : List Value := [.bool r.s, .slice r.no r.nn r.nc, .slice r.eo r.en r.ec]
def RP.all : List RP → List Value
  | [] => []
  | r :: l => r.cells ++ RP.all l
/-- Rats that are read as these numbers. -/
def RL (u : World) (K : Nat) : List RP → List Rat → Prop
  | [], [] => True
  | r :: rs, q :: qs => Qn u r.s r.no r.nn r.nc r.eo r.en r.ec q K ∧ RL u K rs qs
  | _, _ => False
theorem RL.len {u : World} {K : Nat} : ∀ {rs : List RP} {qs : List Rat}, RL u K rs qs → rs.length = qs.length
  | [], [], _ => rfl
  | r :: rs, q :: qs, h => by rw [List.length_cons, List.length_cons, RL.len h.2]
  | [], _ :: _, h => h.elim
  | _ :: _, [], h => h.elim
theorem RL.later {u u' : World} {K : Nat} (hb : Below u.heap.size u u') : ∀ {rs : List RP} {qs : List Rat}, RL u K rs qs → RL u' K rs qs
  | [], [], _ => trivial
  | _ :: _, _ :: _, h => ⟨h.1.later hb, RL.later hb h.2⟩
  | [], _ :: _, h => h.elim
  | _ :: _, [], h => h.elim

/-- A slice of Rats that are read as qs. -/
def VL (qs : List Rat) (K : Nat) : Value → World → Prop := fun v u =>
  ∃ ao cap rs, v = .slice ao qs.length cap ∧ qs.length ≤ cap ∧ RL u K rs qs ∧ (0 < qs.length → ∃ b o, ao = some ⟨b, o, none⟩ ∧ b < u.heap.size ∧ ∀ i v, (RP.all rs)[i]? = some v → u.cell? ⟨b, o + i, none⟩ = some v)
theorem VL.lasts (qs : List Rat) (K : Nat) : Lasts (VL qs K) := by
  rintro v u u' hb ⟨ao, cap, rs, h1, h2, h3, h4⟩
  refine ⟨ao, cap, rs, h1, h2, h3.later hb, fun h0 => ?_⟩
  obtain ⟨b, o, e1, e2, e3⟩ := h4 h0
  exact ⟨b, o, e1, Nat.lt_of_lt_of_le e2 hb.size, fun i v hv => by rw [hb.cell (p := ⟨b, o + i, none⟩) e2]; exact e3 i v hv⟩
theorem VL.nil (K : Nat) (u : World) : VL [] K (.slice none 0 0) u := ⟨none, 0, [], rfl, Nat.le_refl _, trivial, fun h => absurd h (Nat.lt_irrefl _)⟩
theorem VL.made {u : World} {K : Nat} (rs : List RP) (qs : List Rat) (h : RL u K rs qs) (cs : Array Value) (hc : cs = (RP.all rs).toArray) (n : Nat) (hn : rs.length = n) :
    VL qs K (.slice (some ⟨u.heap.size, 0, none⟩) n n) (u.alloc (.cells cs 24)) := by
  subst hc hn
  have bl : Below u.heap.size u (u.alloc (.cells (RP.all rs).toArray 24)) := (Below.refl _ _).alloc (Nat.le_refl _) _
  refine ⟨some ⟨u.heap.size, 0, none⟩, rs.length, rs, by rw [h.len], by rw [h.len]; exact Nat.le_refl _, h.later bl, fun _ => ⟨u.heap.size, 0, rfl, by simp, fun i v hv => ?_⟩⟩
  rw [Nat.zero_add, cell_of_row _ u.heap.size i _ _ _ (heap_alloc_new _ _)]
  simpa using hv
end Go.Proofs.Ytmoicmjljflcgaa
