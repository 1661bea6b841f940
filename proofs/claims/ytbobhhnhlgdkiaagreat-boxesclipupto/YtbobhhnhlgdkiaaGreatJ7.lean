/- Rats in memory; what a call that hands one back leaves. -/
import Derived.Test.YtbobhhnhlgdkiaaGreatJ1
import Derived.Test.YtbobhhnhlgdkiaaGreatJ6
import Derived.Laws.ResultCell
namespace Go.Proofs.YtbobhhnhlgdkiaaGreat
open Go.RowKit M
set_option maxRecDepth 100000

/-- Block g is a Rat: its three cells. -/
structure Rb (w : World) (g : Nat) (a b c : Value) : Prop where
  at_ : w.heap[g]? = some (.cells #[a, b, c] 24 (0, 0))
theorem Rb.lt {w : World} {g : Nat} {a b c : Value} (h : Rb w g a b c) : g < w.heap.size := (Array.getElem?_eq_some_iff.1 h.at_).1
theorem Rb.cells {w : World} {g : Nat} {a b c : Value} (h : Rb w g a b c) : w.cell? ⟨g, 0, none⟩ = some a ∧ w.cell? ⟨g, 1, none⟩ = some b ∧ w.cell? ⟨g, 2, none⟩ = some c :=
  ⟨by rw [cell_of_row w g 0 _ _ _ h.at_]; rfl, by rw [cell_of_row w g 1 _ _ _ h.at_]; rfl, by rw [cell_of_row w g 2 _ _ _ h.at_]; rfl⟩
theorem Rb.free {w : World} {g : Nat} {a b c : Value} (h : Rb w g a b c) (i : Nat) : w.frozen? ⟨g, i, none⟩ = false := frozen_of_row w g i _ _ h.at_
theorem Rb.keep {w w' : World} {g : Nat} {a b c : Value} (h : Rb w g a b c) (hb : w'.heap[g]? = w.heap[g]?) : Rb w' g a b c := ⟨by rw [hb]; exact h.at_⟩
theorem Rb.later {w w' : World} {g : Nat} {a b c : Value} (h : Rb w g a b c) (hb : Below w.heap.size w w') : Rb w' g a b c := h.keep (hb.block g h.lt)
theorem Rb.put {w : World} {g : Nat} {a b c : Value} (h : Rb w g a b c) (x y z : Value) : Rb (((w.setCell ⟨g, 0, none⟩ x).setCell ⟨g, 1, none⟩ y).setCell ⟨g, 2, none⟩ z) g x y z := ⟨by
  have a1 := heap_setCell_same w g 0 _ _ x h.at_
  have a2 := heap_setCell_same _ g 1 _ _ y a1
  rw [heap_setCell_same _ g 2 _ _ _ a2]; rfl⟩
theorem Rb.putFr (g : Nat) (w : World) (x y z : Value) : Fr g w (((w.setCell ⟨g, 0, none⟩ x).setCell ⟨g, 1, none⟩ y).setCell ⟨g, 2, none⟩ z) := (((Fr.refl g w).set 0 x).set 1 y).set 2 z

theorem sizeRat : (Tryz.prog.info? 24).map (·.size) = some 3 := by kernel_rfl

theorem ret_rat {fn : Func} {p : Tmp} {act : Act} {w : World} {g : Nat} {x y z : Value} {R : Ending → World → Prop} (h : fn.results = #[.cell p 24]) (hp : act.tmps.getD p undef = .pointer (some ⟨g, 0, none⟩)) (hd : act.defers = []) (hb : Rb w g x y z)
    (hR : R (.returned (.agg #[x, y, z])) w) : bodyPost Tryz.prog fn R .ret act w :=
  bodyPost_ret (v := .agg #[x, y, z]) (results_cell_row h _ _ g _ _ _ _ hp hb.at_ Tryz.underlying24 rfl sizeRat) hd hR
theorem ret_rat2 {fn : Func} {p t : Tmp} {act : Act} {w : World} {g : Nat} {x y z v : Value} {R : Ending → World → Prop} (h : fn.results = #[.cell p 24, .tmp t]) (hp : act.tmps.getD p undef = .pointer (some ⟨g, 0, none⟩)) (ht : act.tmps.getD t undef = v) (hd : act.defers = []) (hb : Rb w g x y z)
    (hR : R (.returned (.tuple #[.agg #[x, y, z], v])) w) : bodyPost Tryz.prog fn R .ret act w := by
  refine bodyPost_ret (v := .tuple #[.agg #[x, y, z], v]) ?_ hd hR
  rw [results_cell_tmp h, hp, ht]
  simp [asAddr, run_loadVar_row _ g _ 24 _ _ _ hb.at_ Tryz.underlying24 rfl sizeRat]

/-- A Rat that is read as the number q: its sign, its two rows, of at most K limbs each. -/
structure Qn (w : World) (s : Bool) (no : Option Addr) (nn nc : Nat) (eo : Option Addr) (en ec : Nat) (q : Rat) (K : Nat) : Prop where
  there : ∃ xs ys, Sl w.heap.size w no nn nc xs ∧ Sl w.heap.size w eo en ec ys ∧ rq s (val xs) (val ys) = q
  ln : nn ≤ K
  ld : en ≤ K
/-- The canonical one. -/
structure Cq (w : World) (s : Bool) (no : Option Addr) (nn nc : Nat) (eo : Option Addr) (en ec : Nat) (q : Rat) (K : Nat) : Prop where
  sgn : s = decide (q.num < 0)
  num : Sl w.heap.size w no nn nc (toL q.num.natAbs)
  den : Sl w.heap.size w eo en ec (toL q.den)
  ln : nn ≤ K
  ld : en ≤ K
section
variable {w w' : World} {s : Bool} {no : Option Addr} {nn nc : Nat} {eo : Option Addr} {en ec : Nat} {q : Rat} {K : Nat}
theorem Cq.rd (h : Cq w s no nn nc eo en ec q K) : Qn w s no nn nc eo en ec q K :=
  ⟨⟨_, _, h.num, h.den, by rw [h.sgn, val_toL, val_toL, rq_self]⟩, h.ln, h.ld⟩
theorem Cq.later (h : Cq w s no nn nc eo en ec q K) (hb : Below w.heap.size w w') : Cq w' s no nn nc eo en ec q K := ⟨h.sgn, h.num.later hb, h.den.later hb, h.ln, h.ld⟩
theorem Qn.later (h : Qn w s no nn nc eo en ec q K) (hb : Below w.heap.size w w') : Qn w' s no nn nc eo en ec q K := by
  obtain ⟨xs, ys, h1, h2, h3⟩ := h.there
  exact ⟨⟨xs, ys, h1.later hb, h2.later hb, h3⟩, h.ln, h.ld⟩
theorem Qn.mono (h : Qn w s no nn nc eo en ec q K) {K' : Nat} (hk : K ≤ K') : Qn w s no nn nc eo en ec q K' := ⟨h.there, Nat.le_trans h.ln hk, Nat.le_trans h.ld hk⟩
theorem Cq.mono (h : Cq w s no nn nc eo en ec q K) {K' : Nat} (hk : K ≤ K') : Cq w s no nn nc eo en ec q K' := ⟨h.sgn, h.num, h.den, Nat.le_trans h.ln hk, Nat.le_trans h.ld hk⟩
end

/-- What a call leaves that hands back the number q: its canonical Rat, of at most K limbs each. -/
def Gq (w : World) (K : Nat) (q : Rat) (e : Ending) (w' : World) : Prop :=
  ∃ s no nn nc eo en ec, e = .returned (.agg #[.bool s, .slice no nn nc, .slice eo en ec]) ∧ Cq w' s no nn nc eo en ec q K ∧ Below w.heap.size w w'

theorem one_lim : Lim [1] := Lim.mk (by omega) Lim.nil
theorem toL_one : toL 1 = [1] := toL_is rfl one_lim (.inr (by simp))

/-- A Rat of the call's own, just made, beside one or two rows of one limb. -/
theorem zero3_mem (w : World) : ∃ w', w' = (w.alloc (.cells #[.bool false, .slice none 0 0, .slice (some ⟨w.heap.size + 1, 0, none⟩) 1 1] 24)).alloc (.cells #[.int .u32 1] 86) ∧
    Rb w' w.heap.size (.bool false) (.slice none 0 0) (.slice (some ⟨w.heap.size + 1, 0, none⟩) 1 1) ∧ Sl w'.heap.size w' (some ⟨w.heap.size + 1, 0, none⟩) 1 1 [1] ∧ Below w.heap.size w w' := by
  refine ⟨_, rfl, ⟨?_⟩, ?_, ?_⟩
  · rw [heap_alloc_old _ _ (by simp)]
    exact heap_alloc_new _ _
  · have := lit1 (w.alloc (.cells #[.bool false, .slice none 0 0, .slice (some ⟨w.heap.size + 1, 0, none⟩) 1 1] 24)) 1 [1] #[.int .u32 1] rfl one_lim rfl
    simpa using this.1
  · exact ((Below.refl _ _).alloc (Nat.le_refl _) _).alloc (by simp) _

set_option maxHeartbeats 400000 in
theorem zero3_any (w : World) : Calls Tryz.prog 19 #[] w (Gq w 1 0) := by
  obtain ⟨w', hw, hb, hs, bl⟩ := zero3_mem w
  go_enter Tryz.func19, Tryz.ntmps19
  go_wp2
  rw [← hw]
  refine ret_rat rfl rfl rfl hb ⟨_, _, _, _, _, _, _, rfl, ⟨rfl, ?_, ?_, by omega, by omega⟩, bl⟩
  · exact Sl.nil _ _
  · rw [show toL (0 : Rat).den = [1] from toL_one]; exact hs
end Go.Proofs.YtbobhhnhlgdkiaaGreat

/- penumbraref03: Read. -/
namespace Go.Proofs.YtbobhhnhlgdkiaaGreat
open Go.RowKit M
set_option maxRecDepth 100000

/-- One Rat that came in, in a block; a block for the answer behind it. -/
theorem box1 (w : World) (a b c : Value) : ∃ w0, w0 = (w.alloc (.cells #[a, b, c] 24)).alloc (.cells #[.bool false, .slice none 0 0, .slice none 0 0] 24) ∧
    Rb w0 w.heap.size a b c ∧ Rb w0 (w.heap.size + 1) (.bool false) (.slice none 0 0) (.slice none 0 0) ∧ Below w.heap.size w w0 := by
  refine ⟨_, rfl, ⟨?_⟩, ⟨?_⟩, ((Below.refl _ _).alloc (Nat.le_refl _) _).alloc (by simp) _⟩
  · rw [heap_alloc_old _ _ (by simp)]
    exact heap_alloc_new _ _
  · have := heap_alloc_new (w.alloc (.cells #[a, b, c] 24)) (.cells #[.bool false, .slice none 0 0, .slice none 0 0] 24)
    simpa using this

theorem Gq.mono {w : World} {K K' : Nat} {q : Rat} {e : Ending} {w' : World} (h : Gq w K q e w') (hk : K ≤ K') : Gq w K' q e w' := by
  obtain ⟨s, no, nn, nc, eo, en, ec, h1, h2, h3⟩ := h
  exact ⟨s, no, nn, nc, eo, en, ec, h1, h2.mono hk, h3⟩
/-- From an earlier world. -/
theorem Gq.from {w w0 : World} {K : Nat} {q : Rat} {e : Ending} {w' : World} (h : Gq w K q e w') (hb : Below w0.heap.size w0 w) : Gq w0 K q e w' := by
  obtain ⟨s, no, nn, nc, eo, en, ec, h1, h2, h3⟩ := h
  exact ⟨s, no, nn, nc, eo, en, ec, h1, h2, hb.trans (h3.mono hb.size)⟩

/-- What is written into a Rat's own block is no row of limbs: rows read as before. -/
theorem Sl.store {u w : World} {g : Nat} {ao : Option Addr} {n cap : Nat} {xs : List Nat} {s : Bool} {a1 a2 : Option Addr} {n1 c1 n2 c2 : Nat} (h : Sl u.heap.size u ao n cap xs) (hb : Rb u g (.bool s) (.slice a1 n1 c1) (.slice a2 n2 c2)) (hw : Fr g u w) : Sl w.heap.size w ao n cap xs := by
  refine ⟨h.len, h.le, h.lim, fun h0 => ?_, h.nilc⟩
  obtain ⟨b, o, e1, e2, e3⟩ := h.there h0
  refine ⟨b, o, e1, by rw [hw.size]; exact e2, fun i hi => ?_⟩
  have hne : b ≠ g := by
    intro he
    subst he
    have hc := e3 0 h0
    rw [Nat.add_zero, cell_of_row u b o _ _ _ hb.at_] at hc
    match o, hc with
    | 0, hc => simp at hc
    | 1, hc => simp at hc
    | 2, hc => simp at hc
    | o + 3, hc => simp at hc
  rw [World.cell?_of_block (w := u) (hw.block b hne)]
  exact e3 i hi

theorem Cq.store {u w : World} {g : Nat} {s : Bool} {no : Option Addr} {nn nc : Nat} {eo : Option Addr} {en ec : Nat} {q : Rat} {K : Nat} {t : Bool} {a1 a2 : Option Addr} {n1 c1 n2 c2 : Nat} (h : Cq u s no nn nc eo en ec q K) (hb : Rb u g (.bool t) (.slice a1 n1 c1) (.slice a2 n2 c2)) (hw : Fr g u w) : Cq w s no nn nc eo en ec q K :=
  ⟨h.sgn, h.num.store hb hw, h.den.store hb hw, h.ln, h.ld⟩

/-- A Rat is stored into the answer's block and handed back. -/
theorem ret_store {fn : Func} {p : Tmp} {act : Act} {w u : World} {g K : Nat} {q : Rat} {s : Bool} {no : Option Addr} {nn nc : Nat} {eo : Option Addr} {en ec : Nat} (h : fn.results = #[.cell p 24]) (hp : act.tmps.getD p undef = .pointer (some ⟨g, 0, none⟩)) (hd : act.defers = [])
    (hb : Rb u g (.bool false) (.slice none 0 0) (.slice none 0 0)) (hg : w.heap.size ≤ g) (hc : Cq u s no nn nc eo en ec q K) (h5 : Below w.heap.size w u) :
    bodyPost Tryz.prog fn (Gq w K q) .ret act (((u.setCell ⟨g, 0, none⟩ (.bool s)).setCell ⟨g, 1, none⟩ (.slice no nn nc)).setCell ⟨g, 2, none⟩ (.slice eo en ec)) := by
  have fr := Rb.putFr g u (.bool s) (.slice no nn nc) (.slice eo en ec)
  exact ret_rat h hp hd (hb.put _ _ _) ⟨s, no, nn, nc, eo, en, ec, rfl, hc.store hb fr, h5.trans (fr.below hg)⟩

theorem num_bd {s : Bool} {n d K : Nat} (hn : n < Bp K) (hd : d < Bp K) (hK : 1 ≤ K) : (rq s n d).num.natAbs < Bp K ∧ (rq s n d).den < Bp K := by
  have h1 : 1 < Bp K := by
    obtain ⟨k, rfl⟩ : ∃ k, K = k + 1 := ⟨K - 1, by omega⟩
    have : 0 < Bp k := by unfold Bp; exact Nat.pow_pos (by omega)
    rw [Bp_succ]; omega
  by_cases hd0 : d = 0
  · subst hd0; rw [rq_den0]; exact ⟨by show 0 < Bp K; omega, h1⟩
  · rw [rq_natAbs hd0, (rq_canon hd0).2]
    exact ⟨Nat.lt_of_le_of_lt (Nat.div_le_self _ _) hn, Nat.lt_of_le_of_lt (Nat.div_le_self _ _) hd⟩

set_option maxHeartbeats 1000000 in
theorem read3_any (w : World) (s : Bool) (no : Option Addr) (nn nc : Nat) (eo : Option Addr) (en ec K : Nat) (q : Rat) (h : Qn w s no nn nc eo en ec q K) (hK1 : 1 ≤ K) (hK : K ≤ 17179869184) :
    Calls Tryz.prog 58 #[.agg #[.bool s, .slice no nn nc, .slice eo en ec]] w (Gq w K q) := by
  obtain ⟨xs, ys, hn, hd, hq⟩ := h.there
  have ln := h.ln
  have ld := h.ld
  clear h
  have hnb : val xs < Bp K := hn.bd ln
  have hdb : val ys < Bp K := hd.bd ld
  obtain ⟨X, hX⟩ : ∃ X, X = val xs := ⟨_, rfl⟩
  obtain ⟨Y, hY⟩ : ∃ Y, Y = val ys := ⟨_, rfl⟩
  have HX : Hid (val xs = X) := hX.symm
  have HY : Hid (val ys = Y) := hY.symm
  rw [← hX] at hq hnb
  rw [← hY] at hq hdb
  have HQ : Hid (rq s X Y = q) := hq
  have NB : Hid (X < Bp K) := hnb
  have DB : Hid (Y < Bp K) := hdb
  clear hX hY hq hnb hdb
  obtain ⟨w0, hw0, bx, rs, b0⟩ := box1 w (.bool s) (.slice no nn nc) (.slice eo en ec)
  have sn := hn.later b0
  have sd := hd.later b0
  clear hn hd
  obtain ⟨g, hg⟩ : ∃ g, g = w.heap.size := ⟨_, rfl⟩
  have HG : Hid (w.heap.size = g) := hg.symm
  obtain ⟨c0, c1, c2⟩ := bx.cells
  rw [← hg] at c0 c1 c2 bx rs
  go_enter Tryz.func58, Tryz.ntmps58
  go_wp2_with fail
  rw [← hw0, ← hg]
  clear hw0 hg
  refine (zero_any w0 eo en ec ys sd (by omega)).mono ?_
  rintro e w1 ⟨rfl, rfl⟩
  rw [HY.out]
  by_cases hy : Y = 0
  · have HQ2 : Hid (q = 0) := by show q = 0; rw [← HQ.out, hy, rq_den0]
    rw [hy, cmpN_eq rfl]
    clear hy
    go_wp2_with fail
    refine (zero3_any w0).mono ?_
    rintro e w1 ⟨s1, no1, nn1, nc1, eo1, en1, ec1, rfl, cq, b1⟩
    rw [← HQ2.out] at cq
    have rs1 := rs.later b1
    obtain ⟨r0, r1, r2⟩ := rs1.cells
    have f0 := rs1.free 0
    have f1 := rs1.free 1
    have f2 := rs1.free 2
    go_wp2
    exact ret_store rfl rfl rfl rs1 (by rw [HG.out]; omega) (cq.mono hK1) (b0.trans (b1.mono b0.size))
  · have hyb : (cmpN Y 0 == 0) = false := by rw [cmpN_gt (by omega)]; rfl
    rw [hyb]
    clear hyb
    have Y0 : Hid (Y ≠ 0) := hy
    clear hy
    go_wp2_with fail
    refine (zero_any w0 no nn nc xs sn (by omega)).mono ?_
    rintro e w1 ⟨rfl, rfl⟩
    rw [HX.out]
    by_cases hx : X = 0
    · have HQ2 : Hid (q = 0) := by show q = 0; rw [← HQ.out, hx, rq_num0]
      rw [hx, cmpN_eq rfl]
      clear hx
      go_wp2_with fail
      refine (zero3_any w0).mono ?_
      rintro e w1 ⟨s1, no1, nn1, nc1, eo1, en1, ec1, rfl, cq, b1⟩
      rw [← HQ2.out] at cq
      have rs1 := rs.later b1
      obtain ⟨r0, r1, r2⟩ := rs1.cells
      have f0 := rs1.free 0
      have f1 := rs1.free 1
      have f2 := rs1.free 2
      go_wp2
      exact ret_store rfl rfl rfl rs1 (by rw [HG.out]; omega) (cq.mono hK1) (b0.trans (b1.mono b0.size))
    · have hxb : (cmpN X 0 == 0) = false := by rw [cmpN_gt (by omega)]; rfl
      rw [hxb]
      clear hxb
      have X0 : Hid (X ≠ 0) := hx
      clear hx
      go_wp2_with fail
      refine (rgcd_any w0 no eo nn nc en ec K xs ys sn sd (by omega) (by omega) (by omega)).mono ?_
      rintro e w1 ⟨go, gn, gc, rfl, sg, lg, b1⟩
      rw [HX.out, HY.out] at sg
      have G0 : Hid (Nat.gcd X Y ≠ 0) := by show Nat.gcd X Y ≠ 0; have := gcd_pos' (n := X) Y0.out; omega
      have sn1 := sn.later b1
      have sd1 := sd.later b1
      have bx1 := bx.later b1
      have rs1 := rs.later b1
      have bb1 := b0.trans (b1.mono b0.size)
      clear c0 c1 c2 sn sd bx rs b0 b1
      obtain ⟨c0, c1, c2⟩ := bx1.cells
      go_wp2_with fail
      refine (rdivMod_any w1 no go nn nc gn gc _ _ sn1 sg (by omega) (by omega) (by rw [val_toL]; exact G0.out)).mono ?_
      rintro e w2 ⟨qo, qn, qc, ro, rn, rc, rfl, sq, _, b2⟩
      rw [HX.out, val_toL] at sq
      have sd2 := sd1.later b2
      have sg2 := sg.later b2
      have bx2 := bx1.later b2
      have rs2 := rs1.later b2
      have bb2 := bb1.trans (b2.mono bb1.size)
      clear c0 c1 c2 sn1 sd1 sg bx1 rs1 bb1 b2
      obtain ⟨c0, c1, c2⟩ := bx2.cells
      go_wp2_with fail
      refine (rdivMod_any w2 eo go en ec gn gc _ _ sd2 sg2 (by omega) (by omega) (by rw [val_toL]; exact G0.out)).mono ?_
      rintro e w3 ⟨qo3, qn3, qc3, ro3, rn3, rc3, rfl, sq3, _, b3⟩
      rw [HY.out, val_toL] at sq3
      have sq2 := sq.later b3
      have bx3 := bx2.later b3
      have rs3 := rs2.later b3
      have bb3 := bb2.trans (b3.mono bb2.size)
      clear c0 c1 c2 sd2 sg2 bx2 rs2 bb2 b3 sq
      obtain ⟨c0, c1, c2⟩ := bx3.cells
      obtain ⟨r0, r1, r2⟩ := rs3.cells
      have f0 := rs3.free 0
      have f1 := rs3.free 1
      have f2 := rs3.free 2
      have cq : Cq w3 s qo qn qc qo3 qn3 qc3 q K := by
        have h1 := rq_natAbs (s := s) (n := X) Y0.out
        have h2 := (rq_canon (s := s) (n := X) Y0.out).2
        have h3 := rq_sign (s := s) X0.out Y0.out
        rw [HQ.out] at h1 h2 h3
        refine ⟨h3.symm, by rw [h1]; exact sq2, by rw [h2]; exact sq3, sq2.ln (Nat.lt_of_le_of_lt (Nat.div_le_self _ _) NB.out), sq3.ln (Nat.lt_of_le_of_lt (Nat.div_le_self _ _) DB.out)⟩
      clear sq2 sq3
      go_wp2
      exact ret_store rfl rfl rfl rs3 (by rw [HG.out]; omega) cq bb3
end Go.Proofs.YtbobhhnhlgdkiaaGreat

/- penumbraref01.Same, of any two lists; penumbraref03: Is, One. -/
namespace Go.Proofs.YtbobhhnhlgdkiaaGreat
open Go.RowKit M
set_option maxRecDepth 100000

theorem ext_take {xs ys : List Nat} {k : Nat} (hx : k < xs.length) (hy : k < ys.length) (h : xs.take k = ys.take k) (he : xs.getD k 0 = ys.getD k 0) : xs.take (k + 1) = ys.take (k + 1) := by
  rw [List.take_add_one, List.take_add_one, h, List.getElem?_eq_getElem hx, List.getElem?_eq_getElem hy]
  rw [List.getD_eq_getElem?_getD, List.getD_eq_getElem?_getD, List.getElem?_eq_getElem hx, List.getElem?_eq_getElem hy] at he
  simp at he
  rw [he]

set_option maxHeartbeats 1000000 in
theorem same_gen (w : World) (ao bo : Option Addr) (n cap n2 cap2 N : Nat) (xs ys : List Nat) (h : Sl N w ao n cap xs) (h2 : Sl N w bo n2 cap2 ys) (hlen : n ≤ 1099511627776) (hlen2 : n2 ≤ 1099511627776) :
    Calls Tryz.prog 59 #[.slice ao n cap, .slice bo n2 cap2] w fun e w' => e = .returned (.bool (decide (xs = ys))) ∧ Qt w w' := by
  by_cases hn : n = n2
  · subst hn
    go_enter Tryz.func59, Tryz.ntmps59
    go_wp2
    go_loopw [5] (fun i wr => ∃ k : Nat, k ≤ n ∧ i = .int .i64 k ∧ Hid (xs.take k = ys.take k) ∧ Qt w wr) (fun i _ => n - (intOf i).toNat)
    case atStart => exact ⟨0, Nat.zero_le _, rfl, by show xs.take 0 = ys.take 0; simp, Qt.refl _⟩
    case round =>
      obtain ⟨k, hk, rfl, HT, hq⟩ := hrel
      by_cases hlt : k < n
      · obtain ⟨b, o, x, rfl, hb, hcell, hx, HX⟩ := (hq.sl h).cell k hlt
        obtain ⟨b', o', x', rfl, hb', hcell', hx', HX'⟩ := (hq.sl h2).cell k hlt
        by_cases hxx : x = x'
        · subst hxx
          have HT2 : Hid (xs.take (k + 1) = ys.take (k + 1)) := ext_take (by rw [h.len]; exact hlt) (by rw [h2.len]; exact hlt) HT.out (by rw [← HX.out, ← HX'.out])
          go_wp2
          go_quiet (fail)
          go_wp2
          go_roundw
          case rel => exact ⟨k + 1, by omega, by go_num, HT2, hq.drewN _⟩
          case measure => simp [intOf]; omega
        · have hne : ((x : Int) != (x' : Int)) = true := by rw [bne_iff_ne]; omega
          have HF : Hid (decide (xs = ys) = false) := by
            show decide (xs = ys) = false
            refine decide_eq_false fun he => hxx ?_
            rw [HX.out, HX'.out, he]
          go_wp2
          go_quiet (fail)
          go_wp2
          go_ret
          exact ⟨by rw [HF.out]; rfl, hq.drewN _⟩
      · have HF : Hid (decide (xs = ys) = true) := by
          show decide (xs = ys) = true
          refine decide_eq_true ?_
          have := HT.out
          rwa [List.take_of_length_le (by rw [h.len]; omega), List.take_of_length_le (by rw [h2.len]; omega)] at this
        go_wp2
        go_ret
        exact ⟨by rw [HF.out]; rfl, hq⟩
  · have hne : ((n : Int) != (n2 : Int)) = true := by rw [bne_iff_ne]; omega
    have HF : Hid (decide (xs = ys) = false) := by
      show decide (xs = ys) = false
      refine decide_eq_false fun he => hn ?_
      rw [← h.len, ← h2.len, he]
    go_enter Tryz.func59, Tryz.ntmps59
    go_wp2
    go_ret
    exact ⟨by rw [HF.out]; rfl, Qt.refl _⟩

/-- What a call leaves that tells whether P. -/
def Gb (w : World) (P : Prop) (e : Ending) (w' : World) : Prop := ∃ r : Bool, e = .returned (.bool r) ∧ Hid (r = true ↔ P) ∧ Below w.heap.size w w'

/-- Two Rats that came in, in blocks of their own. -/
theorem box2 (w : World) (a b c a' b' c' : Value) : ∃ w0, w0 = (w.alloc (.cells #[a, b, c] 24)).alloc (.cells #[a', b', c'] 24) ∧
    Rb w0 w.heap.size a b c ∧ Rb w0 (w.heap.size + 1) a' b' c' ∧ Below w.heap.size w w0 := by
  refine ⟨_, rfl, ⟨?_⟩, ⟨?_⟩, ((Below.refl _ _).alloc (Nat.le_refl _) _).alloc (by simp) _⟩
  · rw [heap_alloc_old _ _ (by simp)]
    exact heap_alloc_new _ _
  · have := heap_alloc_new (w.alloc (.cells #[a, b, c] 24)) (.cells #[a', b', c'] 24)
    simpa using this

set_option maxHeartbeats 1000000 in
theorem is3_any (w : World) (s : Bool) (no : Option Addr) (nn nc : Nat) (eo : Option Addr) (en ec : Nat) (t : Bool) (mo : Option Addr) (mn mc : Nat) (fo : Option Addr) (fn fc : Nat) (xs ys us vs : List Nat)
    (h1 : Sl w.heap.size w no nn nc xs) (h2 : Sl w.heap.size w eo en ec ys) (h3 : Sl w.heap.size w mo mn mc us) (h4 : Sl w.heap.size w fo fn fc vs) (l1 : nn ≤ 1099511627776) (l2 : en ≤ 1099511627776) (l3 : mn ≤ 1099511627776) (l4 : fn ≤ 1099511627776) :
    Calls Tryz.prog 25 #[.agg #[.bool s, .slice no nn nc, .slice eo en ec], .agg #[.bool t, .slice mo mn mc, .slice fo fn fc]] w (Gb w (s = t ∧ xs = us ∧ ys = vs)) := by
  obtain ⟨w0, hw0, bx, by_, b0⟩ := box2 w (.bool s) (.slice no nn nc) (.slice eo en ec) (.bool t) (.slice mo mn mc) (.slice fo fn fc)
  have s1 := h1.later b0
  have s2 := h2.later b0
  have s3 := h3.later b0
  have s4 := h4.later b0
  clear h1 h2 h3 h4
  obtain ⟨c0, c1, c2⟩ := bx.cells
  obtain ⟨d0, d1, d2⟩ := by_.cells
  by_cases hst : s = t
  · subst hst
    have hb : (s == s) = true := by simp
    go_enter Tryz.func25, Tryz.ntmps25
    go_wp2_with fail
    rw [← hw0]
    clear hw0
    refine (same_gen w0 no mo nn nc mn mc _ xs us s1 s3 l1 l3).mono ?_
    rintro e w1 ⟨rfl, q1⟩
    have b1 : Below w0.heap.size w0 w1 := q1.below _
    have s2' := s2.later b1
    have s4' := s4.later b1
    have bx1 := bx.later b1
    have by1 := by_.later b1
    have bb1 := b0.trans (b1.mono b0.size)
    clear s1 s2 s3 s4 bx by_ c0 c1 c2 d0 d1 d2 b1 b0 q1
    obtain ⟨c0, c1, c2⟩ := bx1.cells
    obtain ⟨d0, d1, d2⟩ := by1.cells
    by_cases hx : xs = us
    · subst hx
      rw [decide_eq_true rfl]
      go_wp2_with fail
      refine (same_gen w1 eo fo en ec fn fc _ ys vs s2' s4' l2 l4).mono ?_
      rintro e w2 ⟨rfl, q2⟩
      have HD : Hid (decide (ys = vs) = true ↔ s = s ∧ xs = xs ∧ ys = vs) := by show decide (ys = vs) = true ↔ s = s ∧ xs = xs ∧ ys = vs; simp
      generalize decide (ys = vs) = bb at *
      go_wp2
      go_ret
      exact ⟨bb, rfl, HD, bb1.trans (q2.below _)⟩
    · have HD : Hid (false = true ↔ s = s ∧ xs = us ∧ ys = vs) := ⟨fun h => absurd h (by decide), fun he => absurd he.2.1 hx⟩
      rw [decide_eq_false hx]
      clear hx
      go_wp2
      go_ret
      exact ⟨false, rfl, HD, bb1⟩
  · have hb : (s == t) = false := by simp [hst]
    have HD : Hid (false = true ↔ s = t ∧ xs = us ∧ ys = vs) := ⟨fun h => absurd h (by decide), fun he => absurd he.1 hst⟩
    clear hst
    go_enter Tryz.func25, Tryz.ntmps25
    go_wp2
    rw [← hw0]
    go_ret
    exact ⟨false, rfl, HD, b0⟩
end Go.Proofs.YtbobhhnhlgdkiaaGreat

/- penumbraref03: Sign, Neg, Abs, Mul, One, Check. -/
namespace Go.Proofs.YtbobhhnhlgdkiaaGreat
open Go.RowKit M
set_option maxRecDepth 100000

/-- One Rat that came in, in a block. -/
theorem box0 (w : World) (a b c : Value) : ∃ w0, w0 = w.alloc (.cells #[a, b, c] 24) ∧ Rb w0 w.heap.size a b c ∧ Below w.heap.size w w0 :=
  ⟨_, rfl, ⟨heap_alloc_new _ _⟩, (Below.refl _ _).alloc (Nat.le_refl _) _⟩
/-- Two Rats that came in; a block for the answer behind them. -/
theorem box3 (w : World) (a b c a' b' c' : Value) : ∃ w0, w0 = ((w.alloc (.cells #[a, b, c] 24)).alloc (.cells #[a', b', c'] 24)).alloc (.cells #[.bool false, .slice none 0 0, .slice none 0 0] 24) ∧
    Rb w0 w.heap.size a b c ∧ Rb w0 (w.heap.size + 1) a' b' c' ∧ Rb w0 (w.heap.size + 2) (.bool false) (.slice none 0 0) (.slice none 0 0) ∧ Below w.heap.size w w0 := by
  obtain ⟨w1, h1, r1, r2, b1⟩ := box2 w a b c a' b' c'
  have hs : w1.heap.size = w.heap.size + 2 := by rw [h1]; simp
  have bl : Below w1.heap.size w1 (w1.alloc (.cells #[.bool false, .slice none 0 0, .slice none 0 0] 24)) := (Below.refl _ _).alloc (Nat.le_refl _) _
  rw [← h1]
  exact ⟨_, rfl, r1.later bl, r2.later bl, ⟨by rw [← hs]; exact heap_alloc_new _ _⟩, b1.trans (bl.mono b1.size)⟩

/-- The sign, as a call's answer. -/
def Gs3 (w : World) (q : Rat) (e : Ending) (w' : World) : Prop := e = .returned (.int .i64 (qsgn q)) ∧ Below w.heap.size w w'

set_option maxHeartbeats 1000000 in
theorem sign3_any (w : World) (s : Bool) (no : Option Addr) (nn nc : Nat) (eo : Option Addr) (en ec K : Nat) (q : Rat) (h : Qn w s no nn nc eo en ec q K) (hK : K ≤ 17179869184) :
    Calls Tryz.prog 54 #[.agg #[.bool s, .slice no nn nc, .slice eo en ec]] w (Gs3 w q) := by
  obtain ⟨xs, ys, hn, hd, hq⟩ := h.there
  have ln := h.ln
  have ld := h.ld
  clear h
  obtain ⟨X, hX⟩ : ∃ X, X = val xs := ⟨_, rfl⟩
  obtain ⟨Y, hY⟩ : ∃ Y, Y = val ys := ⟨_, rfl⟩
  have HX : Hid (val xs = X) := hX.symm
  have HY : Hid (val ys = Y) := hY.symm
  rw [← hX, ← hY] at hq
  have HS : Hid (qsgn q = if X = 0 ∨ Y = 0 then 0 else if s then -1 else 1) := by show qsgn q = _; rw [← hq]; exact qsgn_rq
  clear hX hY hq
  obtain ⟨w0, hw0, bx, b0⟩ := box0 w (.bool s) (.slice no nn nc) (.slice eo en ec)
  have sn := hn.later b0
  have sd := hd.later b0
  clear hn hd
  obtain ⟨c0, c1, c2⟩ := bx.cells
  go_enter Tryz.func54, Tryz.ntmps54
  go_wp2_with fail
  rw [← hw0]
  clear hw0
  refine (zero_any w0 no nn nc xs sn (by omega)).mono ?_
  rintro e w1 ⟨rfl, rfl⟩
  rw [HX.out]
  by_cases hx : X = 0
  · have HS2 : Hid (qsgn q = 0) := by show qsgn q = 0; rw [HS.out, if_pos (.inl hx)]
    rw [hx, cmpN_eq rfl]
    clear hx
    go_wp2
    go_ret
    exact ⟨ret1 HS2.out.symm, b0⟩
  · have hxb : (cmpN X 0 == 0) = false := by rw [cmpN_gt (by omega)]; rfl
    have X0 : Hid (X ≠ 0) := hx
    rw [hxb]
    clear hxb hx
    go_wp2_with fail
    refine (zero_any w0 eo en ec ys sd (by omega)).mono ?_
    rintro e w1 ⟨rfl, rfl⟩
    rw [HY.out]
    by_cases hy : Y = 0
    · have HS2 : Hid (qsgn q = 0) := by show qsgn q = 0; rw [HS.out, if_pos (.inr hy)]
      rw [hy, cmpN_eq rfl]
      clear hy
      go_wp2
      go_ret
      exact ⟨ret1 HS2.out.symm, b0⟩
    · have hyb : (cmpN Y 0 == 0) = false := by rw [cmpN_gt (by omega)]; rfl
      have HS2 : Hid (qsgn q = if s then -1 else 1) := by show qsgn q = _; rw [HS.out, if_neg (by have := X0.out; omega)]
      rw [hyb]
      clear hyb hy
      cases s
      · go_wp2
        go_ret
        exact ⟨ret1 HS2.out.symm, b0⟩
      · go_wp2
        go_ret
        exact ⟨ret1 HS2.out.symm, b0⟩

section
variable {w : World} {s : Bool} {no : Option Addr} {nn nc : Nat} {eo : Option Addr} {en ec K : Nat} {q : Rat}
theorem Qn.flip (h : Qn w s no nn nc eo en ec q K) : Qn w (!s) no nn nc eo en ec (-q) K := by
  obtain ⟨xs, ys, h1, h2, h3⟩ := h.there
  exact ⟨⟨xs, ys, h1, h2, by rw [rq_not, h3]⟩, h.ln, h.ld⟩
theorem Qn.bare (h : Qn w s no nn nc eo en ec q K) : Qn w false no nn nc eo en ec (qabs q) K := by
  obtain ⟨xs, ys, h1, h2, h3⟩ := h.there
  exact ⟨⟨xs, ys, h1, h2, by rw [← h3, qabs_rq]⟩, h.ln, h.ld⟩
theorem Qn.inv (h : Qn w s no nn nc eo en ec q K) : Qn w s eo en ec no nn nc q⁻¹ K := by
  obtain ⟨xs, ys, h1, h2, h3⟩ := h.there
  exact ⟨⟨ys, xs, h2, h1, by rw [← h3, rq_inv]⟩, h.ld, h.ln⟩
end

set_option maxHeartbeats 1000000 in
theorem neg3_any (w : World) (s : Bool) (no : Option Addr) (nn nc : Nat) (eo : Option Addr) (en ec K : Nat) (q : Rat) (h : Qn w s no nn nc eo en ec q K) (hK1 : 1 ≤ K) (hK : K ≤ 17179869184) :
    Calls Tryz.prog 80 #[.agg #[.bool s, .slice no nn nc, .slice eo en ec]] w (Gq w K (-q)) := by
  obtain ⟨w0, hw0, bx, rs, b0⟩ := box1 w (.bool s) (.slice no nn nc) (.slice eo en ec)
  have h0 := (h.later b0).flip
  clear h
  obtain ⟨c0, c1, c2⟩ := bx.cells
  go_enter Tryz.func80, Tryz.ntmps80
  go_wp2_with fail
  rw [← hw0]
  clear hw0
  refine (read3_any w0 (!s) no nn nc eo en ec K (-q) h0 hK1 hK).mono ?_
  rintro e w1 ⟨s1, no1, nn1, nc1, eo1, en1, ec1, rfl, cq, b1⟩
  have rs1 := rs.later b1
  obtain ⟨r0, r1, r2⟩ := rs1.cells
  have f0 := rs1.free 0
  have f1 := rs1.free 1
  have f2 := rs1.free 2
  go_wp2
  exact ret_store rfl rfl rfl rs1 (by omega) cq (b0.trans (b1.mono b0.size))

end Go.Proofs.YtbobhhnhlgdkiaaGreat
