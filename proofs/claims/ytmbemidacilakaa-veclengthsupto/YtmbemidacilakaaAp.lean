/- Vecs in memory; what a call that hands one back leaves. -/
import Derived.Test.YtmbemidacilakaaA9
namespace Go.Proofs.Ytmbemidacilakaa
open Go.RowKit M Kahn

abbrev Qp (u : World) (r : RP) (q : Rat) (K : Nat) : Prop := Qn u r.s r.no r.nn r.nc r.eo r.en r.ec q K
abbrev Cp (u : World) (r : RP) (q : Rat) (K : Nat) : Prop := Cq u r.s r.no r.nn r.nc r.eo r.en r.ec q K
/-- Block g is a Vec: its nine cells. -/
structure Vb (w : World) (g : Nat) (a b c : RP) : Prop where
  at_ : w.heap[g]? = some (.cells #[.bool a.s, .slice a.no a.nn a.nc, .slice a.eo a.en a.ec, .bool b.s, .slice b.no b.nn b.nc, .slice b.eo b.en b.ec, .bool c.s, .slice c.no c.nn c.nc, .slice c.eo c.en c.ec] 26 (0, 0))
def zRP : RP := ⟨false, none, 0, 0, none, 0, 0⟩
section
variable {w w' : World} {g : Nat} {a b c : RP}
theorem Vb.lt (h : Vb w g a b c) : g < w.heap.size := (Array.getElem?_eq_some_iff.1 h.at_).1
theorem Vb.c0 (h : Vb w g a b c) : w.cell? ⟨g, 0, none⟩ = some (.bool a.s) ∧ w.cell? ⟨g, 1, none⟩ = some (.slice a.no a.nn a.nc) ∧ w.cell? ⟨g, 2, none⟩ = some (.slice a.eo a.en a.ec) :=
  ⟨by rw [cell_of_row w g 0 _ _ _ h.at_]; rfl, by rw [cell_of_row w g 1 _ _ _ h.at_]; rfl, by rw [cell_of_row w g 2 _ _ _ h.at_]; rfl⟩
theorem Vb.c1 (h : Vb w g a b c) : w.cell? ⟨g, 3, none⟩ = some (.bool b.s) ∧ w.cell? ⟨g, 4, none⟩ = some (.slice b.no b.nn b.nc) ∧ w.cell? ⟨g, 5, none⟩ = some (.slice b.eo b.en b.ec) :=
  ⟨by rw [cell_of_row w g 3 _ _ _ h.at_]; rfl, by rw [cell_of_row w g 4 _ _ _ h.at_]; rfl, by rw [cell_of_row w g 5 _ _ _ h.at_]; rfl⟩
theorem Vb.c2 (h : Vb w g a b c) : w.cell? ⟨g, 6, none⟩ = some (.bool c.s) ∧ w.cell? ⟨g, 7, none⟩ = some (.slice c.no c.nn c.nc) ∧ w.cell? ⟨g, 8, none⟩ = some (.slice c.eo c.en c.ec) :=
  ⟨by rw [cell_of_row w g 6 _ _ _ h.at_]; rfl, by rw [cell_of_row w g 7 _ _ _ h.at_]; rfl, by rw [cell_of_row w g 8 _ _ _ h.at_]; rfl⟩
theorem Vb.free (h : Vb w g a b c) (i : Nat) : w.frozen? ⟨g, i, none⟩ = false := frozen_of_row w g i _ _ h.at_
theorem Vb.keep (h : Vb w g a b c) (hb : w'.heap[g]? = w.heap[g]?) : Vb w' g a b c := ⟨by rw [hb]; exact h.at_⟩
theorem Vb.later (h : Vb w g a b c) (hb : Below w.heap.size w w') : Vb w' g a b c := h.keep (hb.block g h.lt)
/-- The world behind a store of a whole Vec. -/
def putV (w : World) (g : Nat) (x y z : RP) : World := (((((((((w.setCell ⟨g, 0, none⟩ (.bool x.s)).setCell ⟨g, 1, none⟩ (.slice x.no x.nn x.nc)).setCell ⟨g, 2, none⟩ (.slice x.eo x.en x.ec)).setCell ⟨g, 3, none⟩ (.bool y.s)).setCell ⟨g, 4, none⟩ (.slice y.no y.nn y.nc)).setCell ⟨g, 5, none⟩ (.slice y.eo y.en y.ec)).setCell ⟨g, 6, none⟩ (.bool z.s)).setCell ⟨g, 7, none⟩ (.slice z.no z.nn z.nc)).setCell ⟨g, 8, none⟩ (.slice z.eo z.en z.ec))
theorem Vb.put (h : Vb w g a b c) (x y z : RP) : Vb (putV w g x y z) g x y z := ⟨by
  have a0 := heap_setCell_same w g 0 _ _ (.bool x.s) h.at_
  have a1 := heap_setCell_same _ g 1 _ _ (.slice x.no x.nn x.nc) a0
  have a2 := heap_setCell_same _ g 2 _ _ (.slice x.eo x.en x.ec) a1
  have a3 := heap_setCell_same _ g 3 _ _ (.bool y.s) a2
  have a4 := heap_setCell_same _ g 4 _ _ (.slice y.no y.nn y.nc) a3
  have a5 := heap_setCell_same _ g 5 _ _ (.slice y.eo y.en y.ec) a4
  have a6 := heap_setCell_same _ g 6 _ _ (.bool z.s) a5
  have a7 := heap_setCell_same _ g 7 _ _ (.slice z.no z.nn z.nc) a6
  have a8 := heap_setCell_same _ g 8 _ _ (.slice z.eo z.en z.ec) a7
  simp only [List.setIfInBounds_toArray, List.set_cons_succ, List.set_cons_zero] at a8
  unfold putV
  exact a8⟩
theorem putV.fr (g : Nat) (w : World) (x y z : RP) : Fr g w (putV w g x y z) := (((((((((Fr.refl g w).set 0 (.bool x.s)).set 1 (.slice x.no x.nn x.nc)).set 2 (.slice x.eo x.en x.ec)).set 3 (.bool y.s)).set 4 (.slice y.no y.nn y.nc)).set 5 (.slice y.eo y.en y.ec)).set 6 (.bool z.s)).set 7 (.slice z.no z.nn z.nc)).set 8 (.slice z.eo z.en z.ec)
theorem Vb.alloc (w : World) (a b c : RP) : Vb (w.alloc (.cells #[.bool a.s, .slice a.no a.nn a.nc, .slice a.eo a.en a.ec, .bool b.s, .slice b.no b.nn b.nc, .slice b.eo b.en b.ec, .bool c.s, .slice c.no c.nn c.nc, .slice c.eo c.en c.ec] 26)) w.heap.size a b c := ⟨heap_alloc_new _ _⟩
theorem sizeVec : (Try.prog.info? 26).map (·.size) = some 9 := by kernel_rfl
theorem ret_vec {fn : Func} {p : Tmp} {act : Act} {R : Ending → World → Prop} (h : fn.results = #[.cell p 26]) (hp : act.tmps.getD p undef = .pointer (some ⟨g, 0, none⟩)) (hd : act.defers = []) (hb : Vb w g a b c)
    (hR : R (.returned (.agg #[.bool a.s, .slice a.no a.nn a.nc, .slice a.eo a.en a.ec, .bool b.s, .slice b.no b.nn b.nc, .slice b.eo b.en b.ec, .bool c.s, .slice c.no c.nn c.nc, .slice c.eo c.en c.ec])) w) : bodyPost Try.prog fn R .ret act w :=
  bodyPost_ret (v := .agg #[.bool a.s, .slice a.no a.nn a.nc, .slice a.eo a.en a.ec, .bool b.s, .slice b.no b.nn b.nc, .slice b.eo b.en b.ec, .bool c.s, .slice c.no c.nn c.nc, .slice c.eo c.en c.ec]) (results_cell_row h _ _ g _ _ _ _ hp hb.at_ Try.underlying26 rfl sizeVec) hd hR
/-- A row of limbs lies in no Vec. -/
theorem Sl.storeV {ao : Option Addr} {n cap : Nat} {xs : List Nat} (h : Sl w.heap.size w ao n cap xs) (hb : Vb w g a b c) (hf : Fr g w w') : Sl w'.heap.size w' ao n cap xs := by
  refine ⟨h.len, h.le, h.lim, fun h0 => ?_, h.nilc⟩
  obtain ⟨k, o, e1, e2, e3⟩ := h.there h0
  have hne : k ≠ g := by
    intro he
    subst he
    have hc := e3 0 h0
    rw [Nat.add_zero, cell_of_row w k o _ _ _ hb.at_] at hc
    have hm := Array.mem_of_getElem? hc
    simp at hm
  refine ⟨k, o, e1, by rw [hf.size]; exact e2, fun i hi => ?_⟩
  rw [World.cell?_of_block (w := w) (a := ⟨k, o + i, none⟩) (hf.block k hne)]
  exact e3 i hi
theorem Cq.storeV {s : Bool} {no : Option Addr} {nn nc : Nat} {eo : Option Addr} {en ec : Nat} {q : Rat} {K : Nat} (h : Cq w s no nn nc eo en ec q K) (hb : Vb w g a b c) (hf : Fr g w w') : Cq w' s no nn nc eo en ec q K :=
  ⟨h.sgn, h.num.storeV hb hf, h.den.storeV hb hf, h.ln, h.ld⟩
/-- Three Rats that are read as these numbers; .. that are the canonical ones. -/
structure Qv (w : World) (a b c : RP) (p q r : Rat) (K : Nat) : Prop where
  x : Qp w a p K
  y : Qp w b q K
  z : Qp w c r K
structure Cv (w : World) (a b c : RP) (p q r : Rat) (K : Nat) : Prop where
  x : Cp w a p K
  y : Cp w b q K
  z : Cp w c r K
section
variable {p q r : Rat} {K : Nat}
theorem Qv.later (h : Qv w a b c p q r K) (hb : Below w.heap.size w w') : Qv w' a b c p q r K := ⟨h.x.later hb, h.y.later hb, h.z.later hb⟩
theorem Cv.later (h : Cv w a b c p q r K) (hb : Below w.heap.size w w') : Cv w' a b c p q r K := ⟨h.x.later hb, h.y.later hb, h.z.later hb⟩
theorem Cv.rd (h : Cv w a b c p q r K) : Qv w a b c p q r K := ⟨h.x.rd, h.y.rd, h.z.rd⟩
theorem Cv.mono {K' : Nat} (h : Cv w a b c p q r K) (hk : K ≤ K') : Cv w a b c p q r K' := ⟨h.x.mono hk, h.y.mono hk, h.z.mono hk⟩
theorem Qv.mono {K' : Nat} (h : Qv w a b c p q r K) (hk : K ≤ K') : Qv w a b c p q r K' := ⟨h.x.mono hk, h.y.mono hk, h.z.mono hk⟩
theorem Cv.storeV {g : Nat} {a' b' c' : RP} (h : Cv w a b c p q r K) (hb : Vb w g a' b' c') (hf : Fr g w w') : Cv w' a b c p q r K := ⟨h.x.storeV hb hf, h.y.storeV hb hf, h.z.storeV hb hf⟩
end
/-- What a call that hands back a Vec leaves. -/
def Gv3 (w : World) (K : Nat) (p q r : Rat) (e : Ending) (w' : World) : Prop :=
  ∃ a b c : RP, e = .returned (.agg #[.bool a.s, .slice a.no a.nn a.nc, .slice a.eo a.en a.ec, .bool b.s, .slice b.no b.nn b.nc, .slice b.eo b.en b.ec, .bool c.s, .slice c.no c.nn c.nc, .slice c.eo c.en c.ec]) ∧ Cv w' a b c p q r K ∧ Below w.heap.size w w'
/-- The canonical Vec of three numbers. -/
def VG (p q r : Rat) (K : Nat) : Value → World → Prop := fun v u => ∃ a b c : RP, v = .agg #[.bool a.s, .slice a.no a.nn a.nc, .slice a.eo a.en a.ec, .bool b.s, .slice b.no b.nn b.nc, .slice b.eo b.en b.ec, .bool c.s, .slice c.no c.nn c.nc, .slice c.eo c.en c.ec] ∧ Cv u a b c p q r K
theorem VG.lasts (p q r : Rat) (K : Nat) : Lasts (VG p q r K) := fun _ _ _ hb ⟨a, b, c, h1, h2⟩ => ⟨a, b, c, h1, h2.later hb⟩
theorem ret_storeV {fn : Func} {p : Tmp} {act : Act} {u : World} {x y z : RP} {K : Nat} {q1 q2 q3 : Rat} (h : fn.results = #[.cell p 26]) (hp : act.tmps.getD p undef = .pointer (some ⟨g, 0, none⟩)) (hd : act.defers = [])
    (hb : Vb u g a b c) (hg : w.heap.size ≤ g) (h1 : Cv u x y z q1 q2 q3 K) (h5 : Below w.heap.size w u) :
    bodyPost Try.prog fn (Gv3 w K q1 q2 q3) .ret act (putV u g x y z) := by
  have fr := putV.fr g u x y z
  exact ret_vec h hp hd (hb.put x y z) ⟨x, y, z, rfl, h1.storeV hb fr, h5.trans (fr.below hg)⟩
end
end Go.Proofs.Ytmbemidacilakaa

/- penumbraref05: Read, Add, Sub, Scale, Dot. -/
namespace Go.Proofs.Ytmbemidacilakaa
open Go.RowKit M Kahn

theorem bx_Vv (w : World) (a0 b0 c0 : RP) : ∃ w0, w0 = ((w.alloc (.cells #[.bool a0.s, .slice a0.no a0.nn a0.nc, .slice a0.eo a0.en a0.ec, .bool b0.s, .slice b0.no b0.nn b0.nc, .slice b0.eo b0.en b0.ec, .bool c0.s, .slice c0.no c0.nn c0.nc, .slice c0.eo c0.en c0.ec] 26)).alloc (.cells #[.bool false, .slice none 0 0, .slice none 0 0, .bool false, .slice none 0 0, .slice none 0 0, .bool false, .slice none 0 0, .slice none 0 0] 26)) ∧ Vb w0 w.heap.size a0 b0 c0 ∧ Vb w0 (w.heap.size + 1) zRP zRP zRP ∧ Below w.heap.size w w0 := by
  obtain ⟨w1, h1⟩ : ∃ w1, w1 = w.alloc (.cells #[.bool a0.s, .slice a0.no a0.nn a0.nc, .slice a0.eo a0.en a0.ec, .bool b0.s, .slice b0.no b0.nn b0.nc, .slice b0.eo b0.en b0.ec, .bool c0.s, .slice c0.no c0.nn c0.nc, .slice c0.eo c0.en c0.ec] 26) := ⟨_, rfl⟩
  have l1 : Below w.heap.size w w1 := by rw [h1]; exact (Below.refl _ _).alloc (Nat.le_refl _) _
  have z1 : w1.heap.size = w.heap.size + 1 := by rw [h1]; simp
  have r1 : Vb w1 w.heap.size a0 b0 c0 := by rw [h1]; exact ⟨heap_alloc_new _ _⟩
  obtain ⟨w2, h2⟩ : ∃ w2, w2 = w1.alloc (.cells #[.bool false, .slice none 0 0, .slice none 0 0, .bool false, .slice none 0 0, .slice none 0 0, .bool false, .slice none 0 0, .slice none 0 0] 26) := ⟨_, rfl⟩
  have l2 : Below w1.heap.size w1 w2 := by rw [h2]; exact (Below.refl _ _).alloc (Nat.le_refl _) _
  have z2 : w2.heap.size = w1.heap.size + 1 := by rw [h2]; simp
  have r2 : Vb w2 w1.heap.size zRP zRP zRP := by rw [h2]; exact ⟨heap_alloc_new _ _⟩
  replace r1 := r1.later l2
  have b1 := l1
  have b2 := b1.trans (l2.mono b1.size)
  rw [show w1.heap.size = w.heap.size + 1 from by omega] at r2
  exact ⟨w2, by rw [h2, h1], r1, r2, b2⟩
set_option maxRecDepth 100000 in
set_option maxHeartbeats 8000000 in
theorem vread5 {w : World} {a1 a2 a3 : RP} {qa1 qa2 qa3 : Rat} {K : Nat} (ha0 : Qv w a1 a2 a3 qa1 qa2 qa3 K) (K1 : 1 ≤ K) (hK : K ≤ 17179869184) :
    Calls Try.prog 22 #[.agg #[.bool a1.s, .slice a1.no a1.nn a1.nc, .slice a1.eo a1.en a1.ec, .bool a2.s, .slice a2.no a2.nn a2.nc, .slice a2.eo a2.en a2.ec, .bool a3.s, .slice a3.no a3.nn a3.nc, .slice a3.eo a3.en a3.ec]] w (Gv3 w (K) (qa1) (qa2) (qa3)) := by
  obtain ⟨w0, hw0, x0, x1, b0⟩ := bx_Vv w a1 a2 a3
  have ha := ha0.later b0
  clear ha0
  obtain ⟨g0, hg0⟩ : ∃ g0, g0 = w.heap.size := ⟨_, rfl⟩
  obtain ⟨g1, hg1⟩ : ∃ g1, g1 = w.heap.size + 1 := ⟨_, rfl⟩
  have HG : Hid (w.heap.size ≤ g1) := by show w.heap.size ≤ g1; omega
  go_enter Try.func22, Try.ntmps22
  go_wp2
  rw [← hw0, ← hg1, ← hg0]
  rw [← hg0] at x0
  rw [← hg1] at x1
  clear hw0 hg0 hg1
  have HLst : Lst [VV (.pointer (some ⟨g0, 0, none⟩)), VV (.agg #[.bool a1.s, .slice a1.no a1.nn a1.nc, .slice a1.eo a1.en a1.ec]), VC (qa1) (K), VV (.pointer (some ⟨g0, 3, none⟩)), VV (.agg #[.bool a2.s, .slice a2.no a2.nn a2.nc, .slice a2.eo a2.en a2.ec]), VC (qa2) (K), VV (.pointer (some ⟨g0, 6, none⟩)), VV (.agg #[.bool a3.s, .slice a3.no a3.nn a3.nc, .slice a3.eo a3.en a3.ec]), VC (qa3) (K), VG (qa1) (qa2) (qa3) (K)] := ⟨VV.lasts _, VV.lasts _, VC.lasts _ _, VV.lasts _, VV.lasts _, VC.lasts _ _, VV.lasts _, VV.lasts _, VC.lasts _ _, VG.lasts _ _ _ _, trivial⟩
  refine wp_region_kahn 10 13 [([], [1]), ([(0, 3)], []), ([(1, 4)], []), ([], [1]), ([(3, 6)], []), ([(4, 7)], []), ([], [1]), ([(6, 9)], []), ([(7, 10)], []), ([(2, 5), (5, 8), (8, 11)], [])]
    (fun u => Below w0.heap.size w0 u) (fun u u' => Below u.heap.size u u')
    (Sp [VV (.pointer (some ⟨g0, 0, none⟩)), VV (.agg #[.bool a1.s, .slice a1.no a1.nn a1.nc, .slice a1.eo a1.en a1.ec]), VC (qa1) (K), VV (.pointer (some ⟨g0, 3, none⟩)), VV (.agg #[.bool a2.s, .slice a2.no a2.nn a2.nc, .slice a2.eo a2.en a2.ec]), VC (qa2) (K), VV (.pointer (some ⟨g0, 6, none⟩)), VV (.agg #[.bool a3.s, .slice a3.no a3.nn a3.nc, .slice a3.eo a3.en a3.ec]), VC (qa3) (K), VG (qa1) (qa2) (qa3) (K)])
    (by kernel_rfl) rfl (by kernel_rfl) (Below.refl _ _).drew (fun k v u u' _ hg hs => Sp.lasts HLst k v u u' hg hs) ?_ ?_
  · clear HLst
    refine ⟨.inl ⟨by simp, fun ρ u hC hc hf hd ho => ?_⟩, .inl ⟨by simp, fun ρ u hC hc hf hd ho => ?_⟩, .inl ⟨by simp, fun ρ u hC hc hf hd ho => ?_⟩, .inl ⟨by simp, fun ρ u hC hc hf hd ho => ?_⟩, .inl ⟨by simp, fun ρ u hC hc hf hd ho => ?_⟩, .inl ⟨by simp, fun ρ u hC hc hf hd ho => ?_⟩, .inl ⟨by simp, fun ρ u hC hc hf hd ho => ?_⟩, .inl ⟨by simp, fun ρ u hC hc hf hd ho => ?_⟩, .inl ⟨by simp, fun ρ u hC hc hf hd ho => ?_⟩, .inl ⟨by simp, fun ρ u hC hc hf hd ho => ?_⟩, trivial⟩
    · have e1 : ρ (.tmp 1) = .pointer (some ⟨g0, 0, none⟩) := ho 1 (by simp)
      refine Goes.pure (.pointer (some ⟨g0, 0, none⟩)) ?_ ⟨hC, Below.refl _ _, rfl⟩
      unfold Goes
      go_simp
    · have e3 : ρ (.tmp 3) = .pointer (some ⟨g0, 0, none⟩) := hd (0, 3) (by simp)
      obtain ⟨c0, c1, c2⟩ := (x0.later hC).c0
      refine Goes.pure (.agg #[.bool a1.s, .slice a1.no a1.nn a1.nc, .slice a1.eo a1.en a1.ec]) ?_ ⟨hC, Below.refl _ _, rfl⟩
      unfold Goes
      go_simp
    · have e4 : ρ (.tmp 4) = .agg #[.bool a1.s, .slice a1.no a1.nn a1.nc, .slice a1.eo a1.en a1.ec] := hd (1, 4) (by simp)
      refine Goes.call 44 #[.agg #[.bool a1.s, .slice a1.no a1.nn a1.nc, .slice a1.eo a1.en a1.ec]] (by go_simp) ?_
      refine Calls.mono (read3_any u a1.s a1.no a1.nn a1.nc a1.eo a1.en a1.ec (K) (qa1) (ha.later hC).x (by omega) (by omega)) ?_
      rintro e u' ⟨s1, no1, nn1, nc1, eo1, en1, ec1, rfl, cq, lb⟩
      exact ⟨_, rfl, hC.trans (lb.mono hC.size), lb, ⟨s1, no1, nn1, nc1, eo1, en1, ec1, rfl, cq⟩⟩
    · have e1 : ρ (.tmp 1) = .pointer (some ⟨g0, 0, none⟩) := ho 1 (by simp)
      refine Goes.pure (.pointer (some ⟨g0, 3, none⟩)) ?_ ⟨hC, Below.refl _ _, rfl⟩
      unfold Goes
      go_simp
    · have e6 : ρ (.tmp 6) = .pointer (some ⟨g0, 3, none⟩) := hd (3, 6) (by simp)
      obtain ⟨c0, c1, c2⟩ := (x0.later hC).c1
      refine Goes.pure (.agg #[.bool a2.s, .slice a2.no a2.nn a2.nc, .slice a2.eo a2.en a2.ec]) ?_ ⟨hC, Below.refl _ _, rfl⟩
      unfold Goes
      go_simp
    · have e7 : ρ (.tmp 7) = .agg #[.bool a2.s, .slice a2.no a2.nn a2.nc, .slice a2.eo a2.en a2.ec] := hd (4, 7) (by simp)
      refine Goes.call 44 #[.agg #[.bool a2.s, .slice a2.no a2.nn a2.nc, .slice a2.eo a2.en a2.ec]] (by go_simp) ?_
      refine Calls.mono (read3_any u a2.s a2.no a2.nn a2.nc a2.eo a2.en a2.ec (K) (qa2) (ha.later hC).y (by omega) (by omega)) ?_
      rintro e u' ⟨s1, no1, nn1, nc1, eo1, en1, ec1, rfl, cq, lb⟩
      exact ⟨_, rfl, hC.trans (lb.mono hC.size), lb, ⟨s1, no1, nn1, nc1, eo1, en1, ec1, rfl, cq⟩⟩
    · have e1 : ρ (.tmp 1) = .pointer (some ⟨g0, 0, none⟩) := ho 1 (by simp)
      refine Goes.pure (.pointer (some ⟨g0, 6, none⟩)) ?_ ⟨hC, Below.refl _ _, rfl⟩
      unfold Goes
      go_simp
    · have e9 : ρ (.tmp 9) = .pointer (some ⟨g0, 6, none⟩) := hd (6, 9) (by simp)
      obtain ⟨c0, c1, c2⟩ := (x0.later hC).c2
      refine Goes.pure (.agg #[.bool a3.s, .slice a3.no a3.nn a3.nc, .slice a3.eo a3.en a3.ec]) ?_ ⟨hC, Below.refl _ _, rfl⟩
      unfold Goes
      go_simp
    · have e10 : ρ (.tmp 10) = .agg #[.bool a3.s, .slice a3.no a3.nn a3.nc, .slice a3.eo a3.en a3.ec] := hd (7, 10) (by simp)
      refine Goes.call 44 #[.agg #[.bool a3.s, .slice a3.no a3.nn a3.nc, .slice a3.eo a3.en a3.ec]] (by go_simp) ?_
      refine Calls.mono (read3_any u a3.s a3.no a3.nn a3.nc a3.eo a3.en a3.ec (K) (qa3) (ha.later hC).z (by omega) (by omega)) ?_
      rintro e u' ⟨s1, no1, nn1, nc1, eo1, en1, ec1, rfl, cq, lb⟩
      exact ⟨_, rfl, hC.trans (lb.mono hC.size), lb, ⟨s1, no1, nn1, nc1, eo1, en1, ec1, rfl, cq⟩⟩
    · obtain ⟨s5, no5, nn5, nc5, eo5, en5, ec5, e5, k5⟩ : VC (qa1) (K) (ρ (.tmp 5)) u := hd (2, 5) (by simp)
      obtain ⟨s8, no8, nn8, nc8, eo8, en8, ec8, e8, k8⟩ : VC (qa2) (K) (ρ (.tmp 8)) u := hd (5, 8) (by simp)
      obtain ⟨s11, no11, nn11, nc11, eo11, en11, ec11, e11, k11⟩ : VC (qa3) (K) (ρ (.tmp 11)) u := hd (8, 11) (by simp)
      refine Goes.pure (.agg #[.bool s5, .slice no5 nn5 nc5, .slice eo5 en5 ec5, .bool s8, .slice no8 nn8 nc8, .slice eo8 en8 ec8, .bool s11, .slice no11 nn11 nc11, .slice eo11 en11 ec11]) ?_ ⟨hC, Below.refl _ _, ⟨⟨s5, no5, nn5, nc5, eo5, en5, ec5⟩, ⟨s8, no8, nn8, nc8, eo8, en8, ec8⟩, ⟨s11, no11, nn11, nc11, eo11, en11, ec11⟩, rfl, k5.mono (by omega), k8.mono (by omega), k11.mono (by omega)⟩⟩
      unfold Goes
      go_simp
  · intro vs u hC hv
    obtain ⟨ra, rb, rc, eR, cv⟩ : VG (qa1) (qa2) (qa3) (K) (vs 9) u := hv 9 (by omega)
    have xr := x1.later hC
    obtain ⟨c0, c1, c2⟩ := xr.c0
    obtain ⟨c3, c4, c5⟩ := xr.c1
    obtain ⟨c6, c7, c8⟩ := xr.c2
    have f0 := xr.free 0
    have f1 := xr.free 1
    have f2 := xr.free 2
    have f3 := xr.free 3
    have f4 := xr.free 4
    have f5 := xr.free 5
    have f6 := xr.free 6
    have f7 := xr.free 7
    have f8 := xr.free 8
    clear hv
    simp only [puts, List.take, List.drop, Act.put, List.setIfInBounds_toArray, List.set_cons_succ, List.set_cons_zero, Nat.reduceAdd, eR]
    go_wp2
    exact ret_storeV rfl rfl rfl xr HG.out (cv.mono (by omega)) (b0.trans (hC.mono b0.size))
theorem bx_VVv (w : World) (a0 b0 c0 a1 b1 c1 : RP) : ∃ w0, w0 = (((w.alloc (.cells #[.bool a0.s, .slice a0.no a0.nn a0.nc, .slice a0.eo a0.en a0.ec, .bool b0.s, .slice b0.no b0.nn b0.nc, .slice b0.eo b0.en b0.ec, .bool c0.s, .slice c0.no c0.nn c0.nc, .slice c0.eo c0.en c0.ec] 26)).alloc (.cells #[.bool a1.s, .slice a1.no a1.nn a1.nc, .slice a1.eo a1.en a1.ec, .bool b1.s, .slice b1.no b1.nn b1.nc, .slice b1.eo b1.en b1.ec, .bool c1.s, .slice c1.no c1.nn c1.nc, .slice c1.eo c1.en c1.ec] 26)).alloc (.cells #[.bool false, .slice none 0 0, .slice none 0 0, .bool false, .slice none 0 0, .slice none 0 0, .bool false, .slice none 0 0, .slice none 0 0] 26)) ∧ Vb w0 w.heap.size a0 b0 c0 ∧ Vb w0 (w.heap.size + 1) a1 b1 c1 ∧ Vb w0 (w.heap.size + 2) zRP zRP zRP ∧ Below w.heap.size w w0 := by
  obtain ⟨w1, h1⟩ : ∃ w1, w1 = w.alloc (.cells #[.bool a0.s, .slice a0.no a0.nn a0.nc, .slice a0.eo a0.en a0.ec, .bool b0.s, .slice b0.no b0.nn b0.nc, .slice b0.eo b0.en b0.ec, .bool c0.s, .slice c0.no c0.nn c0.nc, .slice c0.eo c0.en c0.ec] 26) := ⟨_, rfl⟩
  have l1 : Below w.heap.size w w1 := by rw [h1]; exact (Below.refl _ _).alloc (Nat.le_refl _) _
  have z1 : w1.heap.size = w.heap.size + 1 := by rw [h1]; simp
  have r1 : Vb w1 w.heap.size a0 b0 c0 := by rw [h1]; exact ⟨heap_alloc_new _ _⟩
  obtain ⟨w2, h2⟩ : ∃ w2, w2 = w1.alloc (.cells #[.bool a1.s, .slice a1.no a1.nn a1.nc, .slice a1.eo a1.en a1.ec, .bool b1.s, .slice b1.no b1.nn b1.nc, .slice b1.eo b1.en b1.ec, .bool c1.s, .slice c1.no c1.nn c1.nc, .slice c1.eo c1.en c1.ec] 26) := ⟨_, rfl⟩
  have l2 : Below w1.heap.size w1 w2 := by rw [h2]; exact (Below.refl _ _).alloc (Nat.le_refl _) _
  have z2 : w2.heap.size = w1.heap.size + 1 := by rw [h2]; simp
  have r2 : Vb w2 w1.heap.size a1 b1 c1 := by rw [h2]; exact ⟨heap_alloc_new _ _⟩
  obtain ⟨w3, h3⟩ : ∃ w3, w3 = w2.alloc (.cells #[.bool false, .slice none 0 0, .slice none 0 0, .bool false, .slice none 0 0, .slice none 0 0, .bool false, .slice none 0 0, .slice none 0 0] 26) := ⟨_, rfl⟩
  have l3 : Below w2.heap.size w2 w3 := by rw [h3]; exact (Below.refl _ _).alloc (Nat.le_refl _) _
  have z3 : w3.heap.size = w2.heap.size + 1 := by rw [h3]; simp
  have r3 : Vb w3 w2.heap.size zRP zRP zRP := by rw [h3]; exact ⟨heap_alloc_new _ _⟩
  replace r1 := r1.later l2
  replace r1 := r1.later l3
  replace r2 := r2.later l3
  have b1 := l1
  have b2 := b1.trans (l2.mono b1.size)
  have b3 := b2.trans (l3.mono b2.size)
  rw [show w1.heap.size = w.heap.size + 1 from by omega] at r2
  rw [show w2.heap.size = w.heap.size + 2 from by omega] at r3
  exact ⟨w3, by rw [h3, h2, h1], r1, r2, r3, b3⟩
set_option maxRecDepth 100000 in
set_option maxHeartbeats 8000000 in
theorem vadd5 {w : World} {a1 a2 a3 : RP} {qa1 qa2 qa3 : Rat} {b1 b2 b3 : RP} {qb1 qb2 qb3 : Rat} {K L : Nat} (ha0 : Qv w a1 a2 a3 qa1 qa2 qa3 K) (hb0 : Qv w b1 b2 b3 qb1 qb2 qb3 L) (K1 : 1 ≤ K) (L1 : 1 ≤ L) (hK : K + L + 1 ≤ 17179869184) :
    Calls Try.prog 11 #[.agg #[.bool a1.s, .slice a1.no a1.nn a1.nc, .slice a1.eo a1.en a1.ec, .bool a2.s, .slice a2.no a2.nn a2.nc, .slice a2.eo a2.en a2.ec, .bool a3.s, .slice a3.no a3.nn a3.nc, .slice a3.eo a3.en a3.ec], .agg #[.bool b1.s, .slice b1.no b1.nn b1.nc, .slice b1.eo b1.en b1.ec, .bool b2.s, .slice b2.no b2.nn b2.nc, .slice b2.eo b2.en b2.ec, .bool b3.s, .slice b3.no b3.nn b3.nc, .slice b3.eo b3.en b3.ec]] w (Gv3 w (K + (L) + 1) (qa1 + qb1) (qa2 + qb2) (qa3 + qb3)) := by
  obtain ⟨w0, hw0, x0, x1, x2, b0⟩ := bx_VVv w a1 a2 a3 b1 b2 b3
  have ha := ha0.later b0
  clear ha0
  have hb := hb0.later b0
  clear hb0
  obtain ⟨g0, hg0⟩ : ∃ g0, g0 = w.heap.size := ⟨_, rfl⟩
  obtain ⟨g1, hg1⟩ : ∃ g1, g1 = w.heap.size + 1 := ⟨_, rfl⟩
  obtain ⟨g2, hg2⟩ : ∃ g2, g2 = w.heap.size + 2 := ⟨_, rfl⟩
  have HG : Hid (w.heap.size ≤ g2) := by show w.heap.size ≤ g2; omega
  go_enter Try.func11, Try.ntmps11
  go_wp2
  rw [← hw0, ← hg2, ← hg1, ← hg0]
  rw [← hg0] at x0
  rw [← hg1] at x1
  rw [← hg2] at x2
  clear hw0 hg0 hg1 hg2
  have HLst : Lst [VV (.pointer (some ⟨g0, 0, none⟩)), VV (.agg #[.bool a1.s, .slice a1.no a1.nn a1.nc, .slice a1.eo a1.en a1.ec]), VV (.pointer (some ⟨g1, 0, none⟩)), VV (.agg #[.bool b1.s, .slice b1.no b1.nn b1.nc, .slice b1.eo b1.en b1.ec]), VC (qa1 + qb1) (K + (L) + 1), VV (.pointer (some ⟨g0, 3, none⟩)), VV (.agg #[.bool a2.s, .slice a2.no a2.nn a2.nc, .slice a2.eo a2.en a2.ec]), VV (.pointer (some ⟨g1, 3, none⟩)), VV (.agg #[.bool b2.s, .slice b2.no b2.nn b2.nc, .slice b2.eo b2.en b2.ec]), VC (qa2 + qb2) (K + (L) + 1), VV (.pointer (some ⟨g0, 6, none⟩)), VV (.agg #[.bool a3.s, .slice a3.no a3.nn a3.nc, .slice a3.eo a3.en a3.ec]), VV (.pointer (some ⟨g1, 6, none⟩)), VV (.agg #[.bool b3.s, .slice b3.no b3.nn b3.nc, .slice b3.eo b3.en b3.ec]), VC (qa3 + qb3) (K + (L) + 1), VG (qa1 + qb1) (qa2 + qb2) (qa3 + qb3) (K + (L) + 1)] := ⟨VV.lasts _, VV.lasts _, VV.lasts _, VV.lasts _, VC.lasts _ _, VV.lasts _, VV.lasts _, VV.lasts _, VV.lasts _, VC.lasts _ _, VV.lasts _, VV.lasts _, VV.lasts _, VV.lasts _, VC.lasts _ _, VG.lasts _ _ _ _, trivial⟩
  refine wp_region_kahn 16 21 [([], [2]), ([(0, 5)], []), ([], [3]), ([(2, 7)], []), ([(1, 6), (3, 8)], []), ([], [2]), ([(5, 10)], []), ([], [3]), ([(7, 12)], []), ([(6, 11), (8, 13)], []), ([], [2]), ([(10, 15)], []), ([], [3]), ([(12, 17)], []), ([(11, 16), (13, 18)], []), ([(4, 9), (9, 14), (14, 19)], [])]
    (fun u => Below w0.heap.size w0 u) (fun u u' => Below u.heap.size u u')
    (Sp [VV (.pointer (some ⟨g0, 0, none⟩)), VV (.agg #[.bool a1.s, .slice a1.no a1.nn a1.nc, .slice a1.eo a1.en a1.ec]), VV (.pointer (some ⟨g1, 0, none⟩)), VV (.agg #[.bool b1.s, .slice b1.no b1.nn b1.nc, .slice b1.eo b1.en b1.ec]), VC (qa1 + qb1) (K + (L) + 1), VV (.pointer (some ⟨g0, 3, none⟩)), VV (.agg #[.bool a2.s, .slice a2.no a2.nn a2.nc, .slice a2.eo a2.en a2.ec]), VV (.pointer (some ⟨g1, 3, none⟩)), VV (.agg #[.bool b2.s, .slice b2.no b2.nn b2.nc, .slice b2.eo b2.en b2.ec]), VC (qa2 + qb2) (K + (L) + 1), VV (.pointer (some ⟨g0, 6, none⟩)), VV (.agg #[.bool a3.s, .slice a3.no a3.nn a3.nc, .slice a3.eo a3.en a3.ec]), VV (.pointer (some ⟨g1, 6, none⟩)), VV (.agg #[.bool b3.s, .slice b3.no b3.nn b3.nc, .slice b3.eo b3.en b3.ec]), VC (qa3 + qb3) (K + (L) + 1), VG (qa1 + qb1) (qa2 + qb2) (qa3 + qb3) (K + (L) + 1)])
    (by kernel_rfl) rfl (by kernel_rfl) (Below.refl _ _).drew (fun k v u u' _ hg hs => Sp.lasts HLst k v u u' hg hs) ?_ ?_
  · clear HLst
    refine ⟨.inl ⟨by simp, fun ρ u hC hc hf hd ho => ?_⟩, .inl ⟨by simp, fun ρ u hC hc hf hd ho => ?_⟩, .inl ⟨by simp, fun ρ u hC hc hf hd ho => ?_⟩, .inl ⟨by simp, fun ρ u hC hc hf hd ho => ?_⟩, .inl ⟨by simp, fun ρ u hC hc hf hd ho => ?_⟩, .inl ⟨by simp, fun ρ u hC hc hf hd ho => ?_⟩, .inl ⟨by simp, fun ρ u hC hc hf hd ho => ?_⟩, .inl ⟨by simp, fun ρ u hC hc hf hd ho => ?_⟩, .inl ⟨by simp, fun ρ u hC hc hf hd ho => ?_⟩, .inl ⟨by simp, fun ρ u hC hc hf hd ho => ?_⟩, .inl ⟨by simp, fun ρ u hC hc hf hd ho => ?_⟩, .inl ⟨by simp, fun ρ u hC hc hf hd ho => ?_⟩, .inl ⟨by simp, fun ρ u hC hc hf hd ho => ?_⟩, .inl ⟨by simp, fun ρ u hC hc hf hd ho => ?_⟩, .inl ⟨by simp, fun ρ u hC hc hf hd ho => ?_⟩, .inl ⟨by simp, fun ρ u hC hc hf hd ho => ?_⟩, trivial⟩
    · have e2 : ρ (.tmp 2) = .pointer (some ⟨g0, 0, none⟩) := ho 2 (by simp)
      refine Goes.pure (.pointer (some ⟨g0, 0, none⟩)) ?_ ⟨hC, Below.refl _ _, rfl⟩
      unfold Goes
      go_simp
    · have e5 : ρ (.tmp 5) = .pointer (some ⟨g0, 0, none⟩) := hd (0, 5) (by simp)
      obtain ⟨c0, c1, c2⟩ := (x0.later hC).c0
      refine Goes.pure (.agg #[.bool a1.s, .slice a1.no a1.nn a1.nc, .slice a1.eo a1.en a1.ec]) ?_ ⟨hC, Below.refl _ _, rfl⟩
      unfold Goes
      go_simp
    · have e3 : ρ (.tmp 3) = .pointer (some ⟨g1, 0, none⟩) := ho 3 (by simp)
      refine Goes.pure (.pointer (some ⟨g1, 0, none⟩)) ?_ ⟨hC, Below.refl _ _, rfl⟩
      unfold Goes
      go_simp
    · have e7 : ρ (.tmp 7) = .pointer (some ⟨g1, 0, none⟩) := hd (2, 7) (by simp)
      obtain ⟨c0, c1, c2⟩ := (x1.later hC).c0
      refine Goes.pure (.agg #[.bool b1.s, .slice b1.no b1.nn b1.nc, .slice b1.eo b1.en b1.ec]) ?_ ⟨hC, Below.refl _ _, rfl⟩
      unfold Goes
      go_simp
    · have e6 : ρ (.tmp 6) = .agg #[.bool a1.s, .slice a1.no a1.nn a1.nc, .slice a1.eo a1.en a1.ec] := hd (1, 6) (by simp)
      have e8 : ρ (.tmp 8) = .agg #[.bool b1.s, .slice b1.no b1.nn b1.nc, .slice b1.eo b1.en b1.ec] := hd (3, 8) (by simp)
      refine Goes.call 37 #[.agg #[.bool a1.s, .slice a1.no a1.nn a1.nc, .slice a1.eo a1.en a1.ec], .agg #[.bool b1.s, .slice b1.no b1.nn b1.nc, .slice b1.eo b1.en b1.ec]] (by go_simp) ?_
      refine Calls.mono (add3_any u a1.s a1.no a1.nn a1.nc a1.eo a1.en a1.ec b1.s b1.no b1.nn b1.nc b1.eo b1.en b1.ec (K) (L) (qa1) (qb1) (ha.later hC).x (hb.later hC).x (by omega) (by omega) (by omega)) ?_
      rintro e u' ⟨s1, no1, nn1, nc1, eo1, en1, ec1, rfl, cq, lb⟩
      exact ⟨_, rfl, hC.trans (lb.mono hC.size), lb, ⟨s1, no1, nn1, nc1, eo1, en1, ec1, rfl, cq⟩⟩
    · have e2 : ρ (.tmp 2) = .pointer (some ⟨g0, 0, none⟩) := ho 2 (by simp)
      refine Goes.pure (.pointer (some ⟨g0, 3, none⟩)) ?_ ⟨hC, Below.refl _ _, rfl⟩
      unfold Goes
      go_simp
    · have e10 : ρ (.tmp 10) = .pointer (some ⟨g0, 3, none⟩) := hd (5, 10) (by simp)
      obtain ⟨c0, c1, c2⟩ := (x0.later hC).c1
      refine Goes.pure (.agg #[.bool a2.s, .slice a2.no a2.nn a2.nc, .slice a2.eo a2.en a2.ec]) ?_ ⟨hC, Below.refl _ _, rfl⟩
      unfold Goes
      go_simp
    · have e3 : ρ (.tmp 3) = .pointer (some ⟨g1, 0, none⟩) := ho 3 (by simp)
      refine Goes.pure (.pointer (some ⟨g1, 3, none⟩)) ?_ ⟨hC, Below.refl _ _, rfl⟩
      unfold Goes
      go_simp
    · have e12 : ρ (.tmp 12) = .pointer (some ⟨g1, 3, none⟩) := hd (7, 12) (by simp)
      obtain ⟨c0, c1, c2⟩ := (x1.later hC).c1
      refine Goes.pure (.agg #[.bool b2.s, .slice b2.no b2.nn b2.nc, .slice b2.eo b2.en b2.ec]) ?_ ⟨hC, Below.refl _ _, rfl⟩
      unfold Goes
      go_simp
    · have e11 : ρ (.tmp 11) = .agg #[.bool a2.s, .slice a2.no a2.nn a2.nc, .slice a2.eo a2.en a2.ec] := hd (6, 11) (by simp)
      have e13 : ρ (.tmp 13) = .agg #[.bool b2.s, .slice b2.no b2.nn b2.nc, .slice b2.eo b2.en b2.ec] := hd (8, 13) (by simp)
      refine Goes.call 37 #[.agg #[.bool a2.s, .slice a2.no a2.nn a2.nc, .slice a2.eo a2.en a2.ec], .agg #[.bool b2.s, .slice b2.no b2.nn b2.nc, .slice b2.eo b2.en b2.ec]] (by go_simp) ?_
      refine Calls.mono (add3_any u a2.s a2.no a2.nn a2.nc a2.eo a2.en a2.ec b2.s b2.no b2.nn b2.nc b2.eo b2.en b2.ec (K) (L) (qa2) (qb2) (ha.later hC).y (hb.later hC).y (by omega) (by omega) (by omega)) ?_
      rintro e u' ⟨s1, no1, nn1, nc1, eo1, en1, ec1, rfl, cq, lb⟩
      exact ⟨_, rfl, hC.trans (lb.mono hC.size), lb, ⟨s1, no1, nn1, nc1, eo1, en1, ec1, rfl, cq⟩⟩
    · have e2 : ρ (.tmp 2) = .pointer (some ⟨g0, 0, none⟩) := ho 2 (by simp)
      refine Goes.pure (.pointer (some ⟨g0, 6, none⟩)) ?_ ⟨hC, Below.refl _ _, rfl⟩
      unfold Goes
      go_simp
    · have e15 : ρ (.tmp 15) = .pointer (some ⟨g0, 6, none⟩) := hd (10, 15) (by simp)
      obtain ⟨c0, c1, c2⟩ := (x0.later hC).c2
      refine Goes.pure (.agg #[.bool a3.s, .slice a3.no a3.nn a3.nc, .slice a3.eo a3.en a3.ec]) ?_ ⟨hC, Below.refl _ _, rfl⟩
      unfold Goes
      go_simp
    · have e3 : ρ (.tmp 3) = .pointer (some ⟨g1, 0, none⟩) := ho 3 (by simp)
      refine Goes.pure (.pointer (some ⟨g1, 6, none⟩)) ?_ ⟨hC, Below.refl _ _, rfl⟩
      unfold Goes
      go_simp
    · have e17 : ρ (.tmp 17) = .pointer (some ⟨g1, 6, none⟩) := hd (12, 17) (by simp)
      obtain ⟨c0, c1, c2⟩ := (x1.later hC).c2
      refine Goes.pure (.agg #[.bool b3.s, .slice b3.no b3.nn b3.nc, .slice b3.eo b3.en b3.ec]) ?_ ⟨hC, Below.refl _ _, rfl⟩
      unfold Goes
      go_simp
    · have e16 : ρ (.tmp 16) = .agg #[.bool a3.s, .slice a3.no a3.nn a3.nc, .slice a3.eo a3.en a3.ec] := hd (11, 16) (by simp)
      have e18 : ρ (.tmp 18) = .agg #[.bool b3.s, .slice b3.no b3.nn b3.nc, .slice b3.eo b3.en b3.ec] := hd (13, 18) (by simp)
      refine Goes.call 37 #[.agg #[.bool a3.s, .slice a3.no a3.nn a3.nc, .slice a3.eo a3.en a3.ec], .agg #[.bool b3.s, .slice b3.no b3.nn b3.nc, .slice b3.eo b3.en b3.ec]] (by go_simp) ?_
      refine Calls.mono (add3_any u a3.s a3.no a3.nn a3.nc a3.eo a3.en a3.ec b3.s b3.no b3.nn b3.nc b3.eo b3.en b3.ec (K) (L) (qa3) (qb3) (ha.later hC).z (hb.later hC).z (by omega) (by omega) (by omega)) ?_
      rintro e u' ⟨s1, no1, nn1, nc1, eo1, en1, ec1, rfl, cq, lb⟩
      exact ⟨_, rfl, hC.trans (lb.mono hC.size), lb, ⟨s1, no1, nn1, nc1, eo1, en1, ec1, rfl, cq⟩⟩
    · obtain ⟨s9, no9, nn9, nc9, eo9, en9, ec9, e9, k9⟩ : VC (qa1 + qb1) (K + (L) + 1) (ρ (.tmp 9)) u := hd (4, 9) (by simp)
      obtain ⟨s14, no14, nn14, nc14, eo14, en14, ec14, e14, k14⟩ : VC (qa2 + qb2) (K + (L) + 1) (ρ (.tmp 14)) u := hd (9, 14) (by simp)
      obtain ⟨s19, no19, nn19, nc19, eo19, en19, ec19, e19, k19⟩ : VC (qa3 + qb3) (K + (L) + 1) (ρ (.tmp 19)) u := hd (14, 19) (by simp)
      refine Goes.pure (.agg #[.bool s9, .slice no9 nn9 nc9, .slice eo9 en9 ec9, .bool s14, .slice no14 nn14 nc14, .slice eo14 en14 ec14, .bool s19, .slice no19 nn19 nc19, .slice eo19 en19 ec19]) ?_ ⟨hC, Below.refl _ _, ⟨⟨s9, no9, nn9, nc9, eo9, en9, ec9⟩, ⟨s14, no14, nn14, nc14, eo14, en14, ec14⟩, ⟨s19, no19, nn19, nc19, eo19, en19, ec19⟩, rfl, k9.mono (by omega), k14.mono (by omega), k19.mono (by omega)⟩⟩
      unfold Goes
      go_simp
  · intro vs u hC hv
    obtain ⟨ra, rb, rc, eR, cv⟩ : VG (qa1 + qb1) (qa2 + qb2) (qa3 + qb3) (K + (L) + 1) (vs 15) u := hv 15 (by omega)
    have xr := x2.later hC
    obtain ⟨c0, c1, c2⟩ := xr.c0
    obtain ⟨c3, c4, c5⟩ := xr.c1
    obtain ⟨c6, c7, c8⟩ := xr.c2
    have f0 := xr.free 0
    have f1 := xr.free 1
    have f2 := xr.free 2
    have f3 := xr.free 3
    have f4 := xr.free 4
    have f5 := xr.free 5
    have f6 := xr.free 6
    have f7 := xr.free 7
    have f8 := xr.free 8
    clear hv
    simp only [puts, List.take, List.drop, Act.put, List.setIfInBounds_toArray, List.set_cons_succ, List.set_cons_zero, Nat.reduceAdd, eR]
    go_wp2
    exact ret_storeV rfl rfl rfl xr HG.out (cv.mono (by omega)) (b0.trans (hC.mono b0.size))
set_option maxRecDepth 100000 in
set_option maxHeartbeats 8000000 in
theorem vsub5 {w : World} {a1 a2 a3 : RP} {qa1 qa2 qa3 : Rat} {b1 b2 b3 : RP} {qb1 qb2 qb3 : Rat} {K L : Nat} (ha0 : Qv w a1 a2 a3 qa1 qa2 qa3 K) (hb0 : Qv w b1 b2 b3 qb1 qb2 qb3 L) (K1 : 1 ≤ K) (L1 : 1 ≤ L) (hK : K + L + 1 ≤ 17179869184) :
    Calls Try.prog 13 #[.agg #[.bool a1.s, .slice a1.no a1.nn a1.nc, .slice a1.eo a1.en a1.ec, .bool a2.s, .slice a2.no a2.nn a2.nc, .slice a2.eo a2.en a2.ec, .bool a3.s, .slice a3.no a3.nn a3.nc, .slice a3.eo a3.en a3.ec], .agg #[.bool b1.s, .slice b1.no b1.nn b1.nc, .slice b1.eo b1.en b1.ec, .bool b2.s, .slice b2.no b2.nn b2.nc, .slice b2.eo b2.en b2.ec, .bool b3.s, .slice b3.no b3.nn b3.nc, .slice b3.eo b3.en b3.ec]] w (Gv3 w (K + (L) + 1) (qa1 - (qb1)) (qa2 - (qb2)) (qa3 - (qb3))) := by
  obtain ⟨w0, hw0, x0, x1, x2, b0⟩ := bx_VVv w a1 a2 a3 b1 b2 b3
  have ha := ha0.later b0
  clear ha0
  have hb := hb0.later b0
  clear hb0
  obtain ⟨g0, hg0⟩ : ∃ g0, g0 = w.heap.size := ⟨_, rfl⟩
  obtain ⟨g1, hg1⟩ : ∃ g1, g1 = w.heap.size + 1 := ⟨_, rfl⟩
  obtain ⟨g2, hg2⟩ : ∃ g2, g2 = w.heap.size + 2 := ⟨_, rfl⟩
  have HG : Hid (w.heap.size ≤ g2) := by show w.heap.size ≤ g2; omega
  go_enter Try.func13, Try.ntmps13
  go_wp2
  rw [← hw0, ← hg2, ← hg1, ← hg0]
  rw [← hg0] at x0
  rw [← hg1] at x1
  rw [← hg2] at x2
  clear hw0 hg0 hg1 hg2
  have HLst : Lst [VV (.pointer (some ⟨g0, 0, none⟩)), VV (.agg #[.bool a1.s, .slice a1.no a1.nn a1.nc, .slice a1.eo a1.en a1.ec]), VV (.pointer (some ⟨g1, 0, none⟩)), VV (.agg #[.bool b1.s, .slice b1.no b1.nn b1.nc, .slice b1.eo b1.en b1.ec]), VC (qa1 - (qb1)) (K + (L) + 1), VV (.pointer (some ⟨g0, 3, none⟩)), VV (.agg #[.bool a2.s, .slice a2.no a2.nn a2.nc, .slice a2.eo a2.en a2.ec]), VV (.pointer (some ⟨g1, 3, none⟩)), VV (.agg #[.bool b2.s, .slice b2.no b2.nn b2.nc, .slice b2.eo b2.en b2.ec]), VC (qa2 - (qb2)) (K + (L) + 1), VV (.pointer (some ⟨g0, 6, none⟩)), VV (.agg #[.bool a3.s, .slice a3.no a3.nn a3.nc, .slice a3.eo a3.en a3.ec]), VV (.pointer (some ⟨g1, 6, none⟩)), VV (.agg #[.bool b3.s, .slice b3.no b3.nn b3.nc, .slice b3.eo b3.en b3.ec]), VC (qa3 - (qb3)) (K + (L) + 1), VG (qa1 - (qb1)) (qa2 - (qb2)) (qa3 - (qb3)) (K + (L) + 1)] := ⟨VV.lasts _, VV.lasts _, VV.lasts _, VV.lasts _, VC.lasts _ _, VV.lasts _, VV.lasts _, VV.lasts _, VV.lasts _, VC.lasts _ _, VV.lasts _, VV.lasts _, VV.lasts _, VV.lasts _, VC.lasts _ _, VG.lasts _ _ _ _, trivial⟩
  refine wp_region_kahn 16 21 [([], [2]), ([(0, 5)], []), ([], [3]), ([(2, 7)], []), ([(1, 6), (3, 8)], []), ([], [2]), ([(5, 10)], []), ([], [3]), ([(7, 12)], []), ([(6, 11), (8, 13)], []), ([], [2]), ([(10, 15)], []), ([], [3]), ([(12, 17)], []), ([(11, 16), (13, 18)], []), ([(4, 9), (9, 14), (14, 19)], [])]
    (fun u => Below w0.heap.size w0 u) (fun u u' => Below u.heap.size u u')
    (Sp [VV (.pointer (some ⟨g0, 0, none⟩)), VV (.agg #[.bool a1.s, .slice a1.no a1.nn a1.nc, .slice a1.eo a1.en a1.ec]), VV (.pointer (some ⟨g1, 0, none⟩)), VV (.agg #[.bool b1.s, .slice b1.no b1.nn b1.nc, .slice b1.eo b1.en b1.ec]), VC (qa1 - (qb1)) (K + (L) + 1), VV (.pointer (some ⟨g0, 3, none⟩)), VV (.agg #[.bool a2.s, .slice a2.no a2.nn a2.nc, .slice a2.eo a2.en a2.ec]), VV (.pointer (some ⟨g1, 3, none⟩)), VV (.agg #[.bool b2.s, .slice b2.no b2.nn b2.nc, .slice b2.eo b2.en b2.ec]), VC (qa2 - (qb2)) (K + (L) + 1), VV (.pointer (some ⟨g0, 6, none⟩)), VV (.agg #[.bool a3.s, .slice a3.no a3.nn a3.nc, .slice a3.eo a3.en a3.ec]), VV (.pointer (some ⟨g1, 6, none⟩)), VV (.agg #[.bool b3.s, .slice b3.no b3.nn b3.nc, .slice b3.eo b3.en b3.ec]), VC (qa3 - (qb3)) (K + (L) + 1), VG (qa1 - (qb1)) (qa2 - (qb2)) (qa3 - (qb3)) (K + (L) + 1)])
    (by kernel_rfl) rfl (by kernel_rfl) (Below.refl _ _).drew (fun k v u u' _ hg hs => Sp.lasts HLst k v u u' hg hs) ?_ ?_
  · clear HLst
    refine ⟨.inl ⟨by simp, fun ρ u hC hc hf hd ho => ?_⟩, .inl ⟨by simp, fun ρ u hC hc hf hd ho => ?_⟩, .inl ⟨by simp, fun ρ u hC hc hf hd ho => ?_⟩, .inl ⟨by simp, fun ρ u hC hc hf hd ho => ?_⟩, .inl ⟨by simp, fun ρ u hC hc hf hd ho => ?_⟩, .inl ⟨by simp, fun ρ u hC hc hf hd ho => ?_⟩, .inl ⟨by simp, fun ρ u hC hc hf hd ho => ?_⟩, .inl ⟨by simp, fun ρ u hC hc hf hd ho => ?_⟩, .inl ⟨by simp, fun ρ u hC hc hf hd ho => ?_⟩, .inl ⟨by simp, fun ρ u hC hc hf hd ho => ?_⟩, .inl ⟨by simp, fun ρ u hC hc hf hd ho => ?_⟩, .inl ⟨by simp, fun ρ u hC hc hf hd ho => ?_⟩, .inl ⟨by simp, fun ρ u hC hc hf hd ho => ?_⟩, .inl ⟨by simp, fun ρ u hC hc hf hd ho => ?_⟩, .inl ⟨by simp, fun ρ u hC hc hf hd ho => ?_⟩, .inl ⟨by simp, fun ρ u hC hc hf hd ho => ?_⟩, trivial⟩
    · have e2 : ρ (.tmp 2) = .pointer (some ⟨g0, 0, none⟩) := ho 2 (by simp)
      refine Goes.pure (.pointer (some ⟨g0, 0, none⟩)) ?_ ⟨hC, Below.refl _ _, rfl⟩
      unfold Goes
      go_simp
    · have e5 : ρ (.tmp 5) = .pointer (some ⟨g0, 0, none⟩) := hd (0, 5) (by simp)
      obtain ⟨c0, c1, c2⟩ := (x0.later hC).c0
      refine Goes.pure (.agg #[.bool a1.s, .slice a1.no a1.nn a1.nc, .slice a1.eo a1.en a1.ec]) ?_ ⟨hC, Below.refl _ _, rfl⟩
      unfold Goes
      go_simp
    · have e3 : ρ (.tmp 3) = .pointer (some ⟨g1, 0, none⟩) := ho 3 (by simp)
      refine Goes.pure (.pointer (some ⟨g1, 0, none⟩)) ?_ ⟨hC, Below.refl _ _, rfl⟩
      unfold Goes
      go_simp
    · have e7 : ρ (.tmp 7) = .pointer (some ⟨g1, 0, none⟩) := hd (2, 7) (by simp)
      obtain ⟨c0, c1, c2⟩ := (x1.later hC).c0
      refine Goes.pure (.agg #[.bool b1.s, .slice b1.no b1.nn b1.nc, .slice b1.eo b1.en b1.ec]) ?_ ⟨hC, Below.refl _ _, rfl⟩
      unfold Goes
      go_simp
    · have e6 : ρ (.tmp 6) = .agg #[.bool a1.s, .slice a1.no a1.nn a1.nc, .slice a1.eo a1.en a1.ec] := hd (1, 6) (by simp)
      have e8 : ρ (.tmp 8) = .agg #[.bool b1.s, .slice b1.no b1.nn b1.nc, .slice b1.eo b1.en b1.ec] := hd (3, 8) (by simp)
      refine Goes.call 39 #[.agg #[.bool a1.s, .slice a1.no a1.nn a1.nc, .slice a1.eo a1.en a1.ec], .agg #[.bool b1.s, .slice b1.no b1.nn b1.nc, .slice b1.eo b1.en b1.ec]] (by go_simp) ?_
      refine Calls.mono (sub3_any u a1.s a1.no a1.nn a1.nc a1.eo a1.en a1.ec b1.s b1.no b1.nn b1.nc b1.eo b1.en b1.ec (K) (L) (qa1) (qb1) (ha.later hC).x (hb.later hC).x (by omega) (by omega) (by omega)) ?_
      rintro e u' ⟨s1, no1, nn1, nc1, eo1, en1, ec1, rfl, cq, lb⟩
      exact ⟨_, rfl, hC.trans (lb.mono hC.size), lb, ⟨s1, no1, nn1, nc1, eo1, en1, ec1, rfl, cq⟩⟩
    · have e2 : ρ (.tmp 2) = .pointer (some ⟨g0, 0, none⟩) := ho 2 (by simp)
      refine Goes.pure (.pointer (some ⟨g0, 3, none⟩)) ?_ ⟨hC, Below.refl _ _, rfl⟩
      unfold Goes
      go_simp
    · have e10 : ρ (.tmp 10) = .pointer (some ⟨g0, 3, none⟩) := hd (5, 10) (by simp)
      obtain ⟨c0, c1, c2⟩ := (x0.later hC).c1
      refine Goes.pure (.agg #[.bool a2.s, .slice a2.no a2.nn a2.nc, .slice a2.eo a2.en a2.ec]) ?_ ⟨hC, Below.refl _ _, rfl⟩
      unfold Goes
      go_simp
    · have e3 : ρ (.tmp 3) = .pointer (some ⟨g1, 0, none⟩) := ho 3 (by simp)
      refine Goes.pure (.pointer (some ⟨g1, 3, none⟩)) ?_ ⟨hC, Below.refl _ _, rfl⟩
      unfold Goes
      go_simp
    · have e12 : ρ (.tmp 12) = .pointer (some ⟨g1, 3, none⟩) := hd (7, 12) (by simp)
      obtain ⟨c0, c1, c2⟩ := (x1.later hC).c1
      refine Goes.pure (.agg #[.bool b2.s, .slice b2.no b2.nn b2.nc, .slice b2.eo b2.en b2.ec]) ?_ ⟨hC, Below.refl _ _, rfl⟩
      unfold Goes
      go_simp
    · have e11 : ρ (.tmp 11) = .agg #[.bool a2.s, .slice a2.no a2.nn a2.nc, .slice a2.eo a2.en a2.ec] := hd (6, 11) (by simp)
      have e13 : ρ (.tmp 13) = .agg #[.bool b2.s, .slice b2.no b2.nn b2.nc, .slice b2.eo b2.en b2.ec] := hd (8, 13) (by simp)
      refine Goes.call 39 #[.agg #[.bool a2.s, .slice a2.no a2.nn a2.nc, .slice a2.eo a2.en a2.ec], .agg #[.bool b2.s, .slice b2.no b2.nn b2.nc, .slice b2.eo b2.en b2.ec]] (by go_simp) ?_
      refine Calls.mono (sub3_any u a2.s a2.no a2.nn a2.nc a2.eo a2.en a2.ec b2.s b2.no b2.nn b2.nc b2.eo b2.en b2.ec (K) (L) (qa2) (qb2) (ha.later hC).y (hb.later hC).y (by omega) (by omega) (by omega)) ?_
      rintro e u' ⟨s1, no1, nn1, nc1, eo1, en1, ec1, rfl, cq, lb⟩
      exact ⟨_, rfl, hC.trans (lb.mono hC.size), lb, ⟨s1, no1, nn1, nc1, eo1, en1, ec1, rfl, cq⟩⟩
    · have e2 : ρ (.tmp 2) = .pointer (some ⟨g0, 0, none⟩) := ho 2 (by simp)
      refine Goes.pure (.pointer (some ⟨g0, 6, none⟩)) ?_ ⟨hC, Below.refl _ _, rfl⟩
      unfold Goes
      go_simp
    · have e15 : ρ (.tmp 15) = .pointer (some ⟨g0, 6, none⟩) := hd (10, 15) (by simp)
      obtain ⟨c0, c1, c2⟩ := (x0.later hC).c2
      refine Goes.pure (.agg #[.bool a3.s, .slice a3.no a3.nn a3.nc, .slice a3.eo a3.en a3.ec]) ?_ ⟨hC, Below.refl _ _, rfl⟩
      unfold Goes
      go_simp
    · have e3 : ρ (.tmp 3) = .pointer (some ⟨g1, 0, none⟩) := ho 3 (by simp)
      refine Goes.pure (.pointer (some ⟨g1, 6, none⟩)) ?_ ⟨hC, Below.refl _ _, rfl⟩
      unfold Goes
      go_simp
    · have e17 : ρ (.tmp 17) = .pointer (some ⟨g1, 6, none⟩) := hd (12, 17) (by simp)
      obtain ⟨c0, c1, c2⟩ := (x1.later hC).c2
      refine Goes.pure (.agg #[.bool b3.s, .slice b3.no b3.nn b3.nc, .slice b3.eo b3.en b3.ec]) ?_ ⟨hC, Below.refl _ _, rfl⟩
      unfold Goes
      go_simp
    · have e16 : ρ (.tmp 16) = .agg #[.bool a3.s, .slice a3.no a3.nn a3.nc, .slice a3.eo a3.en a3.ec] := hd (11, 16) (by simp)
      have e18 : ρ (.tmp 18) = .agg #[.bool b3.s, .slice b3.no b3.nn b3.nc, .slice b3.eo b3.en b3.ec] := hd (13, 18) (by simp)
      refine Goes.call 39 #[.agg #[.bool a3.s, .slice a3.no a3.nn a3.nc, .slice a3.eo a3.en a3.ec], .agg #[.bool b3.s, .slice b3.no b3.nn b3.nc, .slice b3.eo b3.en b3.ec]] (by go_simp) ?_
      refine Calls.mono (sub3_any u a3.s a3.no a3.nn a3.nc a3.eo a3.en a3.ec b3.s b3.no b3.nn b3.nc b3.eo b3.en b3.ec (K) (L) (qa3) (qb3) (ha.later hC).z (hb.later hC).z (by omega) (by omega) (by omega)) ?_
      rintro e u' ⟨s1, no1, nn1, nc1, eo1, en1, ec1, rfl, cq, lb⟩
      exact ⟨_, rfl, hC.trans (lb.mono hC.size), lb, ⟨s1, no1, nn1, nc1, eo1, en1, ec1, rfl, cq⟩⟩
    · obtain ⟨s9, no9, nn9, nc9, eo9, en9, ec9, e9, k9⟩ : VC (qa1 - (qb1)) (K + (L) + 1) (ρ (.tmp 9)) u := hd (4, 9) (by simp)
      obtain ⟨s14, no14, nn14, nc14, eo14, en14, ec14, e14, k14⟩ : VC (qa2 - (qb2)) (K + (L) + 1) (ρ (.tmp 14)) u := hd (9, 14) (by simp)
      obtain ⟨s19, no19, nn19, nc19, eo19, en19, ec19, e19, k19⟩ : VC (qa3 - (qb3)) (K + (L) + 1) (ρ (.tmp 19)) u := hd (14, 19) (by simp)
      refine Goes.pure (.agg #[.bool s9, .slice no9 nn9 nc9, .slice eo9 en9 ec9, .bool s14, .slice no14 nn14 nc14, .slice eo14 en14 ec14, .bool s19, .slice no19 nn19 nc19, .slice eo19 en19 ec19]) ?_ ⟨hC, Below.refl _ _, ⟨⟨s9, no9, nn9, nc9, eo9, en9, ec9⟩, ⟨s14, no14, nn14, nc14, eo14, en14, ec14⟩, ⟨s19, no19, nn19, nc19, eo19, en19, ec19⟩, rfl, k9.mono (by omega), k14.mono (by omega), k19.mono (by omega)⟩⟩
      unfold Goes
      go_simp
  · intro vs u hC hv
    obtain ⟨ra, rb, rc, eR, cv⟩ : VG (qa1 - (qb1)) (qa2 - (qb2)) (qa3 - (qb3)) (K + (L) + 1) (vs 15) u := hv 15 (by omega)
    have xr := x2.later hC
    obtain ⟨c0, c1, c2⟩ := xr.c0
    obtain ⟨c3, c4, c5⟩ := xr.c1
    obtain ⟨c6, c7, c8⟩ := xr.c2
    have f0 := xr.free 0
    have f1 := xr.free 1
    have f2 := xr.free 2
    have f3 := xr.free 3
    have f4 := xr.free 4
    have f5 := xr.free 5
    have f6 := xr.free 6
    have f7 := xr.free 7
    have f8 := xr.free 8
    clear hv
    simp only [puts, List.take, List.drop, Act.put, List.setIfInBounds_toArray, List.set_cons_succ, List.set_cons_zero, Nat.reduceAdd, eR]
    go_wp2
    exact ret_storeV rfl rfl rfl xr HG.out (cv.mono (by omega)) (b0.trans (hC.mono b0.size))
theorem bx_RVv (w : World) (a0 a1 b1 c1 : RP) : ∃ w0, w0 = (((w.alloc (.cells #[.bool a0.s, .slice a0.no a0.nn a0.nc, .slice a0.eo a0.en a0.ec] 24)).alloc (.cells #[.bool a1.s, .slice a1.no a1.nn a1.nc, .slice a1.eo a1.en a1.ec, .bool b1.s, .slice b1.no b1.nn b1.nc, .slice b1.eo b1.en b1.ec, .bool c1.s, .slice c1.no c1.nn c1.nc, .slice c1.eo c1.en c1.ec] 26)).alloc (.cells #[.bool false, .slice none 0 0, .slice none 0 0, .bool false, .slice none 0 0, .slice none 0 0, .bool false, .slice none 0 0, .slice none 0 0] 26)) ∧ Rb w0 w.heap.size (.bool a0.s) (.slice a0.no a0.nn a0.nc) (.slice a0.eo a0.en a0.ec) ∧ Vb w0 (w.heap.size + 1) a1 b1 c1 ∧ Vb w0 (w.heap.size + 2) zRP zRP zRP ∧ Below w.heap.size w w0 := by
  obtain ⟨w1, h1⟩ : ∃ w1, w1 = w.alloc (.cells #[.bool a0.s, .slice a0.no a0.nn a0.nc, .slice a0.eo a0.en a0.ec] 24) := ⟨_, rfl⟩
  have l1 : Below w.heap.size w w1 := by rw [h1]; exact (Below.refl _ _).alloc (Nat.le_refl _) _
  have z1 : w1.heap.size = w.heap.size + 1 := by rw [h1]; simp
  have r1 : Rb w1 w.heap.size (.bool a0.s) (.slice a0.no a0.nn a0.nc) (.slice a0.eo a0.en a0.ec) := by rw [h1]; exact ⟨heap_alloc_new _ _⟩
  obtain ⟨w2, h2⟩ : ∃ w2, w2 = w1.alloc (.cells #[.bool a1.s, .slice a1.no a1.nn a1.nc, .slice a1.eo a1.en a1.ec, .bool b1.s, .slice b1.no b1.nn b1.nc, .slice b1.eo b1.en b1.ec, .bool c1.s, .slice c1.no c1.nn c1.nc, .slice c1.eo c1.en c1.ec] 26) := ⟨_, rfl⟩
  have l2 : Below w1.heap.size w1 w2 := by rw [h2]; exact (Below.refl _ _).alloc (Nat.le_refl _) _
  have z2 : w2.heap.size = w1.heap.size + 1 := by rw [h2]; simp
  have r2 : Vb w2 w1.heap.size a1 b1 c1 := by rw [h2]; exact ⟨heap_alloc_new _ _⟩
  obtain ⟨w3, h3⟩ : ∃ w3, w3 = w2.alloc (.cells #[.bool false, .slice none 0 0, .slice none 0 0, .bool false, .slice none 0 0, .slice none 0 0, .bool false, .slice none 0 0, .slice none 0 0] 26) := ⟨_, rfl⟩
  have l3 : Below w2.heap.size w2 w3 := by rw [h3]; exact (Below.refl _ _).alloc (Nat.le_refl _) _
  have z3 : w3.heap.size = w2.heap.size + 1 := by rw [h3]; simp
  have r3 : Vb w3 w2.heap.size zRP zRP zRP := by rw [h3]; exact ⟨heap_alloc_new _ _⟩
  replace r1 := r1.later l2
  replace r1 := r1.later l3
  replace r2 := r2.later l3
  have b1 := l1
  have b2 := b1.trans (l2.mono b1.size)
  have b3 := b2.trans (l3.mono b2.size)
  rw [show w1.heap.size = w.heap.size + 1 from by omega] at r2
  rw [show w2.heap.size = w.heap.size + 2 from by omega] at r3
  exact ⟨w3, by rw [h3, h2, h1], r1, r2, r3, b3⟩
set_option maxRecDepth 100000 in
set_option maxHeartbeats 8000000 in
theorem vscale5 {w : World} {k : RP} {qk : Rat} {a1 a2 a3 : RP} {qa1 qa2 qa3 : Rat} {K L : Nat} (hk0 : Qp w k qk K) (ha0 : Qv w a1 a2 a3 qa1 qa2 qa3 L) (K1 : 1 ≤ K) (hK : K + L + 1 ≤ 17179869184) :
    Calls Try.prog 15 #[.agg #[.bool k.s, .slice k.no k.nn k.nc, .slice k.eo k.en k.ec], .agg #[.bool a1.s, .slice a1.no a1.nn a1.nc, .slice a1.eo a1.en a1.ec, .bool a2.s, .slice a2.no a2.nn a2.nc, .slice a2.eo a2.en a2.ec, .bool a3.s, .slice a3.no a3.nn a3.nc, .slice a3.eo a3.en a3.ec]] w (Gv3 w (K + (L)) ((qk) * (qa1)) ((qk) * (qa2)) ((qk) * (qa3))) := by
  obtain ⟨w0, hw0, x0, x1, x2, b0⟩ := bx_RVv w k a1 a2 a3
  have hk := hk0.later b0
  clear hk0
  have ha := ha0.later b0
  clear ha0
  obtain ⟨g0, hg0⟩ : ∃ g0, g0 = w.heap.size := ⟨_, rfl⟩
  obtain ⟨g1, hg1⟩ : ∃ g1, g1 = w.heap.size + 1 := ⟨_, rfl⟩
  obtain ⟨g2, hg2⟩ : ∃ g2, g2 = w.heap.size + 2 := ⟨_, rfl⟩
  have HG : Hid (w.heap.size ≤ g2) := by show w.heap.size ≤ g2; omega
  go_enter Try.func15, Try.ntmps15
  go_wp2
  rw [← hw0, ← hg2, ← hg1, ← hg0]
  rw [← hg0] at x0
  rw [← hg1] at x1
  rw [← hg2] at x2
  clear hw0 hg0 hg1 hg2
  have HLst : Lst [VV (.agg #[.bool k.s, .slice k.no k.nn k.nc, .slice k.eo k.en k.ec]), VV (.pointer (some ⟨g1, 0, none⟩)), VV (.agg #[.bool a1.s, .slice a1.no a1.nn a1.nc, .slice a1.eo a1.en a1.ec]), VC ((qk) * (qa1)) (K + (L)), VV (.agg #[.bool k.s, .slice k.no k.nn k.nc, .slice k.eo k.en k.ec]), VV (.pointer (some ⟨g1, 3, none⟩)), VV (.agg #[.bool a2.s, .slice a2.no a2.nn a2.nc, .slice a2.eo a2.en a2.ec]), VC ((qk) * (qa2)) (K + (L)), VV (.agg #[.bool k.s, .slice k.no k.nn k.nc, .slice k.eo k.en k.ec]), VV (.pointer (some ⟨g1, 6, none⟩)), VV (.agg #[.bool a3.s, .slice a3.no a3.nn a3.nc, .slice a3.eo a3.en a3.ec]), VC ((qk) * (qa3)) (K + (L)), VG ((qk) * (qa1)) ((qk) * (qa2)) ((qk) * (qa3)) (K + (L))] := ⟨VV.lasts _, VV.lasts _, VV.lasts _, VC.lasts _ _, VV.lasts _, VV.lasts _, VV.lasts _, VC.lasts _ _, VV.lasts _, VV.lasts _, VV.lasts _, VC.lasts _ _, VG.lasts _ _ _ _, trivial⟩
  refine wp_region_kahn 13 18 [([], [2]), ([], [3]), ([(1, 6)], []), ([(0, 5), (2, 7)], []), ([], [2]), ([], [3]), ([(5, 10)], []), ([(4, 9), (6, 11)], []), ([], [2]), ([], [3]), ([(9, 14)], []), ([(8, 13), (10, 15)], []), ([(3, 8), (7, 12), (11, 16)], [])]
    (fun u => Below w0.heap.size w0 u) (fun u u' => Below u.heap.size u u')
    (Sp [VV (.agg #[.bool k.s, .slice k.no k.nn k.nc, .slice k.eo k.en k.ec]), VV (.pointer (some ⟨g1, 0, none⟩)), VV (.agg #[.bool a1.s, .slice a1.no a1.nn a1.nc, .slice a1.eo a1.en a1.ec]), VC ((qk) * (qa1)) (K + (L)), VV (.agg #[.bool k.s, .slice k.no k.nn k.nc, .slice k.eo k.en k.ec]), VV (.pointer (some ⟨g1, 3, none⟩)), VV (.agg #[.bool a2.s, .slice a2.no a2.nn a2.nc, .slice a2.eo a2.en a2.ec]), VC ((qk) * (qa2)) (K + (L)), VV (.agg #[.bool k.s, .slice k.no k.nn k.nc, .slice k.eo k.en k.ec]), VV (.pointer (some ⟨g1, 6, none⟩)), VV (.agg #[.bool a3.s, .slice a3.no a3.nn a3.nc, .slice a3.eo a3.en a3.ec]), VC ((qk) * (qa3)) (K + (L)), VG ((qk) * (qa1)) ((qk) * (qa2)) ((qk) * (qa3)) (K + (L))])
    (by kernel_rfl) rfl (by kernel_rfl) (Below.refl _ _).drew (fun k v u u' _ hg hs => Sp.lasts HLst k v u u' hg hs) ?_ ?_
  · clear HLst
    refine ⟨.inl ⟨by simp, fun ρ u hC hc hf hd ho => ?_⟩, .inl ⟨by simp, fun ρ u hC hc hf hd ho => ?_⟩, .inl ⟨by simp, fun ρ u hC hc hf hd ho => ?_⟩, .inl ⟨by simp, fun ρ u hC hc hf hd ho => ?_⟩, .inl ⟨by simp, fun ρ u hC hc hf hd ho => ?_⟩, .inl ⟨by simp, fun ρ u hC hc hf hd ho => ?_⟩, .inl ⟨by simp, fun ρ u hC hc hf hd ho => ?_⟩, .inl ⟨by simp, fun ρ u hC hc hf hd ho => ?_⟩, .inl ⟨by simp, fun ρ u hC hc hf hd ho => ?_⟩, .inl ⟨by simp, fun ρ u hC hc hf hd ho => ?_⟩, .inl ⟨by simp, fun ρ u hC hc hf hd ho => ?_⟩, .inl ⟨by simp, fun ρ u hC hc hf hd ho => ?_⟩, .inl ⟨by simp, fun ρ u hC hc hf hd ho => ?_⟩, trivial⟩
    · have e2 : ρ (.tmp 2) = .pointer (some ⟨g0, 0, none⟩) := ho 2 (by simp)
      obtain ⟨c0, c1, c2⟩ := (x0.later hC).cells
      refine Goes.pure (.agg #[.bool k.s, .slice k.no k.nn k.nc, .slice k.eo k.en k.ec]) ?_ ⟨hC, Below.refl _ _, rfl⟩
      unfold Goes
      go_simp
    · have e3 : ρ (.tmp 3) = .pointer (some ⟨g1, 0, none⟩) := ho 3 (by simp)
      refine Goes.pure (.pointer (some ⟨g1, 0, none⟩)) ?_ ⟨hC, Below.refl _ _, rfl⟩
      unfold Goes
      go_simp
    · have e6 : ρ (.tmp 6) = .pointer (some ⟨g1, 0, none⟩) := hd (1, 6) (by simp)
      obtain ⟨c0, c1, c2⟩ := (x1.later hC).c0
      refine Goes.pure (.agg #[.bool a1.s, .slice a1.no a1.nn a1.nc, .slice a1.eo a1.en a1.ec]) ?_ ⟨hC, Below.refl _ _, rfl⟩
      unfold Goes
      go_simp
    · have e5 : ρ (.tmp 5) = .agg #[.bool k.s, .slice k.no k.nn k.nc, .slice k.eo k.en k.ec] := hd (0, 5) (by simp)
      have e7 : ρ (.tmp 7) = .agg #[.bool a1.s, .slice a1.no a1.nn a1.nc, .slice a1.eo a1.en a1.ec] := hd (2, 7) (by simp)
      refine Goes.call 40 #[.agg #[.bool k.s, .slice k.no k.nn k.nc, .slice k.eo k.en k.ec], .agg #[.bool a1.s, .slice a1.no a1.nn a1.nc, .slice a1.eo a1.en a1.ec]] (by go_simp) ?_
      refine Calls.mono (mul3_any u k.s k.no k.nn k.nc k.eo k.en k.ec a1.s a1.no a1.nn a1.nc a1.eo a1.en a1.ec (K) (L) (qk) (qa1) (hk.later hC) (ha.later hC).x (by omega) (by omega)) ?_
      rintro e u' ⟨s1, no1, nn1, nc1, eo1, en1, ec1, rfl, cq, lb⟩
      exact ⟨_, rfl, hC.trans (lb.mono hC.size), lb, ⟨s1, no1, nn1, nc1, eo1, en1, ec1, rfl, cq⟩⟩
    · have e2 : ρ (.tmp 2) = .pointer (some ⟨g0, 0, none⟩) := ho 2 (by simp)
      obtain ⟨c0, c1, c2⟩ := (x0.later hC).cells
      refine Goes.pure (.agg #[.bool k.s, .slice k.no k.nn k.nc, .slice k.eo k.en k.ec]) ?_ ⟨hC, Below.refl _ _, rfl⟩
      unfold Goes
      go_simp
    · have e3 : ρ (.tmp 3) = .pointer (some ⟨g1, 0, none⟩) := ho 3 (by simp)
      refine Goes.pure (.pointer (some ⟨g1, 3, none⟩)) ?_ ⟨hC, Below.refl _ _, rfl⟩
      unfold Goes
      go_simp
    · have e10 : ρ (.tmp 10) = .pointer (some ⟨g1, 3, none⟩) := hd (5, 10) (by simp)
      obtain ⟨c0, c1, c2⟩ := (x1.later hC).c1
      refine Goes.pure (.agg #[.bool a2.s, .slice a2.no a2.nn a2.nc, .slice a2.eo a2.en a2.ec]) ?_ ⟨hC, Below.refl _ _, rfl⟩
      unfold Goes
      go_simp
    · have e9 : ρ (.tmp 9) = .agg #[.bool k.s, .slice k.no k.nn k.nc, .slice k.eo k.en k.ec] := hd (4, 9) (by simp)
      have e11 : ρ (.tmp 11) = .agg #[.bool a2.s, .slice a2.no a2.nn a2.nc, .slice a2.eo a2.en a2.ec] := hd (6, 11) (by simp)
      refine Goes.call 40 #[.agg #[.bool k.s, .slice k.no k.nn k.nc, .slice k.eo k.en k.ec], .agg #[.bool a2.s, .slice a2.no a2.nn a2.nc, .slice a2.eo a2.en a2.ec]] (by go_simp) ?_
      refine Calls.mono (mul3_any u k.s k.no k.nn k.nc k.eo k.en k.ec a2.s a2.no a2.nn a2.nc a2.eo a2.en a2.ec (K) (L) (qk) (qa2) (hk.later hC) (ha.later hC).y (by omega) (by omega)) ?_
      rintro e u' ⟨s1, no1, nn1, nc1, eo1, en1, ec1, rfl, cq, lb⟩
      exact ⟨_, rfl, hC.trans (lb.mono hC.size), lb, ⟨s1, no1, nn1, nc1, eo1, en1, ec1, rfl, cq⟩⟩
    · have e2 : ρ (.tmp 2) = .pointer (some ⟨g0, 0, none⟩) := ho 2 (by simp)
      obtain ⟨c0, c1, c2⟩ := (x0.later hC).cells
      refine Goes.pure (.agg #[.bool k.s, .slice k.no k.nn k.nc, .slice k.eo k.en k.ec]) ?_ ⟨hC, Below.refl _ _, rfl⟩
      unfold Goes
      go_simp
    · have e3 : ρ (.tmp 3) = .pointer (some ⟨g1, 0, none⟩) := ho 3 (by simp)
      refine Goes.pure (.pointer (some ⟨g1, 6, none⟩)) ?_ ⟨hC, Below.refl _ _, rfl⟩
      unfold Goes
      go_simp
    · have e14 : ρ (.tmp 14) = .pointer (some ⟨g1, 6, none⟩) := hd (9, 14) (by simp)
      obtain ⟨c0, c1, c2⟩ := (x1.later hC).c2
      refine Goes.pure (.agg #[.bool a3.s, .slice a3.no a3.nn a3.nc, .slice a3.eo a3.en a3.ec]) ?_ ⟨hC, Below.refl _ _, rfl⟩
      unfold Goes
      go_simp
    · have e13 : ρ (.tmp 13) = .agg #[.bool k.s, .slice k.no k.nn k.nc, .slice k.eo k.en k.ec] := hd (8, 13) (by simp)
      have e15 : ρ (.tmp 15) = .agg #[.bool a3.s, .slice a3.no a3.nn a3.nc, .slice a3.eo a3.en a3.ec] := hd (10, 15) (by simp)
      refine Goes.call 40 #[.agg #[.bool k.s, .slice k.no k.nn k.nc, .slice k.eo k.en k.ec], .agg #[.bool a3.s, .slice a3.no a3.nn a3.nc, .slice a3.eo a3.en a3.ec]] (by go_simp) ?_
      refine Calls.mono (mul3_any u k.s k.no k.nn k.nc k.eo k.en k.ec a3.s a3.no a3.nn a3.nc a3.eo a3.en a3.ec (K) (L) (qk) (qa3) (hk.later hC) (ha.later hC).z (by omega) (by omega)) ?_
      rintro e u' ⟨s1, no1, nn1, nc1, eo1, en1, ec1, rfl, cq, lb⟩
      exact ⟨_, rfl, hC.trans (lb.mono hC.size), lb, ⟨s1, no1, nn1, nc1, eo1, en1, ec1, rfl, cq⟩⟩
    · obtain ⟨s8, no8, nn8, nc8, eo8, en8, ec8, e8, k8⟩ : VC ((qk) * (qa1)) (K + (L)) (ρ (.tmp 8)) u := hd (3, 8) (by simp)
      obtain ⟨s12, no12, nn12, nc12, eo12, en12, ec12, e12, k12⟩ : VC ((qk) * (qa2)) (K + (L)) (ρ (.tmp 12)) u := hd (7, 12) (by simp)
      obtain ⟨s16, no16, nn16, nc16, eo16, en16, ec16, e16, k16⟩ : VC ((qk) * (qa3)) (K + (L)) (ρ (.tmp 16)) u := hd (11, 16) (by simp)
      refine Goes.pure (.agg #[.bool s8, .slice no8 nn8 nc8, .slice eo8 en8 ec8, .bool s12, .slice no12 nn12 nc12, .slice eo12 en12 ec12, .bool s16, .slice no16 nn16 nc16, .slice eo16 en16 ec16]) ?_ ⟨hC, Below.refl _ _, ⟨⟨s8, no8, nn8, nc8, eo8, en8, ec8⟩, ⟨s12, no12, nn12, nc12, eo12, en12, ec12⟩, ⟨s16, no16, nn16, nc16, eo16, en16, ec16⟩, rfl, k8.mono (by omega), k12.mono (by omega), k16.mono (by omega)⟩⟩
      unfold Goes
      go_simp
  · intro vs u hC hv
    obtain ⟨ra, rb, rc, eR, cv⟩ : VG ((qk) * (qa1)) ((qk) * (qa2)) ((qk) * (qa3)) (K + (L)) (vs 12) u := hv 12 (by omega)
    have xr := x2.later hC
    obtain ⟨c0, c1, c2⟩ := xr.c0
    obtain ⟨c3, c4, c5⟩ := xr.c1
    obtain ⟨c6, c7, c8⟩ := xr.c2
    have f0 := xr.free 0
    have f1 := xr.free 1
    have f2 := xr.free 2
    have f3 := xr.free 3
    have f4 := xr.free 4
    have f5 := xr.free 5
    have f6 := xr.free 6
    have f7 := xr.free 7
    have f8 := xr.free 8
    clear hv
    simp only [puts, List.take, List.drop, Act.put, List.setIfInBounds_toArray, List.set_cons_succ, List.set_cons_zero, Nat.reduceAdd, eR]
    go_wp2
    exact ret_storeV rfl rfl rfl xr HG.out (cv.mono (by omega)) (b0.trans (hC.mono b0.size))
theorem bx_VVr (w : World) (a0 b0 c0 a1 b1 c1 : RP) : ∃ w0, w0 = (((w.alloc (.cells #[.bool a0.s, .slice a0.no a0.nn a0.nc, .slice a0.eo a0.en a0.ec, .bool b0.s, .slice b0.no b0.nn b0.nc, .slice b0.eo b0.en b0.ec, .bool c0.s, .slice c0.no c0.nn c0.nc, .slice c0.eo c0.en c0.ec] 26)).alloc (.cells #[.bool a1.s, .slice a1.no a1.nn a1.nc, .slice a1.eo a1.en a1.ec, .bool b1.s, .slice b1.no b1.nn b1.nc, .slice b1.eo b1.en b1.ec, .bool c1.s, .slice c1.no c1.nn c1.nc, .slice c1.eo c1.en c1.ec] 26)).alloc (.cells #[.bool false, .slice none 0 0, .slice none 0 0] 24)) ∧ Vb w0 w.heap.size a0 b0 c0 ∧ Vb w0 (w.heap.size + 1) a1 b1 c1 ∧ Rb w0 (w.heap.size + 2) (.bool false) (.slice none 0 0) (.slice none 0 0) ∧ Below w.heap.size w w0 := by
  obtain ⟨w1, h1⟩ : ∃ w1, w1 = w.alloc (.cells #[.bool a0.s, .slice a0.no a0.nn a0.nc, .slice a0.eo a0.en a0.ec, .bool b0.s, .slice b0.no b0.nn b0.nc, .slice b0.eo b0.en b0.ec, .bool c0.s, .slice c0.no c0.nn c0.nc, .slice c0.eo c0.en c0.ec] 26) := ⟨_, rfl⟩
  have l1 : Below w.heap.size w w1 := by rw [h1]; exact (Below.refl _ _).alloc (Nat.le_refl _) _
  have z1 : w1.heap.size = w.heap.size + 1 := by rw [h1]; simp
  have r1 : Vb w1 w.heap.size a0 b0 c0 := by rw [h1]; exact ⟨heap_alloc_new _ _⟩
  obtain ⟨w2, h2⟩ : ∃ w2, w2 = w1.alloc (.cells #[.bool a1.s, .slice a1.no a1.nn a1.nc, .slice a1.eo a1.en a1.ec, .bool b1.s, .slice b1.no b1.nn b1.nc, .slice b1.eo b1.en b1.ec, .bool c1.s, .slice c1.no c1.nn c1.nc, .slice c1.eo c1.en c1.ec] 26) := ⟨_, rfl⟩
  have l2 : Below w1.heap.size w1 w2 := by rw [h2]; exact (Below.refl _ _).alloc (Nat.le_refl _) _
  have z2 : w2.heap.size = w1.heap.size + 1 := by rw [h2]; simp
  have r2 : Vb w2 w1.heap.size a1 b1 c1 := by rw [h2]; exact ⟨heap_alloc_new _ _⟩
  obtain ⟨w3, h3⟩ : ∃ w3, w3 = w2.alloc (.cells #[.bool false, .slice none 0 0, .slice none 0 0] 24) := ⟨_, rfl⟩
  have l3 : Below w2.heap.size w2 w3 := by rw [h3]; exact (Below.refl _ _).alloc (Nat.le_refl _) _
  have z3 : w3.heap.size = w2.heap.size + 1 := by rw [h3]; simp
  have r3 : Rb w3 w2.heap.size (.bool false) (.slice none 0 0) (.slice none 0 0) := by rw [h3]; exact ⟨heap_alloc_new _ _⟩
  replace r1 := r1.later l2
  replace r1 := r1.later l3
  replace r2 := r2.later l3
  have b1 := l1
  have b2 := b1.trans (l2.mono b1.size)
  have b3 := b2.trans (l3.mono b2.size)
  rw [show w1.heap.size = w.heap.size + 1 from by omega] at r2
  rw [show w2.heap.size = w.heap.size + 2 from by omega] at r3
  exact ⟨w3, by rw [h3, h2, h1], r1, r2, r3, b3⟩
set_option maxRecDepth 100000 in
set_option maxHeartbeats 8000000 in
theorem vdot5 {w : World} {a1 a2 a3 : RP} {qa1 qa2 qa3 : Rat} {b1 b2 b3 : RP} {qb1 qb2 qb3 : Rat} {K L : Nat} (ha0 : Qv w a1 a2 a3 qa1 qa2 qa3 K) (hb0 : Qv w b1 b2 b3 qb1 qb2 qb3 L) (K1 : 1 ≤ K) (L1 : 1 ≤ L) (hK : 3 * (K + L) + 4 ≤ 17179869184) :
    Calls Try.prog 18 #[.agg #[.bool a1.s, .slice a1.no a1.nn a1.nc, .slice a1.eo a1.en a1.ec, .bool a2.s, .slice a2.no a2.nn a2.nc, .slice a2.eo a2.en a2.ec, .bool a3.s, .slice a3.no a3.nn a3.nc, .slice a3.eo a3.en a3.ec], .agg #[.bool b1.s, .slice b1.no b1.nn b1.nc, .slice b1.eo b1.en b1.ec, .bool b2.s, .slice b2.no b2.nn b2.nc, .slice b2.eo b2.en b2.ec, .bool b3.s, .slice b3.no b3.nn b3.nc, .slice b3.eo b3.en b3.ec]] w (Gq w (K + (L) + (K + (L)) + 1 + (K + (L)) + 1) ((qa1) * (qb1) + (qa2) * (qb2) + (qa3) * (qb3))) := by
  obtain ⟨w0, hw0, x0, x1, x2, b0⟩ := bx_VVr w a1 a2 a3 b1 b2 b3
  have ha := ha0.later b0
  clear ha0
  have hb := hb0.later b0
  clear hb0
  obtain ⟨g0, hg0⟩ : ∃ g0, g0 = w.heap.size := ⟨_, rfl⟩
  obtain ⟨g1, hg1⟩ : ∃ g1, g1 = w.heap.size + 1 := ⟨_, rfl⟩
  obtain ⟨g2, hg2⟩ : ∃ g2, g2 = w.heap.size + 2 := ⟨_, rfl⟩
  have HG : Hid (w.heap.size ≤ g2) := by show w.heap.size ≤ g2; omega
  go_enter Try.func18, Try.ntmps18
  go_wp2
  rw [← hw0, ← hg2, ← hg1, ← hg0]
  rw [← hg0] at x0
  rw [← hg1] at x1
  rw [← hg2] at x2
  clear hw0 hg0 hg1 hg2
  have HLst : Lst [VV (.pointer (some ⟨g0, 0, none⟩)), VV (.agg #[.bool a1.s, .slice a1.no a1.nn a1.nc, .slice a1.eo a1.en a1.ec]), VV (.pointer (some ⟨g1, 0, none⟩)), VV (.agg #[.bool b1.s, .slice b1.no b1.nn b1.nc, .slice b1.eo b1.en b1.ec]), VC ((qa1) * (qb1)) (K + (L)), VV (.pointer (some ⟨g0, 3, none⟩)), VV (.agg #[.bool a2.s, .slice a2.no a2.nn a2.nc, .slice a2.eo a2.en a2.ec]), VV (.pointer (some ⟨g1, 3, none⟩)), VV (.agg #[.bool b2.s, .slice b2.no b2.nn b2.nc, .slice b2.eo b2.en b2.ec]), VC ((qa2) * (qb2)) (K + (L)), VC ((qa1) * (qb1) + (qa2) * (qb2)) (K + (L) + (K + (L)) + 1), VV (.pointer (some ⟨g0, 6, none⟩)), VV (.agg #[.bool a3.s, .slice a3.no a3.nn a3.nc, .slice a3.eo a3.en a3.ec]), VV (.pointer (some ⟨g1, 6, none⟩)), VV (.agg #[.bool b3.s, .slice b3.no b3.nn b3.nc, .slice b3.eo b3.en b3.ec]), VC ((qa3) * (qb3)) (K + (L)), VC ((qa1) * (qb1) + (qa2) * (qb2) + (qa3) * (qb3)) (K + (L) + (K + (L)) + 1 + (K + (L)) + 1)] := ⟨VV.lasts _, VV.lasts _, VV.lasts _, VV.lasts _, VC.lasts _ _, VV.lasts _, VV.lasts _, VV.lasts _, VV.lasts _, VC.lasts _ _, VC.lasts _ _, VV.lasts _, VV.lasts _, VV.lasts _, VV.lasts _, VC.lasts _ _, VC.lasts _ _, trivial⟩
  refine wp_region_kahn 17 22 [([], [2]), ([(0, 5)], []), ([], [3]), ([(2, 7)], []), ([(1, 6), (3, 8)], []), ([], [2]), ([(5, 10)], []), ([], [3]), ([(7, 12)], []), ([(6, 11), (8, 13)], []), ([(4, 9), (9, 14)], []), ([], [2]), ([(11, 16)], []), ([], [3]), ([(13, 18)], []), ([(12, 17), (14, 19)], []), ([(10, 15), (15, 20)], [])]
    (fun u => Below w0.heap.size w0 u) (fun u u' => Below u.heap.size u u')
    (Sp [VV (.pointer (some ⟨g0, 0, none⟩)), VV (.agg #[.bool a1.s, .slice a1.no a1.nn a1.nc, .slice a1.eo a1.en a1.ec]), VV (.pointer (some ⟨g1, 0, none⟩)), VV (.agg #[.bool b1.s, .slice b1.no b1.nn b1.nc, .slice b1.eo b1.en b1.ec]), VC ((qa1) * (qb1)) (K + (L)), VV (.pointer (some ⟨g0, 3, none⟩)), VV (.agg #[.bool a2.s, .slice a2.no a2.nn a2.nc, .slice a2.eo a2.en a2.ec]), VV (.pointer (some ⟨g1, 3, none⟩)), VV (.agg #[.bool b2.s, .slice b2.no b2.nn b2.nc, .slice b2.eo b2.en b2.ec]), VC ((qa2) * (qb2)) (K + (L)), VC ((qa1) * (qb1) + (qa2) * (qb2)) (K + (L) + (K + (L)) + 1), VV (.pointer (some ⟨g0, 6, none⟩)), VV (.agg #[.bool a3.s, .slice a3.no a3.nn a3.nc, .slice a3.eo a3.en a3.ec]), VV (.pointer (some ⟨g1, 6, none⟩)), VV (.agg #[.bool b3.s, .slice b3.no b3.nn b3.nc, .slice b3.eo b3.en b3.ec]), VC ((qa3) * (qb3)) (K + (L)), VC ((qa1) * (qb1) + (qa2) * (qb2) + (qa3) * (qb3)) (K + (L) + (K + (L)) + 1 + (K + (L)) + 1)])
    (by kernel_rfl) rfl (by kernel_rfl) (Below.refl _ _).drew (fun k v u u' _ hg hs => Sp.lasts HLst k v u u' hg hs) ?_ ?_
  · clear HLst
    refine ⟨.inl ⟨by simp, fun ρ u hC hc hf hd ho => ?_⟩, .inl ⟨by simp, fun ρ u hC hc hf hd ho => ?_⟩, .inl ⟨by simp, fun ρ u hC hc hf hd ho => ?_⟩, .inl ⟨by simp, fun ρ u hC hc hf hd ho => ?_⟩, .inl ⟨by simp, fun ρ u hC hc hf hd ho => ?_⟩, .inl ⟨by simp, fun ρ u hC hc hf hd ho => ?_⟩, .inl ⟨by simp, fun ρ u hC hc hf hd ho => ?_⟩, .inl ⟨by simp, fun ρ u hC hc hf hd ho => ?_⟩, .inl ⟨by simp, fun ρ u hC hc hf hd ho => ?_⟩, .inl ⟨by simp, fun ρ u hC hc hf hd ho => ?_⟩, .inl ⟨by simp, fun ρ u hC hc hf hd ho => ?_⟩, .inl ⟨by simp, fun ρ u hC hc hf hd ho => ?_⟩, .inl ⟨by simp, fun ρ u hC hc hf hd ho => ?_⟩, .inl ⟨by simp, fun ρ u hC hc hf hd ho => ?_⟩, .inl ⟨by simp, fun ρ u hC hc hf hd ho => ?_⟩, .inl ⟨by simp, fun ρ u hC hc hf hd ho => ?_⟩, .inl ⟨by simp, fun ρ u hC hc hf hd ho => ?_⟩, trivial⟩
    · have e2 : ρ (.tmp 2) = .pointer (some ⟨g0, 0, none⟩) := ho 2 (by simp)
      refine Goes.pure (.pointer (some ⟨g0, 0, none⟩)) ?_ ⟨hC, Below.refl _ _, rfl⟩
      unfold Goes
      go_simp
    · have e5 : ρ (.tmp 5) = .pointer (some ⟨g0, 0, none⟩) := hd (0, 5) (by simp)
      obtain ⟨c0, c1, c2⟩ := (x0.later hC).c0
      refine Goes.pure (.agg #[.bool a1.s, .slice a1.no a1.nn a1.nc, .slice a1.eo a1.en a1.ec]) ?_ ⟨hC, Below.refl _ _, rfl⟩
      unfold Goes
      go_simp
    · have e3 : ρ (.tmp 3) = .pointer (some ⟨g1, 0, none⟩) := ho 3 (by simp)
      refine Goes.pure (.pointer (some ⟨g1, 0, none⟩)) ?_ ⟨hC, Below.refl _ _, rfl⟩
      unfold Goes
      go_simp
    · have e7 : ρ (.tmp 7) = .pointer (some ⟨g1, 0, none⟩) := hd (2, 7) (by simp)
      obtain ⟨c0, c1, c2⟩ := (x1.later hC).c0
      refine Goes.pure (.agg #[.bool b1.s, .slice b1.no b1.nn b1.nc, .slice b1.eo b1.en b1.ec]) ?_ ⟨hC, Below.refl _ _, rfl⟩
      unfold Goes
      go_simp
    · have e6 : ρ (.tmp 6) = .agg #[.bool a1.s, .slice a1.no a1.nn a1.nc, .slice a1.eo a1.en a1.ec] := hd (1, 6) (by simp)
      have e8 : ρ (.tmp 8) = .agg #[.bool b1.s, .slice b1.no b1.nn b1.nc, .slice b1.eo b1.en b1.ec] := hd (3, 8) (by simp)
      refine Goes.call 40 #[.agg #[.bool a1.s, .slice a1.no a1.nn a1.nc, .slice a1.eo a1.en a1.ec], .agg #[.bool b1.s, .slice b1.no b1.nn b1.nc, .slice b1.eo b1.en b1.ec]] (by go_simp) ?_
      refine Calls.mono (mul3_any u a1.s a1.no a1.nn a1.nc a1.eo a1.en a1.ec b1.s b1.no b1.nn b1.nc b1.eo b1.en b1.ec (K) (L) (qa1) (qb1) (ha.later hC).x (hb.later hC).x (by omega) (by omega)) ?_
      rintro e u' ⟨s1, no1, nn1, nc1, eo1, en1, ec1, rfl, cq, lb⟩
      exact ⟨_, rfl, hC.trans (lb.mono hC.size), lb, ⟨s1, no1, nn1, nc1, eo1, en1, ec1, rfl, cq⟩⟩
    · have e2 : ρ (.tmp 2) = .pointer (some ⟨g0, 0, none⟩) := ho 2 (by simp)
      refine Goes.pure (.pointer (some ⟨g0, 3, none⟩)) ?_ ⟨hC, Below.refl _ _, rfl⟩
      unfold Goes
      go_simp
    · have e10 : ρ (.tmp 10) = .pointer (some ⟨g0, 3, none⟩) := hd (5, 10) (by simp)
      obtain ⟨c0, c1, c2⟩ := (x0.later hC).c1
      refine Goes.pure (.agg #[.bool a2.s, .slice a2.no a2.nn a2.nc, .slice a2.eo a2.en a2.ec]) ?_ ⟨hC, Below.refl _ _, rfl⟩
      unfold Goes
      go_simp
    · have e3 : ρ (.tmp 3) = .pointer (some ⟨g1, 0, none⟩) := ho 3 (by simp)
      refine Goes.pure (.pointer (some ⟨g1, 3, none⟩)) ?_ ⟨hC, Below.refl _ _, rfl⟩
      unfold Goes
      go_simp
    · have e12 : ρ (.tmp 12) = .pointer (some ⟨g1, 3, none⟩) := hd (7, 12) (by simp)
      obtain ⟨c0, c1, c2⟩ := (x1.later hC).c1
      refine Goes.pure (.agg #[.bool b2.s, .slice b2.no b2.nn b2.nc, .slice b2.eo b2.en b2.ec]) ?_ ⟨hC, Below.refl _ _, rfl⟩
      unfold Goes
      go_simp
    · have e11 : ρ (.tmp 11) = .agg #[.bool a2.s, .slice a2.no a2.nn a2.nc, .slice a2.eo a2.en a2.ec] := hd (6, 11) (by simp)
      have e13 : ρ (.tmp 13) = .agg #[.bool b2.s, .slice b2.no b2.nn b2.nc, .slice b2.eo b2.en b2.ec] := hd (8, 13) (by simp)
      refine Goes.call 40 #[.agg #[.bool a2.s, .slice a2.no a2.nn a2.nc, .slice a2.eo a2.en a2.ec], .agg #[.bool b2.s, .slice b2.no b2.nn b2.nc, .slice b2.eo b2.en b2.ec]] (by go_simp) ?_
      refine Calls.mono (mul3_any u a2.s a2.no a2.nn a2.nc a2.eo a2.en a2.ec b2.s b2.no b2.nn b2.nc b2.eo b2.en b2.ec (K) (L) (qa2) (qb2) (ha.later hC).y (hb.later hC).y (by omega) (by omega)) ?_
      rintro e u' ⟨s1, no1, nn1, nc1, eo1, en1, ec1, rfl, cq, lb⟩
      exact ⟨_, rfl, hC.trans (lb.mono hC.size), lb, ⟨s1, no1, nn1, nc1, eo1, en1, ec1, rfl, cq⟩⟩
    · obtain ⟨s9, no9, nn9, nc9, eo9, en9, ec9, e9, k9⟩ : VC ((qa1) * (qb1)) (K + (L)) (ρ (.tmp 9)) u := hd (4, 9) (by simp)
      obtain ⟨s14, no14, nn14, nc14, eo14, en14, ec14, e14, k14⟩ : VC ((qa2) * (qb2)) (K + (L)) (ρ (.tmp 14)) u := hd (9, 14) (by simp)
      refine Goes.call 37 #[.agg #[.bool s9, .slice no9 nn9 nc9, .slice eo9 en9 ec9], .agg #[.bool s14, .slice no14 nn14 nc14, .slice eo14 en14 ec14]] (by go_simp) ?_
      refine Calls.mono (add3_any u s9 no9 nn9 nc9 eo9 en9 ec9 s14 no14 nn14 nc14 eo14 en14 ec14 (K + (L)) (K + (L)) ((qa1) * (qb1)) ((qa2) * (qb2)) k9.rd k14.rd (by omega) (by omega) (by omega)) ?_
      rintro e u' ⟨s1, no1, nn1, nc1, eo1, en1, ec1, rfl, cq, lb⟩
      exact ⟨_, rfl, hC.trans (lb.mono hC.size), lb, ⟨s1, no1, nn1, nc1, eo1, en1, ec1, rfl, cq⟩⟩
    · have e2 : ρ (.tmp 2) = .pointer (some ⟨g0, 0, none⟩) := ho 2 (by simp)
      refine Goes.pure (.pointer (some ⟨g0, 6, none⟩)) ?_ ⟨hC, Below.refl _ _, rfl⟩
      unfold Goes
      go_simp
    · have e16 : ρ (.tmp 16) = .pointer (some ⟨g0, 6, none⟩) := hd (11, 16) (by simp)
      obtain ⟨c0, c1, c2⟩ := (x0.later hC).c2
      refine Goes.pure (.agg #[.bool a3.s, .slice a3.no a3.nn a3.nc, .slice a3.eo a3.en a3.ec]) ?_ ⟨hC, Below.refl _ _, rfl⟩
      unfold Goes
      go_simp
    · have e3 : ρ (.tmp 3) = .pointer (some ⟨g1, 0, none⟩) := ho 3 (by simp)
      refine Goes.pure (.pointer (some ⟨g1, 6, none⟩)) ?_ ⟨hC, Below.refl _ _, rfl⟩
      unfold Goes
      go_simp
    · have e18 : ρ (.tmp 18) = .pointer (some ⟨g1, 6, none⟩) := hd (13, 18) (by simp)
      obtain ⟨c0, c1, c2⟩ := (x1.later hC).c2
      refine Goes.pure (.agg #[.bool b3.s, .slice b3.no b3.nn b3.nc, .slice b3.eo b3.en b3.ec]) ?_ ⟨hC, Below.refl _ _, rfl⟩
      unfold Goes
      go_simp
    · have e17 : ρ (.tmp 17) = .agg #[.bool a3.s, .slice a3.no a3.nn a3.nc, .slice a3.eo a3.en a3.ec] := hd (12, 17) (by simp)
      have e19 : ρ (.tmp 19) = .agg #[.bool b3.s, .slice b3.no b3.nn b3.nc, .slice b3.eo b3.en b3.ec] := hd (14, 19) (by simp)
      refine Goes.call 40 #[.agg #[.bool a3.s, .slice a3.no a3.nn a3.nc, .slice a3.eo a3.en a3.ec], .agg #[.bool b3.s, .slice b3.no b3.nn b3.nc, .slice b3.eo b3.en b3.ec]] (by go_simp) ?_
      refine Calls.mono (mul3_any u a3.s a3.no a3.nn a3.nc a3.eo a3.en a3.ec b3.s b3.no b3.nn b3.nc b3.eo b3.en b3.ec (K) (L) (qa3) (qb3) (ha.later hC).z (hb.later hC).z (by omega) (by omega)) ?_
      rintro e u' ⟨s1, no1, nn1, nc1, eo1, en1, ec1, rfl, cq, lb⟩
      exact ⟨_, rfl, hC.trans (lb.mono hC.size), lb, ⟨s1, no1, nn1, nc1, eo1, en1, ec1, rfl, cq⟩⟩
    · obtain ⟨s15, no15, nn15, nc15, eo15, en15, ec15, e15, k15⟩ : VC ((qa1) * (qb1) + (qa2) * (qb2)) (K + (L) + (K + (L)) + 1) (ρ (.tmp 15)) u := hd (10, 15) (by simp)
      obtain ⟨s20, no20, nn20, nc20, eo20, en20, ec20, e20, k20⟩ : VC ((qa3) * (qb3)) (K + (L)) (ρ (.tmp 20)) u := hd (15, 20) (by simp)
      refine Goes.call 37 #[.agg #[.bool s15, .slice no15 nn15 nc15, .slice eo15 en15 ec15], .agg #[.bool s20, .slice no20 nn20 nc20, .slice eo20 en20 ec20]] (by go_simp) ?_
      refine Calls.mono (add3_any u s15 no15 nn15 nc15 eo15 en15 ec15 s20 no20 nn20 nc20 eo20 en20 ec20 (K + (L) + (K + (L)) + 1) (K + (L)) ((qa1) * (qb1) + (qa2) * (qb2)) ((qa3) * (qb3)) k15.rd k20.rd (by omega) (by omega) (by omega)) ?_
      rintro e u' ⟨s1, no1, nn1, nc1, eo1, en1, ec1, rfl, cq, lb⟩
      exact ⟨_, rfl, hC.trans (lb.mono hC.size), lb, ⟨s1, no1, nn1, nc1, eo1, en1, ec1, rfl, cq⟩⟩
  · intro vs u hC hv
    obtain ⟨s9, no9, nn9, nc9, eo9, en9, ec9, eR, cq⟩ : VC ((qa1) * (qb1) + (qa2) * (qb2) + (qa3) * (qb3)) (K + (L) + (K + (L)) + 1 + (K + (L)) + 1) (vs 16) u := hv 16 (by omega)
    have xr := x2.later hC
    obtain ⟨c0, c1, c2⟩ := xr.cells
    have f0 := xr.free 0
    have f1 := xr.free 1
    have f2 := xr.free 2
    clear hv
    simp only [puts, List.take, List.drop, Act.put, List.setIfInBounds_toArray, List.set_cons_succ, List.set_cons_zero, Nat.reduceAdd, eR]
    go_wp2
    exact ret_store rfl rfl rfl xr HG.out (cq.mono (by omega)) (b0.trans (hC.mono b0.size))
end Go.Proofs.Ytmbemidacilakaa

/- penumbraref05: Is, Zero, Of. -/
namespace Go.Proofs.Ytmbemidacilakaa
open Go.RowKit M Kahn
set_option maxRecDepth 100000

theorem bx_VV (w : World) (a0 b0 c0 a1 b1 c1 : RP) : ∃ w0, w0 = ((w.alloc (.cells #[.bool a0.s, .slice a0.no a0.nn a0.nc, .slice a0.eo a0.en a0.ec, .bool b0.s, .slice b0.no b0.nn b0.nc, .slice b0.eo b0.en b0.ec, .bool c0.s, .slice c0.no c0.nn c0.nc, .slice c0.eo c0.en c0.ec] 26)).alloc (.cells #[.bool a1.s, .slice a1.no a1.nn a1.nc, .slice a1.eo a1.en a1.ec, .bool b1.s, .slice b1.no b1.nn b1.nc, .slice b1.eo b1.en b1.ec, .bool c1.s, .slice c1.no c1.nn c1.nc, .slice c1.eo c1.en c1.ec] 26)) ∧ Vb w0 w.heap.size a0 b0 c0 ∧ Vb w0 (w.heap.size + 1) a1 b1 c1 ∧ Below w.heap.size w w0 := by
  obtain ⟨w1, h1⟩ : ∃ w1, w1 = w.alloc (.cells #[.bool a0.s, .slice a0.no a0.nn a0.nc, .slice a0.eo a0.en a0.ec, .bool b0.s, .slice b0.no b0.nn b0.nc, .slice b0.eo b0.en b0.ec, .bool c0.s, .slice c0.no c0.nn c0.nc, .slice c0.eo c0.en c0.ec] 26) := ⟨_, rfl⟩
  have l1 : Below w.heap.size w w1 := by rw [h1]; exact (Below.refl _ _).alloc (Nat.le_refl _) _
  have z1 : w1.heap.size = w.heap.size + 1 := by rw [h1]; simp
  have r1 : Vb w1 w.heap.size a0 b0 c0 := by rw [h1]; exact ⟨heap_alloc_new _ _⟩
  obtain ⟨w2, h2⟩ : ∃ w2, w2 = w1.alloc (.cells #[.bool a1.s, .slice a1.no a1.nn a1.nc, .slice a1.eo a1.en a1.ec, .bool b1.s, .slice b1.no b1.nn b1.nc, .slice b1.eo b1.en b1.ec, .bool c1.s, .slice c1.no c1.nn c1.nc, .slice c1.eo c1.en c1.ec] 26) := ⟨_, rfl⟩
  have l2 : Below w1.heap.size w1 w2 := by rw [h2]; exact (Below.refl _ _).alloc (Nat.le_refl _) _
  have z2 : w2.heap.size = w1.heap.size + 1 := by rw [h2]; simp
  have r2 : Vb w2 w1.heap.size a1 b1 c1 := by rw [h2]; exact ⟨heap_alloc_new _ _⟩
  replace r1 := r1.later l2
  have b1 := l1
  have b2 := b1.trans (l2.mono b1.size)
  rw [show w1.heap.size = w.heap.size + 1 from by omega] at r2
  exact ⟨w2, by rw [h2, h1], r1, r2, b2⟩
theorem cq_iff {u : World} {a b : RP} {p q : Rat} {K L : Nat} (h : Cp u a p K) (h' : Cp u b q L) : (a.s = b.s ∧ toL p.num.natAbs = toL q.num.natAbs ∧ toL p.den = toL q.den) ↔ p = q := by
  constructor
  · rintro ⟨h1, h2, h3⟩
    rw [h.sgn, h'.sgn] at h1
    have h2 := toL_inj h2
    have h3 := toL_inj h3
    rw [← rq_self p, ← rq_self q, h1, h2, h3]
  · rintro rfl
    exact ⟨by rw [h.sgn, h'.sgn], rfl, rfl⟩
set_option maxHeartbeats 8000000 in
theorem vis5 {w : World} {a1 a2 a3 : RP} {qa1 qa2 qa3 : Rat} {b1 b2 b3 : RP} {qb1 qb2 qb3 : Rat} {K L : Nat} (ha0 : Cv w a1 a2 a3 qa1 qa2 qa3 K) (hb0 : Cv w b1 b2 b3 qb1 qb2 qb3 L) (hK : K ≤ 1099511627776) (hL : L ≤ 1099511627776) :
    Calls Try.prog 9 #[.agg #[.bool a1.s, .slice a1.no a1.nn a1.nc, .slice a1.eo a1.en a1.ec, .bool a2.s, .slice a2.no a2.nn a2.nc, .slice a2.eo a2.en a2.ec, .bool a3.s, .slice a3.no a3.nn a3.nc, .slice a3.eo a3.en a3.ec], .agg #[.bool b1.s, .slice b1.no b1.nn b1.nc, .slice b1.eo b1.en b1.ec, .bool b2.s, .slice b2.no b2.nn b2.nc, .slice b2.eo b2.en b2.ec, .bool b3.s, .slice b3.no b3.nn b3.nc, .slice b3.eo b3.en b3.ec]] w (Gb w (qa1 = qb1 ∧ qa2 = qb2 ∧ qa3 = qb3)) := by
  obtain ⟨w0, hw0, x0, x1, b0⟩ := bx_VV w a1 a2 a3 b1 b2 b3
  have ha := ha0.later b0
  have hb := hb0.later b0
  clear ha0 hb0
  obtain ⟨g0, hg0⟩ : ∃ g0, g0 = w.heap.size := ⟨_, rfl⟩
  obtain ⟨g1, hg1⟩ : ∃ g1, g1 = w.heap.size + 1 := ⟨_, rfl⟩
  obtain ⟨c0, c1, c2⟩ := x0.c0
  obtain ⟨d0, d1, d2⟩ := x1.c0
  rw [hw0] at c0 c1 c2 d0 d1 d2
  go_enter Try.func9, Try.ntmps9
  go_wp2_with fail
  rw [← hw0] at c0 c1 c2 d0 d1 d2
  rw [← hw0, ← hg1, ← hg0]
  rw [← hg0] at x0
  rw [← hg1] at x1
  clear hw0 hg0 hg1
  refine (is3_any _ _ _ _ _ _ _ _ _ _ _ _ _ _ _ _ _ _ _ ha.x.num ha.x.den hb.x.num hb.x.den (by have := ha.x.ln; omega) (by have := ha.x.ld; omega) (by have := hb.x.ln; omega) (by have := hb.x.ld; omega)).mono ?_
  rintro e w1 ⟨r0, rfl, HR0, lb⟩
  have I0 : Hid (r0 = true ↔ qa1 = qb1) := HR0.out.trans (cq_iff ha.x hb.x)
  replace ha := ha.later lb
  replace hb := hb.later lb
  replace x0 := x0.later lb
  replace x1 := x1.later lb
  replace b0 := b0.trans (lb.mono b0.size)
  clear lb HR0 c0 c1 c2 d0 d1 d2
  obtain ⟨c0, c1, c2⟩ := x0.c1
  obtain ⟨d0, d1, d2⟩ := x1.c1
  cases r0
  · skip
    go_wp2
    go_ret
    exact ⟨_, rfl, (by show (_ ↔ _); rw [← I0.out]; simp), b0⟩
  · skip
    go_wp2_with fail
    refine (is3_any _ _ _ _ _ _ _ _ _ _ _ _ _ _ _ _ _ _ _ ha.y.num ha.y.den hb.y.num hb.y.den (by have := ha.y.ln; omega) (by have := ha.y.ld; omega) (by have := hb.y.ln; omega) (by have := hb.y.ld; omega)).mono ?_
    rintro e w2 ⟨r1, rfl, HR1, lb⟩
    have I1 : Hid (r1 = true ↔ qa2 = qb2) := HR1.out.trans (cq_iff ha.y hb.y)
    replace ha := ha.later lb
    replace hb := hb.later lb
    replace x0 := x0.later lb
    replace x1 := x1.later lb
    replace b0 := b0.trans (lb.mono b0.size)
    clear lb HR1 c0 c1 c2 d0 d1 d2
    obtain ⟨c0, c1, c2⟩ := x0.c2
    obtain ⟨d0, d1, d2⟩ := x1.c2
    cases r1
    · skip
      go_wp2
      go_ret
      exact ⟨_, rfl, (by show (_ ↔ _); rw [← I1.out]; simp), b0⟩
    · skip
      go_wp2_with fail
      refine (is3_any _ _ _ _ _ _ _ _ _ _ _ _ _ _ _ _ _ _ _ ha.z.num ha.z.den hb.z.num hb.z.den (by have := ha.z.ln; omega) (by have := ha.z.ld; omega) (by have := hb.z.ln; omega) (by have := hb.z.ld; omega)).mono ?_
      rintro e w3 ⟨r2, rfl, HR2, lb⟩
      have I2 : Hid (r2 = true ↔ qa3 = qb3) := HR2.out.trans (cq_iff ha.z hb.z)
      replace ha := ha.later lb
      replace hb := hb.later lb
      replace x0 := x0.later lb
      replace x1 := x1.later lb
      replace b0 := b0.trans (lb.mono b0.size)
      clear lb HR2 c0 c1 c2 d0 d1 d2
      go_wp2
      go_ret
      exact ⟨_, rfl, (by show (_ ↔ _); rw [← I0.out, ← I1.out, ← I2.out]; simp), b0⟩
end Go.Proofs.Ytmbemidacilakaa
