/- package vec: Read, Sub, Scale, Dot. -/
import Derived.Test.YtmoicmjljflcgaaGreatJq
import Derived.Test.YtmoicmjljflcgaaGreatJc
import Derived.Test.YtmoicmjljflcgaaGreatJr
namespace Go.Proofs.YtmoicmjljflcgaaGreat
open Go.RowKit M Kahn
set_option maxRecDepth 100000

end Go.Proofs.YtmoicmjljflcgaaGreat

/- package vec: Sum, of at most three. -/
namespace Go.Proofs.YtmoicmjljflcgaaGreat
open Go.RowKit M Kahn
set_option maxRecDepth 100000

/-- The cells of some Vecs. -/
structure Trv (u : World) (ao : Option Addr) (ts : List TP) : Prop where
  there : 0 < ts.length → ∃ b o, ao = some ⟨b, o, none⟩ ∧ b < u.heap.size ∧ ∀ i v, (TP.all ts)[i]? = some v → u.cell? ⟨b, o + i, none⟩ = some v
theorem Trv.later {u u' : World} {ao : Option Addr} {ts : List TP} (h : Trv u ao ts) (hb : Below u.heap.size u u') : Trv u' ao ts := ⟨fun h0 => by
  obtain ⟨b, o, e1, e2, e3⟩ := h.there h0
  exact ⟨b, o, e1, Nat.lt_of_lt_of_le e2 hb.size, fun i v hv => by rw [hb.cell (p := ⟨b, o + i, none⟩) e2]; exact e3 i v hv⟩⟩
theorem Trv.elem {u : World} {ao : Option Addr} {ts : List TP} (h : Trv u ao ts) {k : Nat} {t : TP} (ht : ts[k]? = some t) :
    ∃ b o, ao = some ⟨b, o, none⟩ ∧ u.cell? ⟨b, o + k * 9, none⟩ = some (.bool t.x.s) ∧ u.cell? ⟨b, o + k * 9 + 1, none⟩ = some (.slice t.x.no t.x.nn t.x.nc) ∧ u.cell? ⟨b, o + k * 9 + 2, none⟩ = some (.slice t.x.eo t.x.en t.x.ec) ∧ u.cell? ⟨b, o + k * 9 + 3, none⟩ = some (.bool t.y.s) ∧ u.cell? ⟨b, o + k * 9 + 4, none⟩ = some (.slice t.y.no t.y.nn t.y.nc) ∧ u.cell? ⟨b, o + k * 9 + 5, none⟩ = some (.slice t.y.eo t.y.en t.y.ec) ∧ u.cell? ⟨b, o + k * 9 + 6, none⟩ = some (.bool t.z.s) ∧ u.cell? ⟨b, o + k * 9 + 7, none⟩ = some (.slice t.z.no t.z.nn t.z.nc) ∧ u.cell? ⟨b, o + k * 9 + 8, none⟩ = some (.slice t.z.eo t.z.en t.z.ec) := by
  have hk : k < ts.length := by
    rcases Nat.lt_or_ge k ts.length with h1 | h1
    · exact h1
    · rw [List.getElem?_eq_none h1] at ht; cases ht
  obtain ⟨b, o, e1, e2, e3⟩ := h.there (by omega)
  have H : ∀ j v, j < 9 → t.cells[j]? = some v → u.cell? ⟨b, o + k * 9 + j, none⟩ = some v := fun j v hj hv => by
    have := e3 (k * 9 + j) v (by rw [TP.all_get ts k t ht j hj]; exact hv)
    rwa [← Nat.add_assoc] at this
  exact ⟨b, o, e1, H 0 _ (by omega) rfl, H 1 _ (by omega) rfl, H 2 _ (by omega) rfl, H 3 _ (by omega) rfl, H 4 _ (by omega) rfl, H 5 _ (by omega) rfl, H 6 _ (by omega) rfl, H 7 _ (by omega) rfl, H 8 _ (by omega) rfl⟩
/-- The first k have been laid. -/
def fill (xs : List RP) (k : Nat) : List RP := xs.take k ++ List.replicate (xs.length - k) zRP
theorem fill_zero (xs : List RP) : fill xs 0 = List.replicate xs.length zRP := rfl
theorem fill_all (xs : List RP) : fill xs xs.length = xs := by
  unfold fill
  simp
theorem fill_at {xs : List RP} {k : Nat} (hk : k < xs.length) : (fill xs k)[k]? = some zRP := by
  unfold fill
  rw [List.getElem?_append_right (by rw [List.length_take]; omega), List.getElem?_replicate, if_pos (by rw [List.length_take]; omega)]
theorem fill_set {xs : List RP} {k : Nat} {r : RP} (hr : xs[k]? = some r) : (fill xs k).set k r = fill xs (k + 1) := by
  have hk : k < xs.length := by
    rcases Nat.lt_or_ge k xs.length with h1 | h1
    · exact h1
    · rw [List.getElem?_eq_none h1] at hr; cases hr
  unfold fill
  rw [List.set_append_right k r (by rw [List.length_take]; omega), List.take_add_one, hr]
  rw [List.length_take, Nat.min_eq_left (by omega), Nat.sub_self, show xs.length - k = (xs.length - (k + 1)) + 1 from by omega, List.replicate_succ]
  simp
/-- What lasts in the loop. -/
structure Ls (w : World) (g gx gy gz : Nat) (ts : List TP) (k : Nat) (u : World) : Prop where
  bel : Below w.heap.size w u
  ans : Vb u g zRP zRP zRP
  x : Rw u gx (fill (ts.map TP.x) k)
  y : Rw u gy (fill (ts.map TP.y) k)
  z : Rw u gz (fill (ts.map TP.z) k)
/-- The two first stores of a round, each done or not. -/
structure X5 (w : World) (gx gy gz k : Nat) (t : TP) (rx ry rz : List RP) (b1 b2 : Bool) (u : World) : Prop where
  os : u.os = w.os
  tape : u.tape = w.tape
  output : u.output = w.output
  size : u.heap.size = w.heap.size
  block : ∀ j, j ≠ gx → j ≠ gy → u.heap[j]? = w.heap[j]?
  x : Rw u gx (if b1 then rx.set k t.x else rx)
  y : Rw u gy (if b2 then ry.set k t.y else ry)
theorem X5.put1 {w u : World} {gx gy gz k : Nat} {t : TP} {rx ry rz : List RP} {b2 : Bool} (h : X5 w gx gy gz k t rx ry rz false b2 u) (hne : gx ≠ gy) : X5 w gx gy gz k t rx ry rz true b2 (putR u gx (k * 3) t.x) :=
  have fr := putR.fr u gx (k * 3) t.x
  ⟨fr.os.trans h.os, fr.tape.trans h.tape, fr.output.trans h.output, fr.size.trans h.size, fun j h1 h2 => (fr.block j h1).trans (h.block j h1 h2), h.x.put k t.x, h.y.keep (fr.block gy (Ne.symm hne))⟩
theorem X5.put2 {w u : World} {gx gy gz k : Nat} {t : TP} {rx ry rz : List RP} {b1 : Bool} (h : X5 w gx gy gz k t rx ry rz b1 false u) (hne : gx ≠ gy) : X5 w gx gy gz k t rx ry rz b1 true (putR u gy (k * 3) t.y) :=
  have fr := putR.fr u gy (k * 3) t.y
  ⟨fr.os.trans h.os, fr.tape.trans h.tape, fr.output.trans h.output, fr.size.trans h.size, fun j h1 h2 => (fr.block j h2).trans (h.block j h1 h2), h.x.keep (fr.block gx hne), h.y.put k t.y⟩
theorem X5.below {w u : World} {gx gy gz k N : Nat} {t : TP} {rx ry rz : List RP} {b1 b2 : Bool} (h : X5 w gx gy gz k t rx ry rz b1 b2 u) (hx : N ≤ gx) (hy : N ≤ gy) : Below N w u := ⟨h.os, h.tape, h.output, by rw [h.size]; exact Nat.le_refl _, fun j hj => h.block j (by omega) (by omega)⟩

set_option maxHeartbeats 8000000 in
theorem vsum_k {w : World} {K : Nat} {v : Value} {ps qs rs : List Rat} (h : VW ps qs rs K v w) (hK1 : 1 ≤ K) (hK : (ps.length + 1) * (K + 1) ≤ 4294967296) (h3 : ps.length ≤ 3 := by simp) :
    Calls Tryz.prog 33 #[v] w (Gv3 w (ps.length * (K + 1) + 1) (qsum ps) (qsum qs) (qsum rs)) := by
  obtain ⟨ao, cap, ts, hv, hcap, l1, l2, l3, h6⟩ := h
  subst hv
  have e1 := l1.len
  have e2 := l2.len
  have e3 := l3.len
  rw [List.length_map] at e1 e2 e3
  obtain ⟨n, hn⟩ : ∃ n, n = ps.length := ⟨_, rfl⟩
  have HP : Hid (ts.length = n ∧ ps.length = n ∧ qs.length = n ∧ rs.length = n) := by show _ ∧ _ ∧ _ ∧ _; omega
  have tr : Trv w ao ts := ⟨fun h0 => h6 (by omega)⟩
  rw [← hn] at hcap hK h3 ⊢
  have HN2 : Hid (n ≤ 1099511627776) := by show n ≤ _; omega
  clear hn e1 e2 e3 h6
  obtain ⟨w0, hw0, ans, b0⟩ := bx_v w
  obtain ⟨g, hg⟩ : ∃ g, g = w.heap.size := ⟨_, rfl⟩
  have HG : Hid (w.heap.size ≤ g) := by show w.heap.size ≤ g; omega
  have HI : Hid (∀ u, Below w.heap.size w u → RL u K (ts.map TP.x) ps ∧ RL u K (ts.map TP.y) qs ∧ RL u K (ts.map TP.z) rs ∧ Trv u ao ts) := fun u hu => ⟨l1.later hu, l2.later hu, l3.later hu, tr.later hu⟩
  clear l1 l2 l3 tr
  go_enter Tryz.func33, Tryz.ntmps33
  go_wp2
  rw [← hw0, ← hg]
  rw [← hg] at ans
  clear hw0 hg
  refine wp_region_inv 11 47 [([], [0]), ([(0, 8)], []), ([(1, 9)], []), ([], [0]), ([(3, 11)], []), ([(4, 12)], []), ([], [0]), ([(6, 14)], []), ([(7, 15)], []), ([(2, 10)], []), ([(5, 13)], [])]
    (fun L vs u => Know [some (.slice ao n cap), some (.int .i64 (n : Int)), none, some (.slice ao n cap), some (.int .i64 (n : Int)), none, some (.slice ao n cap), some (.int .i64 (n : Int)), none, none, none] L vs ∧ Below w0.heap.size w0 u ∧ Own1 (fun g => .slice (some ⟨g, 0, none⟩) n n) w0.heap.size (.cells (RP.all (List.replicate n zRP)).toArray 24 (0, 0)) (L 2) (vs 2) u ∧ Own1 (fun g => .slice (some ⟨g, 0, none⟩) n n) w0.heap.size (.cells (RP.all (List.replicate n zRP)).toArray 24 (0, 0)) (L 5) (vs 5) u ∧ Own1 (fun g => .slice (some ⟨g, 0, none⟩) n n) w0.heap.size (.cells (RP.all (List.replicate n zRP)).toArray 24 (0, 0)) (L 8) (vs 8) u ∧ Apart (L 2) (vs 2) (L 5) (vs 5) ∧ Apart (L 2) (vs 2) (L 8) (vs 8) ∧ Apart (L 5) (vs 5) (L 8) (vs 8) ∧ (L 9 = true → L 2 = true ∧ vs 9 = vs 2) ∧ (L 10 = true → L 5 = true ∧ vs 10 = vs 5))
    (by kernel_rfl) rfl (by kernel_rfl) (fun vs => ⟨Know.start _ _, (Below.refl _ _).drew, Own1.no, Own1.no, Own1.no, Apart.no1, Apart.no1, Apart.no1, fun h => (by cases h), fun h => (by cases h)⟩) ?_ ?_
  · refine ⟨fun L vs ρ u hJ hL hc hf hd ho => ?_, fun L vs ρ u hJ hL hc hf hd ho => ?_, fun L vs ρ u hJ hL hc hf hd ho => ?_, fun L vs ρ u hJ hL hc hf hd ho => ?_, fun L vs ρ u hJ hL hc hf hd ho => ?_, fun L vs ρ u hJ hL hc hf hd ho => ?_, fun L vs ρ u hJ hL hc hf hd ho => ?_, fun L vs ρ u hJ hL hc hf hd ho => ?_, fun L vs ρ u hJ hL hc hf hd ho => ?_, fun L vs ρ u hJ hL hc hf hd ho => ?_, fun L vs ρ u hJ hL hc hf hd ho => ?_, trivial⟩
    · obtain ⟨hK, hB, o2, o5, o8, a25, a28, a58, q9, q10⟩ := hJ
      have e0 : ρ (.tmp 0) = .slice ao n cap := ho 0 (by simp)
      refine Goes.pure (.slice ao n cap) ?_ ⟨hK.pure rfl, hB, o2, o5, o8, a25, a28, a58, q9, q10⟩
      unfold Goes
      go_simp
    · obtain ⟨hK, hB, o2, o5, o8, a25, a28, a58, q9, q10⟩ := hJ
      have e8 : ρ (.tmp 8) = .slice ao n cap := (hd (0, 8) (by simp)).2.trans (hK 0 _ rfl (hd (0, 8) (by simp)).1)
      refine Goes.pure (.int .i64 (n : Int)) ?_ ⟨hK.pure rfl, hB, o2, o5, o8, a25, a28, a58, q9, q10⟩
      unfold Goes
      go_simp
    · obtain ⟨hK, hB, o2, o5, o8, a25, a28, a58, q9, q10⟩ := hJ
      have e9 : ρ (.tmp 9) = .int .i64 (n : Int) := (hd (1, 9) (by simp)).2.trans (hK 1 _ rfl (hd (1, 9) (by simp)).1)
      have hmk := make_runR n HN2.out u
      have lb : Below u.heap.size u (u.alloc (.cells (RP.all (List.replicate n zRP)).toArray 24)) := (Below.refl _ _).alloc (Nat.le_refl _) _
      unfold Goes
      go_simp
      exact ⟨hK.other rfl, hB.trans (lb.mono hB.size), fun _ => ⟨u.heap.size, rfl, hB.size, heap_alloc_new _ _⟩, o5.later lb, o8.later lb, (o5.apart (pt' := fun g => .slice (some ⟨g, 0, none⟩) n n) (fun a b e => by simpa using e)).symm, (o8.apart (pt' := fun g => .slice (some ⟨g, 0, none⟩) n n) (fun a b e => by simpa using e)).symm, a58, fun h => absurd (q9 h).1 (by rw [hL]; simp), q10⟩
    · obtain ⟨hK, hB, o2, o5, o8, a25, a28, a58, q9, q10⟩ := hJ
      have e0 : ρ (.tmp 0) = .slice ao n cap := ho 0 (by simp)
      refine Goes.pure (.slice ao n cap) ?_ ⟨hK.pure rfl, hB, o2, o5, o8, a25, a28, a58, q9, q10⟩
      unfold Goes
      go_simp
    · obtain ⟨hK, hB, o2, o5, o8, a25, a28, a58, q9, q10⟩ := hJ
      have e11 : ρ (.tmp 11) = .slice ao n cap := (hd (3, 11) (by simp)).2.trans (hK 3 _ rfl (hd (3, 11) (by simp)).1)
      refine Goes.pure (.int .i64 (n : Int)) ?_ ⟨hK.pure rfl, hB, o2, o5, o8, a25, a28, a58, q9, q10⟩
      unfold Goes
      go_simp
    · obtain ⟨hK, hB, o2, o5, o8, a25, a28, a58, q9, q10⟩ := hJ
      have e12 : ρ (.tmp 12) = .int .i64 (n : Int) := (hd (4, 12) (by simp)).2.trans (hK 4 _ rfl (hd (4, 12) (by simp)).1)
      have hmk := make_runR n HN2.out u
      have lb : Below u.heap.size u (u.alloc (.cells (RP.all (List.replicate n zRP)).toArray 24)) := (Below.refl _ _).alloc (Nat.le_refl _) _
      unfold Goes
      go_simp
      exact ⟨hK.other rfl, hB.trans (lb.mono hB.size), o2.later lb, fun _ => ⟨u.heap.size, rfl, hB.size, heap_alloc_new _ _⟩, o8.later lb, o2.apart (pt' := fun g => .slice (some ⟨g, 0, none⟩) n n) (fun a b e => by simpa using e), a28, (o8.apart (pt' := fun g => .slice (some ⟨g, 0, none⟩) n n) (fun a b e => by simpa using e)).symm, q9, fun h => absurd (q10 h).1 (by rw [hL]; simp)⟩
    · obtain ⟨hK, hB, o2, o5, o8, a25, a28, a58, q9, q10⟩ := hJ
      have e0 : ρ (.tmp 0) = .slice ao n cap := ho 0 (by simp)
      refine Goes.pure (.slice ao n cap) ?_ ⟨hK.pure rfl, hB, o2, o5, o8, a25, a28, a58, q9, q10⟩
      unfold Goes
      go_simp
    · obtain ⟨hK, hB, o2, o5, o8, a25, a28, a58, q9, q10⟩ := hJ
      have e14 : ρ (.tmp 14) = .slice ao n cap := (hd (6, 14) (by simp)).2.trans (hK 6 _ rfl (hd (6, 14) (by simp)).1)
      refine Goes.pure (.int .i64 (n : Int)) ?_ ⟨hK.pure rfl, hB, o2, o5, o8, a25, a28, a58, q9, q10⟩
      unfold Goes
      go_simp
    · obtain ⟨hK, hB, o2, o5, o8, a25, a28, a58, q9, q10⟩ := hJ
      have e15 : ρ (.tmp 15) = .int .i64 (n : Int) := (hd (7, 15) (by simp)).2.trans (hK 7 _ rfl (hd (7, 15) (by simp)).1)
      have hmk := make_runR n HN2.out u
      have lb : Below u.heap.size u (u.alloc (.cells (RP.all (List.replicate n zRP)).toArray 24)) := (Below.refl _ _).alloc (Nat.le_refl _) _
      unfold Goes
      go_simp
      exact ⟨hK.other rfl, hB.trans (lb.mono hB.size), o2.later lb, o5.later lb, fun _ => ⟨u.heap.size, rfl, hB.size, heap_alloc_new _ _⟩, a25, o2.apart (pt' := fun g => .slice (some ⟨g, 0, none⟩) n n) (fun a b e => by simpa using e), o5.apart (pt' := fun g => .slice (some ⟨g, 0, none⟩) n n) (fun a b e => by simpa using e), q9, q10⟩
    · obtain ⟨hK, hB, o2, o5, o8, a25, a28, a58, q9, q10⟩ := hJ
      have e10 : ρ (.tmp 10) = vs 2 := (hd (2, 10) (by simp)).2
      refine Goes.pure (vs 2) ?_ ⟨hK.other rfl, hB, o2, o5, o8, a25, a28, a58, fun _ => ⟨(hd (2, 10) (by simp)).1, rfl⟩, q10⟩
      unfold Goes
      go_simp
    · obtain ⟨hK, hB, o2, o5, o8, a25, a28, a58, q9, q10⟩ := hJ
      have e13 : ρ (.tmp 13) = vs 5 := (hd (5, 13) (by simp)).2
      refine Goes.pure (vs 5) ?_ ⟨hK.other rfl, hB, o2, o5, o8, a25, a28, a58, q9, fun _ => ⟨(hd (5, 13) (by simp)).1, rfl⟩⟩
      unfold Goes
      go_simp
  · intro L vs u hL hJ
    obtain ⟨hK0, hB, o2, o5, o8, a25, a28, a58, q9, q10⟩ := hJ
    obtain ⟨gx, ex, bx, rx⟩ := o2 (hL 2 (by omega))
    obtain ⟨gy, ey, by_, ry⟩ := o5 (hL 5 (by omega))
    obtain ⟨gz, ez, bz, rz⟩ := o8 (hL 8 (by omega))
    have q9 := (q9 (hL 9 (by omega))).2
    have q10 := (q10 (hL 10 (by omega))).2
    have HD : Hid (gx ≠ gy ∧ gx ≠ gz ∧ gy ≠ gz) := ⟨fun e => a25 (hL 2 (by omega)) (hL 5 (by omega)) (by rw [ex, ey, e]), fun e => a28 (hL 2 (by omega)) (hL 8 (by omega)) (by rw [ex, ez, e]), fun e => a58 (hL 5 (by omega)) (hL 8 (by omega)) (by rw [ey, ez, e])⟩
    have HE : Hid (w.heap.size ≤ gx ∧ w.heap.size ≤ gy ∧ w.heap.size ≤ gz) := by have := b0.size; show _ ∧ _ ∧ _; omega
    have k0 : vs 0 = .slice ao n cap := hK0 0 _ rfl (hL 0 (by omega))
    have k1 : vs 1 = .int .i64 (n : Int) := hK0 1 _ rfl (hL 1 (by omega))
    have k3 : vs 3 = .slice ao n cap := hK0 3 _ rfl (hL 3 (by omega))
    have k4 : vs 4 = .int .i64 (n : Int) := hK0 4 _ rfl (hL 4 (by omega))
    have k6 : vs 6 = .slice ao n cap := hK0 6 _ rfl (hL 6 (by omega))
    have k7 : vs 7 = .int .i64 (n : Int) := hK0 7 _ rfl (hL 7 (by omega))
    have LS : Ls w g gx gy gz ts 0 u := ⟨b0.trans (hB.mono b0.size), ans.later hB, ⟨by rw [fill_zero, List.length_map, HP.out.1]; exact rx⟩, ⟨by rw [fill_zero, List.length_map, HP.out.1]; exact ry⟩, ⟨by rw [fill_zero, List.length_map, HP.out.1]; exact rz⟩⟩
    have HA : Hid (g ≠ gx ∧ g ≠ gy ∧ g ≠ gz) := by have := ans.lt; show _ ∧ _ ∧ _; omega
    clear hK0 hB o2 o5 o8 a25 a28 a58 b0 ans rx ry rz bx by_ bz hL
    rw [ex] at q9
    rw [ey] at q10
    simp only [puts, List.take, List.drop, Act.put, List.setIfInBounds_toArray, List.set_cons_succ, List.set_cons_zero, Nat.reduceAdd, ex, ey, ez, q9, q10, k0, k1, k3, k4, k6, k7]
    clear ex ey ez q9 q10 k0 k1 k3 k4 k6 k7
    go_wp2
    go_loopw [19] (fun iv wr => ∃ k, k ≤ n ∧ iv = .int .i64 ((k : Nat) : Int) ∧ Ls w g gx gy gz ts k wr) (fun iv _ => n - (intOf iv).toNat)
    case atStart => exact ⟨0, Nat.zero_le _, rfl, LS⟩
    case round =>
      obtain ⟨k, hk, rfl, ls⟩ := hrel
      by_cases hlt : k < n
      · obtain ⟨t, ht⟩ : ∃ t, ts[k]? = some t := ⟨ts[k]'(by rw [HP.out.1]; exact hlt), List.getElem?_eq_getElem _⟩
        obtain ⟨b, o, hao, e0, e1, e2, e3, e4, e5, e6, e7, e8⟩ := (HI.out wr ls.bel).2.2.2.elem ht
        subst hao
        have HK : Hid (k < ts.length) := by show k < ts.length; rw [HP.out.1]; exact hlt
        have b3 : Below wr.heap.size wr (wr.alloc (.cells #[.bool t.x.s, .slice t.x.no t.x.nn t.x.nc, .slice t.x.eo t.x.en t.x.ec, .bool t.y.s, .slice t.y.no t.y.nn t.y.nc, .slice t.y.eo t.y.en t.y.ec, .bool t.z.s, .slice t.z.no t.z.nn t.z.nc, .slice t.z.eo t.z.en t.z.ec] 26)) := (Below.refl _ _).alloc (Nat.le_refl _) _
        have V7 : Hid (Vb (wr.alloc (.cells #[.bool t.x.s, .slice t.x.no t.x.nn t.x.nc, .slice t.x.eo t.x.en t.x.ec, .bool t.y.s, .slice t.y.no t.y.nn t.y.nc, .slice t.y.eo t.y.en t.y.ec, .bool t.z.s, .slice t.z.no t.z.nn t.z.nc, .slice t.z.eo t.z.en t.z.ec] 26)) wr.heap.size t.x t.y t.z) := Vb.alloc wr t.x t.y t.z
        have X0 : Hid (Rw (wr.alloc (.cells #[.bool t.x.s, .slice t.x.no t.x.nn t.x.nc, .slice t.x.eo t.x.en t.x.ec, .bool t.y.s, .slice t.y.no t.y.nn t.y.nc, .slice t.y.eo t.y.en t.y.ec, .bool t.z.s, .slice t.z.no t.z.nn t.z.nc, .slice t.z.eo t.z.en t.z.ec] 26)) gx (fill (ts.map TP.x) k)) := ls.x.later b3
        have Y0 : Hid (Rw (wr.alloc (.cells #[.bool t.x.s, .slice t.x.no t.x.nn t.x.nc, .slice t.x.eo t.x.en t.x.ec, .bool t.y.s, .slice t.y.no t.y.nn t.y.nc, .slice t.y.eo t.y.en t.y.ec, .bool t.z.s, .slice t.z.no t.z.nn t.z.nc, .slice t.z.eo t.z.en t.z.ec] 26)) gy (fill (ts.map TP.y) k)) := ls.y.later b3
        have Z0 : Hid (Rw (wr.alloc (.cells #[.bool t.x.s, .slice t.x.no t.x.nn t.x.nc, .slice t.x.eo t.x.en t.x.ec, .bool t.y.s, .slice t.y.no t.y.nn t.y.nc, .slice t.y.eo t.y.en t.y.ec, .bool t.z.s, .slice t.z.no t.z.nn t.z.nc, .slice t.z.eo t.z.en t.z.ec] 26)) gz (fill (ts.map TP.z) k)) := ls.z.later b3
        have A0 : Hid (Vb (wr.alloc (.cells #[.bool t.x.s, .slice t.x.no t.x.nn t.x.nc, .slice t.x.eo t.x.en t.x.ec, .bool t.y.s, .slice t.y.no t.y.nn t.y.nc, .slice t.y.eo t.y.en t.y.ec, .bool t.z.s, .slice t.z.no t.z.nn t.z.nc, .slice t.z.eo t.z.en t.z.ec] 26)) g zRP zRP zRP) := ls.ans.later b3
        have B0 : Hid (Below w.heap.size w (wr.alloc (.cells #[.bool t.x.s, .slice t.x.no t.x.nn t.x.nc, .slice t.x.eo t.x.en t.x.ec, .bool t.y.s, .slice t.y.no t.y.nn t.y.nc, .slice t.y.eo t.y.en t.y.ec, .bool t.z.s, .slice t.z.no t.z.nn t.z.nc, .slice t.z.eo t.z.en t.z.ec] 26))) := ls.bel.trans (b3.mono ls.bel.size)
        have HD7 : Hid (wr.heap.size ≠ gx ∧ wr.heap.size ≠ gy ∧ wr.heap.size ≠ gz) := by have := ls.x.lt; have := ls.y.lt; have := ls.z.lt; show _ ∧ _ ∧ _; omega
        have HT : Hid ((ts.map TP.x)[k]? = some t.x ∧ (ts.map TP.y)[k]? = some t.y ∧ (ts.map TP.z)[k]? = some t.z) := ⟨by rw [List.getElem?_map, ht]; rfl, by rw [List.getElem?_map, ht]; rfl, by rw [List.getElem?_map, ht]; rfl⟩
        clear ls b3 ht
        go_wp2
        clear e0 e1 e2 e3 e4 e5 e6 e7 e8
        generalize wr.heap.size = g7 at *
        generalize (wr.alloc (.cells #[.bool t.x.s, .slice t.x.no t.x.nn t.x.nc, .slice t.x.eo t.x.en t.x.ec, .bool t.y.s, .slice t.y.no t.y.nn t.y.nc, .slice t.y.eo t.y.en t.y.ec, .bool t.z.s, .slice t.z.no t.z.nn t.z.nc, .slice t.z.eo t.z.en t.z.ec] 26)) = w3 at *
        refine wp_region_inv 17 47 [([], [3]), ([], [6]), ([], [4]), ([], [6]), ([], [5]), ([], [6]), ([], [7]), ([(6, 30)], []), ([], [7]), ([(8, 32)], []), ([], [7]), ([(10, 34)], []), ([(0, 24), (1, 25)], []), ([(12, 36), (7, 31)], []), ([(2, 26), (3, 27)], []), ([(14, 37), (9, 33)], []), ([(4, 28), (5, 29)], [])]
          (fun L vs u => Know [some (.slice (some ⟨gx, 0, none⟩) n n), some (.int .i64 ((k : Nat) : Int)), some (.slice (some ⟨gy, 0, none⟩) n n), some (.int .i64 ((k : Nat) : Int)), some (.slice (some ⟨gz, 0, none⟩) n n), some (.int .i64 ((k : Nat) : Int)), some (.pointer (some ⟨g7, 0, none⟩)), some (.agg #[.bool t.x.s, .slice t.x.no t.x.nn t.x.nc, .slice t.x.eo t.x.en t.x.ec]), some (.pointer (some ⟨g7, 3, none⟩)), some (.agg #[.bool t.y.s, .slice t.y.no t.y.nn t.y.nc, .slice t.y.eo t.y.en t.y.ec]), some (.pointer (some ⟨g7, 6, none⟩)), some (.agg #[.bool t.z.s, .slice t.z.no t.z.nn t.z.nc, .slice t.z.eo t.z.en t.z.ec]), some (.pointer (some ⟨gx, k * 3, none⟩)), none, some (.pointer (some ⟨gy, k * 3, none⟩)), none, some (.pointer (some ⟨gz, k * 3, none⟩))] L vs ∧ X5 w3 gx gy gz k t (fill (ts.map TP.x) k) (fill (ts.map TP.y) k) (fill (ts.map TP.z) k) (L 13) (L 15) u)
          (by kernel_rfl) rfl (by kernel_rfl) (fun vs => ⟨Know.start _ _, ⟨rfl, rfl, rfl, rfl, fun _ _ _ => rfl, ⟨X0.out.at_⟩, ⟨Y0.out.at_⟩⟩⟩) ?_ ?_
        · refine ⟨fun L vs ρ u hJ hL hc hf hd ho => ?_, fun L vs ρ u hJ hL hc hf hd ho => ?_, fun L vs ρ u hJ hL hc hf hd ho => ?_, fun L vs ρ u hJ hL hc hf hd ho => ?_, fun L vs ρ u hJ hL hc hf hd ho => ?_, fun L vs ρ u hJ hL hc hf hd ho => ?_, fun L vs ρ u hJ hL hc hf hd ho => ?_, fun L vs ρ u hJ hL hc hf hd ho => ?_, fun L vs ρ u hJ hL hc hf hd ho => ?_, fun L vs ρ u hJ hL hc hf hd ho => ?_, fun L vs ρ u hJ hL hc hf hd ho => ?_, fun L vs ρ u hJ hL hc hf hd ho => ?_, fun L vs ρ u hJ hL hc hf hd ho => ?_, fun L vs ρ u hJ hL hc hf hd ho => ?_, fun L vs ρ u hJ hL hc hf hd ho => ?_, fun L vs ρ u hJ hL hc hf hd ho => ?_, fun L vs ρ u hJ hL hc hf hd ho => ?_, trivial⟩
          · obtain ⟨hK, hX⟩ := hJ
            have e3 : ρ (.tmp 3) = .slice (some ⟨gx, 0, none⟩) n n := ho 3 (by simp)
            refine Goes.pure (.slice (some ⟨gx, 0, none⟩) n n) ?_ ⟨hK.pure rfl, hX⟩
            unfold Goes
            go_simp
          · obtain ⟨hK, hX⟩ := hJ
            have e6 : ρ (.tmp 6) = .int .i64 ((k : Nat) : Int) := ho 6 (by simp)
            refine Goes.pure (.int .i64 ((k : Nat) : Int)) ?_ ⟨hK.pure rfl, hX⟩
            unfold Goes
            go_simp
          · obtain ⟨hK, hX⟩ := hJ
            have e4 : ρ (.tmp 4) = .slice (some ⟨gy, 0, none⟩) n n := ho 4 (by simp)
            refine Goes.pure (.slice (some ⟨gy, 0, none⟩) n n) ?_ ⟨hK.pure rfl, hX⟩
            unfold Goes
            go_simp
          · obtain ⟨hK, hX⟩ := hJ
            have e6 : ρ (.tmp 6) = .int .i64 ((k : Nat) : Int) := ho 6 (by simp)
            refine Goes.pure (.int .i64 ((k : Nat) : Int)) ?_ ⟨hK.pure rfl, hX⟩
            unfold Goes
            go_simp
          · obtain ⟨hK, hX⟩ := hJ
            have e5 : ρ (.tmp 5) = .slice (some ⟨gz, 0, none⟩) n n := ho 5 (by simp)
            refine Goes.pure (.slice (some ⟨gz, 0, none⟩) n n) ?_ ⟨hK.pure rfl, hX⟩
            unfold Goes
            go_simp
          · obtain ⟨hK, hX⟩ := hJ
            have e6 : ρ (.tmp 6) = .int .i64 ((k : Nat) : Int) := ho 6 (by simp)
            refine Goes.pure (.int .i64 ((k : Nat) : Int)) ?_ ⟨hK.pure rfl, hX⟩
            unfold Goes
            go_simp
          · obtain ⟨hK, hX⟩ := hJ
            have e7 : ρ (.tmp 7) = .pointer (some ⟨g7, 0, none⟩) := ho 7 (by simp)
            refine Goes.pure (.pointer (some ⟨g7, 0, none⟩)) ?_ ⟨hK.pure rfl, hX⟩
            unfold Goes
            go_simp
          · obtain ⟨hK, hX⟩ := hJ
            have e30 : ρ (.tmp 30) = .pointer (some ⟨g7, 0, none⟩) := (hd (6, 30) (by simp)).2.trans (hK 6 _ rfl (hd (6, 30) (by simp)).1)
            obtain ⟨c0, c1, c2⟩ := ((V7.out).keep (hX.block g7 HD7.out.1 HD7.out.2.1)).c0
            refine Goes.pure (.agg #[.bool t.x.s, .slice t.x.no t.x.nn t.x.nc, .slice t.x.eo t.x.en t.x.ec]) ?_ ⟨hK.pure rfl, hX⟩
            unfold Goes
            go_simp
          · obtain ⟨hK, hX⟩ := hJ
            have e7 : ρ (.tmp 7) = .pointer (some ⟨g7, 0, none⟩) := ho 7 (by simp)
            refine Goes.pure (.pointer (some ⟨g7, 3, none⟩)) ?_ ⟨hK.pure rfl, hX⟩
            unfold Goes
            go_simp
          · obtain ⟨hK, hX⟩ := hJ
            have e32 : ρ (.tmp 32) = .pointer (some ⟨g7, 3, none⟩) := (hd (8, 32) (by simp)).2.trans (hK 8 _ rfl (hd (8, 32) (by simp)).1)
            obtain ⟨c0, c1, c2⟩ := ((V7.out).keep (hX.block g7 HD7.out.1 HD7.out.2.1)).c1
            refine Goes.pure (.agg #[.bool t.y.s, .slice t.y.no t.y.nn t.y.nc, .slice t.y.eo t.y.en t.y.ec]) ?_ ⟨hK.pure rfl, hX⟩
            unfold Goes
            go_simp
          · obtain ⟨hK, hX⟩ := hJ
            have e7 : ρ (.tmp 7) = .pointer (some ⟨g7, 0, none⟩) := ho 7 (by simp)
            refine Goes.pure (.pointer (some ⟨g7, 6, none⟩)) ?_ ⟨hK.pure rfl, hX⟩
            unfold Goes
            go_simp
          · obtain ⟨hK, hX⟩ := hJ
            have e34 : ρ (.tmp 34) = .pointer (some ⟨g7, 6, none⟩) := (hd (10, 34) (by simp)).2.trans (hK 10 _ rfl (hd (10, 34) (by simp)).1)
            obtain ⟨c0, c1, c2⟩ := ((V7.out).keep (hX.block g7 HD7.out.1 HD7.out.2.1)).c2
            refine Goes.pure (.agg #[.bool t.z.s, .slice t.z.no t.z.nn t.z.nc, .slice t.z.eo t.z.en t.z.ec]) ?_ ⟨hK.pure rfl, hX⟩
            unfold Goes
            go_simp
          · obtain ⟨hK, hX⟩ := hJ
            have e24 : ρ (.tmp 24) = .slice (some ⟨gx, 0, none⟩) n n := (hd (0, 24) (by simp)).2.trans (hK 0 _ rfl (hd (0, 24) (by simp)).1)
            have e25 : ρ (.tmp 25) = .int .i64 ((k : Nat) : Int) := (hd (1, 25) (by simp)).2.trans (hK 1 _ rfl (hd (1, 25) (by simp)).1)
            refine Goes.pure (.pointer (some ⟨gx, k * 3, none⟩)) ?_ ⟨hK.pure rfl, hX⟩
            unfold Goes
            go_simp
          · obtain ⟨hK, hX⟩ := hJ
            have e36 : ρ (.tmp 36) = .pointer (some ⟨gx, k * 3, none⟩) := (hd (12, 36) (by simp)).2.trans (hK 12 _ rfl (hd (12, 36) (by simp)).1)
            have e31 : ρ (.tmp 31) = .agg #[.bool t.x.s, .slice t.x.no t.x.nn t.x.nc, .slice t.x.eo t.x.en t.x.ec] := (hd (7, 31) (by simp)).2.trans (hK 7 _ rfl (hd (7, 31) (by simp)).1)
            have hrow : Rw u gx (fill (ts.map TP.x) k) := by have := hX.x; rw [hL] at this; exact this
            obtain ⟨c0, c1, c2⟩ := hrow.there (fill_at (xs := ts.map TP.x) (k := k) (by rw [List.length_map]; exact HK.out))
            have f0 := hrow.free (k * 3)
            have f1 := hrow.free (k * 3 + 1)
            have f2 := hrow.free (k * 3 + 2)
            have hX' := hX
            rw [hL] at hX'
            unfold Goes
            go_simp
            exact ⟨hK.other rfl, hX'.put1 HD.out.1⟩
          · obtain ⟨hK, hX⟩ := hJ
            have e26 : ρ (.tmp 26) = .slice (some ⟨gy, 0, none⟩) n n := (hd (2, 26) (by simp)).2.trans (hK 2 _ rfl (hd (2, 26) (by simp)).1)
            have e27 : ρ (.tmp 27) = .int .i64 ((k : Nat) : Int) := (hd (3, 27) (by simp)).2.trans (hK 3 _ rfl (hd (3, 27) (by simp)).1)
            refine Goes.pure (.pointer (some ⟨gy, k * 3, none⟩)) ?_ ⟨hK.pure rfl, hX⟩
            unfold Goes
            go_simp
          · obtain ⟨hK, hX⟩ := hJ
            have e37 : ρ (.tmp 37) = .pointer (some ⟨gy, k * 3, none⟩) := (hd (14, 37) (by simp)).2.trans (hK 14 _ rfl (hd (14, 37) (by simp)).1)
            have e33 : ρ (.tmp 33) = .agg #[.bool t.y.s, .slice t.y.no t.y.nn t.y.nc, .slice t.y.eo t.y.en t.y.ec] := (hd (9, 33) (by simp)).2.trans (hK 9 _ rfl (hd (9, 33) (by simp)).1)
            have hrow : Rw u gy (fill (ts.map TP.y) k) := by have := hX.y; rw [hL] at this; exact this
            obtain ⟨c0, c1, c2⟩ := hrow.there (fill_at (xs := ts.map TP.y) (k := k) (by rw [List.length_map]; exact HK.out))
            have f0 := hrow.free (k * 3)
            have f1 := hrow.free (k * 3 + 1)
            have f2 := hrow.free (k * 3 + 2)
            have hX' := hX
            rw [hL] at hX'
            unfold Goes
            go_simp
            exact ⟨hK.other rfl, hX'.put2 HD.out.1⟩
          · obtain ⟨hK, hX⟩ := hJ
            have e28 : ρ (.tmp 28) = .slice (some ⟨gz, 0, none⟩) n n := (hd (4, 28) (by simp)).2.trans (hK 4 _ rfl (hd (4, 28) (by simp)).1)
            have e29 : ρ (.tmp 29) = .int .i64 ((k : Nat) : Int) := (hd (5, 29) (by simp)).2.trans (hK 5 _ rfl (hd (5, 29) (by simp)).1)
            refine Goes.pure (.pointer (some ⟨gz, k * 3, none⟩)) ?_ ⟨hK.pure rfl, hX⟩
            unfold Goes
            go_simp
        · intro L vs u hL hJ
          obtain ⟨hK0, hX⟩ := hJ
          have k0 : vs 0 = .slice (some ⟨gx, 0, none⟩) n n := hK0 0 _ rfl (hL 0 (by omega))
          have k1 : vs 1 = .int .i64 ((k : Nat) : Int) := hK0 1 _ rfl (hL 1 (by omega))
          have k2 : vs 2 = .slice (some ⟨gy, 0, none⟩) n n := hK0 2 _ rfl (hL 2 (by omega))
          have k3 : vs 3 = .int .i64 ((k : Nat) : Int) := hK0 3 _ rfl (hL 3 (by omega))
          have k4 : vs 4 = .slice (some ⟨gz, 0, none⟩) n n := hK0 4 _ rfl (hL 4 (by omega))
          have k5 : vs 5 = .int .i64 ((k : Nat) : Int) := hK0 5 _ rfl (hL 5 (by omega))
          have k6 : vs 6 = .pointer (some ⟨g7, 0, none⟩) := hK0 6 _ rfl (hL 6 (by omega))
          have k7 : vs 7 = .agg #[.bool t.x.s, .slice t.x.no t.x.nn t.x.nc, .slice t.x.eo t.x.en t.x.ec] := hK0 7 _ rfl (hL 7 (by omega))
          have k8 : vs 8 = .pointer (some ⟨g7, 3, none⟩) := hK0 8 _ rfl (hL 8 (by omega))
          have k9 : vs 9 = .agg #[.bool t.y.s, .slice t.y.no t.y.nn t.y.nc, .slice t.y.eo t.y.en t.y.ec] := hK0 9 _ rfl (hL 9 (by omega))
          have k10 : vs 10 = .pointer (some ⟨g7, 6, none⟩) := hK0 10 _ rfl (hL 10 (by omega))
          have k11 : vs 11 = .agg #[.bool t.z.s, .slice t.z.no t.z.nn t.z.nc, .slice t.z.eo t.z.en t.z.ec] := hK0 11 _ rfl (hL 11 (by omega))
          have k12 : vs 12 = .pointer (some ⟨gx, k * 3, none⟩) := hK0 12 _ rfl (hL 12 (by omega))
          have k14 : vs 14 = .pointer (some ⟨gy, k * 3, none⟩) := hK0 14 _ rfl (hL 14 (by omega))
          have k16 : vs 16 = .pointer (some ⟨gz, k * 3, none⟩) := hK0 16 _ rfl (hL 16 (by omega))
          have hX' := hX
          rw [hL 13 (by omega), hL 15 (by omega)] at hX'
          have bX := hX'.below HE.out.1 HE.out.2.1
          have hz : Rw u gz (fill (ts.map TP.z) k) := Z0.out.keep (hX'.block gz (Ne.symm HD.out.2.1) (Ne.symm HD.out.2.2))
          have ha : Vb u g zRP zRP zRP := A0.out.keep (hX'.block g HA.out.1 HA.out.2.1)
          obtain ⟨c0, c1, c2⟩ := hz.there (fill_at (xs := ts.map TP.z) (k := k) (by rw [List.length_map]; exact HK.out))
          have f0 := hz.free (k * 3)
          have f1 := hz.free (k * 3 + 1)
          have f2 := hz.free (k * 3 + 2)
          have fr := putR.fr u gz (k * 3) t.z
          have LS' : Hid (Ls w g gx gy gz ts (k + 1) (putR u gz (k * 3) t.z)) := ⟨(B0.out.trans bX).trans (fr.below HE.out.2.2), ha.keep (fr.block g HA.out.2.2), by rw [← fill_set HT.out.1]; exact hX'.x.keep (fr.block gx HD.out.2.1), by rw [← fill_set HT.out.2.1]; exact hX'.y.keep (fr.block gy HD.out.2.2), by rw [← fill_set HT.out.2.2]; exact hz.put k t.z⟩
          clear hK0 hX hX' hL bX
          simp only [puts, List.take, List.drop, Act.put, List.setIfInBounds_toArray, List.set_cons_succ, List.set_cons_zero, Nat.reduceAdd, k0, k1, k2, k3, k4, k5, k6, k7, k8, k9, k10, k11, k12, k14, k16]
          clear k0 k1 k2 k3 k4 k5 k6 k7 k8 k9 k10 k11 k12 k14 k16
          go_wp2
          go_roundw
          case rel => exact ⟨k + 1, by omega, by go_num, LS'.out⟩
          case measure => simp [intOf]; omega
      · obtain rfl : k = n := by omega
        have B := ls.bel
        have hans := ls.ans
        have rx := ls.x
        have ry := ls.y
        have rz := ls.z
        have E : Hid (fill (ts.map TP.x) k = ts.map TP.x ∧ fill (ts.map TP.y) k = ts.map TP.y ∧ fill (ts.map TP.z) k = ts.map TP.z) := by
          refine ⟨?_, ?_, ?_⟩ <;> (rw [← HP.out.1]; exact (congrArg _ (List.length_map ..).symm).trans (fill_all _))
        rw [E.out.1] at rx
        rw [E.out.2.1] at ry
        rw [E.out.2.2] at rz
        clear ls
        go_wp2_with fail
        refine (ratSum_k (qs := ps) ((HI.out _ B).1 |> fun q => rx.list q k (by rw [List.length_map]; exact HP.out.1)) hK1 (by rw [HP.out.2.1]; exact hK) (by rw [HP.out.2.1]; exact h3)).mono ?_
        rintro e w4 ⟨s0, no0, nn0, nc0, eo0, en0, ec0, rfl, cq0, lb⟩
        rw [HP.out.2.1] at cq0
        replace B := B.trans (lb.mono B.size)
        replace hans := hans.later lb
        replace rx := rx.later lb
        replace ry := ry.later lb
        replace rz := rz.later lb
        clear lb
        go_wp2_with fail
        refine (ratSum_k (qs := qs) ((HI.out _ B).2.1 |> fun q => ry.list q k (by rw [List.length_map]; exact HP.out.1)) hK1 (by rw [HP.out.2.2.1]; exact hK) (by rw [HP.out.2.2.1]; exact h3)).mono ?_
        rintro e w5 ⟨s1, no1, nn1, nc1, eo1, en1, ec1, rfl, cq1, lb⟩
        rw [HP.out.2.2.1] at cq1
        replace B := B.trans (lb.mono B.size)
        replace hans := hans.later lb
        replace rx := rx.later lb
        replace ry := ry.later lb
        replace rz := rz.later lb
        replace cq0 := cq0.later lb
        clear lb
        go_wp2_with fail
        refine (ratSum_k (qs := rs) ((HI.out _ B).2.2.1 |> fun q => rz.list q k (by rw [List.length_map]; exact HP.out.1)) hK1 (by rw [HP.out.2.2.2]; exact hK) (by rw [HP.out.2.2.2]; exact h3)).mono ?_
        rintro e w6 ⟨s2, no2, nn2, nc2, eo2, en2, ec2, rfl, cq2, lb⟩
        rw [HP.out.2.2.2] at cq2
        replace B := B.trans (lb.mono B.size)
        replace hans := hans.later lb
        replace rx := rx.later lb
        replace ry := ry.later lb
        replace rz := rz.later lb
        replace cq0 := cq0.later lb
        replace cq1 := cq1.later lb
        clear lb
        obtain ⟨c0, c1, c2⟩ := hans.c0
        obtain ⟨c3, c4, c5⟩ := hans.c1
        obtain ⟨c6, c7, c8⟩ := hans.c2
        have f0 := hans.free 0
        have f1 := hans.free 1
        have f2 := hans.free 2
        have f3 := hans.free 3
        have f4 := hans.free 4
        have f5 := hans.free 5
        have f6 := hans.free 6
        have f7 := hans.free 7
        have f8 := hans.free 8
        go_wp2
        exact ret_storeV (x := ⟨s0, no0, nn0, nc0, eo0, en0, ec0⟩) (y := ⟨s1, no1, nn1, nc1, eo1, en1, ec1⟩) (z := ⟨s2, no2, nn2, nc2, eo2, en2, ec2⟩) rfl rfl rfl hans HG.out ⟨cq0, cq1, cq2⟩ B
end Go.Proofs.YtmoicmjljflcgaaGreat
