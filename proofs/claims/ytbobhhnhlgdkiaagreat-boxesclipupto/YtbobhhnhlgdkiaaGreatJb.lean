/- rat: Sum, of at most three numbers. -/
import Derived.Test.YtbobhhnhlgdkiaaGreatJa
namespace Go.Proofs.YtbobhhnhlgdkiaaGreat
open Go.RowKit M Kahn
set_option maxRecDepth 100000

/-- The sum, the product of some numbers. -/
def qsum : List Rat → Rat
  | [] => 0
  | q :: l => q + qsum l
def qprod : List Rat → Rat
  | [] => 1
  | q :: l => q * qprod l
theorem qsum1 (a : Rat) : qsum [a] = a := by simp only [qsum, Rat.add_zero]
theorem qsum2 (a b : Rat) : qsum [a, b] = a + b := by simp only [qsum, Rat.add_zero]
theorem qprod1 (a : Rat) : qprod [a] = a := by simp only [qprod, Rat.mul_one]
theorem qprod2 (a b : Rat) : qprod [a, b] = a * b := by simp only [qprod, Rat.mul_one]
theorem qsum_append (l m : List Rat) : qsum (l ++ m) = qsum l + qsum m := by
  induction l with
  | nil => simp only [List.nil_append, qsum, Rat.zero_add]
  | cons a l ih => simp only [List.cons_append, qsum, ih, Rat.add_assoc]
theorem qprod_append (l m : List Rat) : qprod (l ++ m) = qprod l * qprod m := by
  induction l with
  | nil => simp only [List.nil_append, qprod, Rat.one_mul]
  | cons a l ih => simp only [List.cons_append, qprod, ih, Rat.mul_assoc]
theorem take_snoc {l : List Rat} {k : Nat} (hk : k < l.length) : l.take (k + 1) = l.take k ++ [l.getD k 0] := by
  rw [List.take_add_one, List.getElem?_eq_getElem hk, List.getD_eq_getElem?_getD, List.getElem?_eq_getElem hk]; rfl
theorem qsum_step {l : List Rat} {k : Nat} (hk : k < l.length) : qsum (l.take (k + 1)) = qsum (l.take k) + l.getD k 0 := by rw [take_snoc hk, qsum_append, qsum1]
theorem qprod_step {l : List Rat} {k : Nat} (hk : k < l.length) : qprod (l.take (k + 1)) = qprod (l.take k) * l.getD k 0 := by rw [take_snoc hk, qprod_append, qprod1]

theorem RP.all_get : ∀ (rs : List RP) (k : Nat) (r : RP), rs[k]? = some r → (RP.all rs)[k * 3]? = some (.bool r.s) ∧ (RP.all rs)[k * 3 + 1]? = some (.slice r.no r.nn r.nc) ∧ (RP.all rs)[k * 3 + 2]? = some (.slice r.eo r.en r.ec)
  | [], k, r, h => by simp at h
  | r' :: rs, 0, r, h => by
    simp at h
    subst h
    exact ⟨rfl, rfl, rfl⟩
  | r' :: rs, k + 1, r, h => by
    have := RP.all_get rs k r (by simpa using h)
    rw [show (k + 1) * 3 = k * 3 + 3 from by omega]
    exact this
theorem RL.get {u : World} {K : Nat} : ∀ {rs : List RP} {qs : List Rat} (k : Nat), RL u K rs qs → k < qs.length → ∃ r, rs[k]? = some r ∧ Qn u r.s r.no r.nn r.nc r.eo r.en r.ec (qs.getD k 0) K
  | [], [], k, _, hk => by simp at hk
  | r :: rs, q :: qs, 0, h, _ => ⟨r, rfl, h.1⟩
  | r :: rs, q :: qs, k + 1, h, hk => by
    obtain ⟨r', h1, h2⟩ := RL.get k h.2 (by simpa using hk)
    exact ⟨r', by simpa using h1, by simpa using h2⟩
  | [], _ :: _, _, h, _ => h.elim
  | _ :: _, [], _, h, _ => h.elim
/-- One number of a list. -/
theorem VL.elem {qs : List Rat} {K : Nat} {v : Value} {u : World} (h : VL qs K v u) {k : Nat} (hk : k < qs.length) :
    ∃ b o cap s no nn nc eo en ec, v = .slice (some ⟨b, o, none⟩) qs.length cap ∧ qs.length ≤ cap ∧ b < u.heap.size ∧ u.cell? ⟨b, o + k * 3, none⟩ = some (.bool s) ∧ u.cell? ⟨b, o + k * 3 + 1, none⟩ = some (.slice no nn nc) ∧ u.cell? ⟨b, o + k * 3 + 2, none⟩ = some (.slice eo en ec) ∧ Qn u s no nn nc eo en ec (qs.getD k 0) K := by
  obtain ⟨ao, cap, rs, h1, h2, h3, h4⟩ := h
  obtain ⟨b, o, e1, e2, e3⟩ := h4 (by omega)
  obtain ⟨r, r1, r2⟩ := h3.get k hk
  obtain ⟨a1, a2, a3⟩ := RP.all_get rs k r r1
  refine ⟨b, o, cap, r.s, r.no, r.nn, r.nc, r.eo, r.en, r.ec, by rw [h1, e1], h2, e2, e3 _ _ a1, ?_, ?_, r2⟩
  · have := e3 _ _ a2; rwa [← Nat.add_assoc] at this
  · have := e3 _ _ a3; rwa [← Nat.add_assoc] at this

/-- A Rat in a block of its own, that is read as q. -/
structure Rq (w : World) (g : Nat) (q : Rat) (K : Nat) : Prop where
  there : ∃ s no nn nc eo en ec, Rb w g (.bool s) (.slice no nn nc) (.slice eo en ec) ∧ Qn w s no nn nc eo en ec q K
theorem Rq.made {w : World} {s : Bool} {no : Option Addr} {nn nc : Nat} {eo : Option Addr} {en ec : Nat} {q : Rat} {K : Nat} (h : Qn w s no nn nc eo en ec q K) :
    Rq (w.alloc (.cells #[.bool s, .slice no nn nc, .slice eo en ec] 24)) w.heap.size q K :=
  ⟨s, no, nn, nc, eo, en, ec, ⟨heap_alloc_new _ _⟩, h.later ((Below.refl _ _).alloc (Nat.le_refl _) _)⟩

set_option maxHeartbeats 2000000 in
theorem ratSum_n {w : World} {K : Nat} {v : Value} {qs : List Rat} (h : VL qs K v w) (hK1 : 1 ≤ K) (hK : (qs.length + 1) * (K + 1) ≤ 4294967296) (h3 : qs.length ≤ 3 := by simp) :
    Calls Tryz.prog 40 #[v] w (Gqn w (qs.length * (K + 1) + 1) (qsum qs)) := by
  obtain ⟨ao, cap, hv, hcap⟩ : ∃ ao cap, v = .slice ao qs.length cap ∧ qs.length ≤ cap := by
    obtain ⟨ao, cap, _, h1, h2, _⟩ := h
    exact ⟨ao, cap, h1, h2⟩
  subst hv
  obtain ⟨n, hn⟩ : ∃ n, n = qs.length := ⟨_, rfl⟩
  have HN : Hid (qs.length = n) := hn.symm
  rw [← hn] at h hcap hK h3 ⊢
  clear hn
  obtain ⟨w0, hw0, rs, b0⟩ := box00 w
  go_enter Tryz.func40, Tryz.ntmps40
  go_wp2_with fail
  rw [← hw0]
  clear hw0
  refine (rzero_n w0).mono ?_
  rintro e w1 ⟨s1, no1, nn1, nc1, eo1, en1, ec1, rfl, cq, t1, t2, b1⟩
  have rs1 := rs.later b1
  have bb1 := b0.trans (b1.mono b0.size)
  have q1 := Rq.made (cq.rd)
  have b2 : Below w1.heap.size w1 (w1.alloc (.cells #[.bool s1, .slice no1 nn1 nc1, .slice eo1 en1 ec1] 24)) := (Below.refl _ _).alloc (Nat.le_refl _) _
  have rs2 := rs1.later b2
  have bb2 := bb1.trans (b2.mono bb1.size)
  have hgt := rs1.lt
  have hsz : w1.heap.size < (w1.alloc (.cells #[.bool s1, .slice no1 nn1 nc1, .slice eo1 en1 ec1] 24)).heap.size := by simp
  go_wp2
  clear rs b0 cq t1 t2 b1 rs1 bb1 b2
  generalize w1.alloc (.cells #[.bool s1, .slice no1 nn1 nc1, .slice eo1 en1 ec1] 24) = w2 at *
  obtain ⟨g, hg⟩ : ∃ g, g = w.heap.size := ⟨_, rfl⟩
  have HG : Hid (w.heap.size = g) := hg.symm
  obtain ⟨g4, hg4⟩ : ∃ g4, g4 = w1.heap.size := ⟨_, rfl⟩
  rw [← hg4] at q1 hgt hsz ⊢
  rw [← hg] at rs2 hgt bb2 ⊢
  clear hg hg4
  have BB : Hid (Below g w w2) := bb2
  have HL : Hid (g4 < w2.heap.size) := hsz
  have HI : Hid (∀ u, Below g w u → VL qs K (.slice ao n cap) u) := fun u hu => VL.lasts qs K _ _ _ (by rw [HG.out]; exact hu) h
  clear h bb2 hsz
  go_loopw [25] (fun iv wr => ∃ k, k ≤ n ∧ iv = .int .i64 ((k : Nat) : Int) ∧ Below g w wr ∧ Rb wr g (.bool false) (.slice none 0 0) (.slice none 0 0) ∧ Rq wr g4 (qsum (qs.take k)) (k * (K + 1) + 1)) (fun iv _ => n - (intOf iv).toNat)
  case atStart => exact ⟨0, Nat.zero_le _, rfl, BB.out, rs2, by rw [Nat.zero_mul, Nat.zero_add]; exact q1⟩
  case round =>
    obtain ⟨k, hk, rfl, hbl, hrs, hrq⟩ := hrel
    obtain ⟨s2, no2, nn2, nc2, eo2, en2, ec2, hb2, hq2⟩ := hrq.there
    have hkk : k * (K + 1) ≤ n * (K + 1) := Nat.mul_le_mul_right _ hk
    have hnn : (n + 1) * (K + 1) = n * (K + 1) + (K + 1) := Nat.succ_mul _ _
    by_cases hlt : k < n
    · obtain ⟨b, o, cap', s3, no3, nn3, nc3, eo3, en3, ec3, hv3, hc3, hb3, e0, e1, e2, hq3⟩ := (HI.out wr hbl).elem (k := k) (by rw [HN.out]; exact hlt)
      simp only [Value.slice.injEq] at hv3
      obtain ⟨rfl, hx3, rfl⟩ := hv3
      clear hx3
      have b3 : Below wr.heap.size wr (wr.alloc (.cells #[.bool s3, .slice no3 nn3 nc3, .slice eo3 en3 ec3] 24)) := (Below.refl _ _).alloc (Nat.le_refl _) _
      have hb3 := hb2.later b3
      have hq2' := hq2.later b3
      have hq3' := hq3.later b3
      have hrs3 := hrs.later b3
      have hbl3 := hbl.trans (b3.mono (by rw [← HG.out]; exact hbl.size))
      obtain ⟨c0, c1, c2⟩ := hb3.cells
      go_wp2_with fail
      clear e0 e1 e2 c0 c1 c2
      generalize wr.alloc (.cells #[.bool s3, .slice no3 nn3 nc3, .slice eo3 en3 ec3] 24) = w3 at *
      refine (plus_k hq2' hq3' (by omega)).mono ?_
      rintro e w4 ⟨s5, no5, nn5, nc5, eo5, en5, ec5, rfl, hq5, b5⟩
      replace hb3 := hb3.later b5
      replace hrs3 := hrs3.later b5
      replace hbl3 := hbl3.trans (b5.mono (by rw [← HG.out]; exact hbl3.size))
      obtain ⟨c0, c1, c2⟩ := hb3.cells
      have f0 := hb3.free 0
      have f1 := hb3.free 1
      have f2 := hb3.free 2
      have fr := Rb.putFr g4 w4 (.bool s5) (.slice no5 nn5 nc5) (.slice eo5 en5 ec5)
      have hb6 := hb3.put (.bool s5) (.slice no5 nn5 nc5) (.slice eo5 en5 ec5)
      have hq6 := hq5.store hb3 fr
      have hrs6 := hrs3.keep (fr.block g (by omega))
      have hbl6 := hbl3.trans (fr.below (N := g) (by omega))
      go_wp2
      go_roundw
      case rel => exact ⟨k + 1, by omega, by go_num, hbl6, hrs6, ⟨_, _, _, _, _, _, _, hb6, by rw [qsum_step (by rw [HN.out]; exact hlt)]; exact hq6.mono (by rw [Nat.succ_mul]; omega)⟩⟩
      case measure => simp [intOf]; omega
    · obtain rfl : k = n := by omega
      have HT : Hid (qsum (qs.take k) = qsum qs) := by show qsum (qs.take k) = qsum qs; rw [List.take_of_length_le (by rw [HN.out]; exact Nat.le_refl _)]
      obtain ⟨c0, c1, c2⟩ := hb2.cells
      go_wp2_with fail
      refine (ratRead_n hq2 (by omega) (by omega)).mono ?_
      rintro e w4 ⟨s5, no5, nn5, nc5, eo5, en5, ec5, rfl, cq, t1, t2, b5⟩
      have rs5 := hrs.later b5
      have hsz := hbl.size
      have hbl5 := hbl.trans (b5.mono (by rw [← HG.out]; exact hbl.size))
      obtain ⟨r0, r1, r2⟩ := rs5.cells
      have f0 := rs5.free 0
      have f1 := rs5.free 1
      have f2 := rs5.free 2
      rw [HT.out] at cq
      go_wp2
      exact retn_store rfl rfl rfl rs5 (by rw [HG.out]; exact Nat.le_refl _) cq (t1.mono hsz) (t2.mono hsz) (by rw [HG.out]; exact hbl5)

theorem ratSum_k {w : World} {K : Nat} {v : Value} {qs : List Rat} (h : VL qs K v w) (hK1 : 1 ≤ K) (hK : (qs.length + 1) * (K + 1) ≤ 4294967296) (h3 : qs.length ≤ 3 := by simp) :
    Calls Tryz.prog 40 #[v] w (Gq w (qs.length * (K + 1) + 1) (qsum qs)) := (ratSum_n h hK1 hK h3).mono fun _ _ h => h.q
end Go.Proofs.YtbobhhnhlgdkiaaGreat

/- rat: Product. -/
namespace Go.Proofs.YtbobhhnhlgdkiaaGreat
open Go.RowKit M Kahn
set_option maxRecDepth 100000

set_option maxRecDepth 100000 in
set_option maxHeartbeats 4000000 in
theorem ratProduct_n {w : World} {K : Nat} {v : Value} {qs : List Rat} (h : VL qs K v w) (hK1 : 1 ≤ K) (hK : (qs.length + 1) * (K + 1) ≤ 4294967296) :
    Calls Tryz.prog 63 #[v] w (Gqn w (qs.length * K + 1) (qprod qs)) := by
  obtain ⟨ao, cap, hv, hcap⟩ : ∃ ao cap, v = .slice ao qs.length cap ∧ qs.length ≤ cap := by
    obtain ⟨ao, cap, _, h1, h2, _⟩ := h
    exact ⟨ao, cap, h1, h2⟩
  subst hv
  obtain ⟨n, hn⟩ : ∃ n, n = qs.length := ⟨_, rfl⟩
  have HN : Hid (qs.length = n) := hn.symm
  rw [← hn] at h hcap hK ⊢
  clear hn
  obtain ⟨w0, hw0, rs, b0⟩ := box00 w
  go_enter Tryz.func63, Tryz.ntmps63
  go_wp2_with fail
  rw [← hw0]
  clear hw0
  refine (of1_n w0).mono ?_
  rintro e w1 ⟨ao1, n1, c1, rfl, s1, _, b1⟩
  obtain rfl : n1 = 1 := by rw [← s1.len]; rfl
  go_wp2_with fail
  refine (of1_n w1).mono ?_
  rintro e w1' ⟨ao2, n2, c2, rfl, s2, _, b2⟩
  obtain rfl : n2 = 1 := by rw [← s2.len]; rfl
  have cq : Qn w1' false ao1 1 c1 ao2 1 c2 1 1 := ⟨⟨[1], [1], s1.later b2, s2, by rw [show val [1] = 1 from rfl, rq_one]; rfl⟩, Nat.le_refl _, Nat.le_refl _⟩
  have rs1 := (rs.later b1).later b2
  have bb1 := (b0.trans (b1.mono b0.size)).trans (b2.mono (Nat.le_trans b0.size b1.size))
  clear rs b0 b1 b2 s1 s2
  have q1 := Rq.made cq
  have b2 : Below w1'.heap.size w1' (w1'.alloc (.cells #[.bool false, .slice ao1 1 c1, .slice ao2 1 c2] 24)) := (Below.refl _ _).alloc (Nat.le_refl _) _
  have rs2 := rs1.later b2
  have bb2 := bb1.trans (b2.mono bb1.size)
  have hgt := rs1.lt
  have hsz : w1'.heap.size < (w1'.alloc (.cells #[.bool false, .slice ao1 1 c1, .slice ao2 1 c2] 24)).heap.size := by simp
  go_wp2
  clear cq rs1 bb1 b2
  generalize w1'.alloc (.cells #[.bool false, .slice ao1 1 c1, .slice ao2 1 c2] 24) = w2 at *
  obtain ⟨g, hg⟩ : ∃ g, g = w.heap.size := ⟨_, rfl⟩
  have HG : Hid (w.heap.size = g) := hg.symm
  obtain ⟨g3, hg3⟩ : ∃ g3, g3 = w1'.heap.size := ⟨_, rfl⟩
  rw [← hg3] at q1 hgt hsz ⊢
  rw [← hg] at rs2 hgt bb2 ⊢
  clear hg hg3
  have BB : Hid (Below g w w2) := bb2
  have HL : Hid (g3 < w2.heap.size) := hsz
  have HI : Hid (∀ u, Below g w u → VL qs K (.slice ao n cap) u) := fun u hu => VL.lasts qs K _ _ _ (by rw [HG.out]; exact hu) h
  clear h bb2 hsz
  go_loopw [11] (fun iv wr => ∃ k, k ≤ n ∧ iv = .int .i64 ((k : Nat) : Int) ∧ Below g w wr ∧ Rb wr g (.bool false) (.slice none 0 0) (.slice none 0 0) ∧ Rq wr g3 (qprod (qs.take k)) (k * K + 1)) (fun iv _ => n - (intOf iv).toNat)
  case atStart => exact ⟨0, Nat.zero_le _, rfl, BB.out, rs2, by rw [Nat.zero_mul, Nat.zero_add]; exact q1⟩
  case round =>
    obtain ⟨k, hk, rfl, hbl, hrs, hrq⟩ := hrel
    obtain ⟨s2, no2, nn2, nc2, eo2, en2, ec2, hb2, hq2⟩ := hrq.there
    have hkk : k * K ≤ n * K := Nat.mul_le_mul_right _ hk
    have hnn : (n + 1) * (K + 1) = n * K + n + K + 1 := by rw [Nat.succ_mul, Nat.mul_succ]; omega
    by_cases hlt : k < n
    · obtain ⟨b, o, cap', s3, no3, nn3, nc3, eo3, en3, ec3, hv3, hc3, hb3, e0, e1, e2, hq3⟩ := (HI.out wr hbl).elem (k := k) (by rw [HN.out]; exact hlt)
      simp only [Value.slice.injEq] at hv3
      obtain ⟨rfl, hx3, rfl⟩ := hv3
      clear hx3
      have b3 : Below wr.heap.size wr (wr.alloc (.cells #[.bool s3, .slice no3 nn3 nc3, .slice eo3 en3 ec3] 24)) := (Below.refl _ _).alloc (Nat.le_refl _) _
      have hb4 := hb2.later b3
      have hb5 : Rb (wr.alloc (.cells #[.bool s3, .slice no3 nn3 nc3, .slice eo3 en3 ec3] 24)) wr.heap.size (.bool s3) (.slice no3 nn3 nc3) (.slice eo3 en3 ec3) := ⟨heap_alloc_new _ _⟩
      have hq2' := hq2.later b3
      have hq3' := hq3.later b3
      have hrs3 := hrs.later b3
      have hbl3 := hbl.trans (b3.mono (by rw [← HG.out]; exact hbl.size))
      go_wp2
      clear e0 e1 e2 b3
      generalize wr.alloc (.cells #[.bool s3, .slice no3 nn3 nc3, .slice eo3 en3 ec3] 24) = w3 at *
      generalize wr.heap.size = g5 at *
      obtain ⟨p2, hp2⟩ : ∃ p2, qprod (qs.take k) = p2 := ⟨_, rfl⟩
      obtain ⟨p3, hp3⟩ : ∃ p3, qs.getD k 0 = p3 := ⟨_, rfl⟩
      have HST : Hid (qprod (qs.take (k + 1)) = p2 * p3) := by show qprod (qs.take (k + 1)) = p2 * p3; rw [qprod_step (by rw [HN.out]; exact hlt), hp2, hp3]
      rw [hp2] at hq2'
      rw [hp3] at hq3'
      obtain ⟨xs, ys, sx, sy, hq⟩ := hq2'.there
      obtain ⟨us, vs, su, sv, hp⟩ := hq3'.there
      have HQ2 : Hid _ := hq
      have HQ3 : Hid _ := hp
      have l1 := hq2'.ln
      have l2 := hq2'.ld
      have l3 := hq3'.ln
      have l4 := hq3'.ld
      clear hq2' hq3' hq2 hq3 hq hp hp2 hp3 hb2 hrs hbl hrq
      have hread := fun u (hu : Below w3.heap.size w3 u) => And.intro (hb4.later hu).cells (hb5.later hu).cells
      have HLst : Lst [VV (.pointer (some ⟨g3, 0, none⟩)), VV (.bool s2), VV (.pointer (some ⟨g5, 0, none⟩)), VV (.bool s3), VV (.bool (s2 != s3)), VV (.pointer (some ⟨g3, 1, none⟩)), VV (.slice no2 nn2 nc2), VV (.pointer (some ⟨g5, 1, none⟩)), VV (.slice no3 nn3 nc3), VN (val xs * val us) (k * K + 1 + K), VV (.pointer (some ⟨g3, 2, none⟩)), VV (.slice eo2 en2 ec2), VV (.pointer (some ⟨g5, 2, none⟩)), VV (.slice eo3 en3 ec3), VN (val ys * val vs) (k * K + 1 + K), VR (p2 * p3) (k * K + 1 + K)] := ⟨VV.lasts _, VV.lasts _, VV.lasts _, VV.lasts _, VV.lasts _, VV.lasts _, VV.lasts _, VV.lasts _, VV.lasts _, VN.lasts _ _, VV.lasts _, VV.lasts _, VV.lasts _, VV.lasts _, VN.lasts _ _, VR.lasts _ _, trivial⟩
      refine wp_region_kahn 16 34 [([], [3]), ([(0, 15)], []), ([], [5]), ([(2, 17)], []), ([(1, 16), (3, 18)], []), ([], [3]), ([(5, 20)], []), ([], [5]), ([(7, 22)], []), ([(6, 21), (8, 23)], []), ([], [3]), ([(10, 25)], []), ([], [5]), ([(12, 27)], []), ([(11, 26), (13, 28)], []), ([(4, 19), (9, 24), (14, 29)], [])]
        (fun u => Below w3.heap.size w3 u) (fun u u' => Below u.heap.size u u')
        (Sp [VV (.pointer (some ⟨g3, 0, none⟩)), VV (.bool s2), VV (.pointer (some ⟨g5, 0, none⟩)), VV (.bool s3), VV (.bool (s2 != s3)), VV (.pointer (some ⟨g3, 1, none⟩)), VV (.slice no2 nn2 nc2), VV (.pointer (some ⟨g5, 1, none⟩)), VV (.slice no3 nn3 nc3), VN (val xs * val us) (k * K + 1 + K), VV (.pointer (some ⟨g3, 2, none⟩)), VV (.slice eo2 en2 ec2), VV (.pointer (some ⟨g5, 2, none⟩)), VV (.slice eo3 en3 ec3), VN (val ys * val vs) (k * K + 1 + K), VR (p2 * p3) (k * K + 1 + K)])
        (by kernel_rfl) rfl (by kernel_rfl) (Below.refl _ _).drew (fun k v u u' _ hg hs => Sp.lasts HLst k v u u' hg hs) ?_ ?_
      · refine ⟨.inl ⟨by simp, fun ρ u hC hc hf hd ho => ?_⟩, .inl ⟨by simp, fun ρ u hC hc hf hd ho => ?_⟩, .inl ⟨by simp, fun ρ u hC hc hf hd ho => ?_⟩, .inl ⟨by simp, fun ρ u hC hc hf hd ho => ?_⟩, .inl ⟨by simp, fun ρ u hC hc hf hd ho => ?_⟩, .inl ⟨by simp, fun ρ u hC hc hf hd ho => ?_⟩, .inl ⟨by simp, fun ρ u hC hc hf hd ho => ?_⟩, .inl ⟨by simp, fun ρ u hC hc hf hd ho => ?_⟩, .inl ⟨by simp, fun ρ u hC hc hf hd ho => ?_⟩, .inl ⟨by simp, fun ρ u hC hc hf hd ho => ?_⟩, .inl ⟨by simp, fun ρ u hC hc hf hd ho => ?_⟩, .inl ⟨by simp, fun ρ u hC hc hf hd ho => ?_⟩, .inl ⟨by simp, fun ρ u hC hc hf hd ho => ?_⟩, .inl ⟨by simp, fun ρ u hC hc hf hd ho => ?_⟩, .inl ⟨by simp, fun ρ u hC hc hf hd ho => ?_⟩, .inl ⟨by simp, fun ρ u hC hc hf hd ho => ?_⟩, trivial⟩
        · have e3 : ρ (.tmp 3) = .pointer (some ⟨g3, 0, none⟩) := ho 3 (by simp)
          refine Goes.pure (.pointer (some ⟨g3, 0, none⟩)) ?_ ⟨hC, Below.refl _ _, rfl⟩
          unfold Goes
          go_simp
        · have e15 : ρ (.tmp 15) = .pointer (some ⟨g3, 0, none⟩) := hd (0, 15) (by simp)
          obtain ⟨⟨c0, c1, c2⟩, d0, d1, d2⟩ := hread u hC
          refine Goes.pure (.bool s2) ?_ ⟨hC, Below.refl _ _, rfl⟩
          unfold Goes
          go_simp
        · have e5 : ρ (.tmp 5) = .pointer (some ⟨g5, 0, none⟩) := ho 5 (by simp)
          refine Goes.pure (.pointer (some ⟨g5, 0, none⟩)) ?_ ⟨hC, Below.refl _ _, rfl⟩
          unfold Goes
          go_simp
        · have e17 : ρ (.tmp 17) = .pointer (some ⟨g5, 0, none⟩) := hd (2, 17) (by simp)
          obtain ⟨⟨c0, c1, c2⟩, d0, d1, d2⟩ := hread u hC
          refine Goes.pure (.bool s3) ?_ ⟨hC, Below.refl _ _, rfl⟩
          unfold Goes
          go_simp
        · have e16 : ρ (.tmp 16) = .bool s2 := hd (1, 16) (by simp)
          have e18 : ρ (.tmp 18) = .bool s3 := hd (3, 18) (by simp)
          refine Goes.pure (.bool (s2 != s3)) ?_ ⟨hC, Below.refl _ _, rfl⟩
          unfold Goes
          go_simp
          cases s2 <;> cases s3 <;> rfl
        · have e3 : ρ (.tmp 3) = .pointer (some ⟨g3, 0, none⟩) := ho 3 (by simp)
          refine Goes.pure (.pointer (some ⟨g3, 1, none⟩)) ?_ ⟨hC, Below.refl _ _, rfl⟩
          unfold Goes
          go_simp
        · have e20 : ρ (.tmp 20) = .pointer (some ⟨g3, 1, none⟩) := hd (5, 20) (by simp)
          obtain ⟨⟨c0, c1, c2⟩, d0, d1, d2⟩ := hread u hC
          refine Goes.pure (.slice no2 nn2 nc2) ?_ ⟨hC, Below.refl _ _, rfl⟩
          unfold Goes
          go_simp
        · have e5 : ρ (.tmp 5) = .pointer (some ⟨g5, 0, none⟩) := ho 5 (by simp)
          refine Goes.pure (.pointer (some ⟨g5, 1, none⟩)) ?_ ⟨hC, Below.refl _ _, rfl⟩
          unfold Goes
          go_simp
        · have e22 : ρ (.tmp 22) = .pointer (some ⟨g5, 1, none⟩) := hd (7, 22) (by simp)
          obtain ⟨⟨c0, c1, c2⟩, d0, d1, d2⟩ := hread u hC
          refine Goes.pure (.slice no3 nn3 nc3) ?_ ⟨hC, Below.refl _ _, rfl⟩
          unfold Goes
          go_simp
        · have e21 : ρ (.tmp 21) = .slice no2 nn2 nc2 := hd (6, 21) (by simp)
          have e23 : ρ (.tmp 23) = .slice no3 nn3 nc3 := hd (8, 23) (by simp)
          refine Goes.call 46 #[.slice no2 nn2 nc2, .slice no3 nn3 nc3] (by go_simp) ?_
          refine Calls.mono (mul_k (sx.later hC) (su.later hC) (k * K + 1) K l1 l3 (by omega) (by omega)) ?_
          rintro e u' ⟨ro, rn, rc, rfl, sr, lr, lb⟩
          exact ⟨_, rfl, hC.trans (lb.mono hC.size), lb, ⟨ro, rn, rc, rfl, sr, lr⟩⟩
        · have e3 : ρ (.tmp 3) = .pointer (some ⟨g3, 0, none⟩) := ho 3 (by simp)
          refine Goes.pure (.pointer (some ⟨g3, 2, none⟩)) ?_ ⟨hC, Below.refl _ _, rfl⟩
          unfold Goes
          go_simp
        · have e25 : ρ (.tmp 25) = .pointer (some ⟨g3, 2, none⟩) := hd (10, 25) (by simp)
          obtain ⟨⟨c0, c1, c2⟩, d0, d1, d2⟩ := hread u hC
          refine Goes.pure (.slice eo2 en2 ec2) ?_ ⟨hC, Below.refl _ _, rfl⟩
          unfold Goes
          go_simp
        · have e5 : ρ (.tmp 5) = .pointer (some ⟨g5, 0, none⟩) := ho 5 (by simp)
          refine Goes.pure (.pointer (some ⟨g5, 2, none⟩)) ?_ ⟨hC, Below.refl _ _, rfl⟩
          unfold Goes
          go_simp
        · have e27 : ρ (.tmp 27) = .pointer (some ⟨g5, 2, none⟩) := hd (12, 27) (by simp)
          obtain ⟨⟨c0, c1, c2⟩, d0, d1, d2⟩ := hread u hC
          refine Goes.pure (.slice eo3 en3 ec3) ?_ ⟨hC, Below.refl _ _, rfl⟩
          unfold Goes
          go_simp
        · have e26 : ρ (.tmp 26) = .slice eo2 en2 ec2 := hd (11, 26) (by simp)
          have e28 : ρ (.tmp 28) = .slice eo3 en3 ec3 := hd (13, 28) (by simp)
          refine Goes.call 46 #[.slice eo2 en2 ec2, .slice eo3 en3 ec3] (by go_simp) ?_
          refine Calls.mono (mul_k (sy.later hC) (sv.later hC) (k * K + 1) K l2 l4 (by omega) (by omega)) ?_
          rintro e u' ⟨ro, rn, rc, rfl, sr, lr, lb⟩
          exact ⟨_, rfl, hC.trans (lb.mono hC.size), lb, ⟨ro, rn, rc, rfl, sr, lr⟩⟩
        · have e19 : ρ (.tmp 19) = .bool (s2 != s3) := hd (4, 19) (by simp)
          obtain ⟨o24, n24, c24, e24, k24, j24⟩ : VN (val xs * val us) (k * K + 1 + K) (ρ (.tmp 24)) u := hd (9, 24) (by simp)
          obtain ⟨o29, n29, c29, e29, k29, j29⟩ : VN (val ys * val vs) (k * K + 1 + K) (ρ (.tmp 29)) u := hd (14, 29) (by simp)
          refine Goes.pure (.agg #[.bool (s2 != s3), .slice o24 n24 c24, .slice o29 n29 c29]) ?_ ⟨hC, Below.refl _ _, ⟨s2 != s3, o24, n24, c24, o29, n29, c29, rfl, ⟨_, _, k24, k29, by rw [val_toL, val_toL, ← rq_mul, HQ2.out, HQ3.out]⟩, j24, j29⟩⟩
          unfold Goes
          go_simp
      · intro vs u hC hv
        obtain ⟨s5, no5, nn5, nc5, eo5, en5, ec5, e30, hq5⟩ : VR (p2 * p3) (k * K + 1 + K) (vs 15) u := hv 15 (by omega)
        replace hb4 := hb4.later hC
        replace hrs3 := hrs3.later hC
        replace hbl3 := hbl3.trans (hC.mono (by rw [← HG.out]; exact hbl3.size))
        obtain ⟨c0, c1, c2⟩ := hb4.cells
        have f0 := hb4.free 0
        have f1 := hb4.free 1
        have f2 := hb4.free 2
        have fr := Rb.putFr g3 u (.bool s5) (.slice no5 nn5 nc5) (.slice eo5 en5 ec5)
        have hb6 := hb4.put (.bool s5) (.slice no5 nn5 nc5) (.slice eo5 en5 ec5)
        have hq6 := hq5.store hb4 fr
        have hrs6 := hrs3.keep (fr.block g (by omega))
        have hbl6 := hbl3.trans (fr.below (N := g) (by omega))
        simp only [puts, List.take, List.drop, Act.put, List.setIfInBounds_toArray, List.set_cons_succ, List.set_cons_zero, Nat.reduceAdd, e30]
        clear hv hread hC
        go_wp2
        go_roundw
        case rel => exact ⟨k + 1, by omega, by go_num, hbl6, hrs6, ⟨_, _, _, _, _, _, _, hb6, by rw [HST.out]; exact hq6.mono (by rw [Nat.succ_mul]; omega)⟩⟩
        case measure => simp [intOf]; omega
    · obtain rfl : k = n := by omega
      have HT : Hid (qprod (qs.take k) = qprod qs) := by show qprod (qs.take k) = qprod qs; rw [List.take_of_length_le (by rw [HN.out]; exact Nat.le_refl _)]
      obtain ⟨c0, c1, c2⟩ := hb2.cells
      go_wp2_with fail
      refine (ratRead_n hq2 (by omega) (by omega)).mono ?_
      rintro e w4 ⟨s5, no5, nn5, nc5, eo5, en5, ec5, rfl, cq, t1, t2, b5⟩
      have rs5 := hrs.later b5
      have hsz := hbl.size
      have hbl5 := hbl.trans (b5.mono (by rw [← HG.out]; exact hbl.size))
      obtain ⟨r0, r1, r2⟩ := rs5.cells
      have f0 := rs5.free 0
      have f1 := rs5.free 1
      have f2 := rs5.free 2
      rw [HT.out] at cq
      go_wp2
      exact retn_store rfl rfl rfl rs5 (by rw [HG.out]; exact Nat.le_refl _) cq (t1.mono hsz) (t2.mono hsz) (by rw [HG.out]; exact hbl5)

theorem ratProduct_k {w : World} {K : Nat} {v : Value} {qs : List Rat} (h : VL qs K v w) (hK1 : 1 ≤ K) (hK : (qs.length + 1) * (K + 1) ≤ 4294967296) :
    Calls Tryz.prog 63 #[v] w (Gq w (qs.length * K + 1) (qprod qs)) := (ratProduct_n h hK1 hK).mono fun _ _ h => h.q
end Go.Proofs.YtbobhhnhlgdkiaaGreat

/- rat: Sub, Div. -/
namespace Go.Proofs.YtbobhhnhlgdkiaaGreat
open Go.RowKit M Kahn
set_option maxRecDepth 100000

section
variable {w : World} {s : Bool} {no : Option Addr} {nn nc : Nat} {eo : Option Addr} {en ec : Nat} {t : Bool} {mo : Option Addr} {mn mc : Nat} {fo : Option Addr} {fn fc : Nat} {K L K' : Nat} {q p : Rat}
theorem Cq.tight (h : Cq w s no nn nc eo en ec q K) (h1 : q.num.natAbs < Bp K') (h2 : q.den < Bp K') : Cq w s no nn nc eo en ec q K' :=
  ⟨h.sgn, h.num, h.den, h.num.ln h1, h.den.ln h2⟩
/-- How long a sum, a quotient can be. -/
theorem Qn.add_bd (h : Qn w s no nn nc eo en ec q K) (h' : Qn w t mo mn mc fo fn fc p L) (hK1 : 1 ≤ K + L) : (q + p).num.natAbs < Bp (K + L + 1) ∧ (q + p).den < Bp (K + L + 1) := by
  obtain ⟨xs, ys, h1, h2, h3⟩ := h.there
  obtain ⟨us, vs, g1, g2, g3⟩ := h'.there
  have a1 := h1.bd h.ln
  have a2 := h2.bd h.ld
  have a3 := g1.bd h'.ln
  have a4 := g2.bd h'.ld
  have m1 := Nat.mul_lt_mul'' a1 a4
  have m2 := Nat.mul_lt_mul'' a3 a2
  have m3 := Nat.mul_lt_mul'' a2 a4
  rw [Nat.mul_comm (Bp L) (Bp K)] at m2
  rw [← Bp_add] at m1 m2 m3
  have hB := Bp_succ (K + L)
  have hp : 0 < Bp (K + L) := Bp_pos _
  by_cases hY : val ys = 0
  · have hq0 : q = 0 := by rw [← h3, hY, rq_den0]
    rw [hq0, Rat.zero_add, ← g3]
    have := num_bd (s := t) (n := val us) (d := val vs) (K := K + L + 1) (Nat.lt_of_lt_of_le a3 (Bp_mono (by omega))) (Nat.lt_of_lt_of_le a4 (Bp_mono (by omega))) (by omega)
    exact this
  · by_cases hV : val vs = 0
    · have hp0 : p = 0 := by rw [← g3, hV, rq_den0]
      rw [hp0, Rat.add_zero, ← h3]
      exact num_bd (s := s) (n := val xs) (d := val ys) (K := K + L + 1) (Nat.lt_of_lt_of_le a1 (Bp_mono (by omega))) (Nat.lt_of_lt_of_le a2 (Bp_mono (by omega))) (by omega)
    · have hs := rq_add_any (s := s) (t := t) (X := val xs) (U := val us) hY hV (psg_pab s t (val xs * val vs) (val us * val ys))
      rw [h3, g3] at hs
      rw [← hs]
      refine num_bd ?_ (by omega) (by omega)
      have : pab s t (val xs * val vs) (val us * val ys) ≤ val xs * val vs + val us * val ys := by unfold pab; split <;> (try split) <;> omega
      omega
theorem Qn.mul_bd (h : Qn w s no nn nc eo en ec q K) (h' : Qn w t mo mn mc fo fn fc p L) (hK1 : 1 ≤ K + L) : (q * p).num.natAbs < Bp (K + L) ∧ (q * p).den < Bp (K + L) := by
  obtain ⟨xs, ys, h1, h2, h3⟩ := h.there
  obtain ⟨us, vs, g1, g2, g3⟩ := h'.there
  have m1 := Nat.mul_lt_mul'' (h1.bd h.ln) (g1.bd h'.ln)
  have m2 := Nat.mul_lt_mul'' (h2.bd h.ld) (g2.bd h'.ld)
  rw [← Bp_add] at m1 m2
  rw [← h3, ← g3, rq_mul]
  exact num_bd m1 m2 hK1

/-- Two Rats, one behind the other. -/
theorem VL.two {u : World} (h : Qn u s no nn nc eo en ec q K) (h' : Qn u t mo mn mc fo fn fc p K) :
    VL [q, p] K (.slice (some ⟨u.heap.size, 0, none⟩) 2 2) (u.alloc (.cells #[.bool s, .slice no nn nc, .slice eo en ec, .bool t, .slice mo mn mc, .slice fo fn fc] 24)) :=
  VL.made [⟨s, no, nn, nc, eo, en, ec⟩, ⟨t, mo, mn, mc, fo, fn, fc⟩] [q, p] ⟨h, h', trivial⟩ _ rfl 2 rfl

set_option maxHeartbeats 2000000 in
theorem ratSub_n (h : Qn w s no nn nc eo en ec q K) (h' : Qn w t mo mn mc fo fn fc p L) (hK1 : 1 ≤ K) (hL1 : 1 ≤ L) (hK : K + L + 1 ≤ 1073741824) :
    Calls Tryz.prog 53 #[.agg #[.bool s, .slice no nn nc, .slice eo en ec], .agg #[.bool t, .slice mo mn mc, .slice fo fn fc]] w (Gqn w (K + L + 1) (q - p)) := by
  obtain ⟨w0, hw0, bx, by_, rs, b0⟩ := box3 w (.bool s) (.slice no nn nc) (.slice eo en ec) (.bool (!t)) (.slice mo mn mc) (.slice fo fn fc)
  have h0 := h.later b0
  have h0' := (h'.later b0).flip
  have HB : Hid _ := h0.add_bd h0' (by omega)
  replace h0 := h0.mono (K' := K + L) (by omega)
  replace h0' := h0'.mono (K' := K + L) (by omega)
  clear h h'
  obtain ⟨g, hg⟩ : ∃ g, g = w.heap.size := ⟨_, rfl⟩
  have HG : Hid (w.heap.size = g) := hg.symm
  rw [← hg] at bx by_ rs
  obtain ⟨c0, c1, c2⟩ := bx.cells
  obtain ⟨d0, d1, d2⟩ := by_.cells
  go_enter Tryz.func53, Tryz.ntmps53
  go_wp2_with fail
  rw [← hw0, ← hg]
  have hsz : w0.heap.size = g + 1 + 1 + 1 := by rw [hw0, hg]; simp
  have vl := VL.two h0 h0'
  rw [hsz] at vl
  have bl : Below w0.heap.size w0 (w0.alloc (.cells #[.bool s, .slice no nn nc, .slice eo en ec, .bool !t, .slice mo mn mc, .slice fo fn fc] 24)) := (Below.refl _ _).alloc (Nat.le_refl _) _
  have rs1 := rs.later bl
  have bb1 := b0.trans (bl.mono b0.size)
  clear hw0 hg hsz bl rs b0 c0 c1 c2 d0 d1 d2 bx by_ h0 h0'
  generalize w0.alloc (.cells #[.bool s, .slice no nn nc, .slice eo en ec, .bool !t, .slice mo mn mc, .slice fo fn fc] 24) = w1 at *
  refine (ratSum_n vl (by omega) (by simp only [List.length_cons, List.length_nil]; omega)).mono ?_
  rintro e w2 ⟨s1, no1, nn1, nc1, eo1, en1, ec1, rfl, cq, t1, t2, b2⟩
  rw [qsum2] at cq
  replace cq := cq.tight HB.out.1 HB.out.2
  rw [← Rat.sub_eq_add_neg] at cq
  have rs2 := rs1.later b2
  obtain ⟨r0, r1, r2⟩ := rs2.cells
  have f0 := rs2.free 0
  have f1 := rs2.free 1
  have f2 := rs2.free 2
  go_wp2
  exact retn_store rfl rfl rfl rs2 (by rw [HG.out]; omega) cq (t1.mono bb1.size) (t2.mono bb1.size) (bb1.trans (b2.mono bb1.size))
theorem ratSub_k (h : Qn w s no nn nc eo en ec q K) (h' : Qn w t mo mn mc fo fn fc p L) (hK1 : 1 ≤ K) (hL1 : 1 ≤ L) (hK : K + L + 1 ≤ 1073741824) :
    Calls Tryz.prog 53 #[.agg #[.bool s, .slice no nn nc, .slice eo en ec], .agg #[.bool t, .slice mo mn mc, .slice fo fn fc]] w (Gq w (K + L + 1) (q - p)) := (ratSub_n h h' hK1 hL1 hK).mono fun _ _ h => h.q

/-- The two naturals of a Rat in a block are exchanged. -/
theorem Rb.swap {w : World} {g : Nat} {a b c : Value} (h : Rb w g a b c) (x y : Value) : Rb ((w.setCell ⟨g, 1, none⟩ x).setCell ⟨g, 2, none⟩ y) g a x y := ⟨by
  have a1 := heap_setCell_same w g 1 _ _ x h.at_
  rw [heap_setCell_same _ g 2 _ _ _ a1]; rfl⟩

set_option maxHeartbeats 2000000 in
theorem ratDiv_n (h : Qn w s no nn nc eo en ec q K) (h' : Qn w t mo mn mc fo fn fc p L) (hK1 : 1 ≤ K) (hL1 : 1 ≤ L) (hK : K + L + 1 ≤ 1073741824) :
    Calls Tryz.prog 36 #[.agg #[.bool s, .slice no nn nc, .slice eo en ec], .agg #[.bool t, .slice mo mn mc, .slice fo fn fc]] w (Gqbn w (K + L) (q / p) (decide (p ≠ 0))) := by
  obtain ⟨w0, hw0, bx, by_, rs, b0⟩ := box3 w (.bool s) (.slice no nn nc) (.slice eo en ec) (.bool t) (.slice mo mn mc) (.slice fo fn fc)
  have h0 := h.later b0
  have h0' := h'.later b0
  clear h h'
  obtain ⟨g, hg⟩ : ∃ g, g = w.heap.size := ⟨_, rfl⟩
  have HG : Hid (w.heap.size = g) := hg.symm
  rw [← hg] at bx by_ rs
  obtain ⟨c0, c1, c2⟩ := bx.cells
  obtain ⟨d0, d1, d2⟩ := by_.cells
  go_enter Tryz.func36, Tryz.ntmps36
  go_wp2_with fail
  rw [← hw0, ← hg]
  clear hw0 hg
  refine (ratSign_k h0' (by omega)).mono ?_
  rintro e w1 ⟨rfl, b1⟩
  replace h0 := h0.later b1
  replace h0' := h0'.later b1
  replace bx := bx.later b1
  replace by_ := by_.later b1
  replace rs := rs.later b1
  have bb1 := b0.trans (b1.mono b0.size)
  clear c0 c1 c2 d0 d1 d2 b0 b1
  obtain ⟨c0, c1, c2⟩ := bx.cells
  obtain ⟨d0, d1, d2⟩ := by_.cells
  by_cases hp0 : p = 0
  · have HZ : Hid (q / p = 0) := by show q / p = 0; rw [hp0, Rat.div_def, Rat.inv_zero, Rat.mul_zero]
    have HD : Hid (decide (p ≠ 0) = false) := by show decide (p ≠ 0) = false; simp [hp0]
    rw [qsgn_zero.2 hp0]
    clear hp0
    go_wp2_with fail
    refine (rzero_n w1).mono ?_
    rintro e w2 ⟨s1, no1, nn1, nc1, eo1, en1, ec1, rfl, cq, t1, t2, lb⟩
    have rs1 := rs.later lb
    obtain ⟨r0, r1, r2⟩ := rs1.cells
    have f0 := rs1.free 0
    have f1 := rs1.free 1
    have f2 := rs1.free 2
    go_wp2
    rw [HZ.out, HD.out]
    exact retn_store2 rfl rfl rfl rfl rs1 (by rw [HG.out]; omega) (cq.mono (by omega)) (t1.mono bb1.size) (t2.mono bb1.size) (bb1.trans (lb.mono bb1.size))
  · have hqb : (qsgn p == 0) = false := by rw [beq_eq_false_iff_ne]; exact fun e => hp0 (qsgn_zero.1 e)
    have HZ : Hid (q / p = q * p⁻¹) := Rat.div_def q p
    have HD : Hid (decide (p ≠ 0) = true) := by show decide (p ≠ 0) = true; simp [hp0]
    have HB : Hid _ := h0.mul_bd h0'.inv (by omega)
    generalize qsgn p = z at hqb ⊢
    clear hp0
    have y1 := by_.free 1
    have y2 := by_.free 2
    have fr : Fr (g + 1) w1 ((w1.setCell ⟨g + 1, 1, none⟩ (.slice fo fn fc)).setCell ⟨g + 1, 2, none⟩ (.slice mo mn mc)) := ((Fr.refl _ _).set 1 _).set 2 _
    have by2 := by_.swap (.slice fo fn fc) (.slice mo mn mc)
    have bx2 := bx.keep (fr.block g (by omega))
    have rs2 := rs.keep (fr.block (g + 2) (by omega))
    have h2 := (h0.store by_ fr).mono (K' := K + L) (by omega)
    have h2' := ((h0'.store by_ fr).inv).mono (K' := K + L) (by omega)
    have bb2 := bb1.trans (fr.below (by rw [HG.out]; omega))
    obtain ⟨x0, x1, x2⟩ := bx2.cells
    obtain ⟨z0, z1, z2⟩ := by2.cells
    clear h0 h0' bx by_ rs bb1 fr
    go_wp2_with fail
    have vl := VL.two h2 h2'
    generalize hu : (w1.setCell ⟨g + 1, 1, none⟩ (.slice fo fn fc)).setCell ⟨g + 1, 2, none⟩ (.slice mo mn mc) = u at *
    have hsz : u.heap.size = w1.heap.size := by rw [← hu]; simp [World.setCell]
    rw [hsz] at vl
    have bl : Below u.heap.size u (u.alloc (.cells #[.bool s, .slice no nn nc, .slice eo en ec, .bool t, .slice fo fn fc, .slice mo mn mc] 24)) := (Below.refl _ _).alloc (Nat.le_refl _) _
    have rs3 := rs2.later bl
    have bb3 := bb2.trans (bl.mono bb2.size)
    clear hu hsz bl rs2 bb2 c0 c1 c2 d0 d1 d2 x0 x1 x2 z0 z1 z2 bx2 by2 h2 h2' y1 y2 hqb
    generalize u.alloc (.cells #[.bool s, .slice no nn nc, .slice eo en ec, .bool t, .slice fo fn fc, .slice mo mn mc] 24) = w3 at *
    refine (ratProduct_n vl (by omega) (by simp only [List.length_cons, List.length_nil]; omega)).mono ?_
    rintro e w4 ⟨s1, no1, nn1, nc1, eo1, en1, ec1, rfl, cq, t1, t2, b4⟩
    rw [qprod2] at cq
    replace cq := cq.tight HB.out.1 HB.out.2
    rw [← HZ.out] at cq
    have rs4 := rs3.later b4
    obtain ⟨r0, r1, r2⟩ := rs4.cells
    have f0 := rs4.free 0
    have f1 := rs4.free 1
    have f2 := rs4.free 2
    go_wp2
    rw [HD.out]
    exact retn_store2 rfl rfl rfl rfl rs4 (by rw [HG.out]; omega) cq (t1.mono bb3.size) (t2.mono bb3.size) (bb3.trans (b4.mono bb3.size))
theorem ratDiv_k (h : Qn w s no nn nc eo en ec q K) (h' : Qn w t mo mn mc fo fn fc p L) (hK1 : 1 ≤ K) (hL1 : 1 ≤ L) (hK : K + L + 1 ≤ 1073741824) :
    Calls Tryz.prog 36 #[.agg #[.bool s, .slice no nn nc, .slice eo en ec], .agg #[.bool t, .slice mo mn mc, .slice fo fn fc]] w (Gqb w (K + L) (q / p) (decide (p ≠ 0))) := (ratDiv_n h h' hK1 hL1 hK).mono fun _ _ h => h.q
end
end Go.Proofs.YtbobhhnhlgdkiaaGreat

/- rat: Cmp, Same. -/
namespace Go.Proofs.YtbobhhnhlgdkiaaGreat
open Go.RowKit M Kahn
set_option maxRecDepth 100000

/-- How two whole numbers stand. -/
def cmpS (a b : Int) : Int := if a < b then -1 else if b < a then 1 else 0
set_option maxHeartbeats 400000 in
theorem isNaN_any (w : World) (a : Int) : Calls Tryz.prog 72 #[.int .i64 a] w fun e w' => e = .returned (.bool false) ∧ w = w' := by
  go_enter Tryz.func72, Tryz.ntmps72
  go_wp2
  go_ret
  exact ⟨rfl, rfl⟩
set_option maxHeartbeats 400000 in
theorem compare_any (w : World) (a b : Int) : Calls Tryz.prog 44 #[.int .i64 a, .int .i64 b] w fun e w' => e = .returned (.int .i64 (cmpS a b)) ∧ w = w' := by
  rcases Int.lt_trichotomy a b with h | h | h
  · have hc : cmpS a b = -1 := by unfold cmpS; rw [if_pos h]
    rw [hc]
    clear hc
    go_enter Tryz.func44, Tryz.ntmps44
    go_wp2_with (go_at_call 72; refine (isNaN_any _ _).mono ?_; rintro e w' ⟨rfl, rfl⟩)
    go_ret
    exact ⟨rfl, rfl⟩
  · subst h
    have hc : cmpS a a = 0 := by unfold cmpS; rw [if_neg (by omega), if_neg (by omega)]
    rw [hc]
    clear hc
    go_enter Tryz.func44, Tryz.ntmps44
    go_wp2_with (go_at_call 72; refine (isNaN_any _ _).mono ?_; rintro e w' ⟨rfl, rfl⟩)
    go_ret
    exact ⟨rfl, rfl⟩
  · have hc : cmpS a b = 1 := by unfold cmpS; rw [if_neg (by omega), if_pos h]
    rw [hc]
    clear hc
    go_enter Tryz.func44, Tryz.ntmps44
    go_wp2_with (go_at_call 72; refine (isNaN_any _ _).mono ?_; rintro e w' ⟨rfl, rfl⟩)
    go_ret
    exact ⟨rfl, rfl⟩

theorem qsgn_apart {q p : Rat} (h : qsgn q = 0 ∨ qsgn q ≠ qsgn p) : qsgn (q - p) = cmpS (qsgn q) (qsgn p) := by
  unfold cmpS
  rcases qsgn_cases q with ⟨a1, a2⟩ | ⟨a1, a2⟩ | ⟨a1, a2⟩ <;> rcases qsgn_cases p with ⟨b1, b2⟩ | ⟨b1, b2⟩ | ⟨b1, b2⟩ <;> rcases qsgn_cases (q - p) with ⟨c1, c2⟩ | ⟨c1, c2⟩ | ⟨c1, c2⟩ <;> rw [a1, b1] at h ⊢ <;> rw [c1] <;> first | decide | (exfalso; simp at h; done) | (exfalso; grind)
theorem qsgn_close {s t : Bool} {X Y U V : Nat} {q p : Rat} (hq : rq s X Y = q) (hp : rq t U V = p) (h0 : qsgn q ≠ 0) (h : qsgn q = qsgn p) : qsgn (q - p) = qsgn q * cmpN (X * V) (U * Y) := by
  have e1 := qsgn_rq (s := s) (n := X) (d := Y)
  have e2 := qsgn_rq (s := t) (n := U) (d := V)
  rw [hq] at e1
  rw [hp] at e2
  have n1 : ¬ (X = 0 ∨ Y = 0) := fun hh => h0 (by rw [e1, if_pos hh])
  have n2 : ¬ (U = 0 ∨ V = 0) := fun hh => h0 (by rw [h, e2, if_pos hh])
  rw [if_neg n1] at e1
  rw [if_neg n2] at e2
  have hst : s = t := by
    rw [e1, e2] at h
    cases s <;> cases t <;> simp at h ⊢
  subst hst
  have hY : Y ≠ 0 := fun e => n1 (.inr e)
  have hV : V ≠ 0 := fun e => n2 (.inr e)
  have hs := rq_add_any (s := s) (t := !s) (X := X) (U := U) hY hV (psg_pab s (!s) (X * V) (U * Y))
  rw [rq_not, hq, hp, ← Rat.sub_eq_add_neg] at hs
  have e3 := qsgn_rq (s := psg s (!s) (X * V) (U * Y)) (n := pab s (!s) (X * V) (U * Y)) (d := Y * V)
  rw [hs] at e3
  rw [e3, e1]
  have hYV : Y * V ≠ 0 := Nat.mul_ne_zero hY hV
  have hss : ¬ s = !s := by cases s <;> simp
  unfold psg pab
  rw [if_neg hss, if_neg hss]
  generalize X * V = A
  generalize U * Y = B
  rcases Nat.lt_trichotomy A B with hl | hl | hl
  · rw [cmpN_lt hl, if_neg (show ¬ B ≤ A from by omega), if_neg (show ¬ B ≤ A from by omega), if_neg (by omega)]
    cases s <;> rfl
  · subst hl
    rw [cmpN_eq rfl, if_pos (.inl (by rw [if_pos (Nat.le_refl _)]; omega)), Int.mul_zero]
  · rw [cmpN_gt hl, if_pos (show B ≤ A from by omega), if_pos (show B ≤ A from by omega), if_neg (by omega), Int.mul_one]
theorem cmpN_range (a b : Nat) : -1 ≤ cmpN a b ∧ cmpN a b ≤ 1 := by unfold cmpN; split <;> (try split) <;> omega
theorem qsgn_range (q : Rat) : -1 ≤ qsgn q ∧ qsgn q ≤ 1 := by unfold qsgn; split <;> (try split) <;> omega

theorem i64_small {x : Int} (h1 : -1 ≤ x) (h2 : x ≤ 1) : IntKind.i64.wrap x = x := by rcases (show x = -1 ∨ x = 0 ∨ x = 1 from by omega) with rfl | rfl | rfl <;> rfl

section
variable {w : World} {s : Bool} {no : Option Addr} {nn nc : Nat} {eo : Option Addr} {en ec : Nat} {t : Bool} {mo : Option Addr} {mn mc : Nat} {fo : Option Addr} {fn fc : Nat} {K L : Nat} {q p : Rat}
set_option maxRecDepth 100000 in
set_option maxHeartbeats 4000000 in
theorem ratCmp_k (h : Qn w s no nn nc eo en ec q K) (h' : Qn w t mo mn mc fo fn fc p L) (hK1 : 1 ≤ K) (hL1 : 1 ≤ L) (hK : K + L + 1 ≤ 4294967296) :
    Calls Tryz.prog 14 #[.agg #[.bool s, .slice no nn nc, .slice eo en ec], .agg #[.bool t, .slice mo mn mc, .slice fo fn fc]] w (Gs3 w (q - p)) := by
  obtain ⟨w0, hw0, bx, by_, b0⟩ := box2 w (.bool s) (.slice no nn nc) (.slice eo en ec) (.bool t) (.slice mo mn mc) (.slice fo fn fc)
  have h0 := h.later b0
  have h0' := h'.later b0
  clear h h'
  obtain ⟨g, hg⟩ : ∃ g, g = w.heap.size := ⟨_, rfl⟩
  rw [← hg] at bx by_
  go_enter Tryz.func14, Tryz.ntmps14
  go_wp2
  rw [← hw0, ← hg]
  clear hw0 hg
  have hread := fun u (hu : Below w0.heap.size w0 u) => And.intro (bx.later hu).cells (by_.later hu).cells
  have HLst : Lst [VV (.agg #[.bool s, .slice no nn nc, .slice eo en ec]), VV (.int .i64 (qsgn q)), VV (.agg #[.bool t, .slice mo mn mc, .slice fo fn fc]), VV (.int .i64 (qsgn p)), VV (.int .i64 (qsgn q))] := ⟨VV.lasts _, VV.lasts _, VV.lasts _, VV.lasts _, VV.lasts _, trivial⟩
  refine wp_region_kahn 5 34 [([], [2]), ([(0, 7)], []), ([], [3]), ([(2, 9)], []), ([(1, 8)], [])]
    (fun u => Below w0.heap.size w0 u) (fun u u' => Below u.heap.size u u')
    (Sp [VV (.agg #[.bool s, .slice no nn nc, .slice eo en ec]), VV (.int .i64 (qsgn q)), VV (.agg #[.bool t, .slice mo mn mc, .slice fo fn fc]), VV (.int .i64 (qsgn p)), VV (.int .i64 (qsgn q))])
    (by kernel_rfl) rfl (by kernel_rfl) (Below.refl _ _).drew (fun k v u u' _ hg hs => Sp.lasts HLst k v u u' hg hs) ?_ ?_
  · refine ⟨.inl ⟨by simp, fun ρ u hC hc hf hd ho => ?_⟩, .inl ⟨by simp, fun ρ u hC hc hf hd ho => ?_⟩, .inl ⟨by simp, fun ρ u hC hc hf hd ho => ?_⟩, .inl ⟨by simp, fun ρ u hC hc hf hd ho => ?_⟩, .inl ⟨by simp, fun ρ u hC hc hf hd ho => ?_⟩, trivial⟩
    · have e2 : ρ (.tmp 2) = .pointer (some ⟨g, 0, none⟩) := ho 2 (by simp)
      obtain ⟨⟨c0, c1, c2⟩, d0, d1, d2⟩ := hread u hC
      refine Goes.pure (.agg #[.bool s, .slice no nn nc, .slice eo en ec]) ?_ ⟨hC, Below.refl _ _, rfl⟩
      unfold Goes
      go_simp
    · have e7 : ρ (.tmp 7) = .agg #[.bool s, .slice no nn nc, .slice eo en ec] := hd (0, 7) (by simp)
      refine Goes.call 37 #[.agg #[.bool s, .slice no nn nc, .slice eo en ec]] (by go_simp) ?_
      refine Calls.mono (ratSign_k (h0.later hC) (by omega)) ?_
      rintro e u' ⟨rfl, lb⟩
      exact ⟨_, rfl, hC.trans (lb.mono hC.size), lb, rfl⟩
    · have e3 : ρ (.tmp 3) = .pointer (some ⟨g + 1, 0, none⟩) := ho 3 (by simp)
      obtain ⟨⟨c0, c1, c2⟩, d0, d1, d2⟩ := hread u hC
      refine Goes.pure (.agg #[.bool t, .slice mo mn mc, .slice fo fn fc]) ?_ ⟨hC, Below.refl _ _, rfl⟩
      unfold Goes
      go_simp
    · have e9 : ρ (.tmp 9) = .agg #[.bool t, .slice mo mn mc, .slice fo fn fc] := hd (2, 9) (by simp)
      refine Goes.call 37 #[.agg #[.bool t, .slice mo mn mc, .slice fo fn fc]] (by go_simp) ?_
      refine Calls.mono (ratSign_k (h0'.later hC) (by omega)) ?_
      rintro e u' ⟨rfl, lb⟩
      exact ⟨_, rfl, hC.trans (lb.mono hC.size), lb, rfl⟩
    · have e8 : ρ (.tmp 8) = .int .i64 (qsgn q) := hd (1, 8) (by simp)
      refine Goes.pure (.int .i64 (qsgn q)) ?_ ⟨hC, Below.refl _ _, rfl⟩
      unfold Goes
      go_simp
  · intro vs u hC hv
    have e5 : vs 4 = .int .i64 (qsgn q) := hv 4 (by omega)
    have e8 : vs 1 = .int .i64 (qsgn q) := hv 1 (by omega)
    have e10 : vs 3 = .int .i64 (qsgn p) := hv 3 (by omega)
    simp only [puts, List.take, List.drop, Act.put, List.setIfInBounds_toArray, List.set_cons_succ, List.set_cons_zero, Nat.reduceAdd, e5, e8, e10]
    replace h0 := h0.later hC
    replace h0' := h0'.later hC
    replace bx := bx.later hC
    replace by_ := by_.later hC
    have bb := b0.trans (hC.mono b0.size)
    clear hv hread hC b0 e5 e8 e10
    generalize u = w1 at *
    by_cases hz : qsgn q = 0 ∨ qsgn q ≠ qsgn p
    · have HR : Hid (qsgn (q - p) = cmpS (qsgn q) (qsgn p)) := qsgn_apart hz
      generalize qsgn q = z at *
      generalize qsgn p = z2 at *
      have HC : Hid (Calls Tryz.prog 44 #[.int .i64 z, .int .i64 z2] w1 fun e w' => e = .returned (.int .i64 (cmpS z z2)) ∧ w1 = w') := compare_any w1 z z2
      generalize cmpS z z2 = c at *
      by_cases hz0 : z = 0
      · have hzb : (z == 0) = true := by simp [hz0]
        clear hz hz0
        go_wp2_with fail
        refine HC.out.mono ?_
        rintro e w2 ⟨rfl, rfl⟩
        go_wp2
        go_ret
        exact ⟨ret1 HR.out.symm, bb⟩
      · have hzb : (z == 0) = false := by simp [hz0]
        have hzn : (z != z2) = true := by rcases hz with h | h; exact absurd h hz0; simp [h]
        clear hz hz0
        go_wp2_with fail
        refine HC.out.mono ?_
        rintro e w2 ⟨rfl, rfl⟩
        go_wp2
        go_ret
        exact ⟨ret1 HR.out.symm, bb⟩
    · have hz0 : qsgn q ≠ 0 := fun e => hz (.inl e)
      have hze : qsgn q = qsgn p := by by_cases h : qsgn q = qsgn p; exact h; exact absurd (.inr h) hz
      obtain ⟨xs, ys, sx, sy, hq⟩ := h0.there
      obtain ⟨us, vs, su, sv, hp⟩ := h0'.there
      have l1 := h0.ln
      have l2 := h0.ld
      have l3 := h0'.ln
      have l4 := h0'.ld
      have HR : Hid _ := qsgn_close hq hp hz0 hze
      have hzr := qsgn_range q
      clear h0 h0' hq hp hz
      rw [← hze]
      obtain ⟨X, hX⟩ : ∃ X, val xs = X := ⟨_, rfl⟩
      obtain ⟨Y, hY⟩ : ∃ Y, val ys = Y := ⟨_, rfl⟩
      obtain ⟨U, hU⟩ : ∃ U, val us = U := ⟨_, rfl⟩
      obtain ⟨V, hV⟩ : ∃ V, val vs = V := ⟨_, rfl⟩
      rw [hX, hY, hU, hV] at HR
      have HX : Hid _ := hX
      have HY : Hid _ := hY
      have HU : Hid _ := hU
      have HV : Hid _ := hV
      clear hX hY hU hV hze
      generalize qsgn q = z at *
      have hzb : (z == 0) = false := by simp [hz0]
      have hzn : (z != z) = false := by simp
      have hcr := cmpN_range (X * V) (U * Y)
      have hz1 : z = 1 ∨ z = -1 := by omega
      have hm1 : -1 ≤ z * cmpN (X * V) (U * Y) := by rcases hz1 with rfl | rfl <;> omega
      have hm2 : z * cmpN (X * V) (U * Y) ≤ 1 := by rcases hz1 with rfl | rfl <;> omega
      clear hz0 hz1
      go_wp2
      have hread := fun u (hu : Below w1.heap.size w1 u) => And.intro (bx.later hu).cells (by_.later hu).cells
      have HLst : Lst [VV (.int .i64 z), VV (.pointer (some ⟨g, 1, none⟩)), VV (.slice no nn nc), VV (.pointer (some ⟨g + 1, 2, none⟩)), VV (.slice fo fn fc), VN (X * V) (K + L), VV (.pointer (some ⟨g + 1, 1, none⟩)), VV (.slice mo mn mc), VV (.pointer (some ⟨g, 2, none⟩)), VV (.slice eo en ec), VN (U * Y) (K + L), VV (.int .i64 (cmpN (X * V) (U * Y))), VV (.int .i64 (z * cmpN (X * V) (U * Y)))] := ⟨VV.lasts _, VV.lasts _, VV.lasts _, VV.lasts _, VV.lasts _, VN.lasts _ _, VV.lasts _, VV.lasts _, VV.lasts _, VV.lasts _, VN.lasts _ _, VV.lasts _, VV.lasts _, trivial⟩
      refine wp_region_kahn 13 34 [([], [5]), ([], [2]), ([(1, 22)], []), ([], [3]), ([(3, 24)], []), ([(2, 23), (4, 25)], []), ([], [3]), ([(6, 27)], []), ([], [2]), ([(8, 29)], []), ([(7, 28), (9, 30)], []), ([(5, 26), (10, 31)], []), ([(0, 21), (11, 32)], [])]
        (fun u => Below w1.heap.size w1 u) (fun u u' => Below u.heap.size u u')
        (Sp [VV (.int .i64 z), VV (.pointer (some ⟨g, 1, none⟩)), VV (.slice no nn nc), VV (.pointer (some ⟨g + 1, 2, none⟩)), VV (.slice fo fn fc), VN (X * V) (K + L), VV (.pointer (some ⟨g + 1, 1, none⟩)), VV (.slice mo mn mc), VV (.pointer (some ⟨g, 2, none⟩)), VV (.slice eo en ec), VN (U * Y) (K + L), VV (.int .i64 (cmpN (X * V) (U * Y))), VV (.int .i64 (z * cmpN (X * V) (U * Y)))])
        (by kernel_rfl) rfl (by kernel_rfl) (Below.refl _ _).drew (fun k v u u' _ hg hs => Sp.lasts HLst k v u u' hg hs) ?_ ?_
      · refine ⟨.inl ⟨by simp, fun ρ u hC hc hf hd ho => ?_⟩, .inl ⟨by simp, fun ρ u hC hc hf hd ho => ?_⟩, .inl ⟨by simp, fun ρ u hC hc hf hd ho => ?_⟩, .inl ⟨by simp, fun ρ u hC hc hf hd ho => ?_⟩, .inl ⟨by simp, fun ρ u hC hc hf hd ho => ?_⟩, .inl ⟨by simp, fun ρ u hC hc hf hd ho => ?_⟩, .inl ⟨by simp, fun ρ u hC hc hf hd ho => ?_⟩, .inl ⟨by simp, fun ρ u hC hc hf hd ho => ?_⟩, .inl ⟨by simp, fun ρ u hC hc hf hd ho => ?_⟩, .inl ⟨by simp, fun ρ u hC hc hf hd ho => ?_⟩, .inl ⟨by simp, fun ρ u hC hc hf hd ho => ?_⟩, .inl ⟨by simp, fun ρ u hC hc hf hd ho => ?_⟩, .inl ⟨by simp, fun ρ u hC hc hf hd ho => ?_⟩, trivial⟩
        · have e5 : ρ (.tmp 5) = .int .i64 z := ho 5 (by simp)
          refine Goes.pure (.int .i64 z) ?_ ⟨hC, Below.refl _ _, rfl⟩
          unfold Goes
          go_simp
        · have e2 : ρ (.tmp 2) = .pointer (some ⟨g, 0, none⟩) := ho 2 (by simp)
          refine Goes.pure (.pointer (some ⟨g, 1, none⟩)) ?_ ⟨hC, Below.refl _ _, rfl⟩
          unfold Goes
          go_simp
        · have e22 : ρ (.tmp 22) = .pointer (some ⟨g, 1, none⟩) := hd (1, 22) (by simp)
          obtain ⟨⟨c0, c1, c2⟩, d0, d1, d2⟩ := hread u hC
          refine Goes.pure (.slice no nn nc) ?_ ⟨hC, Below.refl _ _, rfl⟩
          unfold Goes
          go_simp
        · have e3 : ρ (.tmp 3) = .pointer (some ⟨g + 1, 0, none⟩) := ho 3 (by simp)
          refine Goes.pure (.pointer (some ⟨g + 1, 2, none⟩)) ?_ ⟨hC, Below.refl _ _, rfl⟩
          unfold Goes
          go_simp
        · have e24 : ρ (.tmp 24) = .pointer (some ⟨g + 1, 2, none⟩) := hd (3, 24) (by simp)
          obtain ⟨⟨c0, c1, c2⟩, d0, d1, d2⟩ := hread u hC
          refine Goes.pure (.slice fo fn fc) ?_ ⟨hC, Below.refl _ _, rfl⟩
          unfold Goes
          go_simp
        · have e23 : ρ (.tmp 23) = .slice no nn nc := hd (2, 23) (by simp)
          have e25 : ρ (.tmp 25) = .slice fo fn fc := hd (4, 25) (by simp)
          refine Goes.call 46 #[.slice no nn nc, .slice fo fn fc] (by go_simp) ?_
          refine Calls.mono (mul_k (sx.later hC) (sv.later hC) K L l1 l4 (by omega) (by omega)) ?_
          rintro e u' ⟨ro, rn, rc, rfl, sr, lr, lb⟩
          exact ⟨_, rfl, hC.trans (lb.mono hC.size), lb, ⟨ro, rn, rc, rfl, by rw [HX.out, HV.out] at sr; exact sr, lr⟩⟩
        · have e3 : ρ (.tmp 3) = .pointer (some ⟨g + 1, 0, none⟩) := ho 3 (by simp)
          refine Goes.pure (.pointer (some ⟨g + 1, 1, none⟩)) ?_ ⟨hC, Below.refl _ _, rfl⟩
          unfold Goes
          go_simp
        · have e27 : ρ (.tmp 27) = .pointer (some ⟨g + 1, 1, none⟩) := hd (6, 27) (by simp)
          obtain ⟨⟨c0, c1, c2⟩, d0, d1, d2⟩ := hread u hC
          refine Goes.pure (.slice mo mn mc) ?_ ⟨hC, Below.refl _ _, rfl⟩
          unfold Goes
          go_simp
        · have e2 : ρ (.tmp 2) = .pointer (some ⟨g, 0, none⟩) := ho 2 (by simp)
          refine Goes.pure (.pointer (some ⟨g, 2, none⟩)) ?_ ⟨hC, Below.refl _ _, rfl⟩
          unfold Goes
          go_simp
        · have e29 : ρ (.tmp 29) = .pointer (some ⟨g, 2, none⟩) := hd (8, 29) (by simp)
          obtain ⟨⟨c0, c1, c2⟩, d0, d1, d2⟩ := hread u hC
          refine Goes.pure (.slice eo en ec) ?_ ⟨hC, Below.refl _ _, rfl⟩
          unfold Goes
          go_simp
        · have e28 : ρ (.tmp 28) = .slice mo mn mc := hd (7, 28) (by simp)
          have e30 : ρ (.tmp 30) = .slice eo en ec := hd (9, 30) (by simp)
          refine Goes.call 46 #[.slice mo mn mc, .slice eo en ec] (by go_simp) ?_
          refine Calls.mono (mul_k (su.later hC) (sy.later hC) L K l3 l2 (by omega) (by omega)) ?_
          rintro e u' ⟨ro, rn, rc, rfl, sr, lr, lb⟩
          exact ⟨_, rfl, hC.trans (lb.mono hC.size), lb, ⟨ro, rn, rc, rfl, by rw [HU.out, HY.out] at sr; exact sr, by omega⟩⟩
        · obtain ⟨o26, n26, c26, e26, k26, j26⟩ : VN (X * V) (K + L) (ρ (.tmp 26)) u := hd (5, 26) (by simp)
          obtain ⟨o31, n31, c31, e31, k31, j31⟩ : VN (U * Y) (K + L) (ρ (.tmp 31)) u := hd (10, 31) (by simp)
          refine Goes.call 45 #[.slice o26 n26 c26, .slice o31 n31 c31] (by go_simp) ?_
          refine Calls.mono (cmp_k k26 k31 (by omega) (by omega)) ?_
          rintro e u' ⟨rfl, lb⟩
          exact ⟨_, rfl, hC.trans (lb.mono hC.size), lb, (by rw [val_toL, val_toL]; rfl)⟩
        · have e21 : ρ (.tmp 21) = .int .i64 z := hd (0, 21) (by simp)
          have e32 : ρ (.tmp 32) = .int .i64 (cmpN (X * V) (U * Y)) := hd (11, 32) (by simp)
          refine Goes.pure (.int .i64 (z * cmpN (X * V) (U * Y))) ?_ ⟨hC, Below.refl _ _, rfl⟩
          unfold Goes
          go_simp
          exact i64_small hm1 hm2
      · intro vs' u hC hv
        have e33 : vs' 12 = .int .i64 (z * cmpN (X * V) (U * Y)) := hv 12 (by omega)
        simp only [puts, List.take, List.drop, Act.put, List.setIfInBounds_toArray, List.set_cons_succ, List.set_cons_zero, Nat.reduceAdd, e33]
        have bb2 := bb.trans (hC.mono bb.size)
        clear hv hread hC
        generalize z * cmpN (X * V) (U * Y) = r at *
        go_wp2
        go_ret
        exact ⟨ret1 HR.out.symm, bb2⟩

end
end Go.Proofs.YtbobhhnhlgdkiaaGreat
