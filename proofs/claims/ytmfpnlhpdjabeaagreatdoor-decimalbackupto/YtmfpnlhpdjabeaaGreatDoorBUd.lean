/- penumbralaw04.DecimalBack: true. -/
import Derived.Test.YtmfpnlhpdjabeaaGreatDoorAn
namespace Go.Proofs.YtmfpnlhpdjabeaaGreatDoor
open Go.RowKit M Kahn

theorem bool_is {r : Bool} {p : Prop} [Decidable p] (h : r = true ↔ p) : r = decide p := by
  by_cases hp : p
  · rw [decide_eq_true hp]; exact h.2 hp
  · rw [decide_eq_false hp]
    cases r
    · rfl
    · exact absurd (h.1 rfl) hp
theorem two_boxes (w : World) (x y z x' y' z' : Value) : ∃ w0, w0 = (w.alloc (.cells #[x, y, z] 25)).alloc (.cells #[x', y', z'] 25) ∧ Rb w0 w.heap.size x y z ∧ Rb w0 (w.heap.size + 1) x' y' z' ∧ Below w.heap.size w w0 := by
  have l1 : Below w.heap.size w (w.alloc (.cells #[x, y, z] 25)) := (Below.refl _ _).alloc (Nat.le_refl _) _
  have r1 : Rb (w.alloc (.cells #[x, y, z] 25)) w.heap.size x y z := ⟨heap_alloc_new _ _⟩
  have z1 : (w.alloc (.cells #[x, y, z] 25)).heap.size = w.heap.size + 1 := by simp
  have l2 : Below (w.alloc (.cells #[x, y, z] 25)).heap.size (w.alloc (.cells #[x, y, z] 25)) ((w.alloc (.cells #[x, y, z] 25)).alloc (.cells #[x', y', z'] 25)) := (Below.refl _ _).alloc (Nat.le_refl _) _
  exact ⟨_, rfl, r1.later l2, by rw [← z1]; exact ⟨heap_alloc_new _ _⟩, l1.trans (l2.mono l1.size)⟩

set_option maxRecDepth 100000 in
set_option maxHeartbeats 8000000 in
theorem back_any (w : World) (s : Bool) (no : Option Addr) (nn nc : Nat) (eo : Option Addr) (en ec : Nat) (sb : Bool) (nob : Option Addr) (nnb ncb : Nat) (eob : Option Addr) (enb ecb : Nat) (K : Nat) (qa qb : Rat) (ha0 : Qn w s no nn nc eo en ec qa K) (hb0 : Qn w sb nob nnb ncb eob enb ecb qb K) :
    Calls Tryz.prog 5 #[.agg #[.bool s, .slice no nn nc, .slice eo en ec], .agg #[.bool sb, .slice nob nnb ncb, .slice eob enb ecb]] w fun e w' => e = .returned (.bool true) ∧ Below w.heap.size w w' := by
  obtain ⟨w0, hw0, bxa, bxb, b0⟩ := two_boxes w (.bool s) (.slice no nn nc) (.slice eo en ec) (.bool sb) (.slice nob nnb ncb) (.slice eob enb ecb)
  have ha := ha0.later b0
  have hb := hb0.later b0
  clear ha0 hb0
  have l1 := ha.ln
  have l2 := ha.ld
  have l3 := hb.ln
  have l4 := hb.ld
  obtain ⟨c0, c1, c2⟩ := bxa.cells
  obtain ⟨d0, d1, d2⟩ := bxb.cells
  go_enter Tryz.func5, Tryz.ntmps5
  by_cases h0 : 100 < nn
  · skip
    have hnnd : decide ((100 : Int) < (nn : Int)) = true := decide_eq_true (by omega)
    rw [hw0] at c0 c1 c2 d0 d1 d2
    go_wp2_with fail
    rw [← hw0]
    refine (fixed4_any w0).mono ?_
    rintro e w1 ⟨rfl, lb⟩
    clear hw0
    go_wp2
    go_ret
    exact ⟨rfl, b0.trans (lb.mono b0.size)⟩
  by_cases h1 : 100 < en
  · skip
    have hnnd : decide ((100 : Int) < (nn : Int)) = false := decide_eq_false (by omega)
    have hend : decide ((100 : Int) < (en : Int)) = true := decide_eq_true (by omega)
    rw [hw0] at c0 c1 c2 d0 d1 d2
    go_wp2_with fail
    rw [← hw0]
    refine (fixed4_any w0).mono ?_
    rintro e w1 ⟨rfl, lb⟩
    clear hw0
    go_wp2
    go_ret
    exact ⟨rfl, b0.trans (lb.mono b0.size)⟩
  by_cases h2 : 100 < nnb
  · skip
    have hnnd : decide ((100 : Int) < (nn : Int)) = false := decide_eq_false (by omega)
    have hend : decide ((100 : Int) < (en : Int)) = false := decide_eq_false (by omega)
    have hnnbd : decide ((100 : Int) < (nnb : Int)) = true := decide_eq_true (by omega)
    rw [hw0] at c0 c1 c2 d0 d1 d2
    go_wp2_with fail
    rw [← hw0]
    refine (fixed4_any w0).mono ?_
    rintro e w1 ⟨rfl, lb⟩
    clear hw0
    go_wp2
    go_ret
    exact ⟨rfl, b0.trans (lb.mono b0.size)⟩
  by_cases h3 : 100 < enb
  · skip
    have hnnd : decide ((100 : Int) < (nn : Int)) = false := decide_eq_false (by omega)
    have hend : decide ((100 : Int) < (en : Int)) = false := decide_eq_false (by omega)
    have hnnbd : decide ((100 : Int) < (nnb : Int)) = false := decide_eq_false (by omega)
    have henbd : decide ((100 : Int) < (enb : Int)) = true := decide_eq_true (by omega)
    rw [hw0] at c0 c1 c2 d0 d1 d2
    go_wp2_with fail
    rw [← hw0]
    refine (fixed4_any w0).mono ?_
    rintro e w1 ⟨rfl, lb⟩
    clear hw0
    go_wp2
    go_ret
    exact ⟨rfl, b0.trans (lb.mono b0.size)⟩
  · skip
    have hnnd : decide ((100 : Int) < (nn : Int)) = false := decide_eq_false (by omega)
    have hend : decide ((100 : Int) < (en : Int)) = false := decide_eq_false (by omega)
    have hnnbd : decide ((100 : Int) < (nnb : Int)) = false := decide_eq_false (by omega)
    have henbd : decide ((100 : Int) < (enb : Int)) = false := decide_eq_false (by omega)
    rw [hw0] at c0 c1 c2 d0 d1 d2
    go_wp2
    rw [← hw0]
    obtain ⟨ga, hga⟩ : ∃ ga, ga = w.heap.size := ⟨_, rfl⟩
    obtain ⟨gb, hgb⟩ : ∃ gb, gb = w.heap.size + 1 := ⟨_, rfl⟩
    rw [← hgb, ← hga]
    rw [← hga] at bxa
    rw [← hgb] at bxb
    clear hw0 hga hgb c0 c1 c2 d0 d1 d2
    obtain ⟨M, hM⟩ : ∃ M, M = K := ⟨_, rfl⟩
    replace ha : Qn w0 s no nn nc eo en ec qa 100 := ⟨ha.there, by omega, by omega⟩
    replace hb : Qn w0 sb nob nnb ncb eob enb ecb qb 100 := ⟨hb.there, by omega, by omega⟩
    clear hM l1 l2 l3 l4
    obtain ⟨K, hK⟩ : ∃ K, K = 100 := ⟨_, rfl⟩
    rw [← hK] at ha hb
    have HLN : Hid (∀ {s : Bool} {no : Option Addr} {nn nc : Nat} {eo : Option Addr} {en ec : Nat} {q : Rat} {u : World}, Qn u s no nn nc eo en ec q K → (prt q).length ≤ 20000) := by
      intro s no nn nc eo en ec q u h
      obtain ⟨xs, ys, hn, hd, hq⟩ := h.there
      have hb1 := num_bd (s := s) (hn.bd h.ln) (hd.bd h.ld) (by omega)
      rw [hq] at hb1
      have := prt_len hb1.1 hb1.2 (by omega)
      omega
    have HPA : Hid ((prt qa).length ≤ 20000) := HLN.out ha
    have HEQ : Hid (((tx (prt qa)).toList == (tx (prt qb)).toList) = decide (qa = qb)) := by
      show _ = _
      rw [tx_beq (prt_byt _) (prt_byt _)]
      congr 1
      exact propext ⟨fun e => prt_inj HPA.out e, fun e => by rw [e]⟩
    clear HLN
    have HLst : Lst [VV (.agg #[.bool s, .slice no nn nc, .slice eo en ec]), VV (.string (tx (prt qa))), VV (.agg #[.bool sb, .slice nob nnb ncb, .slice eob enb ecb]), VV (.string (tx (prt qb)))] := ⟨VV.lasts _, VV.lasts _, VV.lasts _, VV.lasts _, trivial⟩
    refine wp_region_kahn 4 61 [([], [2]), ([(0, 32)], []), ([], [3]), ([(2, 34)], [])]
      (fun u => Below w0.heap.size w0 u) (fun u u' => Below u.heap.size u u')
      (Sp [VV (.agg #[.bool s, .slice no nn nc, .slice eo en ec]), VV (.string (tx (prt qa))), VV (.agg #[.bool sb, .slice nob nnb ncb, .slice eob enb ecb]), VV (.string (tx (prt qb)))])
      (by kernel_rfl) rfl (by kernel_rfl) (Below.refl _ _).drew (fun k v u u' _ hg hs => Sp.lasts HLst k v u u' hg hs) ?_ ?_
    · clear HLst
      refine ⟨.inl ⟨by simp, fun ρ u hC hc hf hd ho => ?_⟩, .inl ⟨by simp, fun ρ u hC hc hf hd ho => ?_⟩, .inl ⟨by simp, fun ρ u hC hc hf hd ho => ?_⟩, .inl ⟨by simp, fun ρ u hC hc hf hd ho => ?_⟩, trivial⟩
      · have e2 : ρ (.tmp 2) = .pointer (some ⟨ga, 0, none⟩) := ho 2 (by simp)
        obtain ⟨c0, c1, c2⟩ := (bxa.later hC).cells
        refine Goes.pure (.agg #[.bool s, .slice no nn nc, .slice eo en ec]) ?_ ⟨hC, Below.refl _ _, rfl⟩
        unfold Goes
        go_simp
      · have e32 : ρ (.tmp 32) = .agg #[.bool s, .slice no nn nc, .slice eo en ec] := hd (0, 32) (by simp)
        refine Goes.call 12 #[.agg #[.bool s, .slice no nn nc, .slice eo en ec]] (by go_simp) ?_
        refine Calls.mono (dprint_k (ha.later hC) (by omega) (by omega)) ?_
        rintro e u' ⟨rfl, lb⟩
        exact ⟨_, rfl, hC.trans (lb.mono hC.size), lb, rfl⟩
      · have e3 : ρ (.tmp 3) = .pointer (some ⟨gb, 0, none⟩) := ho 3 (by simp)
        obtain ⟨c0, c1, c2⟩ := (bxb.later hC).cells
        refine Goes.pure (.agg #[.bool sb, .slice nob nnb ncb, .slice eob enb ecb]) ?_ ⟨hC, Below.refl _ _, rfl⟩
        unfold Goes
        go_simp
      · have e34 : ρ (.tmp 34) = .agg #[.bool sb, .slice nob nnb ncb, .slice eob enb ecb] := hd (2, 34) (by simp)
        refine Goes.call 12 #[.agg #[.bool sb, .slice nob nnb ncb, .slice eob enb ecb]] (by go_simp) ?_
        refine Calls.mono (dprint_k (hb.later hC) (by omega) (by omega)) ?_
        rintro e u' ⟨rfl, lb⟩
        exact ⟨_, rfl, hC.trans (lb.mono hC.size), lb, rfl⟩
    · intro vs u hC hv
      have e33 : vs 1 = .string (tx (prt qa)) := hv 1 (by omega)
      have e35 : vs 3 = .string (tx (prt qb)) := hv 3 (by omega)
      replace ha := ha.later hC
      replace hb := hb.later hC
      replace bxa := bxa.later hC
      replace bxb := bxb.later hC
      replace b0 := b0.trans (hC.mono b0.size)
      clear hv hC
      simp only [puts, List.take, List.drop, Act.put, List.setIfInBounds_toArray, List.set_cons_succ, List.set_cons_zero, Nat.reduceAdd, e33, e35]
      go_wp2_with fail
      have HPR : Hid (prs (prt qa) = (qa, 0)) := prs_prt HPA.out
      have hpc := dparse_k (w := u) (prt_byt qa) (by have := HPA.out; omega)
      rw [HPR.out] at hpc
      refine hpc.mono ?_
      rintro e w2 ⟨sx, nox, nnx, ncx, eox, enx, ecx, rfl, cx, lb⟩
      replace ha := ha.later lb
      replace hb := hb.later lb
      replace bxa := bxa.later lb
      replace bxb := bxb.later lb
      replace b0 := b0.trans (lb.mono b0.size)
      have bxx : Rb (w2.alloc (.cells #[.bool sx, .slice nox nnx ncx, .slice eox enx ecx] 25)) w2.heap.size (.bool sx) (.slice nox nnx ncx) (.slice eox enx ecx) := ⟨heap_alloc_new _ _⟩
      have lc : Below w2.heap.size w2 (w2.alloc (.cells #[.bool sx, .slice nox nnx ncx, .slice eox enx ecx] 25)) := (Below.refl _ _).alloc (Nat.le_refl _) _
      replace ha := ha.later lc
      replace hb := hb.later lc
      replace bxa := bxa.later lc
      replace bxb := bxb.later lc
      replace cx := cx.later lc
      replace b0 := b0.trans (lc.mono b0.size)
      clear lc lb hpc
      go_wp2
      generalize w2.heap.size = gx at *
      generalize w2.alloc (.cells #[.bool sx, .slice nox nnx ncx, .slice eox enx ecx] 25) = w3 at *
      have HLst : Lst [VV (.bool true), VV (.bool true), VV (.int .i64 0), VV (.bool true), VV (.bool true), VV (.bool true), VV (.agg #[.bool sx, .slice nox nnx ncx, .slice eox enx ecx]), VV (.agg #[.bool s, .slice no nn nc, .slice eo en ec]), VC (qa) (K), VV (.bool true), VV (.bool true), VV (.bool true), VV (.string (tx (prt qa))), VV (.string (tx (prt qb))), VV (.bool (decide (qa = qb))), VV (.agg #[.bool s, .slice no nn nc, .slice eo en ec]), VV (.agg #[.bool sb, .slice nob nnb ncb, .slice eob enb ecb]), VB (qa = qb), VV (.bool true), VV (.bool true)] := ⟨VV.lasts _, VV.lasts _, VV.lasts _, VV.lasts _, VV.lasts _, VV.lasts _, VV.lasts _, VV.lasts _, VC.lasts _ _, VV.lasts _, VV.lasts _, VV.lasts _, VV.lasts _, VV.lasts _, VV.lasts _, VV.lasts _, VV.lasts _, VB.lasts _, VV.lasts _, VV.lasts _, trivial⟩
      refine wp_region_kahn 20 61 [([], []), ([(0, 41)], []), ([], [8]), ([(2, 43)], []), ([(1, 42), (3, 44)], []), ([(4, 45)], []), ([], [7]), ([], [2]), ([(7, 48)], []), ([(6, 47), (8, 49)], []), ([(5, 46), (9, 50)], []), ([(10, 51)], []), ([], [5]), ([], [6]), ([(12, 53), (13, 54)], []), ([], [2]), ([], [3]), ([(15, 56), (16, 57)], []), ([(14, 55), (17, 58)], []), ([(11, 52), (18, 59)], [])]
        (fun u => Below w3.heap.size w3 u) (fun u u' => Below u.heap.size u u')
        (Sp [VV (.bool true), VV (.bool true), VV (.int .i64 0), VV (.bool true), VV (.bool true), VV (.bool true), VV (.agg #[.bool sx, .slice nox nnx ncx, .slice eox enx ecx]), VV (.agg #[.bool s, .slice no nn nc, .slice eo en ec]), VC (qa) (K), VV (.bool true), VV (.bool true), VV (.bool true), VV (.string (tx (prt qa))), VV (.string (tx (prt qb))), VV (.bool (decide (qa = qb))), VV (.agg #[.bool s, .slice no nn nc, .slice eo en ec]), VV (.agg #[.bool sb, .slice nob nnb ncb, .slice eob enb ecb]), VB (qa = qb), VV (.bool true), VV (.bool true)])
        (by kernel_rfl) rfl (by kernel_rfl) (Below.refl _ _).drew (fun k v u u' _ hg hs => Sp.lasts HLst k v u u' hg hs) ?_ ?_
      · clear HLst
        refine ⟨.inl ⟨by simp, fun ρ u hC hc hf hd ho => ?_⟩, .inl ⟨by simp, fun ρ u hC hc hf hd ho => ?_⟩, .inl ⟨guard_of rfl fun _ _ h => h, fun ρ u hC hc hf hd ho => ?_⟩, .inl ⟨guard_of rfl fun _ _ h => h, fun ρ u hC hc hf hd ho => ?_⟩, .inl ⟨by simp, fun ρ u hC hc hf hd ho => ?_⟩, .inl ⟨by simp, fun ρ u hC hc hf hd ho => ?_⟩, .inl ⟨guard_of rfl fun _ _ h => h, fun ρ u hC hc hf hd ho => ?_⟩, .inl ⟨guard_of rfl fun _ _ h => h, fun ρ u hC hc hf hd ho => ?_⟩, .inl ⟨guard_of rfl fun _ _ h => h, fun ρ u hC hc hf hd ho => ?_⟩, .inl ⟨guard_of rfl fun _ _ h => h, fun ρ u hC hc hf hd ho => ?_⟩, .inl ⟨by simp, fun ρ u hC hc hf hd ho => ?_⟩, .inl ⟨by simp, fun ρ u hC hc hf hd ho => ?_⟩, .inl ⟨guard_of rfl fun _ _ h => h, fun ρ u hC hc hf hd ho => ?_⟩, .inl ⟨guard_of rfl fun _ _ h => h, fun ρ u hC hc hf hd ho => ?_⟩, .inl ⟨guard_of rfl fun _ _ h => h, fun ρ u hC hc hf hd ho => ?_⟩, .inl ⟨guard_of rfl fun _ _ h => h, fun ρ u hC hc hf hd ho => ?_⟩, .inl ⟨guard_of rfl fun _ _ h => h, fun ρ u hC hc hf hd ho => ?_⟩, .inl ⟨guard_of rfl fun _ _ h => h, fun ρ u hC hc hf hd ho => ?_⟩, .inl ⟨guard_of rfl fun _ _ h => h, fun ρ u hC hc hf hd ho => ?_⟩, .inl ⟨by simp, fun ρ u hC hc hf hd ho => ?_⟩, trivial⟩
        · refine Goes.call 8 #[] (by go_simp) ?_
          refine Calls.mono (fixed4_any u) ?_
          rintro e u' ⟨rfl, lb⟩
          exact ⟨_, rfl, hC.trans (lb.mono hC.size), lb, rfl⟩
        · have e41 : ρ (.tmp 41) = .bool true := hd (0, 41) (by simp)
          refine Goes.pure (.bool true) ?_ ⟨hC, Below.refl _ _, rfl⟩
          unfold Goes
          go_simp
        · have e8 : ρ (.tmp 8) = .int .i64 0 := ho 8 (by simp)
          refine Goes.pure (.int .i64 0) ?_ ⟨hC, Below.refl _ _, rfl⟩
          unfold Goes
          go_simp
        · have e43 : ρ (.tmp 43) = .int .i64 0 := hd (2, 43) (by simp)
          refine Goes.pure (.bool true) ?_ ⟨hC, Below.refl _ _, rfl⟩
          unfold Goes
          go_simp
        · have e42 : ρ (.tmp 42) = .bool true := hd (1, 42) (by simp)
          have e44 : ρ (.tmp 44) = .bool true := hd (3, 44) (by simp)
          refine Goes.pure (.bool true) ?_ ⟨hC, Below.refl _ _, rfl⟩
          unfold Goes
          go_simp
        · have e45 : ρ (.tmp 45) = .bool true := hd (4, 45) (by simp)
          refine Goes.pure (.bool true) ?_ ⟨hC, Below.refl _ _, rfl⟩
          unfold Goes
          go_simp
        · have e7 : ρ (.tmp 7) = .pointer (some ⟨gx, 0, none⟩) := ho 7 (by simp)
          obtain ⟨c0, c1, c2⟩ := (bxx.later hC).cells
          refine Goes.pure (.agg #[.bool sx, .slice nox nnx ncx, .slice eox enx ecx]) ?_ ⟨hC, Below.refl _ _, rfl⟩
          unfold Goes
          go_simp
        · have e2 : ρ (.tmp 2) = .pointer (some ⟨ga, 0, none⟩) := ho 2 (by simp)
          obtain ⟨c0, c1, c2⟩ := (bxa.later hC).cells
          refine Goes.pure (.agg #[.bool s, .slice no nn nc, .slice eo en ec]) ?_ ⟨hC, Below.refl _ _, rfl⟩
          unfold Goes
          go_simp
        · have e48 : ρ (.tmp 48) = .agg #[.bool s, .slice no nn nc, .slice eo en ec] := hd (7, 48) (by simp)
          refine Goes.call 16 #[.agg #[.bool s, .slice no nn nc, .slice eo en ec]] (by go_simp) ?_
          refine Calls.mono (ratRead_k (ha.later hC) (by omega) (by omega)) ?_
          rintro e u' ⟨s1, no1, nn1, nc1, eo1, en1, ec1, rfl, cq, lb⟩
          exact ⟨_, rfl, hC.trans (lb.mono hC.size), lb, ⟨s1, no1, nn1, nc1, eo1, en1, ec1, rfl, cq⟩⟩
        · have e47 : ρ (.tmp 47) = .agg #[.bool sx, .slice nox nnx ncx, .slice eox enx ecx] := hd (6, 47) (by simp)
          obtain ⟨s49, no49, nn49, nc49, eo49, en49, ec49, e49, k49⟩ : VC (qa) (K) (ρ (.tmp 49)) u := hd (8, 49) (by simp)
          refine Goes.call 11 #[.agg #[.bool sx, .slice nox nnx ncx, .slice eox enx ecx], .agg #[.bool s49, .slice no49 nn49 nc49, .slice eo49 en49 ec49]] (by go_simp) ?_
          refine Calls.mono (is3_any u sx nox nnx ncx eox enx ecx s49 no49 nn49 nc49 eo49 en49 ec49 _ _ _ _ (cx.later hC).num (cx.later hC).den k49.num k49.den (by have := (cx.later hC).ln; omega) (by have := (cx.later hC).ld; omega) (by have := k49.ln; omega) (by have := k49.ld; omega)) ?_
          rintro e u' ⟨r, rfl, HR, lb⟩
          exact ⟨_, rfl, hC.trans (lb.mono hC.size), lb, by rw [HR.out.2 (cq_same (cx.later hC) k49 (rfl))]; rfl⟩
        · have e46 : ρ (.tmp 46) = .bool true := hd (5, 46) (by simp)
          have e50 : ρ (.tmp 50) = .bool true := hd (9, 50) (by simp)
          refine Goes.pure (.bool true) ?_ ⟨hC, Below.refl _ _, rfl⟩
          unfold Goes
          go_simp
        · have e51 : ρ (.tmp 51) = .bool true := hd (10, 51) (by simp)
          refine Goes.pure (.bool true) ?_ ⟨hC, Below.refl _ _, rfl⟩
          unfold Goes
          go_simp
        · have e5 : ρ (.tmp 5) = .string (tx (prt qa)) := ho 5 (by simp)
          refine Goes.pure (.string (tx (prt qa))) ?_ ⟨hC, Below.refl _ _, rfl⟩
          unfold Goes
          go_simp
        · have e6 : ρ (.tmp 6) = .string (tx (prt qb)) := ho 6 (by simp)
          refine Goes.pure (.string (tx (prt qb))) ?_ ⟨hC, Below.refl _ _, rfl⟩
          unfold Goes
          go_simp
        · have e53 : ρ (.tmp 53) = .string (tx (prt qa)) := hd (12, 53) (by simp)
          have e54 : ρ (.tmp 54) = .string (tx (prt qb)) := hd (13, 54) (by simp)
          refine Goes.pure (.bool (decide (qa = qb))) ?_ ⟨hC, Below.refl _ _, rfl⟩
          unfold Goes
          go_simp
          exact HEQ.out
        · have e2 : ρ (.tmp 2) = .pointer (some ⟨ga, 0, none⟩) := ho 2 (by simp)
          obtain ⟨c0, c1, c2⟩ := (bxa.later hC).cells
          refine Goes.pure (.agg #[.bool s, .slice no nn nc, .slice eo en ec]) ?_ ⟨hC, Below.refl _ _, rfl⟩
          unfold Goes
          go_simp
        · have e3 : ρ (.tmp 3) = .pointer (some ⟨gb, 0, none⟩) := ho 3 (by simp)
          obtain ⟨c0, c1, c2⟩ := (bxb.later hC).cells
          refine Goes.pure (.agg #[.bool sb, .slice nob nnb ncb, .slice eob enb ecb]) ?_ ⟨hC, Below.refl _ _, rfl⟩
          unfold Goes
          go_simp
        · have e56 : ρ (.tmp 56) = .agg #[.bool s, .slice no nn nc, .slice eo en ec] := hd (15, 56) (by simp)
          have e57 : ρ (.tmp 57) = .agg #[.bool sb, .slice nob nnb ncb, .slice eob enb ecb] := hd (16, 57) (by simp)
          refine Goes.call 17 #[.agg #[.bool s, .slice no nn nc, .slice eo en ec], .agg #[.bool sb, .slice nob nnb ncb, .slice eob enb ecb]] (by go_simp) ?_
          refine Calls.mono (ratSame_k (ha.later hC) (hb.later hC) (by omega) (by omega) (by omega)) ?_
          rintro e u' ⟨r, rfl, HR, lb⟩
          exact ⟨_, rfl, hC.trans (lb.mono hC.size), lb, ⟨r, rfl, HR⟩⟩
        · have e55 : ρ (.tmp 55) = .bool (decide (qa = qb)) := hd (14, 55) (by simp)
          obtain ⟨r58, e58, k58⟩ : VB (qa = qb) (ρ (.tmp 58)) u := hd (17, 58) (by simp)
          obtain rfl := bool_is k58.out
          refine Goes.pure (.bool true) ?_ ⟨hC, Below.refl _ _, rfl⟩
          unfold Goes
          go_simp
        · have e52 : ρ (.tmp 52) = .bool true := hd (11, 52) (by simp)
          have e59 : ρ (.tmp 59) = .bool true := hd (18, 59) (by simp)
          refine Goes.pure (.bool true) ?_ ⟨hC, Below.refl _ _, rfl⟩
          unfold Goes
          go_simp
      · intro vs u hC hv
        have eR : vs 19 = .bool true := hv 19 (by omega)
        clear hv
        simp only [puts, List.take, List.drop, Act.put, List.setIfInBounds_toArray, List.set_cons_succ, List.set_cons_zero, Nat.reduceAdd, eR]
        go_wp2
        go_ret
        exact ⟨rfl, b0.trans (hC.mono b0.size)⟩
end Go.Proofs.YtmfpnlhpdjabeaaGreatDoor
