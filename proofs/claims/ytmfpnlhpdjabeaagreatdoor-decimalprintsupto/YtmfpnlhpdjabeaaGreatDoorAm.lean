/- package decimal: Print. -/
import Derived.Test.YtmfpnlhpdjabeaaGreatDoorAl
import Derived.Test.YtmfpnlhpdjabeaaGreatDoorA9
namespace Go.Proofs.YtmfpnlhpdjabeaaGreatDoor
open Go.RowKit M Kahn

set_option maxRecDepth 100000 in
set_option maxHeartbeats 4000000 in
theorem dprint_k {w : World} {s : Bool} {no : Option Addr} {nn nc : Nat} {eo : Option Addr} {en ec : Nat} {K : Nat} {q : Rat} (h : Qn w s no nn nc eo en ec q K) (hK1 : 1 ≤ K) (hK : K ≤ 1048576) :
    Calls Tryz.prog 12 #[.agg #[.bool s, .slice no nn nc, .slice eo en ec]] w fun e w' => e = .returned (.string (tx (prt q))) ∧ Below w.heap.size w w' := by
  obtain ⟨w0, hw0, bx, b0⟩ := box0 w (.bool s) (.slice no nn nc) (.slice eo en ec)
  have h0 := h.later b0
  clear h
  obtain ⟨g, hg⟩ : ∃ g, g = w.heap.size := ⟨_, rfl⟩
  have HG : Hid (w.heap.size = g) := hg.symm
  rw [← hg] at bx
  obtain ⟨c0, c1, c2⟩ := bx.cells
  go_enter Tryz.func12, Tryz.ntmps12
  go_wp2_with fail
  rw [← hw0, ← hg]
  clear hw0 hg
  refine (ratRead_k h0 hK1 (by omega)).mono ?_
  rintro e w1 ⟨s1, no1, nn1, nc1, eo1, en1, ec1, rfl, cq, b1⟩
  have bx1 := bx.later b1
  clear c0 c1 c2 h0
  obtain ⟨c0, c1, c2⟩ := bx1.cells
  have f0 := bx1.free 0
  have f1 := bx1.free 1
  have f2 := bx1.free 2
  have fr := Rb.putFr g w1 (.bool s1) (.slice no1 nn1 nc1) (.slice eo1 en1 ec1)
  have bq := bx1.put (.bool s1) (.slice no1 nn1 nc1) (.slice eo1 en1 ec1)
  have cq2 := cq.store bx1 fr
  have B1 := (b0.trans (b1.mono b0.size)).trans (fr.below (N := w.heap.size) (by rw [HG.out]; exact Nat.le_refl _))
  have hd1 := dec_bd (A := q.num.natAbs) (K := K) (by have := cq.num.bd cq.ln; rwa [val_toL] at this) hK1
  have hd2 := dec_bd (A := q.den) (K := K) (by have := cq.den.bd cq.ld; rwa [val_toL] at this) hK1
  have hln := cq.ln
  have hld := cq.ld
  have HS : Hid (s1 = decide (q.num < 0)) := cq.sgn
  clear cq b0 b1 bx bx1 fr
  go_wp2_with fail
  clear c0 c1 c2 f0 f1 f2
  generalize ((w1.setCell ⟨g, 0, none⟩ (.bool s1)).setCell ⟨g, 1, none⟩ (.slice no1 nn1 nc1)).setCell ⟨g, 2, none⟩ (.slice eo1 en1 ec1) = w2 at *
  refine (dnatural_k cq2.num (by omega)).mono ?_
  rintro e w3 ⟨rfl, b3⟩
  rw [val_toL]
  have bq5 := bq.later b3
  have cq5 := cq2.later b3
  have B5 := B1.trans (b3.mono B1.size)
  clear bq cq2 B1 b3
  obtain ⟨c0, c1, c2⟩ := bq5.cells
  have hsz := tx_size (dec q.num.natAbs)
  have hen := cq5.ld
  cases s1
  · skip
    have HP : Hid (prt q = [] ++ dec q.num.natAbs ++ (if q.den = 1 then [] else 47 :: dec q.den)) := by
      show prt q = _
      unfold prt
      rw [if_neg (by have := HS.out; simpa using this)]
    have hFl : ([] ++ dec q.num.natAbs).length ≤ 10 * K + 1 := by rw [List.length_append]; simp; omega
    have eA : tx (dec q.num.natAbs) = tx ([] ++ dec q.num.natAbs) := rfl
    have hsA := tx_size ([] ++ dec q.num.natAbs)
    obtain ⟨F, hF⟩ : ∃ F, F = [] ++ dec q.num.natAbs := ⟨_, rfl⟩
    rw [← hF] at HP eA hsA hFl
    obtain ⟨D, hD⟩ : ∃ D, D = dec q.num.natAbs := ⟨_, rfl⟩
    rw [← hD] at hd1 hsz eA ⊢
    clear hF hD HS
    go_wp2
    clear c0 c1 c2
    have HLst : Lst [VV (.pointer (some ⟨g, 2, none⟩)), VV (.slice eo1 en1 ec1), VN (1) (2), VV (.int .i64 (cmpN q.den 1))] := ⟨VV.lasts _, VV.lasts _, VN.lasts _ _, VV.lasts _, trivial⟩
    refine wp_region_kahn 4 25 [([], [1]), ([(0, 13)], []), ([], []), ([(1, 14), (2, 15)], [])]
      (fun u => Below w3.heap.size w3 u) (fun u u' => Below u.heap.size u u')
      (Sp [VV (.pointer (some ⟨g, 2, none⟩)), VV (.slice eo1 en1 ec1), VN (1) (2), VV (.int .i64 (cmpN q.den 1))])
      (by kernel_rfl) rfl (by kernel_rfl) (Below.refl _ _).drew (fun k v u u' _ hg hs => Sp.lasts HLst k v u u' hg hs) ?_ ?_
    · refine ⟨.inl ⟨by simp, fun ρ u hC hc hf hd ho => ?_⟩, .inl ⟨by simp, fun ρ u hC hc hf hd ho => ?_⟩, .inl ⟨by simp, fun ρ u hC hc hf hd ho => ?_⟩, .inl ⟨by simp, fun ρ u hC hc hf hd ho => ?_⟩, trivial⟩
      · have e1 : ρ (.tmp 1) = .pointer (some ⟨g, 0, none⟩) := ho 1 (by simp)
        refine Goes.pure (.pointer (some ⟨g, 2, none⟩)) ?_ ⟨hC, Below.refl _ _, rfl⟩
        unfold Goes
        go_simp
      · have e13 : ρ (.tmp 13) = .pointer (some ⟨g, 2, none⟩) := hd (0, 13) (by simp)
        obtain ⟨c0, c1, c2⟩ := (bq5.later hC).cells
        refine Goes.pure (.slice eo1 en1 ec1) ?_ ⟨hC, Below.refl _ _, rfl⟩
        unfold Goes
        go_simp
      · skip
        refine Goes.call 37 #[.int .u64 1] (by go_simp) ?_
        refine Calls.mono (of_kw u 1 (by omega)) ?_
        rintro e u' ⟨ro, rn, rc, rfl, sr, lr, lb⟩
        exact ⟨_, rfl, hC.trans (lb.mono hC.size), lb, ⟨ro, rn, rc, rfl, sr, lr⟩⟩
      · have e14 : ρ (.tmp 14) = .slice eo1 en1 ec1 := hd (1, 14) (by simp)
        obtain ⟨o15, n15, c15, e15, k15, j15⟩ : VN (1) (2) (ρ (.tmp 15)) u := hd (2, 15) (by simp)
        refine Goes.call 36 #[.slice eo1 en1 ec1, .slice o15 n15 c15] (by go_simp) ?_
        refine Calls.mono (cmp_k (cq5.den.later hC) k15 (by omega) (by omega)) ?_
        rintro e u' ⟨rfl, lb⟩
        exact ⟨_, rfl, hC.trans (lb.mono hC.size), lb, by rw [val_toL, val_toL]; rfl⟩
    · intro vs u hC hv
      have e16 : vs 3 = .int .i64 (cmpN q.den 1) := hv 3 (by omega)
      have bq6 := bq5.later hC
      have cq6 := cq5.later hC
      have B6 := B5.trans (hC.mono B5.size)
      obtain ⟨c0, c1, c2⟩ := bq6.cells
      simp only [puts, List.take, List.drop, Act.put, List.setIfInBounds_toArray, List.set_cons_succ, List.set_cons_zero, Nat.reduceAdd, e16]
      clear hv bq5 cq5 B5 hC
      by_cases hden : q.den = 1
      · have hcm : cmpN q.den 1 = 0 := cmpN_eq hden
        have HP2 : Hid (prt q = F) := by show prt q = _; rw [HP.out, if_pos hden, List.append_nil]
        rw [hcm]
        clear hcm hden HP
        go_wp2
        go_ret
        exact ⟨by rw [HP2.out]; rfl, B6⟩
      · have hcm : cmpN q.den 1 = 1 := cmpN_gt (by have := q.den_pos; omega)
        have HP2 : Hid (prt q = F ++ (47 :: dec q.den)) := by show prt q = _; rw [HP.out, if_neg hden]
        rw [hcm]
        clear hcm hden HP
        go_wp2_with fail
        refine (dnatural_k cq6.den (by omega)).mono ?_
        rintro e w7 ⟨rfl, b7⟩
        rw [val_toL]
        have B7 := B6.trans (b7.mono B6.size)
        have hsE := tx_size (dec q.den)
        have eE : Hid ((⟨#[47]⟩ : ByteArray) ++ tx (dec q.den) = tx (47 :: dec q.den)) := tx_append [47] _
        have hsF : ((⟨#[47]⟩ : ByteArray) ++ tx (dec q.den)).size = (dec q.den).length + 1 := by rw [eE.out, tx_size]; rfl
        have eF : Hid (tx F ++ ((⟨#[47]⟩ : ByteArray) ++ tx (dec q.den)) = tx (F ++ (47 :: dec q.den))) := by
          show tx F ++ ((⟨#[47]⟩ : ByteArray) ++ tx (dec q.den)) = _
          rw [eE.out, tx_append]
        obtain ⟨E, hE⟩ : ∃ E, E = dec q.den := ⟨_, rfl⟩
        rw [← hE] at hd2 HP2 hsE eE hsF eF ⊢
        clear hE
        go_wp2
        go_ret
        exact ⟨by rw [HP2.out, ← eF.out]; rfl, B7⟩
  · skip
    have HP : Hid (prt q = [45] ++ dec q.num.natAbs ++ (if q.den = 1 then [] else 47 :: dec q.den)) := by
      show prt q = _
      unfold prt
      rw [if_pos (by have := HS.out; simpa using this)]
    have hFl : ([45] ++ dec q.num.natAbs).length ≤ 10 * K + 1 := by rw [List.length_append]; simp; omega
    have eA : (⟨#[45]⟩ : ByteArray) ++ tx (dec q.num.natAbs) = tx ([45] ++ dec q.num.natAbs) := tx_append [45] _
    have hsA := tx_size ([45] ++ dec q.num.natAbs)
    obtain ⟨F, hF⟩ : ∃ F, F = [45] ++ dec q.num.natAbs := ⟨_, rfl⟩
    rw [← hF] at HP eA hsA hFl
    obtain ⟨D, hD⟩ : ∃ D, D = dec q.num.natAbs := ⟨_, rfl⟩
    rw [← hD] at hd1 hsz eA ⊢
    clear hF hD HS
    go_wp2
    clear c0 c1 c2
    have HLst : Lst [VV (.pointer (some ⟨g, 2, none⟩)), VV (.slice eo1 en1 ec1), VN (1) (2), VV (.int .i64 (cmpN q.den 1))] := ⟨VV.lasts _, VV.lasts _, VN.lasts _ _, VV.lasts _, trivial⟩
    refine wp_region_kahn 4 25 [([], [1]), ([(0, 13)], []), ([], []), ([(1, 14), (2, 15)], [])]
      (fun u => Below w3.heap.size w3 u) (fun u u' => Below u.heap.size u u')
      (Sp [VV (.pointer (some ⟨g, 2, none⟩)), VV (.slice eo1 en1 ec1), VN (1) (2), VV (.int .i64 (cmpN q.den 1))])
      (by kernel_rfl) rfl (by kernel_rfl) (Below.refl _ _).drew (fun k v u u' _ hg hs => Sp.lasts HLst k v u u' hg hs) ?_ ?_
    · refine ⟨.inl ⟨by simp, fun ρ u hC hc hf hd ho => ?_⟩, .inl ⟨by simp, fun ρ u hC hc hf hd ho => ?_⟩, .inl ⟨by simp, fun ρ u hC hc hf hd ho => ?_⟩, .inl ⟨by simp, fun ρ u hC hc hf hd ho => ?_⟩, trivial⟩
      · have e1 : ρ (.tmp 1) = .pointer (some ⟨g, 0, none⟩) := ho 1 (by simp)
        refine Goes.pure (.pointer (some ⟨g, 2, none⟩)) ?_ ⟨hC, Below.refl _ _, rfl⟩
        unfold Goes
        go_simp
      · have e13 : ρ (.tmp 13) = .pointer (some ⟨g, 2, none⟩) := hd (0, 13) (by simp)
        obtain ⟨c0, c1, c2⟩ := (bq5.later hC).cells
        refine Goes.pure (.slice eo1 en1 ec1) ?_ ⟨hC, Below.refl _ _, rfl⟩
        unfold Goes
        go_simp
      · skip
        refine Goes.call 37 #[.int .u64 1] (by go_simp) ?_
        refine Calls.mono (of_kw u 1 (by omega)) ?_
        rintro e u' ⟨ro, rn, rc, rfl, sr, lr, lb⟩
        exact ⟨_, rfl, hC.trans (lb.mono hC.size), lb, ⟨ro, rn, rc, rfl, sr, lr⟩⟩
      · have e14 : ρ (.tmp 14) = .slice eo1 en1 ec1 := hd (1, 14) (by simp)
        obtain ⟨o15, n15, c15, e15, k15, j15⟩ : VN (1) (2) (ρ (.tmp 15)) u := hd (2, 15) (by simp)
        refine Goes.call 36 #[.slice eo1 en1 ec1, .slice o15 n15 c15] (by go_simp) ?_
        refine Calls.mono (cmp_k (cq5.den.later hC) k15 (by omega) (by omega)) ?_
        rintro e u' ⟨rfl, lb⟩
        exact ⟨_, rfl, hC.trans (lb.mono hC.size), lb, by rw [val_toL, val_toL]; rfl⟩
    · intro vs u hC hv
      have e16 : vs 3 = .int .i64 (cmpN q.den 1) := hv 3 (by omega)
      have bq6 := bq5.later hC
      have cq6 := cq5.later hC
      have B6 := B5.trans (hC.mono B5.size)
      obtain ⟨c0, c1, c2⟩ := bq6.cells
      simp only [puts, List.take, List.drop, Act.put, List.setIfInBounds_toArray, List.set_cons_succ, List.set_cons_zero, Nat.reduceAdd, e16]
      clear hv bq5 cq5 B5 hC
      by_cases hden : q.den = 1
      · have hcm : cmpN q.den 1 = 0 := cmpN_eq hden
        have HP2 : Hid (prt q = F) := by show prt q = _; rw [HP.out, if_pos hden, List.append_nil]
        rw [hcm]
        clear hcm hden HP
        go_wp2
        go_ret
        exact ⟨by rw [HP2.out]; rfl, B6⟩
      · have hcm : cmpN q.den 1 = 1 := cmpN_gt (by have := q.den_pos; omega)
        have HP2 : Hid (prt q = F ++ (47 :: dec q.den)) := by show prt q = _; rw [HP.out, if_neg hden]
        rw [hcm]
        clear hcm hden HP
        go_wp2_with fail
        refine (dnatural_k cq6.den (by omega)).mono ?_
        rintro e w7 ⟨rfl, b7⟩
        rw [val_toL]
        have B7 := B6.trans (b7.mono B6.size)
        have hsE := tx_size (dec q.den)
        have eE : Hid ((⟨#[47]⟩ : ByteArray) ++ tx (dec q.den) = tx (47 :: dec q.den)) := tx_append [47] _
        have hsF : ((⟨#[47]⟩ : ByteArray) ++ tx (dec q.den)).size = (dec q.den).length + 1 := by rw [eE.out, tx_size]; rfl
        have eF : Hid (tx F ++ ((⟨#[47]⟩ : ByteArray) ++ tx (dec q.den)) = tx (F ++ (47 :: dec q.den))) := by
          show tx F ++ ((⟨#[47]⟩ : ByteArray) ++ tx (dec q.den)) = _
          rw [eE.out, tx_append]
        obtain ⟨E, hE⟩ : ∃ E, E = dec q.den := ⟨_, rfl⟩
        rw [← hE] at hd2 HP2 hsE eE hsF eF ⊢
        clear hE
        go_wp2
        go_ret
        exact ⟨by rw [HP2.out, ← eF.out]; rfl, B7⟩
end Go.Proofs.YtmfpnlhpdjabeaaGreatDoor
