/- package decimal: joined. -/
import Derived.Test.YtmfpnlhpdjabeaaGreatDoorAj
import Derived.Test.YtmfpnlhpdjabeaaGreatDoorA9
namespace Go.Proofs.YtmfpnlhpdjabeaaGreatDoor
open Go.RowKit M Kahn

theorem jn_upto (p : Nat) (ns : List Nat) : upto (fun i => toL ((jn p ns).getD i 0)) ((ns.length + 1) / 2) ((ns.length + 1) / 2) = (jn p ns).map toL := by
  rw [upto_full]
  apply List.ext_getElem
  · simp [jn_len]
  · intro i h1 h2
    rw [List.getElem_map, List.getElem_map, List.getElem_range, List.getD_eq_getElem?_getD, List.getElem?_eq_getElem (by simpa using h2)]
    rfl
theorem map_getD (ns : List Nat) (i : Nat) : (ns.map toL).getD i [] = toL (ns.getD i 0) := by
  rw [List.getD_eq_getElem?_getD, List.getD_eq_getElem?_getD, List.getElem?_map]
  by_cases hk : i < ns.length
  · rw [List.getElem?_eq_getElem hk]; rfl
  · rw [List.getElem?_eq_none (by omega)]; rfl
theorem set_upto (f : Nat → List Nat) (m k : Nat) (x : List Nat) : (((upto f m k).set k x).set k (f k)) = upto f m (k + 1) := by
  rw [List.set_set, upto_set f]

set_option maxRecDepth 100000 in
set_option maxHeartbeats 4000000 in
theorem joined_k {w : World} {B0 : Nat} {v : Value} {ns : List Nat} {po : Option Addr} {pn pc p K : Nat} (h : Nr B0 w v (ns.map toL)) (hp : Sl w.heap.size w po pn pc (toL p)) (hl : ns.length ≤ 268435456) (hx : ∀ i, (toL (ns.getD i 0)).length ≤ K) (hpn : pn ≤ K) (hK : K ≤ 68719476736) :
    Calls Tryz.prog 58 #[v, .slice po pn pc] w fun e w' => ∃ v', e = .returned v' ∧ Nr w.heap.size w' v' ((jn p ns).map toL) ∧ Below w.heap.size w w' := by
  obtain ⟨g, cap, rfl, hle, hBg, hcell⟩ := h.inv
  have hgl := (h.lt g rfl).2
  rw [List.length_map] at hle hcell ⊢
  obtain ⟨m, hm⟩ : ∃ m, m = (ns.length + 1) / 2 := ⟨_, rfl⟩
  have HF : Hid (upto (fun i => toL ((jn p ns).getD i 0)) m m = (jn p ns).map toL) := by
    show _ = _
    rw [hm]
    exact jn_upto p ns
  have HX : Hid (∀ i, (toL (ns.getD i 0)).length ≤ K) := hx
  obtain ⟨B, hB⟩ : ∃ B, B = w.heap.size := ⟨_, rfl⟩
  have HB : Hid (w.heap.size = B) := hB.symm
  have hmk := make_runS m m (by omega) (by omega) w
  have N0 := Nr.made w m m (by omega) (by omega)
  have b0 : Below w.heap.size w (w.alloc (.cells (List.replicate m (Value.slice none 0 0)).toArray 23)) := (Below.refl _ _).alloc (Nat.le_refl _) _
  have g0 : B < (w.alloc (.cells (List.replicate m (Value.slice none 0 0)).toArray 23)).heap.size := by rw [hB]; simp
  rw [← upto_zero (fun i => toL ((jn p ns).getD i 0))] at N0
  have HC : Hid (∀ i, i < ns.length → ∃ ao n c, w.cell? ⟨g, i, none⟩ = some (.slice ao n c) ∧ Sl w.heap.size w ao n c (toL (ns.getD i 0))) := fun i hi => by
    have := hcell i hi
    rwa [map_getD] at this
  rw [← hB] at N0 b0 hmk hgl ⊢
  have HGL : Hid (g < B) := hgl
  obtain ⟨len, hlen⟩ : ∃ len, len = ns.length := ⟨_, rfl⟩
  have HLE : Hid (ns.length = len) := hlen.symm
  rw [← hlen] at hm hl hle
  have hq : Int.tdiv ((len : Int) + 1) 2 = (m : Int) := by
    rw [Int.tdiv_eq_ediv_of_nonneg (by omega)]
    omega
  have HM : Hid (m = (len + 1) / 2) := hm
  have hm1 : m ≤ 268435456 := by omega
  rw [← hlen]
  clear hB hm hlen hx hcell h hgl
  generalize w.alloc (.cells (List.replicate m (Value.slice none 0 0)).toArray 23) = w2 at *
  go_enter Tryz.func58, Tryz.ntmps58
  go_wp2
  go_loopw [14] (fun iv wr => ∃ k : Nat, iv = .int .i64 (k : Int) ∧ k ≤ m ∧ Nr B wr (.slice (some ⟨B, 0, none⟩) m m) (upto (fun i => toL ((jn p ns).getD i 0)) m k) ∧ Below B w wr ∧ B < wr.heap.size) (fun iv _ => m - (intOf iv).toNat)
  case atStart => exact ⟨0, rfl, Nat.zero_le _, N0, b0, g0⟩
  case round =>
    clear N0 b0 g0 hmk
    obtain ⟨k, rfl, hk, hN, hBl, hgB⟩ := hrel
    by_cases hlt : k < m
    · have h2k : 2 * k < len := by have := HM.out; omega
      have hbw : Below w.heap.size w wr := by rw [HB.out]; exact hBl
      obtain ⟨ao, n1, cp, hc1, s1⟩ := HC.out (2 * k) (by rw [HLE.out]; exact h2k)
      have hc2 : wr.cell? ⟨g, 2 * k, none⟩ = some (.slice ao n1 cp) := by
        rw [hBl.cell (p := ⟨g, 2 * k, none⟩) HGL.out]
        exact hc1
      replace s1 := s1.later hbw
      have hn1 : n1 ≤ K := by rw [← s1.len]; exact HX.out _
      have hul := upto_len (fun i => toL ((jn p ns).getD i 0)) m k
      have hfz := hN.free k
      obtain ⟨ao4, n4, c4, hc4, _⟩ := hN.cell (i := k) (by rw [hul]; exact hlt)
      have hN4 := hN.set (i := k) (by rw [hul]; exact hlt) s1
      have fr := (Fr.refl B wr).set k (.slice ao n1 cp)
      have hB4 := hBl.trans (fr.below (Nat.le_refl _))
      have hg4 : B < (wr.setCell ⟨B, k, none⟩ (.slice ao n1 cp)).heap.size := by rw [fr.size]; exact hgB
      have hul2 : ((upto (fun i => toL ((jn p ns).getD i 0)) m k).set k (toL (ns.getD (2 * k) 0))).length = m := by rw [List.length_set, hul]
      have s1' : Sl (wr.setCell ⟨B, k, none⟩ (.slice ao n1 cp)).heap.size (wr.setCell ⟨B, k, none⟩ (.slice ao n1 cp)) ao n1 cp (toL (ns.getD (2 * k) 0)) := by
        obtain ⟨vs, hos, _⟩ := hN
        exact s1.storeS hos _
      have hc5 : (wr.setCell ⟨B, k, none⟩ (.slice ao n1 cp)).cell? ⟨B, k, none⟩ = some (.slice ao n1 cp) := by
        obtain ⟨vs, hos, _⟩ := hN
        obtain ⟨g', cap', cur, e1, e2, e3, e4, e5, e6, e7, e8⟩ := hos.row
        simp only [Value.slice.injEq, Option.some.injEq, Addr.mk.injEq] at e1
        obtain ⟨⟨rfl, _⟩, _, rfl⟩ := e1
        rw [cell_of_row _ B k _ _ _ (heap_setCell_same wr B k _ _ _ e3)]
        simp [e6, hlt]
      have HS2 : Hid (((upto (fun i => toL ((jn p ns).getD i 0)) m k).set k (toL (ns.getD (2 * k) 0))).set k (toL ((jn p ns).getD k 0)) = upto (fun i => toL ((jn p ns).getD i 0)) m (k + 1)) := set_upto _ m k _
      have hfin := hN4.free k
      by_cases h21 : 2 * k + 1 < len
      · obtain ⟨bo, n2, bp, hc6, s2⟩ := HC.out (2 * k + 1) (by rw [HLE.out]; exact h21)
        replace s2 := (s2.later hbw)
        have s2' : Sl (wr.setCell ⟨B, k, none⟩ (.slice ao n1 cp)).heap.size (wr.setCell ⟨B, k, none⟩ (.slice ao n1 cp)) bo n2 bp (toL (ns.getD (2 * k + 1) 0)) := by
          obtain ⟨vs, hos, _⟩ := hN
          exact s2.storeS hos _
        have p1 : Sl (wr.setCell ⟨B, k, none⟩ (.slice ao n1 cp)).heap.size (wr.setCell ⟨B, k, none⟩ (.slice ao n1 cp)) po pn pc (toL p) := by
          obtain ⟨vs, hos, _⟩ := hN
          exact (hp.later hbw).storeS hos _
        replace hc6 : (wr.setCell ⟨B, k, none⟩ (.slice ao n1 cp)).cell? ⟨g, 2 * k + 1, none⟩ = some (.slice bo n2 bp) := by
          rw [hB4.cell (p := ⟨g, 2 * k + 1, none⟩) HGL.out]
          exact hc6
        have hn2 : n2 ≤ K := by rw [← s2.len]; exact HX.out _
        have HJ : Hid (ns.getD (2 * k) 0 + p * ns.getD (2 * k + 1) 0 = (jn p ns).getD k 0) := (jn_get p ns k).symm
        obtain ⟨X, hX⟩ : ∃ X, X = ns.getD (2 * k) 0 := ⟨_, rfl⟩
        obtain ⟨Y, hY⟩ : ∃ Y, Y = ns.getD (2 * k + 1) 0 := ⟨_, rfl⟩
        rw [← hX] at s1 s1' hN4 hul2 HS2 HJ
        rw [← hY] at s2 s2' HJ
        clear hX hY
        have hgs : g < (wr.setCell ⟨B, k, none⟩ (.slice ao n1 cp)).heap.size := Nat.lt_trans HGL.out hg4
        have hBs : B < (wr.setCell ⟨B, k, none⟩ (.slice ao n1 cp)).heap.size := hg4
        clear s1 s2 hN hul hfin
        go_wp2
        generalize wr.setCell ⟨B, k, none⟩ (.slice ao n1 cp) = w2 at *
        have s1 := s1'
        have s2 := s2'
        clear hc1 hc2 hc4 hfz s1' s2' hBl hgB fr hbw
        have HLst : Lst [VV (.slice (some ⟨B, 0, none⟩) m m), VV (.int .i64 ((k : Nat) : Int)), VV (.slice (some ⟨B, 0, none⟩) m m), VV (.int .i64 ((k : Nat) : Int)), VV (.pointer (some ⟨B, k, none⟩)), VV (.slice ao n1 cp), VV (.slice po pn pc), VV (.slice (some ⟨g, 0, none⟩) len cap), VV (.int .i64 ((k : Nat) : Int)), VV (.int .i64 (2 * ((k : Nat) : Int))), VV (.int .i64 (2 * ((k : Nat) : Int) + 1)), VV (.pointer (some ⟨g, 2 * k + 1, none⟩)), VV (.slice bo n2 bp), VN (p * Y) (K + K), VN (X + p * Y) (K + K + 1), VV (.pointer (some ⟨B, k, none⟩))] := ⟨VV.lasts _, VV.lasts _, VV.lasts _, VV.lasts _, VV.lasts _, VV.lasts _, VV.lasts _, VV.lasts _, VV.lasts _, VV.lasts _, VV.lasts _, VV.lasts _, VV.lasts _, VN.lasts _ _, VN.lasts _ _, VV.lasts _, trivial⟩
        refine wp_region_kahn 16 49 [([], [5]), ([], [6]), ([], [5]), ([], [6]), ([(2, 33), (3, 34)], []), ([(4, 35)], []), ([], [1]), ([], [0]), ([], [6]), ([(8, 39)], []), ([(9, 40)], []), ([(7, 38), (10, 41)], []), ([(11, 42)], []), ([(6, 37), (12, 43)], []), ([(5, 36), (13, 44)], []), ([(0, 31), (1, 32)], [])]
          (fun u => Below w2.heap.size w2 u) (fun u u' => Below u.heap.size u u')
          (Sp [VV (.slice (some ⟨B, 0, none⟩) m m), VV (.int .i64 ((k : Nat) : Int)), VV (.slice (some ⟨B, 0, none⟩) m m), VV (.int .i64 ((k : Nat) : Int)), VV (.pointer (some ⟨B, k, none⟩)), VV (.slice ao n1 cp), VV (.slice po pn pc), VV (.slice (some ⟨g, 0, none⟩) len cap), VV (.int .i64 ((k : Nat) : Int)), VV (.int .i64 (2 * ((k : Nat) : Int))), VV (.int .i64 (2 * ((k : Nat) : Int) + 1)), VV (.pointer (some ⟨g, 2 * k + 1, none⟩)), VV (.slice bo n2 bp), VN (p * Y) (K + K), VN (X + p * Y) (K + K + 1), VV (.pointer (some ⟨B, k, none⟩))])
          (by kernel_rfl) rfl (by kernel_rfl) (Below.refl _ _).drew (fun k v u u' _ hg hs => Sp.lasts HLst k v u u' hg hs) ?_ ?_
        · refine ⟨.inl ⟨by simp, fun ρ u hC hc hf hd ho => ?_⟩, .inl ⟨by simp, fun ρ u hC hc hf hd ho => ?_⟩, .inl ⟨by simp, fun ρ u hC hc hf hd ho => ?_⟩, .inl ⟨by simp, fun ρ u hC hc hf hd ho => ?_⟩, .inl ⟨by simp, fun ρ u hC hc hf hd ho => ?_⟩, .inl ⟨by simp, fun ρ u hC hc hf hd ho => ?_⟩, .inl ⟨by simp, fun ρ u hC hc hf hd ho => ?_⟩, .inl ⟨by simp, fun ρ u hC hc hf hd ho => ?_⟩, .inl ⟨by simp, fun ρ u hC hc hf hd ho => ?_⟩, .inl ⟨by simp, fun ρ u hC hc hf hd ho => ?_⟩, .inl ⟨by simp, fun ρ u hC hc hf hd ho => ?_⟩, .inl ⟨by simp, fun ρ u hC hc hf hd ho => ?_⟩, .inl ⟨by simp, fun ρ u hC hc hf hd ho => ?_⟩, .inl ⟨by simp, fun ρ u hC hc hf hd ho => ?_⟩, .inl ⟨by simp, fun ρ u hC hc hf hd ho => ?_⟩, .inl ⟨by simp, fun ρ u hC hc hf hd ho => ?_⟩, trivial⟩
          · have e5 : ρ (.tmp 5) = .slice (some ⟨B, 0, none⟩) m m := ho 5 (by simp)
            refine Goes.pure (.slice (some ⟨B, 0, none⟩) m m) ?_ ⟨hC, Below.refl _ _, rfl⟩
            unfold Goes
            go_simp
          · have e6 : ρ (.tmp 6) = .int .i64 ((k : Nat) : Int) := ho 6 (by simp)
            refine Goes.pure (.int .i64 ((k : Nat) : Int)) ?_ ⟨hC, Below.refl _ _, rfl⟩
            unfold Goes
            go_simp
          · have e5 : ρ (.tmp 5) = .slice (some ⟨B, 0, none⟩) m m := ho 5 (by simp)
            refine Goes.pure (.slice (some ⟨B, 0, none⟩) m m) ?_ ⟨hC, Below.refl _ _, rfl⟩
            unfold Goes
            go_simp
          · have e6 : ρ (.tmp 6) = .int .i64 ((k : Nat) : Int) := ho 6 (by simp)
            refine Goes.pure (.int .i64 ((k : Nat) : Int)) ?_ ⟨hC, Below.refl _ _, rfl⟩
            unfold Goes
            go_simp
          · have e33 : ρ (.tmp 33) = .slice (some ⟨B, 0, none⟩) m m := hd (2, 33) (by simp)
            have e34 : ρ (.tmp 34) = .int .i64 ((k : Nat) : Int) := hd (3, 34) (by simp)
            refine Goes.pure (.pointer (some ⟨B, k, none⟩)) ?_ ⟨hC, Below.refl _ _, rfl⟩
            unfold Goes
            go_simp
          · have e35 : ρ (.tmp 35) = .pointer (some ⟨B, k, none⟩) := hd (4, 35) (by simp)
            skip
            have hcl := (hC.cell (p := ⟨B, k, none⟩) hBs).trans hc5
            refine Goes.pure (.slice ao n1 cp) ?_ ⟨hC, Below.refl _ _, rfl⟩
            unfold Goes
            go_simp
          · have e1 : ρ (.tmp 1) = .slice po pn pc := ho 1 (by simp)
            refine Goes.pure (.slice po pn pc) ?_ ⟨hC, Below.refl _ _, rfl⟩
            unfold Goes
            go_simp
          · have e0 : ρ (.tmp 0) = .slice (some ⟨g, 0, none⟩) len cap := ho 0 (by simp)
            refine Goes.pure (.slice (some ⟨g, 0, none⟩) len cap) ?_ ⟨hC, Below.refl _ _, rfl⟩
            unfold Goes
            go_simp
          · have e6 : ρ (.tmp 6) = .int .i64 ((k : Nat) : Int) := ho 6 (by simp)
            refine Goes.pure (.int .i64 ((k : Nat) : Int)) ?_ ⟨hC, Below.refl _ _, rfl⟩
            unfold Goes
            go_simp
          · have e39 : ρ (.tmp 39) = .int .i64 ((k : Nat) : Int) := hd (8, 39) (by simp)
            refine Goes.pure (.int .i64 (2 * ((k : Nat) : Int))) ?_ ⟨hC, Below.refl _ _, rfl⟩
            unfold Goes
            go_simp
            exact i64_near (by omega) (by omega)
          · have e40 : ρ (.tmp 40) = .int .i64 (2 * ((k : Nat) : Int)) := hd (9, 40) (by simp)
            refine Goes.pure (.int .i64 (2 * ((k : Nat) : Int) + 1)) ?_ ⟨hC, Below.refl _ _, rfl⟩
            unfold Goes
            go_simp
            exact i64_near (by omega) (by omega)
          · have e38 : ρ (.tmp 38) = .slice (some ⟨g, 0, none⟩) len cap := hd (7, 38) (by simp)
            have e41 : ρ (.tmp 41) = .int .i64 (2 * ((k : Nat) : Int) + 1) := hd (10, 41) (by simp)
            refine Goes.pure (.pointer (some ⟨g, 2 * k + 1, none⟩)) ?_ ⟨hC, Below.refl _ _, rfl⟩
            unfold Goes
            go_simp
            rw [if_pos (by omega), show (2 * ((k : Nat) : Int) + 1).toNat = 2 * k + 1 from by omega]
            exact ⟨rfl, rfl⟩
          · have e42 : ρ (.tmp 42) = .pointer (some ⟨g, 2 * k + 1, none⟩) := hd (11, 42) (by simp)
            skip
            have hcl := (hC.cell (p := ⟨g, 2 * k + 1, none⟩) hgs).trans hc6
            refine Goes.pure (.slice bo n2 bp) ?_ ⟨hC, Below.refl _ _, rfl⟩
            unfold Goes
            go_simp
          · have e37 : ρ (.tmp 37) = .slice po pn pc := hd (6, 37) (by simp)
            have e43 : ρ (.tmp 43) = .slice bo n2 bp := hd (12, 43) (by simp)
            refine Goes.call 21 #[.slice po pn pc, .slice bo n2 bp] (by go_simp) ?_
            refine Calls.mono (mul_k (p1.later hC) (s2.later hC) K K hpn hn2 (by omega) (by omega)) ?_
            rintro e u' ⟨ro, rn, rc, rfl, sr, lr, lb⟩
            exact ⟨_, rfl, hC.trans (lb.mono hC.size), lb, ⟨ro, rn, rc, rfl, by rw [val_toL, val_toL] at sr; exact sr, lr⟩⟩
          · have e36 : ρ (.tmp 36) = .slice ao n1 cp := hd (5, 36) (by simp)
            obtain ⟨o44, n44, c44, e44, k44, j44⟩ : VN (p * Y) (K + K) (ρ (.tmp 44)) u := hd (13, 44) (by simp)
            refine Goes.call 90 #[.slice ao n1 cp, .slice o44 n44 c44] (by go_simp) ?_
            refine Calls.mono (add_k (s1.later hC) k44 (K + K) (by omega) j44 (by omega)) ?_
            rintro e u' ⟨ro, rn, rc, rfl, sr, lr, lb⟩
            exact ⟨_, rfl, hC.trans (lb.mono hC.size), lb, ⟨ro, rn, rc, rfl, by rw [val_toL, val_toL] at sr; exact sr, lr⟩⟩
          · have e31 : ρ (.tmp 31) = .slice (some ⟨B, 0, none⟩) m m := hd (0, 31) (by simp)
            have e32 : ρ (.tmp 32) = .int .i64 ((k : Nat) : Int) := hd (1, 32) (by simp)
            refine Goes.pure (.pointer (some ⟨B, k, none⟩)) ?_ ⟨hC, Below.refl _ _, rfl⟩
            unfold Goes
            go_simp
        · intro vs u hC hv
          obtain ⟨ro, rn, rc, e45, sr, lr⟩ : VN (X + p * Y) (K + K + 1) (vs 14) u := hv 14 (by omega)
          have e46 : vs 15 = .pointer (some ⟨B, k, none⟩) := hv 15 (by omega)
          rw [HJ.out] at sr
          have hN5 := hN4.later hC
          have hfz := hN5.free k
          obtain ⟨ao6, n6, c6, hc7, _⟩ := hN5.cell (i := k) (by rw [hul2]; exact hlt)
          have hN6 := hN5.set (i := k) (by rw [hul2]; exact hlt) sr
          rw [HS2.out] at hN6
          have fr := (Fr.refl B u).set k (.slice ro rn rc)
          have hB6 := (hB4.trans (hC.mono (Nat.le_of_lt hg4))).trans (fr.below (Nat.le_refl _))
          have hg6 : B < (u.setCell ⟨B, k, none⟩ (.slice ro rn rc)).heap.size := by rw [fr.size]; exact Nat.lt_of_lt_of_le hg4 hC.size
          clear hv hN5 hN4 hB4 fr hC hc5 hc6 HS2 HJ hul2 sr
          simp only [puts, List.take, List.drop, Act.put, List.setIfInBounds_toArray, List.set_cons_succ, List.set_cons_zero, Nat.reduceAdd, e45, e46]
          go_wp2
          go_roundw
          case rel => exact ⟨k + 1, by go_num, by omega, hN6, hB6, hg6⟩
          case measure => simp [intOf]; omega
      · have HJ : Hid (ns.getD (2 * k) 0 = (jn p ns).getD k 0) := by
          show _ = _
          rw [jn_get, List.getD_eq_getElem?_getD (i := 2 * k + 1), List.getElem?_eq_none (by rw [HLE.out]; omega)]
          simp
        rw [HJ.out, upto_set (fun i => toL ((jn p ns).getD i 0))] at hN4
        clear hc5 hfin HS2 hul2 s1' hN hul
        go_wp2
        go_roundw
        case rel => exact ⟨k + 1, by go_num, by omega, hN4, hB4, hg4⟩
        case measure => simp [intOf]; omega
    · obtain rfl : k = m := by omega
      go_wp2
      go_ret
      exact ⟨_, rfl, by rw [← HF.out]; exact hN, hBl⟩
end Go.Proofs.YtmfpnlhpdjabeaaGreatDoor

/- package decimal: valueOf. -/
namespace Go.Proofs.YtmfpnlhpdjabeaaGreatDoor
open Go.RowKit M

theorem toL_bd {ns : List Nat} {k : Nat} (h : ∀ x ∈ ns, x < pw k) (i : Nat) : (toL (ns.getD i 0)).length ≤ 2 ^ k := by
  by_cases hi : i < ns.length
  · rw [List.getD_eq_getElem?_getD, List.getElem?_eq_getElem hi]
    exact toL_len_le (Nat.lt_trans (h _ (List.getElem_mem hi)) (pw_bp k))
  · rw [List.getD_eq_getElem?_getD, List.getElem?_eq_none (by omega)]
    exact Nat.zero_le _

set_option maxRecDepth 100000 in
set_option maxHeartbeats 2000000 in
theorem valueOf_k {w : World} {l : List Nat} (hd : Dig l) (h0 : 0 < l.length) (hlen : l.length ≤ 1073741824) :
    Calls Tryz.prog 28 #[.string (tx l)] w (Gv w l.length (toL (dnum l))) := by
  obtain ⟨c, hc⟩ : ∃ c, c = (ck l).length := ⟨_, rfl⟩
  have hcl := ck_len l
  rw [← hc] at hcl
  have hc0 : 0 < c := by omega
  have hc1 : c ≤ 268435456 := by omega
  have HC : Hid ((ck l).length = c) := hc.symm
  have HCL : Hid (((ck l).map toL).length = c) := by show _ = c; rw [List.length_map, ← hc]
  have HL : Hid (∀ x ∈ ck l, x < pw 0) := ck_lt hd
  have HV : Hid (vb (pw 0) (ck l) = dnum l) := ck_vb _ l (Nat.le_refl _)
  have HD : Hid (dnum l < Bp l.length) := Nat.lt_of_lt_of_le (dnum_lt l hd) (ten_bp _)
  clear hc hcl
  go_enter Tryz.func28, Tryz.ntmps28
  go_wp2_with fail
  refine (dcut_k hd hlen).mono ?_
  rintro e w1 ⟨v1, rfl, N1, b1⟩
  have hl1 : Hid (∃ g cap, v1 = .slice (some ⟨g, 0, none⟩) c cap ∧ c ≤ cap) := by
    obtain ⟨g, cap, e1, e2, _⟩ := N1.inv
    rw [HCL.out] at e1 e2
    exact ⟨g, cap, e1, e2⟩
  obtain ⟨g, cap, rfl, hcap⟩ := hl1.out
  clear hl1
  go_wp2_with fail
  refine (squares_k (c := c) (by omega)).mono ?_
  rintro e w2 ⟨v2, m, rfl, hm1, hm2, hm3, N2, b2⟩
  replace N1 := N1.later b2
  have bb2 := b1.trans (b2.mono b1.size)
  have HM2 : Hid (c ≤ 2 ^ m) := hm2
  have HM3 : Hid (2 ^ m ≤ 536870912) := by show 2 ^ m ≤ 536870912; rcases hm3 with h | rfl <;> omega
  have hm4 : m ≤ 536870912 := by have h1 := le_two m; have h2 := HM3.out; omega
  obtain ⟨g2, cap2, rfl, hle2, _, hcell2⟩ := N2.inv
  rw [pws_len] at hle2 hcell2 ⊢
  have HP : Hid (∀ i, i < m → ∃ ao n cc, w2.cell? ⟨g2, i, none⟩ = some (.slice ao n cc) ∧ Sl w2.heap.size w2 ao n cc (toL (pw i))) := fun i hi => by
    have := hcell2 i hi
    rwa [pws_get hi] at this
  have HG2 : Hid (g2 < w2.heap.size) := (N2.lt g2 rfl).2
  clear hcell2 N2 hm2 hm3 b1 b2
  go_wp2
  go_loopw [3, 12] (fun pv iv wr => ∃ j : Nat, iv = .int .i64 (j : Int) ∧ j ≤ m ∧ Nr 0 wr pv ((jns j (ck l)).map toL) ∧ Below w2.heap.size w2 wr) (fun _ iv _ => m - (intOf iv).toNat)
  case atStart => exact ⟨0, rfl, Nat.zero_le _, N1.mono (Nat.zero_le _), Below.refl _ _⟩
  case round =>
    clear N1
    obtain ⟨j, rfl, hj, hN, hBl⟩ := hrel
    by_cases hlt : j < m
    · obtain ⟨ao, n, cc, hc1, s1⟩ := HP.out j hlt
      have hc2 : wr.cell? ⟨g2, j, none⟩ = some (.slice ao n cc) := by
        rw [hBl.cell (p := ⟨g2, j, none⟩) HG2.out]
        exact hc1
      replace s1 := s1.later hBl
      have HK : Hid (2 ^ j ≤ 68719476736) := by
        have h1 := HM3.out
        have h2 : 2 ^ j ≤ 2 ^ m := Nat.pow_le_pow_right (by omega) hj
        show 2 ^ j ≤ 68719476736
        omega
      have HLn : Hid ((jns j (ck l)).length ≤ 268435456) := by
        have : ∀ j, (jns j (ck l)).length ≤ (ck l).length := by
          intro j
          induction j with
          | zero => exact Nat.le_refl _
          | succ j ih =>
            rw [jns, jn_len]
            have := jns_pos j (l := ck l) (by rw [HC.out]; exact hc0)
            omega
        have h1 := this j
        rw [HC.out] at h1
        show _ ≤ _
        omega
      have hn := s1.len_le
      clear hc1
      have HN : Hid (n ≤ 2 ^ j) := hn
      clear hn
      go_wp2_with fail
      refine (joined_k (K := 2 ^ j) hN s1 HLn.out (toL_bd (jns_lt j HL.out)) HN.out HK.out).mono ?_
      rintro e w3 ⟨v3, rfl, N3, b3⟩
      have hB3 := hBl.trans (b3.mono hBl.size)
      go_wp2
      go_roundw
      case rel => exact ⟨j + 1, by go_num, by omega, N3.mono (Nat.zero_le _), hB3⟩
      case measure => simp [intOf]; omega
    · obtain rfl : j = m := by omega
      have HE : Hid ((jns j (ck l)).map toL = [toL (dnum l)]) := by
        show _ = _
        rw [jns_one (by rw [HC.out]; exact hc0) (by rw [HC.out]; exact HM2.out), HV.out]
        rfl
      rw [HE.out] at hN
      obtain ⟨g3, cap3, rfl, hle3, _, hcell3⟩ := hN.inv
      obtain ⟨ao, n, cc, hc1, s1⟩ := hcell3 0 (by simp)
      have s2 : Sl wr.heap.size wr ao n cc (toL (dnum l)) := s1
      clear s1 hN hcell3
      have hbb := bb2.trans (hBl.mono bb2.size)
      go_wp2
      go_ret
      exact ⟨ao, n, cc, rfl, s2, s2.ln HD.out, hbb⟩
end Go.Proofs.YtmfpnlhpdjabeaaGreatDoor

/- package decimal: Parse. -/
namespace Go.Proofs.YtmfpnlhpdjabeaaGreatDoor
open Go.RowKit M Kahn

theorem at_dg {l : List Nat} (h : dg l < l.length) : l = l.take (dg l) ++ l.getD (dg l) 0 :: l.drop (dg l + 1) := by
  have h1 := List.take_append_drop (dg l) l
  have h2 : l.drop (dg l) = l.getD (dg l) 0 :: l.drop (dg l + 1) := by
    rw [List.drop_eq_getElem_cons h, List.getD_eq_getElem?_getD, List.getElem?_eq_getElem h]
    rfl
  rw [h2] at h1
  exact h1.symm
theorem dg_len {l : List Nat} (h : dg l = l.length) : Dig l := by
  have := dg_take l
  rwa [h, List.take_length] at this
theorem quotient_k {w : World} {l : List Nat} (hb : Byt l) (hlen : l.length ≤ 549755813888) : Calls Tryz.prog 27 #[.string (tx l)] w (Gqt w (qt l)) := by
  unfold qt
  by_cases h0 : dg l = 0
  · rw [if_pos h0]; exact quot_a hb (by omega) h0
  rw [if_neg h0]
  by_cases h1 : dg l = l.length
  · rw [if_pos h1]; exact quot_b (dg_len h1) (by omega) (by omega)
  rw [if_neg h1]
  have hle := dg_le l
  have hat := at_dg (l := l) (by omega)
  have hh := dg_take l
  have hst := dg_stop l (by omega)
  have hcb := hb.get (dg l)
  have hrb := hb.drop (dg l + 1)
  have hhl : (l.take (dg l)).length = dg l := by rw [List.length_take]; omega
  have hrl : (l.drop (dg l + 1)).length = l.length - (dg l + 1) := by rw [List.length_drop]
  have hs : (l.take (dg l)).length + ((l.drop (dg l + 1)).length + 1) ≤ 549755813888 := by omega
  have hp : 0 < (l.take (dg l)).length := by omega
  rw [show tx l = tx (l.take (dg l) ++ l.getD (dg l) 0 :: l.drop (dg l + 1)) from by rw [← hat]]
  generalize l.take (dg l) = h at *
  generalize l.getD (dg l) 0 = c at *
  generalize l.drop (dg l + 1) = r at *
  by_cases h2 : dg r = 0 ∨ dg r < r.length
  · rw [if_pos h2]; exact quot_no hh hp hst hcb hrb (by omega) h2
  rw [if_neg h2]
  have hr := dg_le r
  have hrd : Dig r := dg_len (by omega)
  by_cases h3 : c = 46
  · rw [if_pos h3]
    subst h3
    exact quot_point hh hp hrd hs (by omega)
  rw [if_neg h3]
  by_cases h4 : c = 47
  · rw [if_pos h4]
    subst h4
    exact quot_over hh hp hrd (by omega) (by omega)
  rw [if_neg h4]
  exact quot_other hh hp hst hcb hrd (by omega) (by omega) h3 h4

theorem dnum_one_zeros (k : Nat) : dnum (49 :: List.replicate k 48) = 10 ^ k := by
  have := dnum_append [49] (List.replicate k 48)
  rw [List.length_replicate, dnum_zeros] at this
  rw [show 49 :: List.replicate k 48 = [49] ++ List.replicate k 48 from rfl, this]
  simp [dnum]
/-- The two digits' texts, where it is a number's. -/
theorem qt_ok {l : List Nat} (h : (qt l).2.2 = true) : Dig (qt l).1 ∧ Dig (qt l).2.1 ∧ 0 < (qt l).1.length ∧ 0 < (qt l).2.1.length ∧ (qt l).1.length ≤ l.length + 1 ∧ (qt l).2.1.length ≤ l.length + 1 := by
  have hle := dg_le l
  unfold qt at h ⊢
  by_cases h0 : dg l = 0
  · rw [if_pos h0] at h; cases h
  rw [if_neg h0] at h ⊢
  by_cases h1 : dg l = l.length
  · rw [if_pos h1]
    dsimp only
    exact ⟨dg_len h1, fun x hx => by rw [List.mem_singleton.1 hx]; rfl, by omega, by simp, by simp, by simp⟩
  rw [if_neg h1] at h ⊢
  have hh := dg_take l
  have hr := dg_le (l.drop (dg l + 1))
  have hhl : (l.take (dg l)).length = dg l := by rw [List.length_take]; omega
  have hrl : (l.drop (dg l + 1)).length = l.length - (dg l + 1) := by rw [List.length_drop]
  by_cases h2 : dg (l.drop (dg l + 1)) = 0 ∨ dg (l.drop (dg l + 1)) < (l.drop (dg l + 1)).length
  · rw [if_pos h2] at h; cases h
  rw [if_neg h2] at h ⊢
  have hrd : Dig (l.drop (dg l + 1)) := dg_len (by omega)
  by_cases h3 : l.getD (dg l) 0 = 46
  · rw [if_pos h3]
    dsimp only
    refine ⟨hh.append hrd, fun x hx => ?_, ?_, by simp, ?_, ?_⟩
    · rcases List.mem_cons.1 hx with rfl | hx
      · rfl
      · exact zeros_dig _ x hx
    · rw [List.length_append]; omega
    · rw [List.length_append]; omega
    · rw [List.length_cons, List.length_replicate]; omega
  rw [if_neg h3] at h ⊢
  by_cases h4 : l.getD (dg l) 0 = 47
  · rw [if_pos h4]
    dsimp only
    exact ⟨hh, hrd, by omega, by omega, by omega, by omega⟩
  · rw [if_neg h4] at h; cases h
def prs3 (neg : Bool) (p : List Nat × List Nat × Bool) : Rat × Int :=
  if p.2.2 = false then (0, 40) else if dnum p.2.1 = 0 then (0, 42) else (rq neg (dnum p.1) (dnum p.2.1), 0)
theorem prs3_qt (neg : Bool) (l : List Nat) : prs3 neg (qt l) = prs2 neg l := by
  have hle := dg_le l
  have hr := dg_le (l.drop (dg l + 1))
  have hrl : (l.drop (dg l + 1)).length = l.length - (dg l + 1) := by rw [List.length_drop]
  unfold qt prs2
  by_cases h0 : dg l = 0
  · rw [if_pos h0, if_pos h0]; rfl
  rw [if_neg h0, if_neg h0]
  by_cases h1 : dg l = l.length
  · rw [if_pos h1, if_neg (show ¬ dg l < l.length from by omega)]
    unfold prs3
    rw [if_neg (by simp), if_neg (by simp [dnum])]
    rfl
  rw [if_neg h1, if_pos (show dg l < l.length from by omega)]
  by_cases h2 : dg (l.drop (dg l + 1)) = 0 ∨ dg (l.drop (dg l + 1)) < (l.drop (dg l + 1)).length
  · rw [if_pos h2, if_pos (by
      rcases h2 with h | h
      · exact .inl h
      · exact .inr (.inl (by omega)))]
    rfl
  rw [if_neg h2]
  have hdr : dg (l.drop (dg l + 1)) = (l.drop (dg l + 1)).length := by omega
  by_cases h3 : l.getD (dg l) 0 = 46
  · rw [if_pos h3, if_neg (by
      rintro (h | h | h)
      · exact h2 (.inl h)
      · exact h2 (.inr (by omega))
      · exact h.1 h3), if_neg (by omega)]
    unfold prs3
    rw [if_neg (by simp)]
    simp only [dnum_one_zeros]
    rw [if_neg (by have := Nat.pow_pos (n := (l.drop (dg l + 1)).length) (show 0 < 10 from by omega); omega), hdr]
  rw [if_neg h3]
  by_cases h4 : l.getD (dg l) 0 = 47
  · rw [if_pos h4, if_neg (by
      rintro (h | h | h)
      · exact h2 (.inl h)
      · exact h2 (.inr (by omega))
      · exact h.2 h4), if_pos h4]
    unfold prs3
    rw [if_neg (by simp)]
  · rw [if_neg h4, if_pos (.inr (.inr ⟨h3, h4⟩))]
    rfl

theorem dzero_k (w : World) : Calls Tryz.prog 25 #[] w (Gq w 2 0) := by
  obtain ⟨w0, g, hw0, hg, rs, B0, HG⟩ := boxR w
  go_enter Tryz.func25, Tryz.ntmps25
  go_wp2_with fail
  rw [← hw0, ← hg]
  clear hw0 hg
  refine (ratOf_k (w := w0) 0 1 (by omega) (by omega) (by omega) (by omega)).mono ?_
  rintro e w9 ⟨s9, no9, nn9, nc9, eo9, en9, ec9, rfl, cz, lb⟩
  rw [show ((0 : Int) : Rat) / ((1 : Int) : Rat) = 0 from by grind] at cz
  have rs9 := rs.later lb
  obtain ⟨r0, r1, r2⟩ := rs9.cells
  have f0 := rs9.free 0
  have f1 := rs9.free 1
  have f2 := rs9.free 2
  go_wp2
  exact ret_store rfl rfl rfl rs9 (by rw [HG.out]; omega) cz (B0.trans (lb.mono B0.size))
end Go.Proofs.YtmfpnlhpdjabeaaGreatDoor

/- package decimal: Parse. -/
namespace Go.Proofs.YtmfpnlhpdjabeaaGreatDoor
open Go.RowKit M Kahn

section
variable {w : World} {l : List Nat}
set_option maxRecDepth 100000 in
set_option maxHeartbeats 4000000 in
theorem dparse_long (hlen : l.length ≤ 1099511627776) (h : 20000 < l.length) :
    Calls Tryz.prog 9 #[.string (tx l)] w (Gqi w 20001 (0, 41)) := by
  obtain ⟨w0, g, hw0, hg, rs, B0, HG⟩ := boxR w
  have hsz := tx_size l
  generalize tx l = X at *
  generalize l.length = n at *
  go_enter Tryz.func9, Tryz.ntmps9
  go_wp2_with fail
  rw [← hw0, ← hg]
  clear hw0 hg
  refine (dzero_k w0).mono ?_
  rintro e w9 ⟨s9, no9, nn9, nc9, eo9, en9, ec9, rfl, cz, lb⟩
  have rs9 := rs.later lb
  obtain ⟨r0, r1, r2⟩ := rs9.cells
  have f0 := rs9.free 0
  have f1 := rs9.free 1
  have f2 := rs9.free 2
  go_wp2
  exact ret_store3 rfl rfl rfl rfl rs9 (by rw [HG.out]; omega) (cz.mono (by omega)) (B0.trans (lb.mono B0.size))

/-- The calls of Parse, of a text that is not too long. -/
theorem dparse_calls (hb : Byt l) (h : l.length ≤ 20000) : ∃ (r : List Nat) (neg : Bool), prs l = prs3 neg (qt r) ∧ r.length ≤ 20000 ∧ Byt r ∧
    (∀ u, Calls Tryz.prog 26 #[.string (tx l), .string ⟨#[45]⟩] u fun e w' => e = .returned (.tuple #[.string (tx r), .bool neg]) ∧ u = w') := by
  refine ⟨if l.getD 0 0 = 45 then l.drop 1 else l, decide (l.getD 0 0 = 45), ?_, ?_, ?_, fun u => cut_k hb⟩
  · unfold prs
    rw [if_neg (by omega), prs3_qt]
    by_cases h0 : l.getD 0 0 = 45
    · rw [if_pos h0, if_pos h0, decide_eq_true h0]
    · rw [if_neg h0, if_neg h0, decide_eq_false h0]
  · split
    · rw [List.length_drop]; omega
    · exact h
  · split
    · exact hb.drop 1
    · exact hb

set_option maxRecDepth 100000 in
set_option maxHeartbeats 4000000 in
theorem dparse_form {r : List Nat} {neg : Bool} (h : l.length ≤ 20000) (hr : r.length ≤ 20000) (hrb : Byt r) (hq : (qt r).2.2 = false)
    (c1 : ∀ u, Calls Tryz.prog 26 #[.string (tx l), .string ⟨#[45]⟩] u fun e w' => e = .returned (.tuple #[.string (tx r), .bool neg]) ∧ u = w') :
    Calls Tryz.prog 9 #[.string (tx l)] w (Gqi w 20001 (0, 40)) := by
  obtain ⟨w0, g, hw0, hg, rs, B0, HG⟩ := boxR w
  have hsz := tx_size l
  have c2 := fun u => quotient_k (w := u) hrb (by omega)
  have C2 : Hid (∀ u, Calls Tryz.prog 27 #[.string (tx r)] u fun e w' => e = .returned (.tuple #[.string (tx (qt r).1), .string (tx (qt r).2.1), .bool false]) ∧ Below u.heap.size u w') := fun u => by
    have := c2 u
    unfold Gqt at this
    rwa [hq] at this
  have C1 : Hid _ := c1
  clear c2 c1 hq
  generalize tx l = X at *
  generalize l.length = n at *
  generalize tx r = R at *
  generalize tx (qt r).1 = A at *
  generalize tx (qt r).2.1 = D at *
  go_enter Tryz.func9, Tryz.ntmps9
  go_wp2_with fail
  rw [← hw0, ← hg]
  clear hw0 hg
  refine (C1.out _).mono ?_
  rintro e w1 ⟨rfl, rfl⟩
  go_wp2_with fail
  refine (C2.out _).mono ?_
  rintro e w1 ⟨rfl, b1⟩
  replace rs := rs.later b1
  replace B0 := B0.trans (b1.mono B0.size)
  go_wp2_with fail
  refine (dzero_k w1).mono ?_
  rintro e w9 ⟨s9, no9, nn9, nc9, eo9, en9, ec9, rfl, cz, lb⟩
  have rs9 := rs.later lb
  obtain ⟨r0, r1, r2⟩ := rs9.cells
  have f0 := rs9.free 0
  have f1 := rs9.free 1
  have f2 := rs9.free 2
  go_wp2
  exact ret_store3 rfl rfl rfl rfl rs9 (by rw [HG.out]; omega) (cz.mono (by omega)) (B0.trans (lb.mono B0.size))

set_option maxRecDepth 100000 in
set_option maxHeartbeats 4000000 in
theorem dparse_some {r : List Nat} {neg : Bool} (h : l.length ≤ 20000) (hr : r.length ≤ 20000) (hrb : Byt r) (hq : (qt r).2.2 = true)
    (c1 : ∀ u, Calls Tryz.prog 26 #[.string (tx l), .string ⟨#[45]⟩] u fun e w' => e = .returned (.tuple #[.string (tx r), .bool neg]) ∧ u = w') :
    Calls Tryz.prog 9 #[.string (tx l)] w (Gqi w 20001 (prs3 neg (qt r))) := by
  obtain ⟨w0, g, hw0, hg, rs, B0, HG⟩ := boxR w
  have hsz := tx_size l
  have c2 := fun u => quotient_k (w := u) hrb (by omega)
  have C2 : Hid (∀ u, Calls Tryz.prog 27 #[.string (tx r)] u fun e w' => e = .returned (.tuple #[.string (tx (qt r).1), .string (tx (qt r).2.1), .bool true]) ∧ Below u.heap.size u w') := fun u => by
    have := c2 u
    unfold Gqt at this
    rwa [hq] at this
  have C1 : Hid _ := c1
  obtain ⟨d1, d2, l1, l2, m1, m2⟩ := qt_ok hq
  have HP : Hid (prs3 neg (qt r) = if dnum (qt r).2.1 = 0 then (0, 42) else (rq neg (dnum (qt r).1) (dnum (qt r).2.1), 0)) := by
    show _ = _
    unfold prs3
    rw [if_neg (by rw [hq]; simp)]
  have C3 : Hid (∀ u, Calls Tryz.prog 28 #[.string (tx (qt r).2.1)] u (Gv u (qt r).2.1.length (toL (dnum (qt r).2.1)))) := fun u => valueOf_k d2 l2 (by omega)
  have C4 : Hid (∀ u, Calls Tryz.prog 28 #[.string (tx (qt r).1)] u (Gv u (qt r).1.length (toL (dnum (qt r).1)))) := fun u => valueOf_k d1 l1 (by omega)
  have M1 : Hid ((qt r).1.length ≤ 20001) := by show _ ≤ _; omega
  have M2 : Hid ((qt r).2.1.length ≤ 20001) := by show _ ≤ _; omega
  clear c2 c1 hq d1 d2 l1 l2 m1 m2
  rw [HP.out]
  clear HP
  generalize tx l = X at *
  generalize l.length = n at *
  generalize tx r = R at *
  generalize tx (qt r).1 = A at *
  generalize tx (qt r).2.1 = D at *
  generalize (qt r).1.length = la at *
  generalize (qt r).2.1.length = ld at *
  generalize dnum (qt r).1 = x at *
  generalize dnum (qt r).2.1 = y at *
  by_cases hy : y = 0
  · rw [if_pos hy]
    have HY : Hid (y = 0) := hy
    clear hy
    go_enter Tryz.func9, Tryz.ntmps9
    go_wp2_with fail
    rw [← hw0, ← hg]
    clear hw0 hg
    refine (C1.out _).mono ?_
    rintro e w1 ⟨rfl, rfl⟩
    go_wp2_with fail
    refine (C2.out _).mono ?_
    rintro e w1 ⟨rfl, b1⟩
    replace rs := rs.later b1
    replace B0 := B0.trans (b1.mono B0.size)
    go_wp2_with fail
    refine (C3.out _).mono ?_
    rintro e w2 ⟨ao, k2, cp, rfl, s2, l2, b2⟩
    replace rs := rs.later b2
    replace B0 := B0.trans (b2.mono B0.size)
    have hk2 : k2 = 0 := by rw [← s2.len, HY.out]; rfl
    subst hk2
    go_wp2_with fail
    refine (dzero_k w2).mono ?_
    rintro e w9 ⟨s9, no9, nn9, nc9, eo9, en9, ec9, rfl, cz, lb⟩
    have rs9 := rs.later lb
    obtain ⟨r0, r1, r2⟩ := rs9.cells
    have f0 := rs9.free 0
    have f1 := rs9.free 1
    have f2 := rs9.free 2
    go_wp2
    exact ret_store3 rfl rfl rfl rfl rs9 (by rw [HG.out]; omega) (cz.mono (by omega)) (B0.trans (lb.mono B0.size))
  · rw [if_neg hy]
    have HY : Hid (y ≠ 0) := hy
    clear hy
    go_enter Tryz.func9, Tryz.ntmps9
    go_wp2_with fail
    rw [← hw0, ← hg]
    clear hw0 hg
    refine (C1.out _).mono ?_
    rintro e w1 ⟨rfl, rfl⟩
    go_wp2_with fail
    refine (C2.out _).mono ?_
    rintro e w1 ⟨rfl, b1⟩
    replace rs := rs.later b1
    replace B0 := B0.trans (b1.mono B0.size)
    go_wp2_with fail
    refine (C3.out _).mono ?_
    rintro e w2 ⟨ao, k2, cp, rfl, s2, l2, b2⟩
    replace rs := rs.later b2
    replace B0 := B0.trans (b2.mono B0.size)
    have hk2 : 0 < k2 := by
      by_cases h0 : k2 = 0
      · have hlen := s2.len
        rw [h0] at hlen
        have hv := val_toL y
        rw [List.eq_nil_of_length_eq_zero hlen] at hv
        exact absurd hv.symm HY.out
      · omega
    have hk3 : ¬ (k2 = 0) := by omega
    have hk2b : k2 ≤ 20001 := Nat.le_trans l2 M2.out
    go_wp2_with fail
    refine (C4.out _).mono ?_
    rintro e w3 ⟨bo, k3, dp, rfl, s3, l3, b3⟩
    replace rs := rs.later b3
    replace B0 := B0.trans (b3.mono B0.size)
    replace s2 := s2.later b3
    have hQ : Qn w3 neg bo k3 dp ao k2 cp (rq neg x y) 20001 := ⟨⟨_, _, s3, s2, by rw [val_toL, val_toL]⟩, Nat.le_trans l3 M1.out, hk2b⟩
    clear s2 s3
    go_wp2_with fail
    refine (ratRead_k hQ (by omega) (by omega)).mono ?_
    rintro e w9 ⟨s9, no9, nn9, nc9, eo9, en9, ec9, rfl, cz, lb⟩
    have rs9 := rs.later lb
    obtain ⟨r0, r1, r2⟩ := rs9.cells
    have f0 := rs9.free 0
    have f1 := rs9.free 1
    have f2 := rs9.free 2
    clear hQ
    go_wp2
    exact ret_store3 rfl rfl rfl rfl rs9 (by rw [HG.out]; omega) cz (B0.trans (lb.mono B0.size))

theorem dparse_k (hb : Byt l) (hlen : l.length ≤ 1099511627776) : Calls Tryz.prog 9 #[.string (tx l)] w (Gqi w 20001 (prs l)) := by
  by_cases h : 20000 < l.length
  · have : prs l = (0, 41) := by unfold prs; rw [if_pos h]
    rw [this]
    exact dparse_long hlen h
  · obtain ⟨r, neg, hp, hr, hrb, c1⟩ := dparse_calls hb (by omega)
    rw [hp]
    cases hq : (qt r).2.2
    · have : prs3 neg (qt r) = (0, 40) := by unfold prs3; rw [if_pos hq]
      rw [this]
      exact dparse_form (by omega) hr hrb hq c1
    · exact dparse_some (by omega) hr hrb hq c1
end
end Go.Proofs.YtmfpnlhpdjabeaaGreatDoor
