/- penumbralaw04.DecimalPrints: true. -/
import Derived.Test.YtmfpnlhpdjabeaaGreatDoorAn
namespace Go.Proofs.YtmfpnlhpdjabeaaGreatDoor
open Go.RowKit M Kahn

set_option maxRecDepth 100000 in
set_option maxHeartbeats 8000000 in
theorem prints_any (w : World) (s : Bool) (no : Option Addr) (nn nc : Nat) (eo : Option Addr) (en ec : Nat) (K : Nat) (qa : Rat) (ha0 : Qn w s no nn nc eo en ec qa K) (hK1 : 1 ≤ K) (hK : K ≤ 1048576) :
    Calls Tryz.prog 4 #[.agg #[.bool s, .slice no nn nc, .slice eo en ec]] w fun e w' => e = .returned (.bool true) ∧ Below w.heap.size w w' := by
  obtain ⟨w0, hw0, bx, b0⟩ := box0 w (.bool s) (.slice no nn nc) (.slice eo en ec)
  have ha := ha0.later b0
  clear ha0
  obtain ⟨xs, ys, hn, hd', hq⟩ := ha.there
  have l1 := ha.ln
  have l2 := ha.ld
  obtain ⟨g, hg⟩ : ∃ g, g = w.heap.size := ⟨_, rfl⟩
  have bx' := bx
  rw [← hg] at bx
  obtain ⟨c0, c1, c2⟩ := bx'.cells
  go_enter Tryz.func4, Tryz.ntmps4
  by_cases h1 : 300 < nn
  · have h1d : decide ((300 : Int) < (nn : Int)) = true := decide_eq_true (by omega)
    rw [hw0] at c0 c1 c2
    go_wp2_with fail
    rw [← hw0]
    refine (fixed4_any w0).mono ?_
    rintro e w1 ⟨rfl, lb⟩
    clear hw0
    go_wp2
    go_ret
    exact ⟨rfl, b0.trans (lb.mono b0.size)⟩
  by_cases h2 : 300 < en
  · have h1d : decide ((300 : Int) < (nn : Int)) = false := decide_eq_false (by omega)
    have h2d : decide ((300 : Int) < (en : Int)) = true := decide_eq_true (by omega)
    rw [hw0] at c0 c1 c2
    go_wp2_with fail
    rw [← hw0]
    refine (fixed4_any w0).mono ?_
    rintro e w1 ⟨rfl, lb⟩
    clear hw0
    go_wp2
    go_ret
    exact ⟨rfl, b0.trans (lb.mono b0.size)⟩
  · have h1d : decide ((300 : Int) < (nn : Int)) = false := decide_eq_false (by omega)
    have h2d : decide ((300 : Int) < (en : Int)) = false := decide_eq_false (by omega)
    rw [hw0] at c0 c1 c2
    go_wp2
    rw [← hw0, ← hg]
    rw [← hw0] at c0 c1 c2
    clear hw0 hg c0 c1 c2 bx'
    have HLst : Lst [VV (.bool true), VV (.bool true), VV (.agg #[.bool s, .slice no nn nc, .slice eo en ec]), VV (.string (tx (prt qa))), VV (.agg #[.bool s, .slice no nn nc, .slice eo en ec]), VV (.string (tx (prt qa))), VV (.bool true), VV (.bool true), VV (.bool true), VV (.pointer (some ⟨g, 1, none⟩)), VV (.slice no nn nc), VV (.string (tx (dec (val xs)))), VV (.pointer (some ⟨g, 1, none⟩)), VV (.slice no nn nc), VV (.string (tx (dec (val xs)))), VV (.bool true), VV (.bool true)] := ⟨VV.lasts _, VV.lasts _, VV.lasts _, VV.lasts _, VV.lasts _, VV.lasts _, VV.lasts _, VV.lasts _, VV.lasts _, VV.lasts _, VV.lasts _, VV.lasts _, VV.lasts _, VV.lasts _, VV.lasts _, VV.lasts _, VV.lasts _, trivial⟩
    refine wp_region_kahn 17 31 [([], []), ([(0, 14)], []), ([], [1]), ([(2, 16)], []), ([], [1]), ([(4, 18)], []), ([(3, 17), (5, 19)], []), ([(1, 15), (6, 20)], []), ([(7, 21)], []), ([], [1]), ([(9, 23)], []), ([(10, 24)], []), ([], [1]), ([(12, 26)], []), ([(13, 27)], []), ([(11, 25), (14, 28)], []), ([(8, 22), (15, 29)], [])]
      (fun u => Below w0.heap.size w0 u) (fun u u' => Below u.heap.size u u')
      (Sp [VV (.bool true), VV (.bool true), VV (.agg #[.bool s, .slice no nn nc, .slice eo en ec]), VV (.string (tx (prt qa))), VV (.agg #[.bool s, .slice no nn nc, .slice eo en ec]), VV (.string (tx (prt qa))), VV (.bool true), VV (.bool true), VV (.bool true), VV (.pointer (some ⟨g, 1, none⟩)), VV (.slice no nn nc), VV (.string (tx (dec (val xs)))), VV (.pointer (some ⟨g, 1, none⟩)), VV (.slice no nn nc), VV (.string (tx (dec (val xs)))), VV (.bool true), VV (.bool true)])
      (by kernel_rfl) rfl (by kernel_rfl) (Below.refl _ _).drew (fun k v u u' _ hg hs => Sp.lasts HLst k v u u' hg hs) ?_ ?_
    · clear HLst
      refine ⟨.inl ⟨by simp, fun ρ u hC hc hf hd ho => ?_⟩, .inl ⟨by simp, fun ρ u hC hc hf hd ho => ?_⟩, .inl ⟨guard_of rfl fun _ _ h => h, fun ρ u hC hc hf hd ho => ?_⟩, .inl ⟨guard_of rfl fun _ _ h => h, fun ρ u hC hc hf hd ho => ?_⟩, .inl ⟨guard_of rfl fun _ _ h => h, fun ρ u hC hc hf hd ho => ?_⟩, .inl ⟨guard_of rfl fun _ _ h => h, fun ρ u hC hc hf hd ho => ?_⟩, .inl ⟨guard_of rfl fun _ _ h => h, fun ρ u hC hc hf hd ho => ?_⟩, .inl ⟨by simp, fun ρ u hC hc hf hd ho => ?_⟩, .inl ⟨by simp, fun ρ u hC hc hf hd ho => ?_⟩, .inl ⟨guard_of rfl fun _ _ h => h, fun ρ u hC hc hf hd ho => ?_⟩, .inl ⟨guard_of rfl fun _ _ h => h, fun ρ u hC hc hf hd ho => ?_⟩, .inl ⟨guard_of rfl fun _ _ h => h, fun ρ u hC hc hf hd ho => ?_⟩, .inl ⟨guard_of rfl fun _ _ h => h, fun ρ u hC hc hf hd ho => ?_⟩, .inl ⟨guard_of rfl fun _ _ h => h, fun ρ u hC hc hf hd ho => ?_⟩, .inl ⟨guard_of rfl fun _ _ h => h, fun ρ u hC hc hf hd ho => ?_⟩, .inl ⟨guard_of rfl fun _ _ h => h, fun ρ u hC hc hf hd ho => ?_⟩, .inl ⟨by simp, fun ρ u hC hc hf hd ho => ?_⟩, trivial⟩
      · refine Goes.call 8 #[] (by go_simp) ?_
        refine Calls.mono (fixed4_any u) ?_
        rintro e u' ⟨rfl, lb⟩
        exact ⟨_, rfl, hC.trans (lb.mono hC.size), lb, rfl⟩
      · have e14 : ρ (.tmp 14) = .bool true := hd (0, 14) (by simp)
        refine Goes.pure (.bool true) ?_ ⟨hC, Below.refl _ _, rfl⟩
        unfold Goes
        go_simp
      · have e1 : ρ (.tmp 1) = .pointer (some ⟨g, 0, none⟩) := ho 1 (by simp)
        obtain ⟨c0, c1, c2⟩ := (bx.later hC).cells
        refine Goes.pure (.agg #[.bool s, .slice no nn nc, .slice eo en ec]) ?_ ⟨hC, Below.refl _ _, rfl⟩
        unfold Goes
        go_simp
      · have e16 : ρ (.tmp 16) = .agg #[.bool s, .slice no nn nc, .slice eo en ec] := hd (2, 16) (by simp)
        refine Goes.call 12 #[.agg #[.bool s, .slice no nn nc, .slice eo en ec]] (by go_simp) ?_
        refine Calls.mono (dprint_k (ha.later hC) hK1 hK) ?_
        rintro e u' ⟨rfl, lb⟩
        exact ⟨_, rfl, hC.trans (lb.mono hC.size), lb, rfl⟩
      · have e1 : ρ (.tmp 1) = .pointer (some ⟨g, 0, none⟩) := ho 1 (by simp)
        obtain ⟨c0, c1, c2⟩ := (bx.later hC).cells
        refine Goes.pure (.agg #[.bool s, .slice no nn nc, .slice eo en ec]) ?_ ⟨hC, Below.refl _ _, rfl⟩
        unfold Goes
        go_simp
      · have e18 : ρ (.tmp 18) = .agg #[.bool s, .slice no nn nc, .slice eo en ec] := hd (4, 18) (by simp)
        refine Goes.call 13 #[.agg #[.bool s, .slice no nn nc, .slice eo en ec]] (by go_simp) ?_
        refine Calls.mono (rprint_k (ha.later hC) hK1 (by omega)) ?_
        rintro e u' ⟨rfl, lb⟩
        exact ⟨_, rfl, hC.trans (lb.mono hC.size), lb, rfl⟩
      · have e17 : ρ (.tmp 17) = .string (tx (prt qa)) := hd (3, 17) (by simp)
        have e19 : ρ (.tmp 19) = .string (tx (prt qa)) := hd (5, 19) (by simp)
        refine Goes.pure (.bool true) ?_ ⟨hC, Below.refl _ _, rfl⟩
        unfold Goes
        go_simp
      · have e15 : ρ (.tmp 15) = .bool true := hd (1, 15) (by simp)
        have e20 : ρ (.tmp 20) = .bool true := hd (6, 20) (by simp)
        refine Goes.pure (.bool true) ?_ ⟨hC, Below.refl _ _, rfl⟩
        unfold Goes
        go_simp
      · have e21 : ρ (.tmp 21) = .bool true := hd (7, 21) (by simp)
        refine Goes.pure (.bool true) ?_ ⟨hC, Below.refl _ _, rfl⟩
        unfold Goes
        go_simp
      · have e1 : ρ (.tmp 1) = .pointer (some ⟨g, 0, none⟩) := ho 1 (by simp)
        refine Goes.pure (.pointer (some ⟨g, 1, none⟩)) ?_ ⟨hC, Below.refl _ _, rfl⟩
        unfold Goes
        go_simp
      · have e23 : ρ (.tmp 23) = .pointer (some ⟨g, 1, none⟩) := hd (9, 23) (by simp)
        obtain ⟨c0, c1, c2⟩ := (bx.later hC).cells
        refine Goes.pure (.slice no nn nc) ?_ ⟨hC, Below.refl _ _, rfl⟩
        unfold Goes
        go_simp
      · have e24 : ρ (.tmp 24) = .slice no nn nc := hd (10, 24) (by simp)
        refine Goes.call 14 #[.slice no nn nc] (by go_simp) ?_
        refine Calls.mono (dnatural_k (hn.later hC) (by omega)) ?_
        rintro e u' ⟨rfl, lb⟩
        exact ⟨_, rfl, hC.trans (lb.mono hC.size), lb, rfl⟩
      · have e1 : ρ (.tmp 1) = .pointer (some ⟨g, 0, none⟩) := ho 1 (by simp)
        refine Goes.pure (.pointer (some ⟨g, 1, none⟩)) ?_ ⟨hC, Below.refl _ _, rfl⟩
        unfold Goes
        go_simp
      · have e26 : ρ (.tmp 26) = .pointer (some ⟨g, 1, none⟩) := hd (12, 26) (by simp)
        obtain ⟨c0, c1, c2⟩ := (bx.later hC).cells
        refine Goes.pure (.slice no nn nc) ?_ ⟨hC, Below.refl _ _, rfl⟩
        unfold Goes
        go_simp
      · have e27 : ρ (.tmp 27) = .slice no nn nc := hd (13, 27) (by simp)
        refine Goes.call 15 #[.slice no nn nc] (by go_simp) ?_
        refine Calls.mono (rnatural_k (hn.later hC) (by omega)) ?_
        rintro e u' ⟨rfl, lb⟩
        exact ⟨_, rfl, hC.trans (lb.mono hC.size), lb, rfl⟩
      · have e25 : ρ (.tmp 25) = .string (tx (dec (val xs))) := hd (11, 25) (by simp)
        have e28 : ρ (.tmp 28) = .string (tx (dec (val xs))) := hd (14, 28) (by simp)
        refine Goes.pure (.bool true) ?_ ⟨hC, Below.refl _ _, rfl⟩
        unfold Goes
        go_simp
      · have e22 : ρ (.tmp 22) = .bool true := hd (8, 22) (by simp)
        have e29 : ρ (.tmp 29) = .bool true := hd (15, 29) (by simp)
        refine Goes.pure (.bool true) ?_ ⟨hC, Below.refl _ _, rfl⟩
        unfold Goes
        go_simp
    · intro vs u hC hv
      have eR : vs 16 = .bool true := hv 16 (by omega)
      clear hv
      simp only [puts, List.take, List.drop, Act.put, List.setIfInBounds_toArray, List.set_cons_succ, List.set_cons_zero, Nat.reduceAdd, eR]
      go_wp2
      go_ret
      exact ⟨rfl, b0.trans (hC.mono b0.size)⟩
end Go.Proofs.YtmfpnlhpdjabeaaGreatDoor
