/- penumbraref04: Digits. -/
import Derived.Test.YtmfpnlhpdjabeaaGreatDoorA3
import Derived.Test.YtmfpnlhpdjabeaaGreatDoorAg
import Derived.Test.YtmfpnlhpdjabeaaGreatDoorA9
import Derived.Laws.BytesString
import Derived.Deep.LoopGhost
namespace Go.Proofs.YtmfpnlhpdjabeaaGreatDoor
open Go.RowKit M

theorem idx_run {l : List Nat} (hb : Byt l) {i : Nat} (hi : i < l.length) (u : World) : (Instr.index 9 (.string (tx l)) (.int .i64 (i : Int))).run Tryz.prog u = .ok (.int .u8 ((l.getD i 0 : Nat) : Int)) u := by
  rw [run_index_string u 9 (tx l) .i64 (i : Int) Tryz.underlying9]
  have hs : i < (tx l).size := by rw [tx_size]; exact hi
  rw [dif_pos ⟨by omega, by omega⟩]
  simp only [Int.toNat_natCast]
  rw [tx_get hb hs]

set_option maxHeartbeats 1000000 in
theorem rdigits_any (w : World) (l : List Nat) (hb : Byt l) (hlen : l.length ≤ 1099511627776) :
    Calls Tryz.prog 30 #[.string (tx l)] w fun e w' => e = .returned (.int .i64 ((dg l : Nat) : Int)) ∧ w = w' := by
  have hsz := tx_size l
  go_enter Tryz.func30, Tryz.ntmps30
  go_wp2
  go_loop [3] (fun v => ∃ k : Nat, k ≤ l.length ∧ v = .int .i64 k ∧ Hid (Dig (l.take k))) (fun v => l.length - (intOf v).toNat)
  case atStart => exact ⟨0, Nat.zero_le _, rfl, fun _ h => by cases h⟩
  case round =>
    obtain ⟨k, hk, rfl, HD⟩ := hrel
    by_cases hlt : k < l.length
    · have hix := fun u => idx_run hb hlt u
      have hc := hb.get k
      obtain ⟨c, hcc⟩ : ∃ c, l.getD k 0 = c := ⟨_, rfl⟩
      rw [hcc] at hix hc
      have HC : Hid _ := hcc
      clear hcc
      by_cases h1 : 48 ≤ c
      · by_cases h2 : c ≤ 57
        · have HD2 : Hid (Dig (l.take (k + 1))) := by
            show Dig (l.take (k + 1))
            rw [List.take_add_one, List.getElem?_eq_getElem hlt]
            refine HD.out.append fun x hx => ?_
            have hcc := HC.out
            rw [List.getD_eq_getElem?_getD, List.getElem?_eq_getElem hlt] at hcc
            simp at hx hcc
            rw [hx, hcc]
            exact isd_iff.2 ⟨h1, h2⟩
          go_wp2
          go_round
          case rel => exact ⟨k + 1, by omega, by go_num, HD2⟩
          case measure => simp [intOf]; omega
        · have HE : Hid (dg l = k) := dg_is HD.out hk (fun _ => by rw [HC.out]; simp [isd]; omega)
          have h3 : 57 < c := by omega
          clear h2
          go_wp2
          go_ret
          exact ⟨ret1 (by rw [HE.out]), rfl⟩
      · have HE : Hid (dg l = k) := dg_is HD.out hk (fun _ => by rw [HC.out]; simp [isd]; omega)
        have h3 : c < 48 := by omega
        clear h1
        go_wp2
        go_ret
        exact ⟨ret1 (by rw [HE.out]), rfl⟩
    · obtain rfl : k = l.length := by omega
      have HE : Hid (dg l = l.length) := dg_is HD.out hk (fun h => absurd h hlt)
      go_wp2
      go_ret
      exact ⟨ret1 (by rw [HE.out]), rfl⟩
end Go.Proofs.YtmfpnlhpdjabeaaGreatDoor

/- penumbraref04: Number. -/
namespace Go.Proofs.YtmfpnlhpdjabeaaGreatDoor
open Go.RowKit M Kahn

/-- A row of these limbs. -/
def VSl (xs : List Nat) (K : Nat) : Value → World → Prop := fun v u => ∃ ao n c, v = .slice ao n c ∧ Sl u.heap.size u ao n c xs ∧ n ≤ K
theorem VSl.lasts (xs : List Nat) (K : Nat) : Lasts (VSl xs K) := fun _ _ _ hb ⟨ao, n, c, h1, h2, h3⟩ => ⟨ao, n, c, h1, h2.later hb, h3⟩

theorem dnum_bd {l : List Nat} (h : Dig l) : dnum l < Bp l.length := Nat.lt_of_lt_of_le (dnum_lt l h) (ten_bp _)
theorem Dig.take {l : List Nat} (h : Dig l) (k : Nat) : Dig (l.take k) := fun x hx => h x (List.mem_of_mem_take hx)

set_option maxRecDepth 100000 in
set_option maxHeartbeats 2000000 in
theorem rnumber_k {w : World} {l : List Nat} (hd : Dig l) (hlen : l.length ≤ 67108864) :
    Calls Tryz.prog 31 #[.string (tx l)] w (Gv w l.length (toL (dnum l))) := by
  have hsz := tx_size l
  have hb := hd.byt
  have HDG : Hid (Dig l) := hd
  clear hd
  obtain ⟨w1, hw1, se, b1⟩ : ∃ w1, w1 = w.alloc (.cells #[] 40) ∧ Sl w1.heap.size w1 (some ⟨w.heap.size, 0, none⟩) 0 0 [] ∧ Below w.heap.size w w1 :=
    ⟨_, rfl, ⟨rfl, Nat.le_refl _, Lim.nil, fun h => absurd h (Nat.lt_irrefl _), fun h => by simp at h⟩, (Below.refl _ _).alloc (Nat.le_refl _) _⟩
  obtain ⟨sT, b2⟩ := lit1 w1 1 [10] #[.int .u32 10] rfl (Lim.mk (by omega) Lim.nil) rfl
  have hz1 : w1.heap.size = w.heap.size + 1 := by rw [hw1]; simp
  have se2 := se.later b2
  have bb := b1.trans (b2.mono b1.size)
  go_enter Tryz.func31, Tryz.ntmps31
  go_wp2
  rw [← hw1]
  rw [← hz1]
  clear hw1 hz1 se b1 b2
  generalize w1.alloc (.cells #[.int .u32 10] 40) = w2 at *
  generalize w1.heap.size = gT at *
  obtain ⟨g0, hg0⟩ : ∃ g0, g0 = w.heap.size := ⟨_, rfl⟩
  have HG : Hid (w.heap.size = g0) := hg0.symm
  rw [← hg0] at bb se2 ⊢
  clear hg0
  have BB : Hid _ := bb
  have SE : Hid _ := se2
  have ST : Hid _ := sT
  clear bb se2 sT
  go_loopw [3, 5] (fun sv iv wr => ∃ k ao n1 c1, k ≤ l.length ∧ sv = .slice ao n1 c1 ∧ iv = .int .i64 ((k : Nat) : Int) ∧ Below g0 w wr ∧ Sl wr.heap.size wr ao n1 c1 (toL (dnum (l.take k))) ∧ n1 ≤ k ∧ Sl wr.heap.size wr (some ⟨gT, 0, none⟩) 1 1 [10] ∧ g0 ≤ wr.heap.size) (fun _ iv _ => l.length - (intOf iv).toNat)
  case atStart => exact ⟨0, _, 0, 0, Nat.zero_le _, rfl, rfl, BB.out, SE.out, Nat.le_refl _, ST.out, by rw [← HG.out]; exact Below.size (B := g0) (w := w) BB.out⟩
  case round =>
    obtain ⟨k, ao, n1, c1, hk, rfl, rfl, hbl, so, hn1, sT, hg0⟩ := hrel
    clear BB SE ST
    by_cases hlt : k < l.length
    · have hix := fun u => idx_run hb hlt u
      obtain ⟨c, hcc⟩ : ∃ c, l.getD k 0 = c := ⟨_, rfl⟩
      have hc : 48 ≤ c ∧ c ≤ 57 := by
        rw [← hcc, List.getD_eq_getElem?_getD, List.getElem?_eq_getElem hlt]
        exact isd_iff.1 (HDG.out _ (List.getElem_mem hlt))
      rw [hcc] at hix
      have HST : Hid (dnum (l.take (k + 1)) = dnum (l.take k) * 10 + (c - 48)) := by
        show dnum (l.take (k + 1)) = _
        rw [dnum_take hlt, hcc]
      have HBD : Hid (dnum (l.take (k + 1)) < Bp (k + 1)) := by
        have := dnum_bd (Dig.take (l := l) HDG.out (k + 1))
        rwa [List.length_take, Nat.min_eq_left (by omega)] at this
      clear hcc
      generalize dnum (l.take k) = D at *
      have hcw2 : IntKind.u32.wrap (c : Int) = (c : Int) := by rw [IntKind.wrap_u32]; omega
      have hcw : IntKind.u32.wrap ((c : Int) - 48) = ((c - 48 : Nat) : Int) := by rw [IntKind.wrap_u32]; omega
      go_wp2
      have HLst : Lst [VV (.slice ao n1 c1), VV (.slice (some ⟨gT, 0, none⟩) 1 1), VN (D * 10) (k + 1), VV (.string (tx l)), VV (.int .i64 ((k : Nat) : Int)), VV (.int .u8 ((c : Nat) : Int)), VV (.int .u32 ((c : Nat) : Int)), VV (.int .u32 ((c - 48 : Nat) : Int)), VSl [c - 48] 1, VN (D * 10 + (c - 48)) (k + 2)] := ⟨VV.lasts _, VV.lasts _, VN.lasts _ _, VV.lasts _, VV.lasts _, VV.lasts _, VV.lasts _, VV.lasts _, VSl.lasts _ _, VN.lasts _ _, trivial⟩
      refine wp_region_kahn 10 26 [([], [3]), ([], [4]), ([(0, 14), (1, 15)], []), ([], [0]), ([], [5]), ([(3, 17), (4, 18)], []), ([(5, 19)], []), ([(6, 20)], []), ([(7, 21)], []), ([(2, 16), (8, 22)], [])]
        (fun u => Below wr.heap.size wr u) (fun u u' => Below u.heap.size u u')
        (Sp [VV (.slice ao n1 c1), VV (.slice (some ⟨gT, 0, none⟩) 1 1), VN (D * 10) (k + 1), VV (.string (tx l)), VV (.int .i64 ((k : Nat) : Int)), VV (.int .u8 ((c : Nat) : Int)), VV (.int .u32 ((c : Nat) : Int)), VV (.int .u32 ((c - 48 : Nat) : Int)), VSl [c - 48] 1, VN (D * 10 + (c - 48)) (k + 2)])
        (by kernel_rfl) rfl (by kernel_rfl) (Below.refl _ _).drew (fun k v u u' _ hg hs => Sp.lasts HLst k v u u' hg hs) ?_ ?_
      · refine ⟨.inl ⟨by simp, fun ρ u hC hc hf hd ho => ?_⟩, .inl ⟨by simp, fun ρ u hC hc hf hd ho => ?_⟩, .inl ⟨by simp, fun ρ u hC hc hf hd ho => ?_⟩, .inl ⟨by simp, fun ρ u hC hc hf hd ho => ?_⟩, .inl ⟨by simp, fun ρ u hC hc hf hd ho => ?_⟩, .inl ⟨by simp, fun ρ u hC hc hf hd ho => ?_⟩, .inl ⟨by simp, fun ρ u hC hc hf hd ho => ?_⟩, .inl ⟨by simp, fun ρ u hC hc hf hd ho => ?_⟩, .inl ⟨by simp, fun ρ u hC hc hf hd ho => ?_⟩, .inl ⟨by simp, fun ρ u hC hc hf hd ho => ?_⟩, trivial⟩
        · have e3 : ρ (.tmp 3) = .slice ao n1 c1 := ho 3 (by simp)
          refine Goes.pure (.slice ao n1 c1) ?_ ⟨hC, Below.refl _ _, rfl⟩
          unfold Goes
          go_simp
        · have e4 : ρ (.tmp 4) = .slice (some ⟨gT, 0, none⟩) 1 1 := ho 4 (by simp)
          refine Goes.pure (.slice (some ⟨gT, 0, none⟩) 1 1) ?_ ⟨hC, Below.refl _ _, rfl⟩
          unfold Goes
          go_simp
        · have e14 : ρ (.tmp 14) = .slice ao n1 c1 := hd (0, 14) (by simp)
          have e15 : ρ (.tmp 15) = .slice (some ⟨gT, 0, none⟩) 1 1 := hd (1, 15) (by simp)
          refine Goes.call 32 #[.slice ao n1 c1, .slice (some ⟨gT, 0, none⟩) 1 1] (by go_simp) ?_
          refine Calls.mono (rmul_k (so.later hC) (sT.later hC) k 1 hn1 (by omega) (by omega) (by omega)) ?_
          rintro e u' ⟨ro, rn, rc, rfl, sr, lr, lb⟩
          exact ⟨_, rfl, hC.trans (lb.mono hC.size), lb, ⟨ro, rn, rc, rfl, by rw [val_toL, show val [10] = 10 from rfl] at sr; exact sr, lr⟩⟩
        · have e0 : ρ (.tmp 0) = .string (tx l) := ho 0 (by simp)
          refine Goes.pure (.string (tx l)) ?_ ⟨hC, Below.refl _ _, rfl⟩
          unfold Goes
          go_simp
        · have e5 : ρ (.tmp 5) = .int .i64 ((k : Nat) : Int) := ho 5 (by simp)
          refine Goes.pure (.int .i64 ((k : Nat) : Int)) ?_ ⟨hC, Below.refl _ _, rfl⟩
          unfold Goes
          go_simp
        · have e17 : ρ (.tmp 17) = .string (tx l) := hd (3, 17) (by simp)
          have e18 : ρ (.tmp 18) = .int .i64 ((k : Nat) : Int) := hd (4, 18) (by simp)
          refine Goes.pure (.int .u8 ((c : Nat) : Int)) ?_ ⟨hC, Below.refl _ _, rfl⟩
          unfold Goes
          go_simp
        · have e19 : ρ (.tmp 19) = .int .u8 ((c : Nat) : Int) := hd (5, 19) (by simp)
          refine Goes.pure (.int .u32 ((c : Nat) : Int)) ?_ ⟨hC, Below.refl _ _, rfl⟩
          unfold Goes
          go_simp
        · have e20 : ρ (.tmp 20) = .int .u32 ((c : Nat) : Int) := hd (6, 20) (by simp)
          refine Goes.pure (.int .u32 ((c - 48 : Nat) : Int)) ?_ ⟨hC, Below.refl _ _, rfl⟩
          unfold Goes
          go_simp
        · have e21 : ρ (.tmp 21) = .int .u32 ((c - 48 : Nat) : Int) := hd (7, 21) (by simp)
          obtain ⟨sl, lb⟩ := lit1 u 1 [c - 48] #[.int .u32 ((c - 48 : Nat) : Int)] rfl (Lim.mk (by omega) Lim.nil) rfl
          refine Goes.run (.slice (some ⟨u.heap.size, 0, none⟩) 1 1) (u.alloc (.cells #[.int .u32 ((c - 48 : Nat) : Int)] 40)) (by go_simp) ⟨hC.trans (lb.mono hC.size), lb, ⟨_, 1, 1, rfl, sl, Nat.le_refl _⟩⟩
        · obtain ⟨o16, n16, c16, e16, k16, j16⟩ : VN (D * 10) (k + 1) (ρ (.tmp 16)) u := hd (2, 16) (by simp)
          obtain ⟨o22, n22, c22, e22, k22, j22⟩ : VSl [c - 48] 1 (ρ (.tmp 22)) u := hd (8, 22) (by simp)
          refine Goes.call 59 #[.slice o16 n16 c16, .slice o22 n22 c22] (by go_simp) ?_
          refine Calls.mono (radd_k k16 k22 (k + 1) j16 (by omega) (by omega)) ?_
          rintro e u' ⟨ro, rn, rc, rfl, sr, lr, lb⟩
          exact ⟨_, rfl, hC.trans (lb.mono hC.size), lb, ⟨ro, rn, rc, rfl, by rw [val_toL, show val [c - 48] = c - 48 from by simp [val]] at sr; exact sr, lr⟩⟩
      · intro vs u hC hv
        obtain ⟨ro, rn, rc, e23, sr, lr⟩ : VN (D * 10 + (c - 48)) (k + 2) (vs 9) u := hv 9 (by omega)
        clear hv
        simp only [puts, List.take, List.drop, Act.put, List.setIfInBounds_toArray, List.set_cons_succ, List.set_cons_zero, Nat.reduceAdd, e23]
        replace sT := sT.later hC
        replace hbl := hbl.trans (hC.mono hg0)
        have hg2 := Nat.le_trans hg0 hC.size
        rw [← HST.out] at sr
        have hrn := sr.ln HBD.out
        clear so hC
        go_wp2
        go_roundw
        case rel => exact ⟨k + 1, ro, rn, rc, by omega, rfl, by go_num, hbl, sr, hrn, sT, hg2⟩
        case measure => simp [intOf]; omega
    · obtain rfl : k = l.length := by omega
      have HBD : Hid (dnum l < Bp l.length) := dnum_bd HDG.out
      rw [List.take_length] at so
      go_wp2_with fail
      refine (rnorm_k so l.length hn1 (by omega)).mono ?_
      rintro e w9 ⟨ro, rn, rc, rfl, sr, lr, lb⟩
      rw [val_toL] at sr
      have hb9 := hbl.trans (lb.mono hg0)
      go_wp2
      go_ret
      exact ⟨ro, rn, rc, rfl, sr, lr, by rw [HG.out]; exact hb9⟩
end Go.Proofs.YtmfpnlhpdjabeaaGreatDoor

/- Own rows of bytes; string(..) of one. -/
namespace Go.Proofs.YtmfpnlhpdjabeaaGreatDoor
open Go.RowKit M

/-- The slice value v is the call's own (its block is from B on), and holds the bytes zs; nothing but bytes lies in its block. -/
structure Oy (B : Nat) (w : World) (v : Value) (zs : List Nat) : Prop where
  byt : Byt zs
  row : ∃ g cap cur, v = .slice (some ⟨g, 0, none⟩) zs.length cap ∧ B ≤ g ∧ w.heap[g]? = some (.cells cur 5 (0, 0)) ∧ zs.length ≤ cap ∧ cap ≤ maxLen ∧ cur.size = cap ∧ cur.toList.take zs.length = (zs.map fun x : Nat => Value.int .u8 (x : Int)) ∧ ∀ v ∈ cur.toList, ∃ x : Int, v = .int .u8 x
theorem info8 : (Tryz.prog.info? 5).map (fun i => (i.zero, i.size, i.bytes)) = some (some (.int .u8 0), 1, 1) := by kernel_rfl
theorem Oy.start (w : World) : Oy w.heap.size (w.alloc (.cells #[] 5)) (.slice (some ⟨w.heap.size, 0, none⟩) 0 0) [] :=
  ⟨Byt.nil, w.heap.size, 0, #[], rfl, Nat.le_refl _, heap_alloc_new _ _, Nat.le_refl _, by unfold maxLen; omega, rfl, rfl, fun v hv => by cases hv⟩
theorem Oy.keep {B : Nat} {w w' : World} {v : Value} {zs : List Nat} (h : Oy B w v zs) (hb : ∀ k, v.ownBlock = some k → w'.heap[k]? = w.heap[k]?) : Oy B w' v zs := by
  obtain ⟨g, cap, cur, h1, h2, h3, r⟩ := h.row
  exact ⟨h.byt, g, cap, cur, h1, h2, by rw [hb g (by rw [h1]; rfl)]; exact h3, r⟩
theorem Oy.lt {B : Nat} {w : World} {v : Value} {zs : List Nat} (h : Oy B w v zs) : ∀ k, v.ownBlock = some k → B ≤ k ∧ k < w.heap.size := by
  obtain ⟨g, cap, cur, h1, h2, h3, r⟩ := h.row
  intro k hk
  rw [h1] at hk
  simp only [Value.ownBlock, Option.some.injEq] at hk
  subst hk
  exact ⟨h2, (Array.getElem?_eq_some_iff.1 h3).1⟩
theorem Oy.later {B : Nat} {w w' : World} {v : Value} {zs : List Nat} (h : Oy B w v zs) (hb : Below w.heap.size w w') : Oy B w' v zs := h.keep fun k hk => hb.block k (h.lt k hk).2
/-- Its parts. -/
theorem Oy.inv {B : Nat} {w : World} {v : Value} {zs : List Nat} (h : Oy B w v zs) : ∃ g cap, v = .slice (some ⟨g, 0, none⟩) zs.length cap ∧ zs.length ≤ cap ∧ ∀ i, i < zs.length → w.cell? ⟨g, i, none⟩ = some (.int .u8 ((zs.getD i 0 : Nat) : Int)) := by
  obtain ⟨g, cap, cur, h1, h2, h3, h4, h5, h6, h7, h8⟩ := h.row
  refine ⟨g, cap, h1, h4, fun i hi => ?_⟩
  rw [cell_of_row w g i _ _ _ h3]
  have : (cur.toList.take zs.length)[i]? = some (.int .u8 ((zs.getD i 0 : Nat) : Int)) := by
    rw [h7, List.getElem?_map, List.getElem?_eq_getElem hi, List.getD_eq_getElem?_getD, List.getElem?_eq_getElem hi]; rfl
  rw [List.getElem?_take_of_lt hi] at this
  simpa using this
/-- A row of limbs lies in no row of bytes. -/
theorem Sl.grownB {u u' : World} {B n cap : Nat} {ao : Option Addr} {xs zs : List Nat} {v : Value} (h : Sl u.heap.size u ao n cap xs) (ho : Oy B u v zs) (hg : u.grownBy u' v.ownBlock) : Sl u'.heap.size u' ao n cap xs := by
  obtain ⟨g, cap', cur, h1, h2, h3, h4, h5, h6, h7, h8⟩ := ho.row
  refine ⟨h.len, h.le, h.lim, fun h0 => ?_, h.nilc⟩
  obtain ⟨b, o, e1, e2, e3⟩ := h.there h0
  have hne : b ≠ g := by
    intro he
    subst he
    have hc := e3 0 h0
    rw [Nat.add_zero, cell_of_row u b o _ _ _ h3] at hc
    obtain ⟨x, hx⟩ := h8 _ (Array.mem_toList_iff.2 (Array.mem_of_getElem? hc))
    simp at hx
  refine ⟨b, o, e1, Nat.lt_of_lt_of_le e2 hg.size, fun i hi => ?_⟩
  rw [World.cell?_of_block (w := u) (a := ⟨b, o + i, none⟩) (hg.block b e2 (by rw [h1]; simp [Value.ownBlock]; exact fun e => hne e))]
  exact e3 i hi

/-- 'append(out, x)', of bytes. -/
theorem run_appB {w : World} {B : Nat} {v : Value} {zs : List Nat} (y : Nat) (hown : Oy B w v zs) (hy : y < 256) (hlen : zs.length ≤ 1099511627776) (ad : Addr) (hc : w.cell? ad = some (.int .u8 (y : Int))) (ty : TypeId) (hB : B ≤ w.heap.size) :
    ∃ v' w', (Builtin.append_ #[35, 35] ty #[v, .slice (some ad) 1 1]).run Tryz.prog w = .ok v' w' ∧ Oy B w' v' (zs ++ [y]) ∧ w.grownBy w' v.ownBlock := by
  obtain ⟨i0, hi, hz0, hz1, hz2⟩ := info_parts info8
  obtain ⟨g, cap, cur, h1, h2, h3, h4, h5, h6, h7, h8⟩ := hown.row
  subst h1
  have hcell : ∀ j u, [Value.int .u8 (y : Int)][j]? = some u → w.cell? (ad.add j) = some u := by
    intro j u hj
    match j, hj with
    | 0, hj => simp at hj; subst hj; simpa [Addr.add] using hc
  have hone : ∀ u ∈ [Value.int .u8 (y : Int)], u.oneCell' = true := by intro u hu; simp at hu; subst hu; rfl
  have hb := hown.byt.append (Byt.mk hy Byt.nil)
  have hll : (zs ++ [y]).length = zs.length + 1 := by simp
  by_cases hroom : zs.length + 1 ≤ cap
  · have he := run_append_room (P := Tryz.prog) w 35 ty 5 i0 Tryz.underlying35 hi g zs.length cap cur h3 ad 1 1 [.int .u8 (y : Int)] (by rw [hz1]; rfl) hcell hone hroom (by rw [hz1]; simp; omega)
    rw [hz1, Nat.mul_one] at he
    refine ⟨_, _, he, ⟨hb, g, cap, _, by rw [hll], h2, setRow_heap w g cur _ _ _ h3, by rw [hll]; exact hroom, h5, ?_, ?_, ?_⟩, ⟨rfl, rfl, rfl, by simp, fun k _ hk => setRow_other w g k _ (fun e => hk (by simp [Value.ownBlock, e]))⟩⟩
    · simp; omega
    · rw [hll, List.toList_toArray, List.map_append, ← h7]
      have hl : (cur.toList.take zs.length ++ [Value.int .u8 (y : Int)]).length = zs.length + 1 := by simp; omega
      rw [← hl, List.take_left]
      rfl
    · intro u hu
      simp only [List.mem_append, List.mem_singleton] at hu
      rcases hu with (hu | hu) | hu
      · exact h8 u (List.mem_of_mem_take hu)
      · exact ⟨_, hu⟩
      · exact h8 u (List.mem_of_mem_drop hu)
  · have hfits := growslice_fits (need := zs.length + 1) (old := cap) (bytes := 1) (by omega) (by omega)
    have he := run_append_grow (P := Tryz.prog) w 35 ty 5 i0 (.int .u8 0) Tryz.underlying35 hi hz0 ⟨g, 0, none⟩ zs.length cap (zs.map fun x : Nat => Value.int .u8 (x : Int)) (by rw [hz1]; simp) (by
      intro j u hj
      obtain ⟨g', cap', e1, _, e3⟩ := hown.inv
      simp only [Value.slice.injEq, Option.some.injEq, Addr.mk.injEq] at e1
      obtain ⟨⟨rfl, _⟩, _⟩ := e1
      have hjl : j < zs.length := by
        by_cases h : j < zs.length
        · exact h
        · rw [List.getElem?_eq_none (by simp; omega)] at hj; cases hj
      have hadd : (⟨g, 0, none⟩ : Addr).add j = ⟨g, j, none⟩ := by unfold Addr.add; split <;> simp_all
      rw [hadd, e3 j hjl]
      rw [List.getElem?_map, List.getElem?_eq_getElem hjl] at hj
      simp at hj
      rw [← hj, List.getD_eq_getElem?_getD, List.getElem?_eq_getElem hjl]
      rfl) ad 1 1 [.int .u8 (y : Int)] (by rw [hz1]; rfl) hcell (by omega) (by omega) (by rw [hz2]; exact hfits)
    have hge := grownCap_ge w (zs.length + 1) cap 5
    have hcm : grownCap w (zs.length + 1) cap 5 ≤ maxLen := grownCap_le_maxLen w (zs.length + 1) cap 5 (by unfold maxLen; omega)
    refine ⟨_, _, he, ⟨hb, w.heap.size, _, _, by rw [hll], hB, heap_alloc_new w.drew _, by rw [hll]; exact hge, hcm, ?_, ?_, ?_⟩, ⟨rfl, rfl, rfl, by simp, fun k hk _ => heap_alloc_old w.drew _ hk⟩⟩
    · simp [size_zeroCells, Value.cells]; omega
    · rw [hll, List.map_append]
      have hl : ((zs.map fun x : Nat => Value.int .u8 (x : Int)) ++ [Value.int .u8 (y : Int)]).length = zs.length + 1 := by simp
      rw [Array.toList_append, Array.toList_append, List.toList_toArray, ← hl, List.take_left]
      rfl
    · intro u hu
      rw [Array.toList_append, Array.toList_append] at hu
      simp only [List.mem_append] at hu
      rcases hu with (hu | hu) | hu
      · obtain ⟨x, _, rfl⟩ := List.mem_map.1 hu
        exact ⟨_, rfl⟩
      · exact ⟨_, List.mem_singleton.1 hu⟩
      · simp [Builtin.zeroCells, Value.cells] at hu
        obtain ⟨k, _, h⟩ := hu
        rw [Nat.mod_one] at h
        exact ⟨0, h.symm⟩

section
variable {ops : Array Oper} {rest : List Oper} {o : Oper} {a : Act} {Q : Exit → Act → World → Prop}
theorem wp_appB {w : World} (hgd : o.guard = none) (s x : Operand) (ho : o.op = .call { callee := .builtin .append, args := #[s, x], argTypes := #[35, 35] })
    {B : Nat} {v : Value} {zs : List Nat} (y : Nat) (Y : Int) (hown : Oy B w v zs) (hs : a.eval s = v) (hx : a.eval x = .slice (some ⟨w.heap.size, 0, none⟩) 1 1)
    (hY : Y = (y : Int)) (hy : y < 256) (hlen : zs.length ≤ 1099511627776) (hB : B ≤ w.heap.size)
    (h : ∀ v' w', Oy B w' v' (zs ++ [y]) → Below B w w' → (∀ (ao : Option Addr) (n cap : Nat) (xs : List Nat), Sl w.heap.size w ao n cap xs → Sl w'.heap.size w' ao n cap xs) → wpList Tryz.prog ops Q rest (a.put o.dst v') w') :
    wpList Tryz.prog ops Q (o :: rest) a (w.alloc (.cells #[.int .u8 Y] 5)) := by
  subst hY
  have bl : Below w.heap.size w (w.alloc (.cells #[.int .u8 (y : Int)] 5)) := (Below.refl _ _).alloc (Nat.le_refl _) _
  have hown2 := hown.later bl
  obtain ⟨v', w', hr, ho', hg⟩ := run_appB y hown2 hy hlen ⟨w.heap.size, 0, none⟩ (by simp) o.type (Nat.le_trans hB bl.size)
  refine wpList_plain hgd fun K hK => ?_
  unfold Oper.wp execOp
  simp only [ho, resolve, invoke, builtin, Sem.run_bind, Sem.run_pure, Result.andThen_ok, List.map_toArray, List.map_cons, List.map_nil, hs, hx, hr]
  exact hK _ _ (h v' w' ho' (((Below.refl B w).trans (bl.mono hB)).grown hg (Nat.le_trans hB bl.size) (fun k hk => (hown2.lt k hk).1)) (fun ao n cap xs hsl => (hsl.later bl).grownB hown2 hg))
end

theorem push_tx : ∀ (zs ys : List Nat), (zs.map fun x : Nat => (x : Int)).foldl (fun r n => r.push (UInt8.ofNat n.toNat)) (tx ys) = tx (ys ++ zs)
  | [], ys => by simp
  | z :: zs, ys => by
    rw [List.map_cons, List.foldl_cons]
    have : (tx ys).push (UInt8.ofNat ((z : Int)).toNat) = tx (ys ++ [z]) := by
      unfold tx
      rw [Int.toNat_natCast]
      simp [ByteArray.push]
    rw [this, push_tx zs (ys ++ [z]), List.append_assoc]
    rfl
/-- 'string(b)'. -/
theorem string_run {B : Nat} {w : World} {v : Value} {zs : List Nat} (h : Oy B w v zs) : (convert 35 9 v).run Tryz.prog w = .ok (.string (tx zs)) w := by
  obtain ⟨g, cap, hv, _, hc⟩ := h.inv
  subst hv
  rw [run_convert_bytes_string w 35 9 5 _ _ _ Tryz.underlying35 Tryz.underlying5 Tryz.underlying9]
  have hl : (loadCells ⟨g, 0, none⟩ zs.length).run Tryz.prog w = .ok ((zs.map fun x : Nat => (x : Int)).map (Value.int .u8)).toArray w := by
    have hr := run_loadCells_list (P := Tryz.prog) (w := w) ⟨g, 0, none⟩ (zs.map fun x : Nat => Value.int .u8 (x : Int)) (by
      intro j u hj
      have hjl : j < zs.length := by
        by_cases h : j < zs.length
        · exact h
        · rw [List.getElem?_eq_none (by simp; omega)] at hj; cases hj
      have hadd : (⟨g, 0, none⟩ : Addr).add j = ⟨g, j, none⟩ := by unfold Addr.add; split <;> simp_all
      rw [hadd, hc j hjl]
      rw [List.getElem?_map, List.getElem?_eq_getElem hjl] at hj
      simp at hj
      rw [← hj, List.getD_eq_getElem?_getD, List.getElem?_eq_getElem hjl]
      rfl)
    rw [List.length_map] at hr
    rw [hr, List.map_map]
    rfl
  rw [run_bytesToString (P := Tryz.prog) w _ _ cap _ hl]
  have := push_tx zs []
  rw [List.nil_append] at this
  rw [← this]
  rfl

set_option maxRecDepth 100000 in
set_option maxHeartbeats 2000000 in
theorem rnatural_k {w : World} {ao : Option Addr} {n cap : Nat} {xs : List Nat} (h : Sl w.heap.size w ao n cap xs) (hn : n ≤ 67108864) :
    Calls Tryz.prog 15 #[.slice ao n cap] w fun e w' => e = .returned (.string (tx (dec (val xs)))) ∧ Below w.heap.size w w' := by
  by_cases h0 : val xs = 0
  · have HE : Hid (tx (dec (val xs)) = ⟨#[48]⟩) := by show tx (dec (val xs)) = ⟨#[48]⟩; rw [h0]; rfl
    have hz := zero_any w ao n cap xs h (by omega)
    rw [h0, cmpN_eq rfl] at hz
    clear h0
    go_enter Tryz.func15, Tryz.ntmps15
    go_wp2_with fail
    refine hz.mono ?_
    rintro e w1 ⟨rfl, rfl⟩
    go_wp2
    go_ret
    exact ⟨by rw [HE.out]; rfl, Below.refl _ _⟩
  · have HE : Hid (dec (val xs) = decf (val xs) (val xs)) := by show dec (val xs) = _; unfold dec; rw [if_neg h0]
    have H0 : Hid (val xs ≠ 0) := h0
    have hz := zero_any w ao n cap xs h (by omega)
    have hzb : (cmpN (val xs) 0 == 0) = false := by rw [cmpN_gt (by omega)]; rfl
    rw [hzb] at hz
    have HL : Hid (val xs < 10 ^ (10 * n)) := Nat.lt_of_lt_of_le h.lt (Bp_ten n)
    clear hzb h0
    obtain ⟨A, hA⟩ : ∃ A, A = val xs := ⟨_, rfl⟩
    rw [← hA] at HE H0 HL ⊢
    rw [HE.out]
    have HE2 : Hid (decf A A = decf (val xs) (val xs) ++ ([] : List Nat).reverse) := by show decf A A = _; rw [← hA]; simp
    clear hA
    have ow0 := Oy.start w
    have b0 : Below w.heap.size w (w.alloc (.cells #[] 5)) := (Below.refl _ _).alloc (Nat.le_refl _) _
    have h1 := h.later b0
    go_enter Tryz.func15, Tryz.ntmps15
    go_wp2_with fail
    refine hz.mono ?_
    rintro e w1 ⟨rfl, rfl⟩
    clear hz
    go_wp2
    obtain ⟨B, hB⟩ : ∃ B, B = w.heap.size := ⟨_, rfl⟩
    have HB : Hid (w.heap.size = B) := hB.symm
    rw [← hB] at ow0 b0 ⊢
    clear hB
    have hg0 : B ≤ (w.alloc (.cells #[] 5)).heap.size := by rw [← HB.out]; exact Below.size b0
    generalize w.alloc (.cells #[] 5) = w1 at *
    go_loopg [0, 3] (val xs) (fun gk av sv wr => ∃ ao n1 cap us ds, av = .slice ao n1 cap ∧ Sl wr.heap.size wr ao n1 cap us ∧ n1 ≤ n ∧ Oy B wr sv ds ∧ Below B w wr ∧ B ≤ wr.heap.size ∧ Hid (decf A A = decf (val us) (val us) ++ ds.reverse) ∧ Hid (gk = val us))
    case atStart => exact ⟨ao, n, cap, xs, [], rfl, h1, Nat.le_refl _, ow0, b0, hg0, HE2, rfl⟩
    case round =>
      clear h1 ow0 b0 hg0 HE2 h
      obtain ⟨ao, n1, cap, us, ds, rfl, su, hn1, how, hbl, hgB, HI, HK⟩ := hrel
      have hz := zero_any wr ao n1 cap us su (by omega)
      have hdl : ds.length ≤ 10 * n := by
        have h1 := congrArg List.length HI.out
        rw [List.length_append, List.length_reverse] at h1
        have h2 := decf_len A (10 * n) HL.out
        omega
      by_cases h0 : val us = 0
      · rw [h0, cmpN_eq rfl] at hz
        have HR : Hid (decf A A = ds.reverse) := by show decf A A = ds.reverse; rw [HI.out, h0]; rfl
        have HDS : Hid (ds.reverse.length = ds.length) := List.length_reverse
        obtain ⟨gS, capS, hvS, hcapS, _⟩ := how.inv
        subst hvS
        generalize hm : ds.length = m at *
        have HM : Hid (ds.length = m) := hm
        clear hm
        obtain ⟨wo, rfl⟩ : ∃ wo, wo = wr := ⟨_, rfl⟩
        have o0 := Oy.start wo
        have bz : Below wo.heap.size wo (wo.alloc (.cells #[] 5)) := (Below.refl _ _).alloc (Nat.le_refl _) _
        have hmb : (m : Int) - 1 ≤ 9223372036854775807 := by omega
        clear HI HK
        go_wp2_with fail
        refine hz.mono ?_
        rintro e w2 ⟨rfl, rfl⟩
        clear hz
        go_wp2
        obtain ⟨B2, hB2⟩ : ∃ B2, B2 = wo.heap.size := ⟨_, rfl⟩
        have HB2 : Hid (wo.heap.size = B2) := hB2.symm
        rw [← hB2] at o0 bz ⊢
        have hz2 : B2 ≤ (wo.alloc (.cells #[] 5)).heap.size := by rw [hB2]; exact bz.size
        clear hB2
        generalize wo.alloc (.cells #[] 5) = w3 at *
        go_loopw [8, 9] (fun ov iv wr => ∃ k os, k ≤ m ∧ iv = .int .i64 (((k : Nat) : Int) - 1) ∧ Below B2 wo wr ∧ B2 ≤ wr.heap.size ∧ Oy B2 wr ov os ∧ Hid (os = ds.reverse.take (m - k))) (fun _ iv _ => (intOf iv + 1).toNat)
        case atStart => exact ⟨m, [], Nat.le_refl _, rfl, bz, hz2, o0, by show [] = _; rw [Nat.sub_self, List.take_zero]⟩
        case round =>
          clear o0 bz hz2
          obtain ⟨k, os, hk, rfl, hblq, hB2q, hoq, HO⟩ := hrel
          have hwq : Below wo.heap.size wo wr := by rw [HB2.out]; exact hblq
          by_cases hk0 : k = 0
          · subst hk0
            have HF : Hid (os = decf A A) := by
              show os = decf A A
              rw [HO.out, HR.out, List.take_of_length_le (by rw [HDS.out]; omega)]
            have hcv := string_run hoq
            have hbf := hbl.trans (hwq.mono hgB)
            go_wp2
            go_ret
            exact ⟨by rw [HF.out]; rfl, by rw [HB.out]; exact hbf⟩
          · obtain ⟨j, rfl⟩ : ∃ j, k = j + 1 := ⟨k - 1, by omega⟩
            rw [show ((j + 1 : Nat) : Int) - 1 = (j : Int) from by omega]
            obtain ⟨gS', capS', e1, _, hcS⟩ := (how.later hwq).inv
            simp only [Value.slice.injEq, Option.some.injEq, Addr.mk.injEq] at e1
            obtain ⟨⟨rfl, _⟩, he1, rfl⟩ := e1
            clear he1
            have hcj := hcS j (by rw [HM.out]; omega)
            have hcb := how.byt.get j
            obtain ⟨x, hx⟩ : ∃ x, ds.getD j 0 = x := ⟨_, rfl⟩
            rw [hx] at hcj hcb
            have HO2 : Hid (os ++ [x] = ds.reverse.take (m - j)) := by
              show os ++ [x] = _
              have hlt : m - (j + 1) < ds.reverse.length := by rw [HDS.out]; omega
              rw [HO.out, show m - j = m - (j + 1) + 1 from by omega, List.take_add_one, List.getElem?_eq_getElem hlt]
              congr 1
              rw [List.getElem_reverse]
              have hjl : j < ds.length := by rw [HM.out]; omega
              rw [List.getD_eq_getElem?_getD, List.getElem?_eq_getElem hjl] at hx
              simp only [Option.getD_some] at hx
              rw [← hx]
              simp only [Option.toList]
              congr 2
              rw [HM.out]
              omega
            have hol : os.length ≤ 1099511627776 := by
              rw [HO.out, List.length_take]
              omega
            clear hcS hx
            go_wp2_with (at_builtin; refine wp_appB rfl _ _ rfl x _ hoq rfl rfl (by omega) (by omega) hol hB2q ?_; intro v' w5 hv hb5 _)
            go_roundw
            case rel => exact ⟨j, _, by omega, rfl, hblq.trans hb5, Nat.le_trans hB2q hb5.size, hv, HO2⟩
            case measure => simp [intOf]
      · have hzb : (cmpN (val us) 0 == 0) = false := by rw [cmpN_gt (by omega)]; rfl
        rw [hzb] at hz
        have HT : Hid (decf A A = decf (val us / 10) (val us / 10) ++ (ds ++ [48 + val us % 10]).reverse) := by
          show decf A A = _
          rw [HI.out, dec_ten h0]
          simp
        have HK2 : Hid (val us / 10 < gk) := by show val us / 10 < gk; rw [HK.out]; omega
        obtain ⟨sT, bT⟩ := lit1 wr 1 [10] #[.int .u32 10] rfl (Lim.mk (by omega) Lim.nil) rfl
        have su1 := su.later bT
        have how1 := how.later bT
        have hbl1 := hbl.trans (bT.mono hgB)
        have hgB1 := Nat.le_trans hgB bT.size
        clear hzb HI HK how hbl
        go_wp2_with fail
        refine hz.mono ?_
        rintro e w2 ⟨rfl, rfl⟩
        clear hz
        go_wp2_with fail
        have hg1 : wr.heap.size < (wr.alloc (.cells #[.int .u32 10] 40)).heap.size := by simp
        generalize wr.alloc (.cells #[.int .u32 10] 40) = w2 at *
        refine (rdivMod_any w2 ao _ n1 cap 1 1 us [10] su1 sT (by omega) (by omega) (by show (10 : Nat) ≠ 0; omega)).mono ?_
        rintro e w3 ⟨qo, qn, qc, ro, rn, rc, rfl, sq, sr, b3⟩
        rw [show val [10] = 10 from rfl] at sq sr
        have hqn : qn ≤ n := sq.ln (Nat.lt_of_le_of_lt (Nat.div_le_self _ _) (su1.bd hn1))
        have how3 := how1.later b3
        have hbl3 := hbl1.trans (b3.mono hgB1)
        have hgB3 := Nat.le_trans hgB1 b3.size
        have hv1 : val (toL (val us / 10)) = val us / 10 := val_toL _
        have HV1 : Hid _ := hv1
        clear su su1 how1 hbl1 sT hgB hgB1 b3 bT hg1 hv1
        by_cases hr0 : val us % 10 = 0
        · rw [hr0] at sr
          obtain rfl : rn = 0 := by rw [← sr.len]; rfl
          rw [hr0] at HT
          clear sr hr0 h0
          go_wp2_with (at_builtin; refine wp_appB rfl _ _ rfl 48 _ how3 rfl rfl (by omega) (by omega) (by omega) hgB3 ?_; intro v' w5 hv hb5 hsl5)
          have hbl5 := hbl3.trans hb5
          go_roundg (val us / 10)
          case measure => exact HK2.out
          case rel => exact ⟨qo, qn, qc, _, _, rfl, hsl5 _ _ _ _ sq, hqn, hv, hbl5, Nat.le_trans hgB3 hb5.size, by rw [HV1.out]; exact HT.out, by rw [HV1.out]; rfl⟩
        · have hr10 : val us % 10 < 10 := Nat.mod_lt _ (by omega)
          have hrl : toL (val us % 10) = [val us % 10] := toL_is (by simp [val]) (Lim.mk (by omega) Lim.nil) (.inr (by simpa using hr0))
          rw [hrl] at sr
          obtain rfl : rn = 1 := by rw [← sr.len]; rfl
          obtain ⟨b, o, x, rfl, hb, hcell, hx, HX⟩ := sr.cell 0 (by omega)
          rw [Nat.add_zero] at hcell
          have hxx : x = val us % 10 := HX.out
          rw [← hxx] at HT hr10
          clear sr hr0 h0 hrl HX hxx
          go_wp2_with (at_builtin; refine wp_appB rfl _ _ rfl (48 + x) _ how3 rfl rfl (by omega) (by omega) (by omega) hgB3 ?_; intro v' w5 hv hb5 hsl5)
          have hbl5 := hbl3.trans hb5
          go_roundg (val us / 10)
          case measure => exact HK2.out
          case rel => exact ⟨qo, qn, qc, _, _, rfl, hsl5 _ _ _ _ sq, hqn, hv, hbl5, Nat.le_trans hgB3 hb5.size, by rw [HV1.out]; exact HT.out, by rw [HV1.out]; rfl⟩
end Go.Proofs.YtmfpnlhpdjabeaaGreatDoor

/- penumbraref04: Print. -/
namespace Go.Proofs.YtmfpnlhpdjabeaaGreatDoor
open Go.RowKit M

/-- A number's text. -/
def prt (q : Rat) : List Nat := (if q.num < 0 then [45] else []) ++ dec q.num.natAbs ++ (if q.den = 1 then [] else 47 :: dec q.den)
theorem prt_byt (q : Rat) : Byt (prt q) := by
  unfold prt
  refine Byt.append (Byt.append ?_ (dec_dig _).byt) ?_
  · split
    · exact Byt.mk (by omega) Byt.nil
    · exact Byt.nil
  · split
    · exact Byt.nil
    · exact Byt.mk (by omega) (dec_dig _).byt
theorem dec_bd {A K : Nat} (h : A < Bp K) (hK : 1 ≤ K) : (dec A).length ≤ 10 * K := dec_len (Nat.lt_of_lt_of_le h (Bp_ten K)) (by omega)

set_option maxHeartbeats 2000000 in
theorem rprint_k {w : World} {s : Bool} {no : Option Addr} {nn nc : Nat} {eo : Option Addr} {en ec : Nat} {K : Nat} {q : Rat} (h : Qn w s no nn nc eo en ec q K) (hK1 : 1 ≤ K) (hK : K ≤ 67108864) :
    Calls Tryz.prog 13 #[.agg #[.bool s, .slice no nn nc, .slice eo en ec]] w fun e w' => e = .returned (.string (tx (prt q))) ∧ Below w.heap.size w w' := by
  obtain ⟨w0, hw0, bx, b0⟩ := box0 w (.bool s) (.slice no nn nc) (.slice eo en ec)
  have h0 := h.later b0
  clear h
  obtain ⟨c0, c1, c2⟩ := bx.cells
  go_enter Tryz.func13, Tryz.ntmps13
  go_wp2_with fail
  rw [← hw0]
  clear hw0
  refine (read3_any w0 s no nn nc eo en ec K q h0 hK1 (by omega)).mono ?_
  rintro e w1 ⟨s1, no1, nn1, nc1, eo1, en1, ec1, rfl, cq, b1⟩
  have bq : Rb (w1.alloc (.cells #[.bool s1, .slice no1 nn1 nc1, .slice eo1 en1 ec1] 25)) w1.heap.size (.bool s1) (.slice no1 nn1 nc1) (.slice eo1 en1 ec1) := ⟨heap_alloc_new _ _⟩
  have l1 : Below w1.heap.size w1 (w1.alloc (.cells #[.bool s1, .slice no1 nn1 nc1, .slice eo1 en1 ec1] 25)) := (Below.refl _ _).alloc (Nat.le_refl _) _
  replace cq := cq.later l1
  have B1 := (b0.trans (b1.mono b0.size)).trans (l1.mono (Nat.le_trans b0.size b1.size))
  have hd1 := dec_bd (A := q.num.natAbs) (K := K) (by have := cq.num.bd cq.ln; rwa [val_toL] at this) hK1
  have hd2 := dec_bd (A := q.den) (K := K) (by have := cq.den.bd cq.ld; rwa [val_toL] at this) hK1
  have hln := cq.ln
  have hld := cq.ld
  have HS : Hid (s1 = decide (q.num < 0)) := cq.sgn
  obtain ⟨c10, c11, c12⟩ := bq.cells
  clear c0 c1 c2 bx h0 b0 b1 l1
  cases s1
  · have HP : Hid (prt q = [] ++ dec q.num.natAbs ++ (if q.den = 1 then [] else 47 :: dec q.den)) := by
      show prt q = _
      unfold prt
      rw [if_neg (by have := HS.out; simpa using this)]
    clear HS
    go_wp2_with fail
    generalize w1.alloc (.cells #[.bool false, .slice no1 nn1 nc1, .slice eo1 en1 ec1] 25) = w2 at *
    generalize w1.heap.size = gq at *
    refine (rnatural_k cq.num (by omega)).mono ?_
    rintro e w3 ⟨rfl, b3⟩
    rw [val_toL]
    have bq3 := bq.later b3
    have cq3 := cq.later b3
    have B3 := B1.trans (b3.mono B1.size)
    have hsz := tx_size (dec q.num.natAbs)
    have eA : Hid ((⟨#[]⟩ : ByteArray) ++ tx (dec q.num.natAbs) = tx ([] ++ dec q.num.natAbs)) := tx_append [] _
    have hsA := tx_size ([] ++ dec q.num.natAbs)
    have hFl : ([] ++ dec q.num.natAbs).length ≤ 10 * K + 1 := by rw [List.length_append]; simp; omega
    obtain ⟨F, hF⟩ : ∃ F, F = [] ++ dec q.num.natAbs := ⟨_, rfl⟩
    rw [← hF] at HP eA hsA hFl
    clear hF
    obtain ⟨D, hD⟩ : ∃ D, D = dec q.num.natAbs := ⟨_, rfl⟩
    rw [← hD] at hd1 hsz eA ⊢
    clear hD c10 c11 c12 bq cq b3 B1
    obtain ⟨c10, c11, c12⟩ := bq3.cells
    obtain ⟨sl, bl⟩ := lit1 w3 1 [1] #[.int .u32 1] rfl one_lim rfl
    have cq4 := cq3.later bl
    have bq4 := bq3.later bl
    have B4 := B3.trans (bl.mono B3.size)
    go_wp2_with fail
    rw [eA.out]
    generalize w3.alloc (.cells #[.int .u32 1] 40) = w4 at *
    generalize w3.heap.size = g1 at *
    clear c10 c11 c12 bq3 cq3 bl B3
    refine (same_gen w4 _ _ _ _ _ _ _ _ _ cq4.den sl (by omega) (by omega)).mono ?_
    rintro e w5 ⟨rfl, q5⟩
    have b5 := q5.below w4.heap.size
    have bq5 := bq4.later b5
    have cq5 := cq4.later b5
    have B5 := B4.trans (b5.mono B4.size)
    clear bq4 cq4 b5 B4 sl q5
    obtain ⟨c10, c11, c12⟩ := bq5.cells
    by_cases hden : q.den = 1
    · have hdb : decide (toL q.den = [1]) = true := by rw [hden, toL_one]; simp
      have HP2 : Hid (prt q = F) := by show prt q = _; rw [HP.out, if_pos hden, List.append_nil]
      rw [hdb]
      clear hdb hden HP hsz hsA eA
      go_wp2
      go_ret
      exact ⟨by rw [HP2.out]; rfl, B5⟩
    · have hdb : decide (toL q.den = [1]) = false := by
        refine decide_eq_false fun he => hden ?_
        rw [← toL_one] at he
        exact toL_inj he
      have HP2 : Hid (prt q = F ++ (47 :: dec q.den)) := by show prt q = _; rw [HP.out, if_neg hden]
      rw [hdb]
      clear hdb hden HP eA hsz
      go_wp2_with fail
      refine (rnatural_k cq5.den (by omega)).mono ?_
      rintro e w6 ⟨rfl, b6⟩
      rw [val_toL]
      have B6 := B5.trans (b6.mono B5.size)
      have hsE := tx_size (dec q.den)
      have eE : Hid ((⟨#[47]⟩ : ByteArray) ++ tx (dec q.den) = tx (47 :: dec q.den)) := tx_append [47] _
      have hsF : ((⟨#[47]⟩ : ByteArray) ++ tx (dec q.den)).size = (dec q.den).length + 1 := by rw [eE.out, tx_size]; rfl
      have eF : Hid (tx F ++ ((⟨#[47]⟩ : ByteArray) ++ tx (dec q.den)) = tx (F ++ (47 :: dec q.den))) := by
        show tx F ++ ((⟨#[47]⟩ : ByteArray) ++ tx (dec q.den)) = _
        rw [eE.out, tx_append]
      obtain ⟨E, hE⟩ : ∃ E, E = dec q.den := ⟨_, rfl⟩
      rw [← hE] at hd2 HP2 hsE eE hsF eF ⊢
      clear hE
      go_wp2
      go_ret
      exact ⟨by rw [HP2.out, ← eF.out]; rfl, B6⟩
  · have HP : Hid (prt q = [45] ++ dec q.num.natAbs ++ (if q.den = 1 then [] else 47 :: dec q.den)) := by
      show prt q = _
      unfold prt
      rw [if_pos (by have := HS.out; simpa using this)]
    clear HS
    go_wp2_with fail
    generalize w1.alloc (.cells #[.bool true, .slice no1 nn1 nc1, .slice eo1 en1 ec1] 25) = w2 at *
    generalize w1.heap.size = gq at *
    refine (rnatural_k cq.num (by omega)).mono ?_
    rintro e w3 ⟨rfl, b3⟩
    rw [val_toL]
    have bq3 := bq.later b3
    have cq3 := cq.later b3
    have B3 := B1.trans (b3.mono B1.size)
    have hsz := tx_size (dec q.num.natAbs)
    have eA : Hid ((⟨#[45]⟩ : ByteArray) ++ tx (dec q.num.natAbs) = tx ([45] ++ dec q.num.natAbs)) := tx_append [45] _
    have hsA := tx_size ([45] ++ dec q.num.natAbs)
    have hFl : ([45] ++ dec q.num.natAbs).length ≤ 10 * K + 1 := by rw [List.length_append]; simp; omega
    obtain ⟨F, hF⟩ : ∃ F, F = [45] ++ dec q.num.natAbs := ⟨_, rfl⟩
    rw [← hF] at HP eA hsA hFl
    clear hF
    obtain ⟨D, hD⟩ : ∃ D, D = dec q.num.natAbs := ⟨_, rfl⟩
    rw [← hD] at hd1 hsz eA ⊢
    clear hD c10 c11 c12 bq cq b3 B1
    obtain ⟨c10, c11, c12⟩ := bq3.cells
    obtain ⟨sl, bl⟩ := lit1 w3 1 [1] #[.int .u32 1] rfl one_lim rfl
    have cq4 := cq3.later bl
    have bq4 := bq3.later bl
    have B4 := B3.trans (bl.mono B3.size)
    go_wp2_with fail
    rw [eA.out]
    generalize w3.alloc (.cells #[.int .u32 1] 40) = w4 at *
    generalize w3.heap.size = g1 at *
    clear c10 c11 c12 bq3 cq3 bl B3
    refine (same_gen w4 _ _ _ _ _ _ _ _ _ cq4.den sl (by omega) (by omega)).mono ?_
    rintro e w5 ⟨rfl, q5⟩
    have b5 := q5.below w4.heap.size
    have bq5 := bq4.later b5
    have cq5 := cq4.later b5
    have B5 := B4.trans (b5.mono B4.size)
    clear bq4 cq4 b5 B4 sl q5
    obtain ⟨c10, c11, c12⟩ := bq5.cells
    by_cases hden : q.den = 1
    · have hdb : decide (toL q.den = [1]) = true := by rw [hden, toL_one]; simp
      have HP2 : Hid (prt q = F) := by show prt q = _; rw [HP.out, if_pos hden, List.append_nil]
      rw [hdb]
      clear hdb hden HP hsz hsA eA
      go_wp2
      go_ret
      exact ⟨by rw [HP2.out]; rfl, B5⟩
    · have hdb : decide (toL q.den = [1]) = false := by
        refine decide_eq_false fun he => hden ?_
        rw [← toL_one] at he
        exact toL_inj he
      have HP2 : Hid (prt q = F ++ (47 :: dec q.den)) := by show prt q = _; rw [HP.out, if_neg hden]
      rw [hdb]
      clear hdb hden HP eA hsz
      go_wp2_with fail
      refine (rnatural_k cq5.den (by omega)).mono ?_
      rintro e w6 ⟨rfl, b6⟩
      rw [val_toL]
      have B6 := B5.trans (b6.mono B5.size)
      have hsE := tx_size (dec q.den)
      have eE : Hid ((⟨#[47]⟩ : ByteArray) ++ tx (dec q.den) = tx (47 :: dec q.den)) := tx_append [47] _
      have hsF : ((⟨#[47]⟩ : ByteArray) ++ tx (dec q.den)).size = (dec q.den).length + 1 := by rw [eE.out, tx_size]; rfl
      have eF : Hid (tx F ++ ((⟨#[47]⟩ : ByteArray) ++ tx (dec q.den)) = tx (F ++ (47 :: dec q.den))) := by
        show tx F ++ ((⟨#[47]⟩ : ByteArray) ++ tx (dec q.den)) = _
        rw [eE.out, tx_append]
      obtain ⟨E, hE⟩ : ∃ E, E = dec q.den := ⟨_, rfl⟩
      rw [← hE] at hd2 HP2 hsE eE hsF eF ⊢
      clear hE
      go_wp2
      go_ret
      exact ⟨by rw [HP2.out, ← eF.out]; rfl, B6⟩
end Go.Proofs.YtmfpnlhpdjabeaaGreatDoor
