/- What nat.Norm and nat.DivMod hand back is new memory, which the caller may write and append to. -/
import Derived.Test.YthcclkjccaoniaaGb
import Derived.Test.YthcclkjccaoniaaR0
namespace Go.Proofs.Ythcclkjccaoniaa
open Go.RowKit M

theorem trim_ex (xs : List Nat) : ∀ k, (∀ j, k ≤ j → xs.getD j 0 = 0) → ∃ m, m ≤ k ∧ (∀ j, m ≤ j → xs.getD j 0 = 0) ∧ (m = 0 ∨ xs.getD (m - 1) 0 ≠ 0)
  | 0, h => ⟨0, Nat.le_refl _, h, .inl rfl⟩
  | k + 1, h => by
    by_cases h0 : xs.getD k 0 = 0
    · obtain ⟨m, h1, h2, h3⟩ := trim_ex xs k (fun j hj => by
        by_cases hk : k + 1 ≤ j
        · exact h j hk
        · rw [show j = k from by omega]; exact h0)
      exact ⟨m, by omega, h2, h3⟩
    · exact ⟨k + 1, Nat.le_refl _, h, .inr h0⟩
theorem toL_take {xs : List Nat} (h : Lim xs) : toL (val xs) = xs.take (toL (val xs)).length := by
  obtain ⟨m, h1, h2, h3⟩ := trim_ex xs xs.length (fun j hj => getD_beyond hj)
  have e := toL_trim h m h1 h2 h3
  have hl : (toL (val xs)).length = m := by rw [e, List.length_take]; omega
  rw [hl]; exact e

theorem Ow.mono {B B' : Nat} {w : World} {v : Value} {zs : List Nat} (h : Ow B w v zs) (hB : B' ≤ B) : Ow B' w v zs := by
  refine ⟨h.lim, h.own.1, ?_⟩
  rcases h.own.2 with h2 | ⟨g, cap, cur, h1, h2, r⟩
  · exact .inl h2
  · exact .inr ⟨g, cap, cur, h1, by omega, r⟩
theorem Ow.nul (B : Nat) (w : World) : Ow B w (.slice none 0 0) [] := ⟨Lim.nil, World.ownsRow_nil w B 32 1⟩
theorem Ow.row {B : Nat} {w : World} {g : Nat} {zs : List Nat} (h : Own w g zs) (hl : Lim zs) (hB : B ≤ g) {n : Nat} (hn : zs.length = n) (hm : n ≤ 1099511627776) : Ow B w (.slice (some ⟨g, 0, none⟩) n n) zs := by
  subst hn
  exact ⟨hl, by simp, .inr ⟨g, zs.length, u32s zs, rfl, hB, h, Nat.le_refl _, by unfold maxLen; omega, by simp [u32s], by rw [List.take_of_length_le (by simp [u32s])]; simp [u32s]⟩⟩
theorem Ow.len {B n cap : Nat} {w : World} {ao : Option Addr} {zs : List Nat} (h : Ow B w (.slice ao n cap) zs) : zs.length = n := by
  obtain ⟨ao', m, cap', h1, h2⟩ := h.sl
  simp only [Value.slice.injEq] at h1
  obtain ⟨rfl, rfl, rfl⟩ := h1
  exact h2.len
theorem Ow.rd {B n cap : Nat} {w : World} {ao : Option Addr} {zs : List Nat} (h : Ow B w (.slice ao n cap) zs) : Sl w.heap.size w ao n cap zs := by
  obtain ⟨ao', m, cap', h1, h2⟩ := h.sl
  simp only [Value.slice.injEq] at h1
  obtain ⟨rfl, rfl, rfl⟩ := h1
  exact h2
/-- The block of an own slice that is not empty. -/
theorem Ow.inv {B n cap : Nat} {w : World} {ao : Option Addr} {zs : List Nat} (h : Ow B w (.slice ao n cap) zs) (h0 : 0 < n) :
    ∃ g cur, ao = some ⟨g, 0, Option.none⟩ ∧ B ≤ g ∧ w.heap[g]? = some (.cells cur 32 (0, 0)) ∧ n ≤ cap ∧ cap ≤ maxLen ∧ cur.size = cap ∧ cur.toList.take n = zs.map fun x : Nat => Value.int .u32 (x : Int) := by
  have hl := h.len
  rcases h.own.2 with ⟨h1, h2⟩ | ⟨g, cap', cur, h1, h2, h3, h4, h5, h6, h7⟩
  · omega
  · simp only [Value.slice.injEq] at h1
    obtain ⟨rfl, rfl, rfl⟩ := h1
    exact ⟨g, cur, rfl, h2, h3, h4, h5, by simpa using h6, by simpa using h7⟩
theorem Ow.cut {B n cap g : Nat} {w : World} {zs : List Nat} (h : Ow B w (.slice (some ⟨g, 0, Option.none⟩) n cap) zs) (k : Nat) (hk : k ≤ n) : Ow B w (.slice (some ⟨g, 0, Option.none⟩) k cap) (zs.take k) := by
  have hl := h.len
  have hlt : (zs.take k).length = k := by rw [List.length_take]; omega
  rcases h.own.2 with ⟨h1, h2⟩ | ⟨g', cap', cur, h1, h2, h3, h4, h5, h6, h7⟩
  · simp at h1
  · simp only [Value.slice.injEq, Option.some.injEq, Addr.mk.injEq] at h1
    obtain ⟨⟨rfl, _⟩, _, rfl⟩ := h1
    refine ⟨h.lim.take k, by rw [List.length_map, hlt]; omega, .inr ⟨g, cap, cur, by rw [hlt], h2, h3, by rw [hlt]; omega, h5, h6, ?_⟩⟩
    rw [hlt, Nat.mul_one, List.map_take, ← h7, Nat.mul_one, List.take_take, Nat.min_eq_left (by omega)]
/-- The same row in a world where its block is as it was. -/
theorem Ow.keep {B n cap : Nat} {w w' : World} {ao : Option Addr} {zs : List Nat} (h : Ow B w (.slice ao n cap) zs) (hb : ∀ g, ao = some ⟨g, 0, Option.none⟩ → w'.heap[g]? = w.heap[g]?) : Ow B w' (.slice ao n cap) zs := by
  refine ⟨h.lim, h.own.1, ?_⟩
  rcases h.own.2 with h2 | ⟨g, cap', cur, h1, h2, h3, r⟩
  · exact .inl h2
  · refine .inr ⟨g, cap', cur, h1, h2, ?_, r⟩
    simp only [Value.slice.injEq] at h1
    rw [hb g h1.1]; exact h3
theorem Ow.block {B n cap g : Nat} {w : World} {zs : List Nat} (h : Ow B w (.slice (some ⟨g, 0, Option.none⟩) n cap) zs) : B ≤ g ∧ g < w.heap.size := h.own.lt g rfl
theorem Ow.later {B n cap : Nat} {w w' : World} {ao : Option Addr} {zs : List Nat} (h : Ow B w (.slice ao n cap) zs) (hb : Below w.heap.size w w') : Ow B w' (.slice ao n cap) zs :=
  h.keep fun g hg => by subst hg; exact hb.block g h.block.2
/-- A cell of an own row that is written. -/
theorem Ow.set {B n cap g : Nat} {w : World} {zs : List Nat} (h : Ow B w (.slice (some ⟨g, 0, Option.none⟩) n cap) zs) (i : Nat) {v : Nat} (hv : v < 4294967296) :
    Ow B (w.setCell ⟨g, i, Option.none⟩ (.int .u32 (v : Int))) (.slice (some ⟨g, 0, Option.none⟩) n cap) (zs.set i v) := by
  have hl := h.len
  rcases h.own.2 with ⟨h1, h2⟩ | ⟨g', cap', cur, h1, h2, h3, h4, h5, h6, h7⟩
  · simp at h1
  · simp only [Value.slice.injEq, Option.some.injEq, Addr.mk.injEq] at h1
    obtain ⟨⟨rfl, _⟩, _, rfl⟩ := h1
    refine ⟨h.lim.set i hv, by simp, .inr ⟨g, cap, cur.setIfInBounds i (.int .u32 (v : Int)), by simp [hl], h2, heap_setCell_same w g i _ _ _ h3, by simpa using h4, h5, by simpa using h6, ?_⟩⟩
    rw [List.length_set, Array.toList_setIfInBounds, List.take_set, h7, List.map_set]
theorem Ow.free {B n cap g : Nat} {w : World} {zs : List Nat} (h : Ow B w (.slice (some ⟨g, 0, Option.none⟩) n cap) zs) (i : Nat) : w.frozen? ⟨g, i, Option.none⟩ = false := by
  rcases h.own.2 with ⟨h1, h2⟩ | ⟨g', cap', cur, h1, h2, h3, r⟩
  · simp at h1
  · simp only [Value.slice.injEq, Option.some.injEq, Addr.mk.injEq] at h1
    obtain ⟨⟨rfl, _⟩, _, _⟩ := h1
    exact frozen_of_row w g i _ _ h3
theorem Ow.cell {B n cap g : Nat} {w : World} {zs : List Nat} (h : Ow B w (.slice (some ⟨g, 0, Option.none⟩) n cap) zs) (k : Nat) (hk : k < n) :
    ∃ x : Nat, w.cell? ⟨g, k, Option.none⟩ = some (.int .u32 (x : Int)) ∧ w.frozen? ⟨g, k, Option.none⟩ = false ∧ x < 4294967296 ∧ Hid (x = zs.getD k 0) := by
  obtain ⟨b, o, x, h1, _, h3, h4, h5⟩ := h.rd.cell k hk
  simp only [Option.some.injEq, Addr.mk.injEq] at h1
  obtain ⟨rfl, rfl, _⟩ := h1
  rw [Nat.zero_add] at h3
  exact ⟨x, h3, h.free k, h4, h5⟩

/-- What nat.trimmed leaves of a row. -/
def trimV (ao : Option Addr) (cap : Nat) (ys : List Nat) : Value := if ys.length = 0 then .slice none 0 0 else .slice ao ys.length cap
theorem Ow.trim {B : Nat} {w : World} {g : Nat} {q : List Nat} (h : Own w g q) (hl : Lim q) (hB : B ≤ g) {n : Nat} (hn : q.length = n) (hm : n ≤ 1099511627776) : Ow B w (trimV (some ⟨g, 0, Option.none⟩) n (toL (val q))) (toL (val q)) := by
  unfold trimV
  split
  · rename_i h0
    rw [List.eq_nil_of_length_eq_zero h0]
    exact Ow.nul B w
  · have hk : (toL (val q)).length ≤ n := toL_len_le (by rw [← hn]; exact val_lt hl)
    have e := toL_take hl
    have := (Ow.row h hl hB hn hm).cut _ hk
    rwa [← e] at this
theorem trimV_sl {ao : Option Addr} {cap : Nat} {ys : List Nat} : ∃ a n c, trimV ao cap ys = .slice a n c := by
  unfold trimV; split <;> exact ⟨_, _, _, rfl⟩

set_option maxHeartbeats 400000 in
theorem trimmed_own (N : Nat) (w : World) (ao : Option Addr) (n cap : Nat) (xs : List Nat) (h : Sl N w ao n cap xs) (hlen : n ≤ 1099511627776) :
    Calls Try.prog 34 #[.slice ao n cap] w fun e w' => w = w' ∧ e = .returned (trimV ao cap (toL (val xs))) := by
  have hcap := h.le
  go_enter Try.func34, Try.ntmps34
  go_wp2
  go_loop [3] (fun v => ∃ k : Nat, k ≤ n ∧ v = .int .i64 k ∧ ∀ j, k ≤ j → xs.getD j 0 = 0) (fun v => (intOf v).toNat)
  case atStart => exact ⟨n, Nat.le_refl _, rfl, fun j hj => by rw [List.getD_eq_getElem?_getD, List.getElem?_eq_none (by rw [h.len]; exact hj)]; rfl⟩
  case round =>
    obtain ⟨k, hk, rfl, hz⟩ := hrel
    have HZ : Hid (∀ j, k ≤ j → xs.getD j 0 = 0) := hz
    clear hz
    by_cases h0 : k = 0
    · subst h0
      have e0 : toL (val xs) = [] := by have := toL_trim h.lim 0 (Nat.zero_le _) HZ.out (.inl rfl); simpa using this
      have E0 : Hid (toL (val xs) = []) := e0
      clear e0
      go_wp2
      go_ret
      rw [E0.out]
      exact ⟨rfl, rfl⟩
    · obtain ⟨b, o, x, rfl, hb, hcell, hx, HX⟩ := h.cell (k - 1) (by omega)
      have h1 : 1 ≤ k := by omega
      by_cases hx0 : x = 0
      · have hxb : ((x : Int) == 0) = true := by simp [hx0]
        have HX0 : Hid (x = 0) := hx0
        clear hx0
        go_wp2
        go_round
        case rel => exact ⟨k - 1, by omega, by go_num, fun j hj => by
          by_cases hjk : k ≤ j
          · exact HZ.out j hjk
          · obtain rfl : j = k - 1 := by omega
            rw [← HX.out]; exact HX0.out⟩
        case measure => simp [intOf]; omega
      · have hxb : ((x : Int) == 0) = false := by simp [hx0]
        have et := toL_trim h.lim k (by rw [h.len]; exact hk) HZ.out (.inr (by rw [← HX.out]; exact hx0))
        have ET : Hid (toL (val xs) = xs.take k) := et
        clear hx0 et
        go_wp2
        go_ret
        have hlen2 : (xs.take k).length = k := by rw [List.length_take, h.len]; omega
        refine ⟨rfl, ?_⟩
        rw [ET.out]
        unfold trimV
        rw [hlen2, if_neg (by omega)]
        rfl

/-- What a call leaves that hands back a row which it made itself. -/
def GivesOwn (w : World) (ys : List Nat) (e : Ending) (w' : World) : Prop :=
  ∃ ao n cap, e = .returned (.slice ao n cap) ∧ Ow w.heap.size w' (.slice ao n cap) ys ∧ Below w.heap.size w w'

set_option maxHeartbeats 400000 in
theorem norm_own (w : World) (ao : Option Addr) (n cap : Nat) (xs : List Nat) (h : Sl w.heap.size w ao n cap xs) (hlen : n ≤ 1099511627776) :
    Calls Try.prog 16 #[.slice ao n cap] w (GivesOwn w (toL (val xs))) := by
  go_enter Try.func16, Try.ntmps16
  go_wp2_with fail
  refine (trimmed_any _ _ ao n cap xs h hlen).mono ?_
  rintro e w1 ⟨rfl, a1, n1, c1, rfl, s1, l1⟩
  have hmk := fun u => make_run n1 (by omega) u
  by_cases h0 : n1 = 0
  · have HV : Hid (toL (val xs) = []) := List.eq_nil_of_length_eq_zero (by rw [s1.len, h0])
    subst h0
    go_wp2
    go_ret
    rw [HV.out]
    exact ⟨none, 0, 0, rfl, Ow.nul _ _, Below.refl _ _⟩
  · have hn0 : ((n1 : Int) == 0) = false := by simp [h0]
    have hcp := copy_run w a1 n1 c1 n1 _ s1 (Nat.le_refl _)
    rw [Nat.sub_self, List.replicate_zero, List.append_nil] at hcp
    have hs : Ow w.heap.size (w.alloc (.cells (u32s (toL (val xs))) 32)) (.slice (some ⟨w.heap.size, 0, none⟩) n1 n1) (toL (val xs)) :=
      Ow.row (Own.alloc _ _) (Lim_toL _) (Nat.le_refl _) s1.len (by omega)
    have hb : Below w.heap.size w (w.alloc (.cells (u32s (toL (val xs))) 32)) := (Below.refl _ _).alloc (Nat.le_refl _) _
    go_wp2
    go_ret
    exact ⟨_, n1, n1, rfl, hs, hb⟩

set_option maxHeartbeats 1000000 in
theorem shiftedDown_own (w : World) (ao : Option Addr) (n cap d : Nat) (xs : List Nat) (h : Sl w.heap.size w ao n cap xs) (hlen : n ≤ 1099511627775) (hd : d < 32) :
    Calls Try.prog 54 #[.slice ao n cap, .int .i64 (d : Int)] w (GivesOwn w (toL (val xs / 2 ^ d))) := by
  have hmk := fun u => make_run n (by omega) u
  obtain ⟨w2, hw2, hbl, how, hz0⟩ := fresh w n
  go_enter Try.func54, Try.ntmps54
  go_wp2
  rw [← hw2]
  have u1 := h.below hbl
  obtain ⟨g, hg⟩ : ∃ g, g = w.heap.size := ⟨_, rfl⟩
  rw [← hg] at how hz0 u1 hbl ⊢
  have HG : Hid (g = w.heap.size) := hg
  clear hmk hg hw2
  go_loopw [6, 7] (fun tv iv wr => ∃ k t q, k ≤ n ∧ tv = .int .u64 ((t : Nat) : Int) ∧ t < 18446744073709551616 ∧ t % 4294967296 = xs.getD k 0 ∧ iv = .int .i64 (((k : Nat) : Int) - 1) ∧ Fr g w2 wr ∧ Own wr g q ∧ DnInv n q xs (2 ^ d) k) (fun _ iv _ => (intOf iv + 1).toNat)
  case atStart => exact ⟨n, 0, _, Nat.le_refl _, rfl, by omega, by rw [getD_beyond (by rw [h.len]; exact Nat.le_refl _)], rfl, Fr.refl _ _, how, DnInv.start h.len⟩
  case round =>
    obtain ⟨k, t, q, hk, rfl, ht, htx, rfl, hf, hs, hi⟩ := hrel
    have HT : Hid (t % 4294967296 = xs.getD k 0) := htx
    clear htx
    by_cases h0 : k = 0
    · subst h0
      have HD : Hid (val q = val xs / 2 ^ d) := hi.done
      go_wp2_with fail
      have s3 := Ow.trim (B := g) hs hi.lim (Nat.le_refl _) hi.len (by omega)
      have S3 : Hid _ := s3
      clear s3
      refine (trimmed_own (g + 1) _ _ n n q (Sl.own hs hi.lim (by omega) n n hi.len (Nat.le_refl _)) (by omega)).mono ?_
      rintro e w3 ⟨rfl, rfl⟩
      obtain ⟨a3, n3, c3, e3⟩ := trimV_sl (ao := some ⟨g, 0, none⟩) (cap := n) (ys := toL (val q))
      have s3 := S3.out
      rw [e3] at s3 ⊢
      clear S3 e3
      have S3 : Hid _ := s3
      clear s3
      go_wp2
      go_ret
      have s3 := S3.out
      rw [HD.out] at s3
      have hg := HG.out
      refine ⟨a3, n3, c3, rfl, by rw [← hg]; exact s3, ?_⟩
      rw [← hg]
      exact hbl.trans (hf.below (Nat.le_refl _))
    · obtain ⟨j, rfl⟩ : ∃ j, k = j + 1 := ⟨k - 1, by omega⟩
      rw [show ((j + 1 : Nat) : Int) - 1 = (j : Int) from by omega]
      obtain ⟨b', o, x, rfl, hx0, hx1, hx2, HX⟩ := (u1.fr hf (Nat.le_refl _)).cell j (by omega)
      have hl := hi.len
      have hcl := hs.cell (i := j) (by omega)
      have hfr := hs.free j
      generalize q.getD j 0 = old at hcl
      have st := hi.step (e := 2 ^ (32 - d)) (t := t % 4294967296) h.len h.lim (by omega) (by rw [← Nat.pow_add, show d + (32 - d) = 32 from by omega]) HX.out HT.out
      have hj := or_join_wrap (r := t) (x := x) hx2
      have ST : Hid _ := st
      have et : (t : Int) % 4294967296 * 4294967296 + (x : Int) = ((t % 4294967296 * 4294967296 + x : Nat) : Int) := by omega
      have ev : ((t % 4294967296 * 4294967296 + x : Nat) : Int) / 2 ^ d % 4294967296 = (((t % 4294967296 * 4294967296 + x) / 2 ^ d % 4294967296 : Nat) : Int) := by
        rw [show (2 : Int) ^ d = ((2 ^ d : Nat) : Int) from by rw [Int.natCast_pow]; rfl, ← Int.natCast_ediv]; omega
      have ET : Hid _ := et
      have EV : Hid _ := ev
      clear st hl et ev
      go_wp2
      rw [ET.out, EV.out]
      go_roundw
      case rel => exact ⟨j, _, _, by omega, rfl, by omega, by rw [← HX.out]; omega, rfl, hf.set _ _, hs.set j _, ST.out⟩
      case measure => simp [intOf]

set_option maxHeartbeats 1000000 in
theorem divLong_own (w : World) (ao bo : Option Addr) (la cap m bcap A B : Nat) (h : Sl w.heap.size w ao la cap (toL A)) (h2 : Sl w.heap.size w bo (m + 2) bcap (toL B)) (hla : la ≤ 549755813888) (hm : m + 2 ≤ la) :
    Calls Try.prog 36 #[.slice ao la cap, .slice bo (m + 2) bcap] w fun e w' => ∃ qo qn qc ro rn rc, e = .returned (.tuple #[.slice qo qn qc, .slice ro rn rc]) ∧
      Sl w'.heap.size w' qo qn qc (toL (A / B)) ∧ Ow w.heap.size w' (.slice ro rn rc) (toL (A % B)) ∧ Below w.heap.size w w' := by
  obtain ⟨b, o, x, hbo, hb, cx, lx, HX⟩ := h2.cell (m + 1) (by omega)
  subst hbo
  have hB0 : B ≠ 0 := by
    intro h0
    have := h2.len
    rw [h0, toL_zero] at this
    simp at this
  have cx' : w.cell? ⟨b, o + (m + 2 - 1), none⟩ = some (.int .u32 (x : Int)) := cx
  have hx0 : x ≠ 0 := by
    have := toL_last hB0
    rw [h2.len] at this
    rw [HX.out]; exact this
  obtain ⟨g1, g2, _, _⟩ := shift_top (l := nb x) hx0 rfl lx
  obtain ⟨d, hd⟩ : ∃ d, d + nb x = 32 := ⟨32 - nb x, by omega⟩
  have hlz := fun w => lz32_any (x : Int) w (by omega) (by omega)
  rw [Int.toNat_natCast, bitLen_nb x lx, show (32 : Int) - (nb x : Int) = (d : Int) from by omega] at hlz
  have HLZ : Hid _ := hlz
  have HD : Hid (d + nb ((toL B).getD (m + 1) 0) = 32) := by rw [HX.out] at hd; exact hd
  have hd32 : d < 32 := by omega
  have mk1 := fun u => make_run (m + 2 + 1) (by omega) u
  have mk2 := fun u => make_run (la + 1) (by omega) u
  have mk3 := fun u => make_run (la - (m + 2) + 1) (by omega) u
  rw [show ((m + 2 + 1 : Nat) : Int) = (m : Int) + 2 + 1 from by omega] at mk1
  rw [show ((la + 1 : Nat) : Int) = (la : Int) + 1 from by omega] at mk2
  rw [show ((la - (m + 2) + 1 : Nat) : Int) = (la : Int) - ((m : Int) + 2) + 1 from by omega] at mk3
  clear hlz g1 g2 hd hx0
  go_enter Try.func36, Try.ntmps36
  go_wp2_with (go_at_call 51; refine (HLZ.out _).mono ?_; rintro e w' ⟨rfl, rfl⟩)
  refine (shiftUp_fresh w _ (m + 2) bcap d _ h2 (by omega) hd32).mono ?_
  rintro e w1 ⟨s1, rfl, m1⟩
  have h1 : Sl w1.heap.size w1 ao la cap (toL A) := h.later m1.below
  go_wp2_with fail
  refine (shiftUp_fresh w1 ao la cap d _ h1 (by omega) hd32).mono ?_
  rintro e w2 ⟨s2, rfl, m2⟩
  have hfr := fresh w2 (la - (m + 2) + 1)
  obtain ⟨w3, hw3, hbl3, how3, hz3⟩ := hfr
  have HZ3 : Hid _ := hz3
  clear hz3 mk1 mk2
  go_wp2
  rw [← hw3]
  obtain ⟨dv1, dv2, dv3, dv4⟩ := divisor_shift hB0 h2.len HD.out m1.len m1.lim (by rw [m1.val, val_toL])
  have hV0 : 0 < B * 2 ^ d := Nat.mul_pos (by omega) (Nat.two_pow_pos d)
  have LI : LongInv la (m + 2) (A * 2 ^ d) (B * 2 ^ d) s2 (List.replicate (la - (m + 2) + 1) 0) (la - (m + 2) + 1) :=
    LongInv.start m2.len m2.lim (by rw [m2.val, val_toL]) hm (long_low (by have := h.lt; rwa [val_toL] at this) dv4 hm)
  have D3 : Sl w1.heap.size w3 (some ⟨w.heap.size, 0, none⟩) (m + 2) (m + 2 + 1) (s1.take (m + 2)) :=
    (((Sl.own m1.own m1.lim (by rw [m1.size]; omega) (m + 2 + 1) (m + 2 + 1) m1.len (Nat.le_refl _)).take (m + 2) (by omega)).below m2.below).below (hbl3.mono (by rw [m2.size]; omega))
  have O2 : Own w3 w1.heap.size s2 := m2.own.below hbl3 (by rw [m2.size]; omega)
  have BL : Below w.heap.size w w3 := (m1.below.trans (m2.below.mono (by rw [m1.size]; omega))).trans (hbl3.mono (by rw [m2.size, m1.size]; omega))
  have hg1 : w.heap.size < w1.heap.size := by rw [m1.size]; omega
  have hg2 : w1.heap.size < w2.heap.size := by rw [m2.size]; omega
  have W3 : Hid (w3.heap.size = w2.heap.size + 1) := HZ3
  clear mk3 hw3 hbl3 HZ3 m1 m2 h1 h HLZ cx cx' HX h2
  generalize w1.heap.size = gl at *
  generalize w2.heap.size = gq at *
  generalize s1.take (m + 2) = ds at *
  have DV1 : Hid (val ds = B * 2 ^ d) := dv1
  have DV2 : Hid (2147483648 ≤ ds.getD (m + 1) 0) := dv2
  have DV3 : Hid (B * 2 ^ d ≤ Bp (m + 2)) := dv3
  have DV4 : Hid (0 < B * 2 ^ d) := hV0
  clear dv1 dv2 dv3 dv4 hV0 hB0 HD
  go_loopw [11] (fun iv wr => ∃ k L q, k ≤ la - (m + 2) + 1 ∧ iv = .int .i64 (((k : Nat) : Int) - 1) ∧ Below gl w3 wr ∧ Hid (wr.heap.size = gq + 1) ∧ Own wr gl L ∧ Own wr gq q ∧ LongInv la (m + 2) (A * 2 ^ d) (B * 2 ^ d) L q k) (fun iv _ => (intOf iv + 1).toNat)
  case atStart => exact ⟨la - (m + 2) + 1, s2, _, Nat.le_refl _, by go_num, Below.refl _ _, W3, O2, how3, LI⟩
  case round =>
    obtain ⟨k, L, q, hk, rfl, hbl, hsz, hoL, hoq, hi⟩ := hrel
    by_cases h0 : k = 0
    · subst h0
      obtain ⟨f1, f2⟩ := hi.done DV3.out hm
      rw [Nat.mul_div_mul_right _ _ (Nat.two_pow_pos d)] at f1
      rw [Nat.mul_mod_mul_right] at f2
      have F1 : Hid _ := f1
      have F2 : Hid _ := f2
      clear f1 f2
      have sq : Sl (gq + 1) wr (some ⟨gq, 0, none⟩) (la - (m + 2) + 1) (la - (m + 2) + 1) q := Sl.own hoq hi.qlim (by omega) _ _ hi.qlen (Nat.le_refl _)
      have sl : Sl (gq + 1) wr (some ⟨gl, 0, none⟩) (m + 2) (la + 1) (L.take (m + 2)) := (Sl.own hoL hi.lim (by omega) (la + 1) (la + 1) hi.len (Nat.le_refl _)).take (m + 2) (by omega)
      have hq1 : ∀ u, Qt wr u → Sl (gq + 1) u (some ⟨gq, 0, none⟩) (la - (m + 2) + 1) (la - (m + 2) + 1) q := fun u hu => hu.sl sq
      have hl1 : ∀ u, Qt wr u → Sl u.heap.size u (some ⟨gl, 0, none⟩) (m + 2) (la + 1) (L.take (m + 2)) := fun u hu => by rw [hu.size, hsz.out]; exact hu.sl sl
      have HQ1 : Hid _ := hq1
      have HL1 : Hid _ := hl1
      clear hq1 hl1 sq sl
      go_wp2
      go_region_with (first | (go_at_call 34; refine (trimmed_any (gq + 1) _ _ _ _ q (HQ1.out _ (Qt.refl _).drew) (by omega)).mono ?_; rintro e w5 ⟨rfl, a5, n5, c5, rfl, s5, l5⟩) | (go_at_call 54; refine (shiftedDown_own _ _ (m + 2) (la + 1) d _ (HL1.out _ (Qt.refl _).drew) (by omega) hd32).mono ?_; rintro e w6 ⟨a6, n6, c6, rfl, s6, b6⟩))
      all_goals go_wp2
      all_goals go_ret2
      all_goals
        have z6 : wr.drew.heap.size = gq + 1 := hsz.out
        rw [F1.out] at s5
        rw [F2.out, Nat.mul_div_cancel _ (Nat.two_pow_pos d)] at s6
        have b7 := b6
        rw [z6] at b7
        refine ⟨a5, n5, c5, a6, n6, c6, rfl, (s5.below b7).mono (by have := b6.size; omega), s6.mono (by omega), ?_⟩
        exact (BL.trans ((hbl.mono (by omega)).drew)).trans (b6.mono (by omega))
    · obtain ⟨j, rfl⟩ : ∃ j, k = j + 1 := ⟨k - 1, by omega⟩
      rw [show ((j + 1 : Nat) : Int) - 1 = (j : Int) from by omega]
      have hLl := hi.len
      have hql := hi.qlen
      have HL : Hid (L.length = la + 1) := hLl
      have HQ : Hid (q.length = la - (m + 2) + 1) := hql
      clear hLl hql
      obtain ⟨sg1, sg2, sg3⟩ := hi.seg DV3.out (by omega)
      have SG3 : Hid (val ((L.drop j).take (m + 2 + 1)) < 4294967296 * val ds) := by rw [DV1.out]; exact sg3
      clear sg1 sg2 sg3
      go_wp2_with fail
      rw [show j + (m + 2) + 1 - j = m + 3 from by omega]
      refine (divStep_any wr gl j m (la + 1 - j) _ _ _ _ (m + 2 + 1) gl ds (Sg.cut hoL hi.lim j (m + 3) (by rw [HL.out]; omega)) (D3.below hbl) (Nat.le_refl _) (by omega) (by omega) DV2.out SG3.out).mono ?_
      rintro e w4 ⟨c, s', rfl, hc, hce, hf4, hs4, hv4⟩
      rw [DV1.out] at hce hv4
      have ST : Hid _ := hi.step (s' := s') DV3.out DV4.out (by omega) hs4.len hs4.lim hv4 (by rw [← hce]; exact hc)
      have HCE : Hid _ := hce
      clear hce hv4
      have oq4 := hoq.fr hf4 (by omega)
      have hcl := oq4.cell (i := j) (by rw [HQ.out]; omega)
      have hfr4 := oq4.free j
      have HS4 : Hid (w4.heap.size = gq + 1) := by rw [hf4.size]; exact hsz
      generalize q.getD j 0 = old at hcl
      go_wp2
      go_roundw
      case rel =>
        refine ⟨j, _, _, by omega, rfl, (hbl.trans (hf4.below (Nat.le_refl _))).setCell (p := ⟨gq, j, none⟩) (by show gl ≤ gq; omega) _, ?_, hs4.own.other _ _ (by show gl ≠ gq; omega), oq4.set j c, ?_⟩
        · show (w4.setCell _ _).heap.size = _
          rw [← HS4.out]; simp [World.setCell]
        · rw [HCE.out]; exact ST.out
      case measure => simp [intOf]

set_option maxHeartbeats 1000000 in
theorem divMod_own (w : World) (ao bo : Option Addr) (n cap m cap2 A B : Nat) (h : Sl w.heap.size w ao n cap (toL A)) (h2 : Sl w.heap.size w bo (m + 2) cap2 (toL B)) (hlen : n ≤ 274877906944) (hle : B ≤ A) :
    Calls Try.prog 17 #[.slice ao n cap, .slice bo (m + 2) cap2] w fun e w' => ∃ qo qn qc ro rn rc, e = .returned (.tuple #[.slice qo qn qc, .slice ro rn rc, .bool true]) ∧
      Sl w'.heap.size w' qo qn qc (toL (A / B)) ∧ Ow w.heap.size w' (.slice ro rn rc) (toL (A % B)) ∧ Below w.heap.size w w' := by
  have hmn : m + 2 ≤ n := by
    rw [← h.len, ← h2.len]
    by_cases hh : (toL A).length < (toL B).length
    · have := toL_len_lt hh; omega
    · omega
  go_enter Try.func17, Try.ntmps17
  go_wp2_with fail
  refine (trimmed_any _ _ ao n cap _ h (by omega)).mono ?_
  rintro e w1 ⟨rfl, a1, n1, c1, rfl, s1, l1⟩
  rw [val_toL] at s1
  obtain rfl : n1 = n := by rw [← s1.len, ← h.len]
  go_wp2_with fail
  refine (trimmed_any _ _ bo (m + 2) cap2 _ h2 (by omega)).mono ?_
  rintro e w1 ⟨rfl, a2, m1, c2, rfl, s2, l2⟩
  rw [val_toL] at s2
  obtain rfl : m1 = m + 2 := by rw [← s2.len, ← h2.len]
  clear h h2 l1 l2
  go_wp2_with fail
  refine (cmp_any _ _ _ _ _ _ _ _ _ _ s1 s2 (by omega) (by omega)).mono ?_
  rintro e w1 ⟨rfl, hq⟩
  rw [val_toL, val_toL]
  have t1 : Sl w1.heap.size w1 a1 n1 c1 (toL A) := by rw [hq.size]; exact hq.sl s1
  have t2 : Sl w1.heap.size w1 a2 (m + 2) c2 (toL B) := by rw [hq.size]; exact hq.sl s2
  have hbq : ∀ u, Below w1.heap.size w1 u → Below w.heap.size w u := fun u hu => (hq.below _).trans (hu.mono (by rw [hq.size]; exact Nat.le_refl _))
  have HBQ : Hid _ := hbq
  have HSZ : Hid (w.heap.size ≤ w1.heap.size) := by show w.heap.size ≤ w1.heap.size; rw [hq.size]; exact Nat.le_refl _
  clear s1 s2 hbq
  have hcm : 0 ≤ cmpN A B := by unfold cmpN; split <;> (try split) <;> omega
  generalize cmpN A B = cm at hcm
  clear hle
  go_wp2_with fail
  refine (divLong_own w1 a1 a2 n1 c1 m c2 _ _ t1 t2 (by omega) (by omega)).mono ?_
  rintro e w2 ⟨a3, n3, c3, a4, n4, c4, rfl, s3, s4, b3⟩
  go_wp2
  go_ret3
  exact ⟨a3, n3, c3, a4, n4, c4, rfl, s3, s4.mono HSZ.out, HBQ.out _ b3⟩

end Go.Proofs.Ythcclkjccaoniaa
