/- penumbralaw01.fixed: true. -/
import Derived.Test.YtpbpkemmmmjjlaaWc
namespace Go.Proofs.Ytpbpkemmmmjjlaa
open Go.RowKit M

/-- A slice that is written out. -/
theorem lit1 (w : World) (n : Nat) (zs : List Nat) (cz : Array Value) (hz : cz = u32s zs) (hl : Lim zs) (hn : zs.length = n) :
    Sl (w.alloc (.cells cz 38)).heap.size (w.alloc (.cells cz 38)) (some ⟨w.heap.size, 0, none⟩) n n zs ∧ Below w.heap.size w (w.alloc (.cells cz 38)) := by
  subst hz
  exact ⟨Sl.own (Own.alloc _ _) hl (by simp) n n hn (Nat.le_refl _), (Below.refl _ _).alloc (Nat.le_refl _) _⟩
/-- Two slices that are written out. -/
theorem lit2 (w : World) (n m : Nat) (zs ys : List Nat) (cz cy : Array Value) (hz : cz = u32s zs) (hy : cy = u32s ys) (hl : Lim zs) (hk : Lim ys) (hn : zs.length = n) (hm : ys.length = m) :
    Sl ((w.alloc (.cells cz 38)).alloc (.cells cy 38)).heap.size ((w.alloc (.cells cz 38)).alloc (.cells cy 38)) (some ⟨w.heap.size, 0, none⟩) n n zs ∧
    Sl ((w.alloc (.cells cz 38)).alloc (.cells cy 38)).heap.size ((w.alloc (.cells cz 38)).alloc (.cells cy 38)) (some ⟨w.heap.size + 1, 0, none⟩) m m ys ∧
    Below w.heap.size w ((w.alloc (.cells cz 38)).alloc (.cells cy 38)) := by
  obtain ⟨a1, a2⟩ := lit1 w n zs cz hz hl hn
  obtain ⟨b1, b2⟩ := lit1 (w.alloc (.cells cz 38)) m ys cy hy hk hm
  have e : (w.alloc (.cells cz 38)).heap.size = w.heap.size + 1 := by simp
  exact ⟨a1.later b2, by rw [e] at b1; exact b1, a2.trans (b2.mono (by rw [e]; omega))⟩

theorem toL_is {n : Nat} {zs : List Nat} (hv : val zs = n) (hl : Lim zs) (hn : zs = [] ∨ zs.getD (zs.length - 1) 0 ≠ 0) : toL n = zs := by rw [← hv]; exact toL_of_normal hl hn

theorem lim1 {a : Nat} (h : a < 4294967296) : Lim [a] := Lim.mk h Lim.nil
theorem lim2 {a b : Nat} (h : a < 4294967296) (k : b < 4294967296) : Lim [a, b] := Lim.mk h (lim1 k)
theorem lim3 {a b c : Nat} (h : a < 4294967296) (k : b < 4294967296) (l : c < 4294967296) : Lim [a, b, c] := Lim.mk h (lim2 k l)

theorem k_q : toL (val [7, 0, 1] / val [0, 2]) = [2147483648] := toL_is (by simp [val]) (lim1 (by omega)) (.inr (by simp))
theorem k_r : toL (val [7, 0, 1] % val [0, 2]) = [7] := toL_is (by simp [val]) (lim1 (by omega)) (.inr (by simp))
theorem k_s : toL (val [3] * 2 ^ 33) = [0, 6] := toL_is (by simp [val]) (lim2 (by omega) (by omega)) (.inr (by simp))
theorem k_m : toL (val [4294967295] * val [4294967295]) = [1, 4294967294] := toL_is (by simp [val]) (lim2 (by omega) (by omega)) (.inr (by simp))
theorem k_a : toL (val [4294967295] + val [1, 0]) = [0, 1] := toL_is (by simp [val]) (lim2 (by omega) (by omega)) (.inr (by simp))
theorem k_b : nb (val [0, 1]) = 33 := nb_eq (k := 32) (by simp [val]) (by simp [val])

set_option maxHeartbeats 2000000 in
theorem fixed_any (w : World) : Calls Try.prog 12 #[] w fun e w' => e = .returned (.bool true) ∧ Below w.heap.size w w' := by
  go_enter Try.func12, Try.ntmps12
  go_wp2_with fail
  obtain ⟨l1, l2, lb⟩ := lit2 w 3 2 [7, 0, 1] [0, 2] #[.int .u32 7, .int .u32 0, .int .u32 1] #[.int .u32 0, .int .u32 2] rfl rfl (lim3 (by omega) (by omega) (by omega)) (lim2 (by omega) (by omega)) rfl rfl
  refine (divMod_any _ _ _ 3 3 2 2 [7, 0, 1] [0, 2] l1 l2 (by omega) (by omega) (by simp [val])).mono ?_
  rintro e w1 ⟨qo, qn, qc, ro, rn, rc, rfl, sq, sr, b1⟩
  rw [k_q] at sq
  rw [k_r] at sr
  have B1 : Below w.heap.size w w1 := lb.trans (b1.mono lb.size)
  clear l1 l2 lb b1
  go_wp2_with fail
  obtain ⟨l1, l2, lb⟩ := lit2 w1 1 1 [5] [0] #[.int .u32 5] #[.int .u32 0] rfl rfl (lim1 (by omega)) (lim1 (by omega)) rfl rfl
  refine (divMod_no _ _ _ 1 1 1 1 _ [5] [0] l1 l2 (by omega) (by omega) (by simp [val])).mono ?_
  rintro e w2 ⟨rfl, hw2⟩
  rw [hw2] at lb
  clear hw2 l1 l2
  have B2 := B1.trans (lb.mono B1.size)
  replace sq := sq.later lb
  replace sr := sr.later lb
  clear lb B1
  go_wp2_with fail
  obtain ⟨l1, l2, lb⟩ := lit2 w2 1 1 [1] [2] #[.int .u32 1] #[.int .u32 2] rfl rfl (lim1 (by omega)) (lim1 (by omega)) rfl rfl
  refine (sub_no _ _ _ 1 1 1 1 _ [1] [2] l1 l2 (by omega) (by omega) (by simp [val])).mono ?_
  rintro e w3 ⟨rfl, hq⟩
  replace lb := lb.trans (hq.below _)
  have B3 := B2.trans (lb.mono B2.size)
  replace sq := sq.later lb
  replace sr := sr.later lb
  clear lb hq l1 l2 B2
  go_wp2_with fail
  obtain ⟨l1, lb⟩ := lit1 w3 1 [3] #[.int .u32 3] rfl (lim1 (by omega)) rfl
  refine (shl_any _ _ 1 1 33 [3] l1 (by omega) (by omega)).mono ?_
  rintro e w4 ⟨so, sn, sc, rfl, ss, b4⟩
  rw [k_s] at ss
  replace lb := lb.trans (b4.mono lb.size)
  have B4 := B3.trans (lb.mono B3.size)
  replace sq := sq.later lb
  replace sr := sr.later lb
  clear lb b4 l1 B3
  go_wp2_with fail
  obtain ⟨l1, l2, lb⟩ := lit2 w4 1 1 [4294967295] [4294967295] #[.int .u32 4294967295] #[.int .u32 4294967295] rfl rfl (lim1 (by omega)) (lim1 (by omega)) rfl rfl
  refine (mul_any _ _ _ 1 1 1 1 [4294967295] [4294967295] l1 l2 (by omega) (by omega)).mono ?_
  rintro e w5 ⟨mo, mn, mc, rfl, sm, b5⟩
  rw [k_m] at sm
  replace lb := lb.trans (b5.mono lb.size)
  have B5 := B4.trans (lb.mono B4.size)
  replace sq := sq.later lb
  replace sr := sr.later lb
  replace ss := ss.later lb
  clear lb b5 l1 l2 B4
  go_wp2_with fail
  obtain ⟨l1, lb⟩ := lit1 w5 2 [1, 4294967294] #[.int .u32 1, .int .u32 4294967294] rfl (lim2 (by omega) (by omega)) rfl
  refine (same_any _ _ _ _ _ _ _ _ [1, 4294967294] (sm.later lb) l1 (by have := sm.len; simp at this; omega)).mono ?_
  rintro e w6 ⟨rfl, hq⟩
  replace lb := lb.trans (hq.below _)
  have B6 := B5.trans (lb.mono B5.size)
  replace sq := sq.later lb
  replace sr := sr.later lb
  replace ss := ss.later lb
  clear lb hq l1 B5 sm
  go_wp2_with fail
  obtain ⟨l1, l2, lb⟩ := lit2 w6 1 2 [4294967295] [1, 0] #[.int .u32 4294967295] #[.int .u32 1, .int .u32 0] rfl rfl (lim1 (by omega)) (lim2 (by omega) (by omega)) rfl rfl
  refine (add_any _ _ _ 1 1 2 2 [4294967295] [1, 0] l1 l2 (by omega) (by omega)).mono ?_
  rintro e w7 ⟨mo, mn, mc, rfl, sm, b5⟩
  rw [k_a] at sm
  replace lb := lb.trans (b5.mono lb.size)
  have B7 := B6.trans (lb.mono B6.size)
  replace sq := sq.later lb
  replace sr := sr.later lb
  replace ss := ss.later lb
  clear lb b5 l1 l2 B6
  go_wp2_with fail
  obtain ⟨l1, lb⟩ := lit1 w7 2 [0, 1] #[.int .u32 0, .int .u32 1] rfl (lim2 (by omega) (by omega)) rfl
  refine (same_any _ _ _ _ _ _ _ _ [0, 1] (sm.later lb) l1 (by have := sm.len; simp at this; omega)).mono ?_
  rintro e w8 ⟨rfl, hq⟩
  replace lb := lb.trans (hq.below _)
  have B8 := B7.trans (lb.mono B7.size)
  replace sq := sq.later lb
  replace sr := sr.later lb
  replace ss := ss.later lb
  clear lb hq l1 B7 sm
  go_wp2_with fail
  obtain ⟨l1, lb⟩ := lit1 w8 1 [2147483648] #[.int .u32 2147483648] rfl (lim1 (by omega)) rfl
  refine (same_any _ _ _ _ _ _ _ _ [2147483648] (sq.later lb) l1 (by have := sq.len; simp at this; omega)).mono ?_
  rintro e w9 ⟨rfl, hq⟩
  replace lb := lb.trans (hq.below _)
  have B9 := B8.trans (lb.mono B8.size)
  replace sr := sr.later lb
  replace ss := ss.later lb
  clear lb hq l1 B8 sq
  go_wp2_with fail
  obtain ⟨l1, lb⟩ := lit1 w9 1 [7] #[.int .u32 7] rfl (lim1 (by omega)) rfl
  refine (same_any _ _ _ _ _ _ _ _ [7] (sr.later lb) l1 (by have := sr.len; simp at this; omega)).mono ?_
  rintro e w10 ⟨rfl, hq⟩
  replace lb := lb.trans (hq.below _)
  have B10 := B9.trans (lb.mono B9.size)
  replace ss := ss.later lb
  clear lb hq l1 B9 sr
  go_wp2_with fail
  obtain ⟨l1, lb⟩ := lit1 w10 2 [0, 6] #[.int .u32 0, .int .u32 6] rfl (lim2 (by omega) (by omega)) rfl
  refine (same_any _ _ _ _ _ _ _ _ [0, 6] (ss.later lb) l1 (by have := ss.len; simp at this; omega)).mono ?_
  rintro e w11 ⟨rfl, hq⟩
  replace lb := lb.trans (hq.below _)
  have B11 := B10.trans (lb.mono B10.size)
  clear lb hq l1 B10 ss
  go_wp2_with fail
  obtain ⟨l1, lb⟩ := lit1 w11 2 [0, 1] #[.int .u32 0, .int .u32 1] rfl (lim2 (by omega) (by omega)) rfl
  refine (bits_any _ _ 2 2 _ [0, 1] l1 (by omega)).mono ?_
  rintro e w12 ⟨rfl, hw⟩
  rw [hw] at lb
  rw [k_b]
  have B12 := B11.trans (lb.mono B11.size)
  clear lb hw l1 B11
  go_wp2
  go_ret
  exact ⟨rfl, B12⟩

end Go.Proofs.Ytpbpkemmmmjjlaa
