/- penumbralaw01.fixed: true. -/
import Derived.Test.YthcclkjccaoniaaWc
namespace Go.Proofs.Ythcclkjccaoniaa
open Go.RowKit M

/-- A slice that is written out. -/
theorem lit1 (w : World) (n : Nat) (zs : List Nat) (cz : Array Value) (hz : cz = u32s zs) (hl : Lim zs) (hn : zs.length = n) :
    Sl (w.alloc (.cells cz 32)).heap.size (w.alloc (.cells cz 32)) (some ⟨w.heap.size, 0, none⟩) n n zs ∧ Below w.heap.size w (w.alloc (.cells cz 32)) := by
  subst hz
  exact ⟨Sl.own (Own.alloc _ _) hl (by simp) n n hn (Nat.le_refl _), (Below.refl _ _).alloc (Nat.le_refl _) _⟩
/-- Two slices that are written out. -/
theorem lit2 (w : World) (n m : Nat) (zs ys : List Nat) (cz cy : Array Value) (hz : cz = u32s zs) (hy : cy = u32s ys) (hl : Lim zs) (hk : Lim ys) (hn : zs.length = n) (hm : ys.length = m) :
    Sl ((w.alloc (.cells cz 32)).alloc (.cells cy 32)).heap.size ((w.alloc (.cells cz 32)).alloc (.cells cy 32)) (some ⟨w.heap.size, 0, none⟩) n n zs ∧
    Sl ((w.alloc (.cells cz 32)).alloc (.cells cy 32)).heap.size ((w.alloc (.cells cz 32)).alloc (.cells cy 32)) (some ⟨w.heap.size + 1, 0, none⟩) m m ys ∧
    Below w.heap.size w ((w.alloc (.cells cz 32)).alloc (.cells cy 32)) := by
  obtain ⟨a1, a2⟩ := lit1 w n zs cz hz hl hn
  obtain ⟨b1, b2⟩ := lit1 (w.alloc (.cells cz 32)) m ys cy hy hk hm
  have e : (w.alloc (.cells cz 32)).heap.size = w.heap.size + 1 := by simp
  exact ⟨a1.later b2, by rw [e] at b1; exact b1, a2.trans (b2.mono (by rw [e]; omega))⟩

theorem toL_is {n : Nat} {zs : List Nat} (hv : val zs = n) (hl : Lim zs) (hn : zs = [] ∨ zs.getD (zs.length - 1) 0 ≠ 0) : toL n = zs := by rw [← hv]; exact toL_of_normal hl hn

theorem lim1 {a : Nat} (h : a < 4294967296) : Lim [a] := Lim.mk h Lim.nil
theorem lim2 {a b : Nat} (h : a < 4294967296) (k : b < 4294967296) : Lim [a, b] := Lim.mk h (lim1 k)
theorem lim3 {a b c : Nat} (h : a < 4294967296) (k : b < 4294967296) (l : c < 4294967296) : Lim [a, b, c] := Lim.mk h (lim2 k l)

theorem k_q : toL (val [7, 0, 1] / val [0, 2]) = [2147483648] := toL_is (by simp [val]) (lim1 (by omega)) (.inr (by simp))
theorem k_r : toL (val [7, 0, 1] % val [0, 2]) = [7] := toL_is (by simp [val]) (lim1 (by omega)) (.inr (by simp))
theorem k_s : toL (val [3] * 2 ^ 33) = [0, 6] := toL_is (by simp [val]) (lim2 (by omega) (by omega)) (.inr (by simp))
theorem k_m : toL (val [4294967295] * val [4294967295]) = [1, 4294967294] := toL_is (by simp [val]) (lim2 (by omega) (by omega)) (.inr (by simp))
theorem k_a : toL (val [4294967295] + val [1, 0]) = [0, 1] := toL_is (by simp [val]) (lim2 (by omega) (by omega)) (.inr (by simp))
theorem k_b : nb (val [0, 1]) = 33 := nb_eq (k := 32) (by simp [val]) (by simp [val])

end Go.Proofs.Ythcclkjccaoniaa
