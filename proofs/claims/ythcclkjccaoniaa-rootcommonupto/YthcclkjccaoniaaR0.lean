/- append on a slice of limbs that the call itself made. -/
import Derived.Test.YthcclkjccaoniaaL0
import Derived.Laws.AppendOwnNone
namespace Go.Proofs.Ythcclkjccaoniaa
open Go.RowKit M

/-- The slice value v is the call's own (its block is from B on), and holds the limbs zs. -/
structure Ow (B : Nat) (w : World) (v : Value) (zs : List Nat) : Prop where
  lim : Lim zs
  own : w.ownsRow B 32 1 v zs.length (zs.map fun x : Nat => Value.int .u32 (x : Int))

theorem Ow.sl {B : Nat} {w : World} {v : Value} {zs : List Nat} (h : Ow B w v zs) : ∃ ao m cap, v = .slice ao m cap ∧ Sl w.heap.size w ao m cap zs := by
  rcases h.own.2 with ⟨rfl, h0⟩ | ⟨g, cap, cur, rfl, hg, hh, hle, _, _, htk⟩
  · obtain rfl : zs = [] := List.eq_nil_of_length_eq_zero h0
    exact ⟨none, 0, 0, rfl, Sl.nil _ _⟩
  · refine ⟨some ⟨g, 0, none⟩, zs.length, cap, rfl, rfl, hle, h.lim, fun h0 => ⟨g, 0, rfl, (Array.getElem?_eq_some_iff.1 hh).1, fun i hi => ?_⟩, fun h => by simp at h⟩
    have := h.own.cellAt i (by omega)
    rw [Nat.zero_add, this]
    simp [hi]

/-- '[]uint32{}'. -/
theorem Ow.start (w : World) : Ow w.heap.size (w.alloc (.cells #[] 32)) (.slice (some ⟨w.heap.size, 0, none⟩) 0 0) [] :=
  ⟨Lim.nil, World.ownsRow_lit w #[] 0 (Nat.le_refl _) (by unfold maxLen; omega) (by simp)⟩

theorem Ow.qt {B : Nat} {w w' : World} {v : Value} {zs : List Nat} (h : Ow B w v zs) (q : Qt w w') : Ow B w' v zs := by
  refine ⟨h.lim, h.own.1, ?_⟩
  rcases h.own.2 with h2 | ⟨g, cap, cur, h1, h2, h3, r⟩
  · exact .inl h2
  · exact .inr ⟨g, cap, cur, h1, h2, by rw [q.heap]; exact h3, r⟩

section
variable {ops : Array Oper} {rest : List Oper} {o : Oper} {a : Act} {Q : Exit → Act → World → Prop}

/-- 'append(out, x)'. -/
theorem wp_app1 {w : World} (hgd : o.guard = none) (s x : Operand) (ho : o.op = .call { callee := .builtin .append, args := #[s, x], argTypes := #[22, 22] })
    {B : Nat} {v : Value} {zs : List Nat} (y : Nat) (Y : Int) (hown : Ow B w v zs) (hs : a.eval s = v) (hx : a.eval x = .slice (some ⟨w.heap.size, 0, none⟩) 1 1)
    (hY : Y = (y : Int)) (hy : y < 4294967296) (hlen : zs.length ≤ 1099511627776) (hB : B ≤ w.heap.size)
    (h : ∀ v' w', Ow B w' v' (zs ++ [y]) → Below B w w' → wpList Try.prog ops Q rest (a.put o.dst v') w') :
    wpList Try.prog ops Q (o :: rest) a (w.alloc (.cells #[.int .u32 Y] 32)) := by
  subst hY
  obtain ⟨i0, hi, hz0, hz1, hz2⟩ := info_parts info38
  refine wpList_append_own _ hgd s x 22 ho B 32 i0 (.int .u32 0) 1 4 Try.underlying22 hi hz0 hz1 hz2 rfl (by decide) v zs.length _ hs (hown.own.alloc _) ⟨w.heap.size, 0, none⟩ 1 1 [.int .u32 (y : Int)] hx rfl ?_ ?_ ?_ ?_ ?_ ?_
  · intro j u hj
    match j, hj with
    | 0, hj => simp at hj; subst hj; simp [Addr.add]
  · intro u hu; simp at hu; subst hu; rfl
  · unfold maxLen; omega
  · omega
  · have := Below.size ((Below.refl B w).alloc hB (.cells #[.int .u32 (y : Int)] 32)); omega
  · intro v' w' ho' hg _
    refine h v' w' ⟨hown.lim.append (Lim.mk hy Lim.nil), ?_⟩ ?_
    · rw [List.length_append, List.map_append]; exact ho'
    · refine ((Below.refl B w).alloc hB _).grown hg (by have := Below.size ((Below.refl B w).alloc hB (.cells #[.int .u32 (y : Int)] 32)); omega) ?_
      intro k hk
      exact (hown.own.lt k hk).1

/-- 'append(out, xs...)'. -/
theorem wp_appS {w : World} (hgd : o.guard = none) (s x : Operand) (ho : o.op = .call { callee := .builtin .append, args := #[s, x], argTypes := #[22, 22] })
    {B : Nat} {v : Value} {zs ys : List Nat} {bo : Option Addr} {m bcap : Nat} (hown : Ow B w v zs) (hsl : Sl w.heap.size w bo m bcap ys) (hs : a.eval s = v) (hx : a.eval x = .slice bo m bcap)
    (hlen : zs.length + m ≤ 1099511627776) (hB : B ≤ w.heap.size)
    (h : ∀ v' w', Ow B w' v' (zs ++ ys) → Below B w w' → wpList Try.prog ops Q rest (a.put o.dst v') w') :
    wpList Try.prog ops Q (o :: rest) a w := by
  obtain ⟨i0, hi, hz0, hz1, hz2⟩ := info_parts info38
  cases bo with
  | none =>
    have hc := hsl.nilc rfl
    have hm : m = 0 := by have := hsl.le; omega
    subst hc
    subst hm
    obtain rfl : ys = [] := List.eq_nil_of_length_eq_zero hsl.len
    refine wpList_append_own_none hgd s x 22 ho B 32 i0 1 Try.underlying22 hi v zs.length _ hs hown.own hx ?_
    exact h v w (by simpa using hown) (Below.refl _ _)
  | some ad =>
    have hcell : ∀ j u, (ys.map fun x : Nat => Value.int .u32 (x : Int))[j]? = some u → w.cell? (ad.add j) = some u := by
      intro j u hj
      rw [List.getElem?_map] at hj
      have hjm : j < m := by
        by_cases hjm : j < m
        · exact hjm
        · rw [List.getElem?_eq_none (by rw [hsl.len]; omega)] at hj; simp at hj
      obtain ⟨b, p, h1, h2, h3⟩ := hsl.there (by omega)
      simp only [Option.some.injEq] at h1
      subst h1
      have hadd : (⟨b, p, none⟩ : Addr).add j = ⟨b, p + j, none⟩ := by unfold Addr.add; split <;> simp_all
      rw [hadd, h3 j hjm]
      rw [List.getElem?_eq_getElem (by rw [hsl.len]; exact hjm)] at hj
      simp at hj
      rw [← hj, List.getD_eq_getElem?_getD, List.getElem?_eq_getElem (by rw [hsl.len]; exact hjm)]
      rfl
    refine wpList_append_own _ hgd s x 22 ho B 32 i0 (.int .u32 0) 1 4 Try.underlying22 hi hz0 hz1 hz2 rfl (by decide) v zs.length _ hs hown.own ad m bcap (ys.map fun x : Nat => Value.int .u32 (x : Int)) hx ?_ hcell ?_ ?_ ?_ hB ?_
    · rw [List.length_map, hsl.len]; omega
    · intro u hu; simp at hu; obtain ⟨x, _, rfl⟩ := hu; rfl
    · unfold maxLen; omega
    · omega
    · intro v' w' ho' hg _
      refine h v' w' ⟨hown.lim.append hsl.lim, ?_⟩ ?_
      · rw [List.length_append, List.map_append, hsl.len]; exact ho'
      · exact (Below.refl B w).grown hg hB fun k hk => (hown.own.lt k hk).1
end

end Go.Proofs.Ythcclkjccaoniaa
