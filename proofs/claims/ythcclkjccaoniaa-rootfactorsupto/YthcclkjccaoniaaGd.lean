/- append(small, make([]uint32, m)...) on an own row. -/
import Derived.Test.YthcclkjccaoniaaGc
namespace Go.Proofs.Ythcclkjccaoniaa
open Go.RowKit M

theorem zeros_u32 (n : Nat) : Builtin.zeroCells (Value.int .u32 0).cells n = u32s (List.replicate n 0) := by
  apply Array.ext'
  simp [Builtin.zeroCells, Value.cells, u32s]
  apply List.ext_getElem
  · simp
  · intro i h1 h2; simp [Nat.mod_one]

theorem run_appZ (w : World) (B g n cap m : Nat) (zs : List Nat) (ty : TypeId) (hown : Ow B w (.slice (some ⟨g, 0, none⟩) n cap) zs) (hn : 0 < n) (hlen : n + m ≤ 1099511627776) (hB : B ≤ w.heap.size) :
    ∃ g' cap' w', (Builtin.append_ #[22, 3] ty #[.slice (some ⟨g, 0, none⟩) n cap, .int .i64 (m : Int)]).run Try.prog w = .ok (.slice (some ⟨g', 0, none⟩) (n + m) cap') w' ∧
      Ow B w' (.slice (some ⟨g', 0, none⟩) (n + m) cap') (zs ++ List.replicate m 0) ∧ w.grownBy w' (some g) ∧ (g' = g ∨ w.heap.size ≤ g') := by
  obtain ⟨i0, hi, hz0, hz1, hz2⟩ := info_parts info38
  obtain ⟨g', cur, h1, h2, h3, h4, h5, h6, h7⟩ := hown.inv hn
  simp only [Option.some.injEq, Addr.mk.injEq] at h1
  obtain ⟨rfl, _⟩ := h1
  have hzl := hown.len
  have hw : IntKind.i64.wrap (m : Int) = (m : Int) := by rw [IntKind.wrap_i64]; omega
  have hneg : ¬ (m : Int) < 0 := by omega
  have hbig : ¬ ((281474976710656 : Int) < (m : Int) * 4) := by omega
  have hu := run_underlying (P := Try.prog) Try.underlying3
  have hlim := hown.lim.append (Lim.rep m)
  by_cases hroom : n + m ≤ cap
  · have hst := run_storeCells_at Try.prog g n 32 (u32s (List.replicate m 0)).toList 0 cur w h3 (by simp [u32s]; omega) (by intro v hv; simp [u32s] at hv; rw [hv.2]; rfl)
    simp only [Nat.add_zero] at hst
    refine ⟨g, cap, w.setRow g (cur.toList.take n ++ (u32s (List.replicate m 0)).toList ++ cur.toList.drop (n + (u32s (List.replicate m 0)).toList.length)).toArray, ?_, ⟨hlim, ?_, .inr ⟨g, cap, _, ?_, h2, setRow_heap w g cur _ _ _ h3, ?_, h5, ?_, ?_⟩⟩, ⟨rfl, rfl, rfl, by simp, fun k _ hk => setRow_other w g k _ (fun e => hk (by rw [e]))⟩, .inl rfl⟩
    · by_cases hm : m = 0
      · subst hm
        have hw0 : IntKind.i64.wrap 0 = 0 := rfl
        simp [u32s] at hst hroom ⊢
        simp [Builtin.append_, run_underlying (P := Try.prog) Try.underlying22, hu, sizeOf, typeInfo, hi, hz1, hz2, Addr.add_lit, asInt, asIntOf, hw0, hroom, hst]
      · have hm0 : ¬ (m : Int) ≤ 0 := by omega
        simp [Builtin.append_, run_underlying (P := Try.prog) Try.underlying22, hu, sizeOf, typeInfo, hi, hz1, hz2, zeroValue, hz0, hw, hneg, hbig, hroom, hm, zeros_u32, Addr.add_lit, asInt, asIntOf] at hst ⊢
        rw [hst]; rfl
    · simp
    · simp [hzl]
    · simp [hzl]; omega
    · simp [u32s]; omega
    · have hl : (cur.toList.take n ++ (u32s (List.replicate m 0)).toList).length = (zs ++ List.replicate m 0).length * 1 := by simp [u32s, hzl]; omega
      rw [List.toList_toArray, ← hl, List.take_left, h7]
      simp [u32s]
  · have hm : m ≠ 0 := by omega
    have hm0 : ¬ (m : Int) ≤ 0 := by omega
    have hn63 : ¬ (9223372036854775807 < (n : Int) + (m : Int)) := by omega
    have hfits := growslice_fits (need := n + m) (old := cap) (bytes := 4) (by omega) (by omega)
    have h48 : ¬ (281474976710656 < Builtin.nextslicecap (n + m) cap * 4) := by omega
    have hfo := run_firstCells_some (P := Try.prog) w.drew 1 n ⟨g, 0, none⟩ n cap (zs.map fun x : Nat => Value.int .u32 (x : Int)) (by simp [hzl]) (by
      intro j v hj
      have := (hown.own.cells (g := g) rfl) j v (by simpa using hj)
      simpa using this)
    have hge := grownCap_ge w (n + m) cap 32
    have hcm : grownCap w (n + m) cap 32 ≤ maxLen := grownCap_le_maxLen w (n + m) cap 32 (by unfold maxLen; omega)
    refine ⟨w.heap.size, grownCap w (n + m) cap 32, w.drew.alloc (.cells ((zs.map fun x : Nat => Value.int .u32 (x : Int)).toArray ++ u32s (List.replicate m 0) ++ u32s (List.replicate (grownCap w (n + m) cap 32 - (n + m)) 0)) 32), ?_, ⟨hlim, ?_, .inr ⟨w.heap.size, _, _, ?_, hB, heap_alloc_new w.drew _, ?_, hcm, ?_, ?_⟩⟩, ⟨rfl, rfl, rfl, by simp, fun k hk _ => heap_alloc_old w.drew _ hk⟩, .inr (Nat.le_refl _)⟩
    · simp [Builtin.append_, run_underlying (P := Try.prog) Try.underlying22, hu, sizeOf, typeInfo, hi, hz1, hz2, zeroValue, hz0, hw, hneg, hbig, hroom, hm, hn63, h48, zeros_u32, asInt, asIntOf, Question.forced, hfo, newRow, grownCap]
    · simp
    · simp [hzl]
    · simp [hzl]; omega
    · simp [u32s, hzl]; omega
    · have hl : ((zs.map fun x : Nat => Value.int .u32 (x : Int)) ++ (u32s (List.replicate m 0)).toList).length = (zs ++ List.replicate m 0).length * 1 := by simp [u32s]
      rw [Array.toList_append, Array.toList_append, ← hl, List.toList_toArray, List.take_left]
      simp [u32s]

section
variable {ops : Array Oper} {rest : List Oper} {o : Oper} {a : Act} {Q : Exit → Act → World → Prop}
/-- 'append(xs, make([]uint32, m)...)'. -/
theorem wp_appZ {w : World} (hgd : o.guard = none) (s x : Operand) (ho : o.op = .call { callee := .builtin .append, args := #[s, x], argTypes := #[22, 3] })
    {B g n cap m : Nat} {zs : List Nat} (hown : Ow B w (.slice (some ⟨g, 0, none⟩) n cap) zs) (hs : a.eval s = .slice (some ⟨g, 0, none⟩) n cap) {K : Int} (hx : a.eval x = .int .i64 K) (hK : K = (m : Int))
    (hn : 0 < n) (hlen : n + m ≤ 1099511627776) (hB : B ≤ w.heap.size)
    (h : ∀ g' cap' w', Ow B w' (.slice (some ⟨g', 0, none⟩) (n + m) cap') (zs ++ List.replicate m 0) → w.grownBy w' (some g) → (g' = g ∨ w.heap.size ≤ g') → wpList Try.prog ops Q rest (a.put o.dst (.slice (some ⟨g', 0, none⟩) (n + m) cap')) w') :
    wpList Try.prog ops Q (o :: rest) a w := by
  subst hK
  obtain ⟨g', cap', w', hr, h2, h3, h4⟩ := run_appZ w B g n cap m zs o.type hown hn hlen hB
  refine wpList_plain hgd fun _ hK => ?_
  unfold Oper.wp execOp
  simp only [ho, resolve, invoke, builtin, Sem.run_bind, Sem.run_pure, Result.andThen_ok, List.map_toArray, List.map_cons, List.map_nil, hs, hx, hr]
  exact hK _ _ (h g' cap' w' h2 h3 h4)
end
end Go.Proofs.Ythcclkjccaoniaa
