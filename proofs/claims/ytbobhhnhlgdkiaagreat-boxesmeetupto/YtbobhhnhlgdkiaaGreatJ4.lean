/- root.limbAt, word, gcdOfWords, trimmed; math/bits.Len64; root.rootOfWord. -/
import Derived.Test.YtbobhhnhlgdkiaaGreatJ1
import Derived.Test.YtbobhhnhlgdkiaaGreatJ3
import Derived.Laws.AppendOwnNone
namespace Go.Proofs.YtbobhhnhlgdkiaaGreat
open Go.RowKit M
set_option maxRecDepth 100000

set_option maxHeartbeats 400000 in
theorem limbAt_any (N : Nat) (w : World) (ao : Option Addr) (n cap k : Nat) (xs : List Nat) (h : Sl N w ao n cap xs) :
    Calls Tryz.prog 109 #[.slice ao n cap, .int .i64 (k : Int)] w fun e w' => e = .returned (.int .u32 ((xs.getD k 0 : Nat) : Int)) ∧ w = w' := by
  by_cases hk : k < n
  · obtain ⟨b, o, x, rfl, hb, hcell, hx, HX⟩ := h.cell k hk
    rw [← HX.out]
    clear HX
    go_enter Tryz.func109, Tryz.ntmps109
    go_wp2
    go_ret
    exact ⟨rfl, rfl⟩
  · rw [getD_beyond (by rw [h.len]; omega)]
    have hk2 : n ≤ k := by omega
    go_enter Tryz.func109, Tryz.ntmps109
    go_wp2
    go_ret
    exact ⟨rfl, rfl⟩

theorem val_two {xs : List Nat} {n : Nat} (h : xs.length = n) (hn : n ≤ 2) : val xs = xs.getD 1 0 * 4294967296 + xs.getD 0 0 := by
  have e1 := val_take_succ' xs 1
  have e0 := val_take_succ' xs 0
  rw [val_take_zero, Bp_zero] at e0
  rw [List.take_of_length_le (by omega), e0, Bp_succ, Bp_zero] at e1
  omega

set_option maxHeartbeats 400000 in
theorem word_any (N : Nat) (w : World) (ao : Option Addr) (n cap : Nat) (xs : List Nat) (h : Sl N w ao n cap xs) (hn : n ≤ 2) :
    Calls Tryz.prog 95 #[.slice ao n cap] w fun e w' => e = .returned (.int .u64 ((val xs : Nat) : Int)) ∧ w = w' := by
  have hv := val_two h.len hn
  have l1 := h.lim.getD 1
  have l0 := h.lim.getD 0
  have c1 := limbAt_any N w ao n cap 1 xs h
  have c0 := limbAt_any N w ao n cap 0 xs h
  have hj := or_join (r := xs.getD 1 0) (x := xs.getD 0 0) l1 l0
  rw [← hv] at hj
  generalize xs.getD 1 0 = y1 at *
  generalize xs.getD 0 0 = y0 at *
  have C1 : Hid _ := c1
  have C0 : Hid _ := c0
  have HJ : Hid _ := hj
  clear c1 c0 hv hj
  go_enter Tryz.func95, Tryz.ntmps95
  go_wp2_with fail
  refine Calls.mono C1.out ?_
  rintro e w' ⟨rfl, rfl⟩
  go_wp2_with fail
  refine Calls.mono C0.out ?_
  rintro e w' ⟨rfl, rfl⟩
  go_wp2
  go_ret
  exact ⟨ret1 (by rw [← HJ.out]), rfl⟩

theorem gcd_turn (A B : Nat) : Nat.gcd B (A % B) = Nat.gcd A B := by
  rw [Nat.gcd_comm B, ← Nat.gcd_rec, Nat.gcd_comm]

set_option maxHeartbeats 400000 in
theorem gcdOfWords_any (w : World) (a b : Nat) (ha : a < 18446744073709551616) (hb : b < 18446744073709551616) :
    Calls Tryz.prog 94 #[.int .u64 (a : Int), .int .u64 (b : Int)] w fun e w' => e = .returned (.int .u64 ((Nat.gcd a b : Nat) : Int)) ∧ Qt w w' := by
  go_enter Tryz.func94, Tryz.ntmps94
  go_wp2
  go_loopw [0, 1] (fun av bv wr => ∃ x y : Nat, av = .int .u64 (x : Int) ∧ bv = .int .u64 (y : Int) ∧ x < 18446744073709551616 ∧ y < 18446744073709551616 ∧ Nat.gcd x y = Nat.gcd a b ∧ Qt w wr) (fun _ bv _ => (intOf bv).toNat)
  case atStart => exact ⟨a, b, rfl, rfl, ha, hb, rfl, Qt.refl _⟩
  case round =>
    obtain ⟨x, y, rfl, rfl, hx, hy, hg, hq⟩ := hrel
    have HG : Hid _ := hg
    clear hg
    by_cases h0 : y = 0
    · subst h0
      go_wp2
      go_ret
      exact ⟨ret1 (by rw [← HG.out, Nat.gcd_zero_right]), hq⟩
    · have hyb : ((y : Int) != 0) = true := by rw [bne_iff_ne]; omega
      have hy0 : ((y : Int) == 0) = false := by rw [beq_eq_false_iff_ne]; omega
      have hm := Nat.mod_lt x (Nat.pos_of_ne_zero h0)
      have HM : Hid _ := hm
      have em : Int.tmod (x : Int) (y : Int) = ((x % y : Nat) : Int) := by rw [Int.tmod_eq_emod_of_nonneg (by omega)]; rw [Int.natCast_emod]
      clear hm
      go_wp2
      go_quiet (fail)
      go_wp2
      go_roundw
      case rel => exact ⟨y, x % y, rfl, by go_num, hy, by have := HM.out; omega, by rw [gcd_turn]; exact HG.out, hq.drewN _⟩
      case measure => simp [intOf]; exact HM.out
end Go.Proofs.YtbobhhnhlgdkiaaGreat

/- root.trimmed; math/bits.Len64; root.rootOfWord. -/
namespace Go.Proofs.YtbobhhnhlgdkiaaGreat
open Go.RowKit M
set_option maxRecDepth 100000

theorem limbs_of_bits (V : Nat) : (nb V + 31) / 32 = (toL V).length := by
  by_cases h : V = 0
  · subst h; rfl
  · have h1 := nb_toL h
    have h2 := toL_length_pos h
    have h3 := toL_last h
    have h4 := (Lim_toL V).getD ((toL V).length - 1)
    obtain ⟨g1, g2, _, _⟩ := shift_top (l := nb ((toL V).getD ((toL V).length - 1) 0)) h3 rfl h4
    omega

set_option maxHeartbeats 400000 in
theorem rtrimmed_any (N : Nat) (w : World) (ao : Option Addr) (n cap : Nat) (xs : List Nat) (h : Sl N w ao n cap xs) (hlen : n ≤ 1099511627776) :
    Calls Tryz.prog 106 #[.slice ao n cap] w fun e w' => e = .returned (.slice ao (toL (val xs)).length cap) ∧ w = w' := by
  have hcap := h.le
  have hl := limbs_of_bits (val xs)
  have hk : (toL (val xs)).length ≤ n := toL_len_le h.lt
  have hnb : nb (val xs) ≤ 35184372088832 := by omega
  generalize (toL (val xs)).length = k at *
  have hb := bits_any w ao n cap N xs h hlen
  generalize nb (val xs) = b at *
  have HB : Hid _ := hb
  clear hb
  go_enter Tryz.func106, Tryz.ntmps106
  go_wp2_with fail
  refine Calls.mono HB.out ?_
  rintro e w' ⟨rfl, rfl⟩
  have e1 : ((b : Int) + 32 - 1) / 32 = (k : Int) := by omega
  have e2 : ((b : Int) + 32 - 1).tdiv 32 = (k : Int) := by rw [Int.tdiv_eq_ediv_of_nonneg (by omega)]; exact e1
  go_wp2
  go_ret
  exact ⟨rfl, rfl⟩

end Go.Proofs.YtbobhhnhlgdkiaaGreat

/- append on a slice of limbs that the call itself made. -/
namespace Go.Proofs.YtbobhhnhlgdkiaaGreat
open Go.RowKit M
set_option maxRecDepth 100000

/-- The slice value v is the call's own (its block is from B on), and holds the limbs zs. -/
structure Ow (B : Nat) (w : World) (v : Value) (zs : List Nat) : Prop where
  lim : Lim zs
  own : w.ownsRow B 86 1 v zs.length (zs.map fun x : Nat => Value.int .u32 (x : Int))

theorem Ow.sl {B : Nat} {w : World} {v : Value} {zs : List Nat} (h : Ow B w v zs) : ∃ ao m cap, v = .slice ao m cap ∧ Sl w.heap.size w ao m cap zs := by
  rcases h.own.2 with ⟨rfl, h0⟩ | ⟨g, cap, cur, rfl, hg, hh, hle, _, _, htk⟩
  · obtain rfl : zs = [] := List.eq_nil_of_length_eq_zero h0
    exact ⟨none, 0, 0, rfl, Sl.nil _ _⟩
  · refine ⟨some ⟨g, 0, none⟩, zs.length, cap, rfl, rfl, hle, h.lim, fun h0 => ⟨g, 0, rfl, (Array.getElem?_eq_some_iff.1 hh).1, fun i hi => ?_⟩, fun h => by simp at h⟩
    have := h.own.cellAt i (by omega)
    rw [Nat.zero_add, this]
    simp [hi]

/-- '[]uint32{}'. -/
theorem Ow.start (w : World) : Ow w.heap.size (w.alloc (.cells #[] 86)) (.slice (some ⟨w.heap.size, 0, none⟩) 0 0) [] :=
  ⟨Lim.nil, World.ownsRow_lit w #[] 0 (Nat.le_refl _) (by unfold maxLen; omega) (by simp)⟩

theorem Ow.qt {B : Nat} {w w' : World} {v : Value} {zs : List Nat} (h : Ow B w v zs) (q : Qt w w') : Ow B w' v zs := by
  refine ⟨h.lim, h.own.1, ?_⟩
  rcases h.own.2 with h2 | ⟨g, cap, cur, h1, h2, h3, r⟩
  · exact .inl h2
  · exact .inr ⟨g, cap, cur, h1, h2, by rw [q.heap]; exact h3, r⟩

section
variable {ops : Array Oper} {rest : List Oper} {o : Oper} {a : Act} {Q : Exit → Act → World → Prop}

/-- 'append(out, x)'. -/
theorem wp_app1 {w : World} (hgd : o.guard = none) (s x : Operand) (ho : o.op = .call { callee := .builtin .append, args := #[s, x], argTypes := #[22, 22] })
    {B : Nat} {v : Value} {zs : List Nat} (y : Nat) (Y : Int) (hown : Ow B w v zs) (hs : a.eval s = v) (hx : a.eval x = .slice (some ⟨w.heap.size, 0, none⟩) 1 1)
    (hY : Y = (y : Int)) (hy : y < 4294967296) (hlen : zs.length ≤ 1099511627776) (hB : B ≤ w.heap.size)
    (h : ∀ v' w', Ow B w' v' (zs ++ [y]) → Below B w w' → wpList Tryz.prog ops Q rest (a.put o.dst v') w') :
    wpList Tryz.prog ops Q (o :: rest) a (w.alloc (.cells #[.int .u32 Y] 86)) := by
  subst hY
  obtain ⟨i0, hi, hz0, hz1, hz2⟩ := info_parts info38
  refine wpList_append_own _ hgd s x 22 ho B 86 i0 (.int .u32 0) 1 4 Tryz.underlying22 hi hz0 hz1 hz2 rfl (by decide) v zs.length _ hs (hown.own.alloc _) ⟨w.heap.size, 0, none⟩ 1 1 [.int .u32 (y : Int)] hx rfl ?_ ?_ ?_ ?_ ?_ ?_
  · intro j u hj
    match j, hj with
    | 0, hj => simp at hj; subst hj; simp [Addr.add]
  · intro u hu; simp at hu; subst hu; rfl
  · unfold maxLen; omega
  · omega
  · have := Below.size ((Below.refl B w).alloc hB (.cells #[.int .u32 (y : Int)] 86)); omega
  · intro v' w' ho' hg _
    refine h v' w' ⟨hown.lim.append (Lim.mk hy Lim.nil), ?_⟩ ?_
    · rw [List.length_append, List.map_append]; exact ho'
    · refine ((Below.refl B w).alloc hB _).grown hg (by have := Below.size ((Below.refl B w).alloc hB (.cells #[.int .u32 (y : Int)] 86)); omega) ?_
      intro k hk
      exact (hown.own.lt k hk).1

/-- 'append(out, xs...)'. -/
theorem wp_appS {w : World} (hgd : o.guard = none) (s x : Operand) (ho : o.op = .call { callee := .builtin .append, args := #[s, x], argTypes := #[22, 22] })
    {B : Nat} {v : Value} {zs ys : List Nat} {bo : Option Addr} {m bcap : Nat} (hown : Ow B w v zs) (hsl : Sl w.heap.size w bo m bcap ys) (hs : a.eval s = v) (hx : a.eval x = .slice bo m bcap)
    (hlen : zs.length + m ≤ 1099511627776) (hB : B ≤ w.heap.size)
    (h : ∀ v' w', Ow B w' v' (zs ++ ys) → Below B w w' → wpList Tryz.prog ops Q rest (a.put o.dst v') w') :
    wpList Tryz.prog ops Q (o :: rest) a w := by
  obtain ⟨i0, hi, hz0, hz1, hz2⟩ := info_parts info38
  cases bo with
  | none =>
    have hc := hsl.nilc rfl
    have hm : m = 0 := by have := hsl.le; omega
    subst hc
    subst hm
    obtain rfl : ys = [] := List.eq_nil_of_length_eq_zero hsl.len
    refine wpList_append_own_none hgd s x 22 ho B 86 i0 1 Tryz.underlying22 hi v zs.length _ hs hown.own hx ?_
    exact h v w (by simpa using hown) (Below.refl _ _)
  | some ad =>
    have hcell : ∀ j u, (ys.map fun x : Nat => Value.int .u32 (x : Int))[j]? = some u → w.cell? (ad.add j) = some u := by
      intro j u hj
      rw [List.getElem?_map] at hj
      have hjm : j < m := by
        by_cases hjm : j < m
        · exact hjm
        · rw [List.getElem?_eq_none (by rw [hsl.len]; omega)] at hj; simp at hj
      obtain ⟨b, p, h1, h2, h3⟩ := hsl.there (by omega)
      simp only [Option.some.injEq] at h1
      subst h1
      have hadd : (⟨b, p, none⟩ : Addr).add j = ⟨b, p + j, none⟩ := by unfold Addr.add; split <;> simp_all
      rw [hadd, h3 j hjm]
      rw [List.getElem?_eq_getElem (by rw [hsl.len]; exact hjm)] at hj
      simp at hj
      rw [← hj, List.getD_eq_getElem?_getD, List.getElem?_eq_getElem (by rw [hsl.len]; exact hjm)]
      rfl
    refine wpList_append_own _ hgd s x 22 ho B 86 i0 (.int .u32 0) 1 4 Tryz.underlying22 hi hz0 hz1 hz2 rfl (by decide) v zs.length _ hs hown.own ad m bcap (ys.map fun x : Nat => Value.int .u32 (x : Int)) hx ?_ hcell ?_ ?_ ?_ hB ?_
    · rw [List.length_map, hsl.len]; omega
    · intro u hu; simp at hu; obtain ⟨x, _, rfl⟩ := hu; rfl
    · unfold maxLen; omega
    · omega
    · intro v' w' ho' hg _
      refine h v' w' ⟨hown.lim.append hsl.lim, ?_⟩ ?_
      · rw [List.length_append, List.map_append, hsl.len]; exact ho'
      · exact (Below.refl B w).grown hg hB fun k hk => (hown.own.lt k hk).1
end

end Go.Proofs.YtbobhhnhlgdkiaaGreat

/- What nat.Norm and nat.DivMod hand back is new memory, which the caller may write and append to. -/
namespace Go.Proofs.YtbobhhnhlgdkiaaGreat
open Go.RowKit M
set_option maxRecDepth 100000

theorem trim_ex (xs : List Nat) : ∀ k, (∀ j, k ≤ j → xs.getD j 0 = 0) → ∃ m, m ≤ k ∧ (∀ j, m ≤ j → xs.getD j 0 = 0) ∧ (m = 0 ∨ xs.getD (m - 1) 0 ≠ 0)
  | 0, h => ⟨0, Nat.le_refl _, h, .inl rfl⟩
  | k + 1, h => by
    by_cases h0 : xs.getD k 0 = 0
    · obtain ⟨m, h1, h2, h3⟩ := trim_ex xs k (fun j hj => by
        by_cases hk : k + 1 ≤ j
        · exact h j hk
        · rw [show j = k from by omega]; exact h0)
      exact ⟨m, by omega, h2, h3⟩
    · exact ⟨k + 1, Nat.le_refl _, h, .inr h0⟩
theorem toL_take {xs : List Nat} (h : Lim xs) : toL (val xs) = xs.take (toL (val xs)).length := by
  obtain ⟨m, h1, h2, h3⟩ := trim_ex xs xs.length (fun j hj => getD_beyond hj)
  have e := toL_trim h m h1 h2 h3
  have hl : (toL (val xs)).length = m := by rw [e, List.length_take]; omega
  rw [hl]; exact e

theorem Ow.mono {B B' : Nat} {w : World} {v : Value} {zs : List Nat} (h : Ow B w v zs) (hB : B' ≤ B) : Ow B' w v zs := by
  refine ⟨h.lim, h.own.1, ?_⟩
  rcases h.own.2 with h2 | ⟨g, cap, cur, h1, h2, r⟩
  · exact .inl h2
  · exact .inr ⟨g, cap, cur, h1, by omega, r⟩
theorem Ow.nul (B : Nat) (w : World) : Ow B w (.slice none 0 0) [] := ⟨Lim.nil, World.ownsRow_nil w B 86 1⟩
theorem Ow.row {B : Nat} {w : World} {g : Nat} {zs : List Nat} (h : Own w g zs) (hl : Lim zs) (hB : B ≤ g) {n : Nat} (hn : zs.length = n) (hm : n ≤ 1099511627776) : Ow B w (.slice (some ⟨g, 0, none⟩) n n) zs := by
  subst hn
  exact ⟨hl, by simp, .inr ⟨g, zs.length, u32s zs, rfl, hB, h, Nat.le_refl _, by unfold maxLen; omega, by simp [u32s], by rw [List.take_of_length_le (by simp [u32s])]; simp [u32s]⟩⟩
theorem Ow.len {B n cap : Nat} {w : World} {ao : Option Addr} {zs : List Nat} (h : Ow B w (.slice ao n cap) zs) : zs.length = n := by
  obtain ⟨ao', m, cap', h1, h2⟩ := h.sl
  simp only [Value.slice.injEq] at h1
  obtain ⟨rfl, rfl, rfl⟩ := h1
  exact h2.len
theorem Ow.rd {B n cap : Nat} {w : World} {ao : Option Addr} {zs : List Nat} (h : Ow B w (.slice ao n cap) zs) : Sl w.heap.size w ao n cap zs := by
  obtain ⟨ao', m, cap', h1, h2⟩ := h.sl
  simp only [Value.slice.injEq] at h1
  obtain ⟨rfl, rfl, rfl⟩ := h1
  exact h2
/-- The block of an own slice that is not empty. -/
theorem Ow.inv {B n cap : Nat} {w : World} {ao : Option Addr} {zs : List Nat} (h : Ow B w (.slice ao n cap) zs) (h0 : 0 < n) :
    ∃ g cur, ao = some ⟨g, 0, Option.none⟩ ∧ B ≤ g ∧ w.heap[g]? = some (.cells cur 86 (0, 0)) ∧ n ≤ cap ∧ cap ≤ maxLen ∧ cur.size = cap ∧ cur.toList.take n = zs.map fun x : Nat => Value.int .u32 (x : Int) := by
  have hl := h.len
  rcases h.own.2 with ⟨h1, h2⟩ | ⟨g, cap', cur, h1, h2, h3, h4, h5, h6, h7⟩
  · omega
  · simp only [Value.slice.injEq] at h1
    obtain ⟨rfl, rfl, rfl⟩ := h1
    exact ⟨g, cur, rfl, h2, h3, h4, h5, by simpa using h6, by simpa using h7⟩
theorem Ow.cut {B n cap g : Nat} {w : World} {zs : List Nat} (h : Ow B w (.slice (some ⟨g, 0, Option.none⟩) n cap) zs) (k : Nat) (hk : k ≤ n) : Ow B w (.slice (some ⟨g, 0, Option.none⟩) k cap) (zs.take k) := by
  have hl := h.len
  have hlt : (zs.take k).length = k := by rw [List.length_take]; omega
  rcases h.own.2 with ⟨h1, h2⟩ | ⟨g', cap', cur, h1, h2, h3, h4, h5, h6, h7⟩
  · simp at h1
  · simp only [Value.slice.injEq, Option.some.injEq, Addr.mk.injEq] at h1
    obtain ⟨⟨rfl, _⟩, _, rfl⟩ := h1
    refine ⟨h.lim.take k, by rw [List.length_map, hlt]; omega, .inr ⟨g, cap, cur, by rw [hlt], h2, h3, by rw [hlt]; omega, h5, h6, ?_⟩⟩
    rw [hlt, Nat.mul_one, List.map_take, ← h7, Nat.mul_one, List.take_take, Nat.min_eq_left (by omega)]
/-- The same row in a world where its block is as it was. -/
theorem Ow.keep {B n cap : Nat} {w w' : World} {ao : Option Addr} {zs : List Nat} (h : Ow B w (.slice ao n cap) zs) (hb : ∀ g, ao = some ⟨g, 0, Option.none⟩ → w'.heap[g]? = w.heap[g]?) : Ow B w' (.slice ao n cap) zs := by
  refine ⟨h.lim, h.own.1, ?_⟩
  rcases h.own.2 with h2 | ⟨g, cap', cur, h1, h2, h3, r⟩
  · exact .inl h2
  · refine .inr ⟨g, cap', cur, h1, h2, ?_, r⟩
    simp only [Value.slice.injEq] at h1
    rw [hb g h1.1]; exact h3
theorem Ow.block {B n cap g : Nat} {w : World} {zs : List Nat} (h : Ow B w (.slice (some ⟨g, 0, Option.none⟩) n cap) zs) : B ≤ g ∧ g < w.heap.size := h.own.lt g rfl
theorem Ow.later {B n cap : Nat} {w w' : World} {ao : Option Addr} {zs : List Nat} (h : Ow B w (.slice ao n cap) zs) (hb : Below w.heap.size w w') : Ow B w' (.slice ao n cap) zs :=
  h.keep fun g hg => by subst hg; exact hb.block g h.block.2
/-- A cell of an own row that is written. -/
theorem Ow.set {B n cap g : Nat} {w : World} {zs : List Nat} (h : Ow B w (.slice (some ⟨g, 0, Option.none⟩) n cap) zs) (i : Nat) {v : Nat} (hv : v < 4294967296) :
    Ow B (w.setCell ⟨g, i, Option.none⟩ (.int .u32 (v : Int))) (.slice (some ⟨g, 0, Option.none⟩) n cap) (zs.set i v) := by
  have hl := h.len
  rcases h.own.2 with ⟨h1, h2⟩ | ⟨g', cap', cur, h1, h2, h3, h4, h5, h6, h7⟩
  · simp at h1
  · simp only [Value.slice.injEq, Option.some.injEq, Addr.mk.injEq] at h1
    obtain ⟨⟨rfl, _⟩, _, rfl⟩ := h1
    refine ⟨h.lim.set i hv, by simp, .inr ⟨g, cap, cur.setIfInBounds i (.int .u32 (v : Int)), by simp [hl], h2, heap_setCell_same w g i _ _ _ h3, by simpa using h4, h5, by simpa using h6, ?_⟩⟩
    rw [List.length_set, Array.toList_setIfInBounds, List.take_set, h7, List.map_set]
theorem Ow.free {B n cap g : Nat} {w : World} {zs : List Nat} (h : Ow B w (.slice (some ⟨g, 0, Option.none⟩) n cap) zs) (i : Nat) : w.frozen? ⟨g, i, Option.none⟩ = false := by
  rcases h.own.2 with ⟨h1, h2⟩ | ⟨g', cap', cur, h1, h2, h3, r⟩
  · simp at h1
  · simp only [Value.slice.injEq, Option.some.injEq, Addr.mk.injEq] at h1
    obtain ⟨⟨rfl, _⟩, _, _⟩ := h1
    exact frozen_of_row w g i _ _ h3
theorem Ow.cell {B n cap g : Nat} {w : World} {zs : List Nat} (h : Ow B w (.slice (some ⟨g, 0, Option.none⟩) n cap) zs) (k : Nat) (hk : k < n) :
    ∃ x : Nat, w.cell? ⟨g, k, Option.none⟩ = some (.int .u32 (x : Int)) ∧ w.frozen? ⟨g, k, Option.none⟩ = false ∧ x < 4294967296 ∧ Hid (x = zs.getD k 0) := by
  obtain ⟨b, o, x, h1, _, h3, h4, h5⟩ := h.rd.cell k hk
  simp only [Option.some.injEq, Addr.mk.injEq] at h1
  obtain ⟨rfl, rfl, _⟩ := h1
  rw [Nat.zero_add] at h3
  exact ⟨x, h3, h.free k, h4, h5⟩

/-- What nat.trimmed leaves of a row. -/
def trimV (ao : Option Addr) (cap : Nat) (ys : List Nat) : Value := if ys.length = 0 then .slice none 0 0 else .slice ao ys.length cap
theorem Ow.trim {B : Nat} {w : World} {g : Nat} {q : List Nat} (h : Own w g q) (hl : Lim q) (hB : B ≤ g) {n : Nat} (hn : q.length = n) (hm : n ≤ 1099511627776) : Ow B w (trimV (some ⟨g, 0, Option.none⟩) n (toL (val q))) (toL (val q)) := by
  unfold trimV
  split
  · rename_i h0
    rw [List.eq_nil_of_length_eq_zero h0]
    exact Ow.nul B w
  · have hk : (toL (val q)).length ≤ n := toL_len_le (by rw [← hn]; exact val_lt hl)
    have e := toL_take hl
    have := (Ow.row h hl hB hn hm).cut _ hk
    rwa [← e] at this
theorem trimV_sl {ao : Option Addr} {cap : Nat} {ys : List Nat} : ∃ a n c, trimV ao cap ys = .slice a n c := by
  unfold trimV; split <;> exact ⟨_, _, _, rfl⟩

set_option maxHeartbeats 400000 in
theorem trimmed_own (N : Nat) (w : World) (ao : Option Addr) (n cap : Nat) (xs : List Nat) (h : Sl N w ao n cap xs) (hlen : n ≤ 1099511627776) :
    Calls Tryz.prog 73 #[.slice ao n cap] w fun e w' => w = w' ∧ e = .returned (trimV ao cap (toL (val xs))) := by
  have hcap := h.le
  go_enter Tryz.func73, Tryz.ntmps73
  go_wp2
  go_loop [3] (fun v => ∃ k : Nat, k ≤ n ∧ v = .int .i64 k ∧ ∀ j, k ≤ j → xs.getD j 0 = 0) (fun v => (intOf v).toNat)
  case atStart => exact ⟨n, Nat.le_refl _, rfl, fun j hj => by rw [List.getD_eq_getElem?_getD, List.getElem?_eq_none (by rw [h.len]; exact hj)]; rfl⟩
  case round =>
    obtain ⟨k, hk, rfl, hz⟩ := hrel
    have HZ : Hid (∀ j, k ≤ j → xs.getD j 0 = 0) := hz
    clear hz
    by_cases h0 : k = 0
    · subst h0
      have e0 : toL (val xs) = [] := by have := toL_trim h.lim 0 (Nat.zero_le _) HZ.out (.inl rfl); simpa using this
      have E0 : Hid (toL (val xs) = []) := e0
      clear e0
      go_wp2
      go_ret
      rw [E0.out]
      exact ⟨rfl, rfl⟩
    · obtain ⟨b, o, x, rfl, hb, hcell, hx, HX⟩ := h.cell (k - 1) (by omega)
      have h1 : 1 ≤ k := by omega
      by_cases hx0 : x = 0
      · have hxb : ((x : Int) == 0) = true := by simp [hx0]
        have HX0 : Hid (x = 0) := hx0
        clear hx0
        go_wp2
        go_round
        case rel => exact ⟨k - 1, by omega, by go_num, fun j hj => by
          by_cases hjk : k ≤ j
          · exact HZ.out j hjk
          · obtain rfl : j = k - 1 := by omega
            rw [← HX.out]; exact HX0.out⟩
        case measure => simp [intOf]; omega
      · have hxb : ((x : Int) == 0) = false := by simp [hx0]
        have et := toL_trim h.lim k (by rw [h.len]; exact hk) HZ.out (.inr (by rw [← HX.out]; exact hx0))
        have ET : Hid (toL (val xs) = xs.take k) := et
        clear hx0 et
        go_wp2
        go_ret
        have hlen2 : (xs.take k).length = k := by rw [List.length_take, h.len]; omega
        refine ⟨rfl, ?_⟩
        rw [ET.out]
        unfold trimV
        rw [hlen2, if_neg (by omega)]
        rfl

/-- What a call leaves that hands back a row which it made itself. -/
def GivesOwn (w : World) (ys : List Nat) (e : Ending) (w' : World) : Prop :=
  ∃ ao n cap, e = .returned (.slice ao n cap) ∧ Ow w.heap.size w' (.slice ao n cap) ys ∧ Below w.heap.size w w'

set_option maxHeartbeats 400000 in
theorem norm_own (w : World) (ao : Option Addr) (n cap : Nat) (xs : List Nat) (h : Sl w.heap.size w ao n cap xs) (hlen : n ≤ 1099511627776) :
    Calls Tryz.prog 91 #[.slice ao n cap] w (GivesOwn w (toL (val xs))) := by
  go_enter Tryz.func91, Tryz.ntmps91
  go_wp2_with fail
  refine (trimmed_any _ _ ao n cap xs h hlen).mono ?_
  rintro e w1 ⟨rfl, a1, n1, c1, rfl, s1, l1⟩
  have hmk := fun u => make_run n1 (by omega) u
  by_cases h0 : n1 = 0
  · have HV : Hid (toL (val xs) = []) := List.eq_nil_of_length_eq_zero (by rw [s1.len, h0])
    subst h0
    go_wp2
    go_ret
    rw [HV.out]
    exact ⟨none, 0, 0, rfl, Ow.nul _ _, Below.refl _ _⟩
  · have hn0 : ((n1 : Int) == 0) = false := by simp [h0]
    have hcp := copy_run w a1 n1 c1 n1 _ s1 (Nat.le_refl _)
    rw [Nat.sub_self, List.replicate_zero, List.append_nil] at hcp
    have hs : Ow w.heap.size (w.alloc (.cells (u32s (toL (val xs))) 86)) (.slice (some ⟨w.heap.size, 0, none⟩) n1 n1) (toL (val xs)) :=
      Ow.row (Own.alloc _ _) (Lim_toL _) (Nat.le_refl _) s1.len (by omega)
    have hb : Below w.heap.size w (w.alloc (.cells (u32s (toL (val xs))) 86)) := (Below.refl _ _).alloc (Nat.le_refl _) _
    go_wp2
    go_ret
    exact ⟨_, n1, n1, rfl, hs, hb⟩

set_option maxHeartbeats 1000000 in
theorem shiftedDown_own (w : World) (ao : Option Addr) (n cap d : Nat) (xs : List Nat) (h : Sl w.heap.size w ao n cap xs) (hlen : n ≤ 1099511627775) (hd : d < 32) :
    Calls Tryz.prog 117 #[.slice ao n cap, .int .i64 (d : Int)] w (GivesOwn w (toL (val xs / 2 ^ d))) := by
  have hmk := fun u => make_run n (by omega) u
  obtain ⟨w2, hw2, hbl, how, hz0⟩ := fresh w n
  go_enter Tryz.func117, Tryz.ntmps117
  go_wp2
  rw [← hw2]
  have u1 := h.below hbl
  obtain ⟨g, hg⟩ : ∃ g, g = w.heap.size := ⟨_, rfl⟩
  rw [← hg] at how hz0 u1 hbl ⊢
  have HG : Hid (g = w.heap.size) := hg
  clear hmk hg hw2
  go_loopw [6, 7] (fun tv iv wr => ∃ k t q, k ≤ n ∧ tv = .int .u64 ((t : Nat) : Int) ∧ t < 18446744073709551616 ∧ t % 4294967296 = xs.getD k 0 ∧ iv = .int .i64 (((k : Nat) : Int) - 1) ∧ Fr g w2 wr ∧ Own wr g q ∧ DnInv n q xs (2 ^ d) k) (fun _ iv _ => (intOf iv + 1).toNat)
  case atStart => exact ⟨n, 0, _, Nat.le_refl _, rfl, by omega, by rw [getD_beyond (by rw [h.len]; exact Nat.le_refl _)], rfl, Fr.refl _ _, how, DnInv.start h.len⟩
  case round =>
    obtain ⟨k, t, q, hk, rfl, ht, htx, rfl, hf, hs, hi⟩ := hrel
    have HT : Hid (t % 4294967296 = xs.getD k 0) := htx
    clear htx
    by_cases h0 : k = 0
    · subst h0
      have HD : Hid (val q = val xs / 2 ^ d) := hi.done
      go_wp2_with fail
      have s3 := Ow.trim (B := g) hs hi.lim (Nat.le_refl _) hi.len (by omega)
      have S3 : Hid _ := s3
      clear s3
      refine (trimmed_own (g + 1) _ _ n n q (Sl.own hs hi.lim (by omega) n n hi.len (Nat.le_refl _)) (by omega)).mono ?_
      rintro e w3 ⟨rfl, rfl⟩
      obtain ⟨a3, n3, c3, e3⟩ := trimV_sl (ao := some ⟨g, 0, none⟩) (cap := n) (ys := toL (val q))
      have s3 := S3.out
      rw [e3] at s3 ⊢
      clear S3 e3
      have S3 : Hid _ := s3
      clear s3
      go_wp2
      go_ret
      have s3 := S3.out
      rw [HD.out] at s3
      have hg := HG.out
      refine ⟨a3, n3, c3, rfl, by rw [← hg]; exact s3, ?_⟩
      rw [← hg]
      exact hbl.trans (hf.below (Nat.le_refl _))
    · obtain ⟨j, rfl⟩ : ∃ j, k = j + 1 := ⟨k - 1, by omega⟩
      rw [show ((j + 1 : Nat) : Int) - 1 = (j : Int) from by omega]
      obtain ⟨b', o, x, rfl, hx0, hx1, hx2, HX⟩ := (u1.fr hf (Nat.le_refl _)).cell j (by omega)
      have hl := hi.len
      have hcl := hs.cell (i := j) (by omega)
      have hfr := hs.free j
      generalize q.getD j 0 = old at hcl
      have st := hi.step (e := 2 ^ (32 - d)) (t := t % 4294967296) h.len h.lim (by omega) (by rw [← Nat.pow_add, show d + (32 - d) = 32 from by omega]) HX.out HT.out
      have hj := or_join_wrap (r := t) (x := x) hx2
      have ST : Hid _ := st
      have et : (t : Int) % 4294967296 * 4294967296 + (x : Int) = ((t % 4294967296 * 4294967296 + x : Nat) : Int) := by omega
      have ev : ((t % 4294967296 * 4294967296 + x : Nat) : Int) / 2 ^ d % 4294967296 = (((t % 4294967296 * 4294967296 + x) / 2 ^ d % 4294967296 : Nat) : Int) := by
        rw [show (2 : Int) ^ d = ((2 ^ d : Nat) : Int) from by rw [Int.natCast_pow]; rfl, ← Int.natCast_ediv]; omega
      have ET : Hid _ := et
      have EV : Hid _ := ev
      clear st hl et ev
      go_wp2
      rw [ET.out, EV.out]
      go_roundw
      case rel => exact ⟨j, _, _, by omega, rfl, by omega, by rw [← HX.out]; omega, rfl, hf.set _ _, hs.set j _, ST.out⟩
      case measure => simp [intOf]

set_option maxHeartbeats 1000000 in
theorem divLong_own (w : World) (ao bo : Option Addr) (la cap m bcap A B : Nat) (h : Sl w.heap.size w ao la cap (toL A)) (h2 : Sl w.heap.size w bo (m + 2) bcap (toL B)) (hla : la ≤ 549755813888) (hm : m + 2 ≤ la) :
    Calls Tryz.prog 108 #[.slice ao la cap, .slice bo (m + 2) bcap] w fun e w' => ∃ qo qn qc ro rn rc, e = .returned (.tuple #[.slice qo qn qc, .slice ro rn rc]) ∧
      Sl w'.heap.size w' qo qn qc (toL (A / B)) ∧ Ow w.heap.size w' (.slice ro rn rc) (toL (A % B)) ∧ Below w.heap.size w w' := by
  obtain ⟨b, o, x, hbo, hb, cx, lx, HX⟩ := h2.cell (m + 1) (by omega)
  subst hbo
  have hB0 : B ≠ 0 := by
    intro h0
    have := h2.len
    rw [h0, toL_zero] at this
    simp at this
  have cx' : w.cell? ⟨b, o + (m + 2 - 1), none⟩ = some (.int .u32 (x : Int)) := cx
  have hx0 : x ≠ 0 := by
    have := toL_last hB0
    rw [h2.len] at this
    rw [HX.out]; exact this
  obtain ⟨g1, g2, _, _⟩ := shift_top (l := nb x) hx0 rfl lx
  obtain ⟨d, hd⟩ : ∃ d, d + nb x = 32 := ⟨32 - nb x, by omega⟩
  have hlz := fun w => lz32_any (x : Int) w (by omega) (by omega)
  rw [Int.toNat_natCast, bitLen_nb x lx, show (32 : Int) - (nb x : Int) = (d : Int) from by omega] at hlz
  have HLZ : Hid _ := hlz
  have HD : Hid (d + nb ((toL B).getD (m + 1) 0) = 32) := by rw [HX.out] at hd; exact hd
  have hd32 : d < 32 := by omega
  have mk1 := fun u => make_run (m + 2 + 1) (by omega) u
  have mk2 := fun u => make_run (la + 1) (by omega) u
  have mk3 := fun u => make_run (la - (m + 2) + 1) (by omega) u
  rw [show ((m + 2 + 1 : Nat) : Int) = (m : Int) + 2 + 1 from by omega] at mk1
  rw [show ((la + 1 : Nat) : Int) = (la : Int) + 1 from by omega] at mk2
  rw [show ((la - (m + 2) + 1 : Nat) : Int) = (la : Int) - ((m : Int) + 2) + 1 from by omega] at mk3
  clear hlz g1 g2 hd hx0
  go_enter Tryz.func108, Tryz.ntmps108
  go_wp2_with (go_at_call 112; refine (HLZ.out _).mono ?_; rintro e w' ⟨rfl, rfl⟩)
  refine (shiftUp_fresh w _ (m + 2) bcap d _ h2 (by omega) hd32).mono ?_
  rintro e w1 ⟨s1, rfl, m1⟩
  have h1 : Sl w1.heap.size w1 ao la cap (toL A) := h.later m1.below
  go_wp2_with fail
  refine (shiftUp_fresh w1 ao la cap d _ h1 (by omega) hd32).mono ?_
  rintro e w2 ⟨s2, rfl, m2⟩
  have hfr := fresh w2 (la - (m + 2) + 1)
  obtain ⟨w3, hw3, hbl3, how3, hz3⟩ := hfr
  have HZ3 : Hid _ := hz3
  clear hz3 mk1 mk2
  go_wp2
  rw [← hw3]
  obtain ⟨dv1, dv2, dv3, dv4⟩ := divisor_shift hB0 h2.len HD.out m1.len m1.lim (by rw [m1.val, val_toL])
  have hV0 : 0 < B * 2 ^ d := Nat.mul_pos (by omega) (Nat.two_pow_pos d)
  have LI : LongInv la (m + 2) (A * 2 ^ d) (B * 2 ^ d) s2 (List.replicate (la - (m + 2) + 1) 0) (la - (m + 2) + 1) :=
    LongInv.start m2.len m2.lim (by rw [m2.val, val_toL]) hm (long_low (by have := h.lt; rwa [val_toL] at this) dv4 hm)
  have D3 : Sl w1.heap.size w3 (some ⟨w.heap.size, 0, none⟩) (m + 2) (m + 2 + 1) (s1.take (m + 2)) :=
    (((Sl.own m1.own m1.lim (by rw [m1.size]; omega) (m + 2 + 1) (m + 2 + 1) m1.len (Nat.le_refl _)).take (m + 2) (by omega)).below m2.below).below (hbl3.mono (by rw [m2.size]; omega))
  have O2 : Own w3 w1.heap.size s2 := m2.own.below hbl3 (by rw [m2.size]; omega)
  have BL : Below w.heap.size w w3 := (m1.below.trans (m2.below.mono (by rw [m1.size]; omega))).trans (hbl3.mono (by rw [m2.size, m1.size]; omega))
  have hg1 : w.heap.size < w1.heap.size := by rw [m1.size]; omega
  have hg2 : w1.heap.size < w2.heap.size := by rw [m2.size]; omega
  have W3 : Hid (w3.heap.size = w2.heap.size + 1) := HZ3
  clear mk3 hw3 hbl3 HZ3 m1 m2 h1 h HLZ cx cx' HX h2
  generalize w1.heap.size = gl at *
  generalize w2.heap.size = gq at *
  generalize s1.take (m + 2) = ds at *
  have DV1 : Hid (val ds = B * 2 ^ d) := dv1
  have DV2 : Hid (2147483648 ≤ ds.getD (m + 1) 0) := dv2
  have DV3 : Hid (B * 2 ^ d ≤ Bp (m + 2)) := dv3
  have DV4 : Hid (0 < B * 2 ^ d) := hV0
  clear dv1 dv2 dv3 dv4 hV0 hB0 HD
  go_loopw [11] (fun iv wr => ∃ k L q, k ≤ la - (m + 2) + 1 ∧ iv = .int .i64 (((k : Nat) : Int) - 1) ∧ Below gl w3 wr ∧ Hid (wr.heap.size = gq + 1) ∧ Own wr gl L ∧ Own wr gq q ∧ LongInv la (m + 2) (A * 2 ^ d) (B * 2 ^ d) L q k) (fun iv _ => (intOf iv + 1).toNat)
  case atStart => exact ⟨la - (m + 2) + 1, s2, _, Nat.le_refl _, by go_num, Below.refl _ _, W3, O2, how3, LI⟩
  case round =>
    obtain ⟨k, L, q, hk, rfl, hbl, hsz, hoL, hoq, hi⟩ := hrel
    by_cases h0 : k = 0
    · subst h0
      obtain ⟨f1, f2⟩ := hi.done DV3.out hm
      rw [Nat.mul_div_mul_right _ _ (Nat.two_pow_pos d)] at f1
      rw [Nat.mul_mod_mul_right] at f2
      have F1 : Hid _ := f1
      have F2 : Hid _ := f2
      clear f1 f2
      have sq : Sl (gq + 1) wr (some ⟨gq, 0, none⟩) (la - (m + 2) + 1) (la - (m + 2) + 1) q := Sl.own hoq hi.qlim (by omega) _ _ hi.qlen (Nat.le_refl _)
      have sl : Sl (gq + 1) wr (some ⟨gl, 0, none⟩) (m + 2) (la + 1) (L.take (m + 2)) := (Sl.own hoL hi.lim (by omega) (la + 1) (la + 1) hi.len (Nat.le_refl _)).take (m + 2) (by omega)
      have hq1 : ∀ u, Qt wr u → Sl (gq + 1) u (some ⟨gq, 0, none⟩) (la - (m + 2) + 1) (la - (m + 2) + 1) q := fun u hu => hu.sl sq
      have hl1 : ∀ u, Qt wr u → Sl u.heap.size u (some ⟨gl, 0, none⟩) (m + 2) (la + 1) (L.take (m + 2)) := fun u hu => by rw [hu.size, hsz.out]; exact hu.sl sl
      have HQ1 : Hid _ := hq1
      have HL1 : Hid _ := hl1
      clear hq1 hl1 sq sl
      go_wp2
      go_region_with (first | (go_at_call 73; refine (trimmed_any (gq + 1) _ _ _ _ q (HQ1.out _ (Qt.refl _).drew) (by omega)).mono ?_; rintro e w5 ⟨rfl, a5, n5, c5, rfl, s5, l5⟩) | (go_at_call 117; refine (shiftedDown_own _ _ (m + 2) (la + 1) d _ (HL1.out _ (Qt.refl _).drew) (by omega) hd32).mono ?_; rintro e w6 ⟨a6, n6, c6, rfl, s6, b6⟩))
      all_goals go_wp2
      all_goals go_ret2
      all_goals
        have z6 : wr.drew.heap.size = gq + 1 := hsz.out
        rw [F1.out] at s5
        rw [F2.out, Nat.mul_div_cancel _ (Nat.two_pow_pos d)] at s6
        have b7 := b6
        rw [z6] at b7
        refine ⟨a5, n5, c5, a6, n6, c6, rfl, (s5.below b7).mono (by have := b6.size; omega), s6.mono (by omega), ?_⟩
        exact (BL.trans ((hbl.mono (by omega)).drew)).trans (b6.mono (by omega))
    · obtain ⟨j, rfl⟩ : ∃ j, k = j + 1 := ⟨k - 1, by omega⟩
      rw [show ((j + 1 : Nat) : Int) - 1 = (j : Int) from by omega]
      have hLl := hi.len
      have hql := hi.qlen
      have HL : Hid (L.length = la + 1) := hLl
      have HQ : Hid (q.length = la - (m + 2) + 1) := hql
      clear hLl hql
      obtain ⟨sg1, sg2, sg3⟩ := hi.seg DV3.out (by omega)
      have SG3 : Hid (val ((L.drop j).take (m + 2 + 1)) < 4294967296 * val ds) := by rw [DV1.out]; exact sg3
      clear sg1 sg2 sg3
      go_wp2_with fail
      rw [show j + (m + 2) + 1 - j = m + 3 from by omega]
      refine (divStep_any wr gl j m (la + 1 - j) _ _ _ _ (m + 2 + 1) gl ds (Sg.cut hoL hi.lim j (m + 3) (by rw [HL.out]; omega)) (D3.below hbl) (Nat.le_refl _) (by omega) (by omega) DV2.out SG3.out).mono ?_
      rintro e w4 ⟨c, s', rfl, hc, hce, hf4, hs4, hv4⟩
      rw [DV1.out] at hce hv4
      have ST : Hid _ := hi.step (s' := s') DV3.out DV4.out (by omega) hs4.len hs4.lim hv4 (by rw [← hce]; exact hc)
      have HCE : Hid _ := hce
      clear hce hv4
      have oq4 := hoq.fr hf4 (by omega)
      have hcl := oq4.cell (i := j) (by rw [HQ.out]; omega)
      have hfr4 := oq4.free j
      have HS4 : Hid (w4.heap.size = gq + 1) := by rw [hf4.size]; exact hsz
      generalize q.getD j 0 = old at hcl
      go_wp2
      go_roundw
      case rel =>
        refine ⟨j, _, _, by omega, rfl, (hbl.trans (hf4.below (Nat.le_refl _))).setCell (p := ⟨gq, j, none⟩) (by show gl ≤ gq; omega) _, ?_, hs4.own.other _ _ (by show gl ≠ gq; omega), oq4.set j c, ?_⟩
        · show (w4.setCell _ _).heap.size = _
          rw [← HS4.out]; simp [World.setCell]
        · rw [HCE.out]; exact ST.out
      case measure => simp [intOf]

set_option maxHeartbeats 1000000 in
theorem divMod_own (w : World) (ao bo : Option Addr) (n cap m cap2 A B : Nat) (h : Sl w.heap.size w ao n cap (toL A)) (h2 : Sl w.heap.size w bo (m + 2) cap2 (toL B)) (hlen : n ≤ 274877906944) (hle : B ≤ A) :
    Calls Tryz.prog 93 #[.slice ao n cap, .slice bo (m + 2) cap2] w fun e w' => ∃ qo qn qc ro rn rc, e = .returned (.tuple #[.slice qo qn qc, .slice ro rn rc, .bool true]) ∧
      Sl w'.heap.size w' qo qn qc (toL (A / B)) ∧ Ow w.heap.size w' (.slice ro rn rc) (toL (A % B)) ∧ Below w.heap.size w w' := by
  have hmn : m + 2 ≤ n := by
    rw [← h.len, ← h2.len]
    by_cases hh : (toL A).length < (toL B).length
    · have := toL_len_lt hh; omega
    · omega
  go_enter Tryz.func93, Tryz.ntmps93
  go_wp2_with fail
  refine (trimmed_any _ _ ao n cap _ h (by omega)).mono ?_
  rintro e w1 ⟨rfl, a1, n1, c1, rfl, s1, l1⟩
  rw [val_toL] at s1
  obtain rfl : n1 = n := by rw [← s1.len, ← h.len]
  go_wp2_with fail
  refine (trimmed_any _ _ bo (m + 2) cap2 _ h2 (by omega)).mono ?_
  rintro e w1 ⟨rfl, a2, m1, c2, rfl, s2, l2⟩
  rw [val_toL] at s2
  obtain rfl : m1 = m + 2 := by rw [← s2.len, ← h2.len]
  clear h h2 l1 l2
  go_wp2_with fail
  refine (cmp_any _ _ _ _ _ _ _ _ _ _ s1 s2 (by omega) (by omega)).mono ?_
  rintro e w1 ⟨rfl, hq⟩
  rw [val_toL, val_toL]
  have t1 : Sl w1.heap.size w1 a1 n1 c1 (toL A) := by rw [hq.size]; exact hq.sl s1
  have t2 : Sl w1.heap.size w1 a2 (m + 2) c2 (toL B) := by rw [hq.size]; exact hq.sl s2
  have hbq : ∀ u, Below w1.heap.size w1 u → Below w.heap.size w u := fun u hu => (hq.below _).trans (hu.mono (by rw [hq.size]; exact Nat.le_refl _))
  have HBQ : Hid _ := hbq
  have HSZ : Hid (w.heap.size ≤ w1.heap.size) := by show w.heap.size ≤ w1.heap.size; rw [hq.size]; exact Nat.le_refl _
  clear s1 s2 hbq
  have hcm : 0 ≤ cmpN A B := by unfold cmpN; split <;> (try split) <;> omega
  generalize cmpN A B = cm at hcm
  clear hle
  go_wp2_with fail
  refine (divLong_own w1 a1 a2 n1 c1 m c2 _ _ t1 t2 (by omega) (by omega)).mono ?_
  rintro e w2 ⟨a3, n3, c3, a4, n4, c4, rfl, s3, s4, b3⟩
  go_wp2
  go_ret3
  exact ⟨a3, n3, c3, a4, n4, c4, rfl, s3, s4.mono HSZ.out, HBQ.out _ b3⟩

end Go.Proofs.YtbobhhnhlgdkiaaGreat

/- append(small, make([]uint32, m)...) on an own row. -/
namespace Go.Proofs.YtbobhhnhlgdkiaaGreat
open Go.RowKit M
set_option maxRecDepth 100000

theorem zeros_u32 (n : Nat) : Builtin.zeroCells (Value.int .u32 0).cells n = u32s (List.replicate n 0) := by
  apply Array.ext'
  simp [Builtin.zeroCells, Value.cells, u32s]
  apply List.ext_getElem
  · simp
  · intro i h1 h2; simp [Nat.mod_one]

theorem run_appZ (w : World) (B g n cap m : Nat) (zs : List Nat) (ty : TypeId) (hown : Ow B w (.slice (some ⟨g, 0, none⟩) n cap) zs) (hn : 0 < n) (hlen : n + m ≤ 1099511627776) (hB : B ≤ w.heap.size) :
    ∃ g' cap' w', (Builtin.append_ #[22, 3] ty #[.slice (some ⟨g, 0, none⟩) n cap, .int .i64 (m : Int)]).run Tryz.prog w = .ok (.slice (some ⟨g', 0, none⟩) (n + m) cap') w' ∧
      Ow B w' (.slice (some ⟨g', 0, none⟩) (n + m) cap') (zs ++ List.replicate m 0) ∧ w.grownBy w' (some g) ∧ (g' = g ∨ w.heap.size ≤ g') := by
  obtain ⟨i0, hi, hz0, hz1, hz2⟩ := info_parts info38
  obtain ⟨g', cur, h1, h2, h3, h4, h5, h6, h7⟩ := hown.inv hn
  simp only [Option.some.injEq, Addr.mk.injEq] at h1
  obtain ⟨rfl, _⟩ := h1
  have hzl := hown.len
  have hw : IntKind.i64.wrap (m : Int) = (m : Int) := by rw [IntKind.wrap_i64]; omega
  have hneg : ¬ (m : Int) < 0 := by omega
  have hbig : ¬ ((281474976710656 : Int) < (m : Int) * 4) := by omega
  have hu := run_underlying (P := Tryz.prog) Tryz.underlying3
  have hlim := hown.lim.append (Lim.rep m)
  by_cases hroom : n + m ≤ cap
  · have hst := run_storeCells_at Tryz.prog g n 86 (u32s (List.replicate m 0)).toList 0 cur w h3 (by simp [u32s]; omega) (by intro v hv; simp [u32s] at hv; rw [hv.2]; rfl)
    simp only [Nat.add_zero] at hst
    refine ⟨g, cap, w.setRow g (cur.toList.take n ++ (u32s (List.replicate m 0)).toList ++ cur.toList.drop (n + (u32s (List.replicate m 0)).toList.length)).toArray, ?_, ⟨hlim, ?_, .inr ⟨g, cap, _, ?_, h2, setRow_heap w g cur _ _ _ h3, ?_, h5, ?_, ?_⟩⟩, ⟨rfl, rfl, rfl, by simp, fun k _ hk => setRow_other w g k _ (fun e => hk (by rw [e]))⟩, .inl rfl⟩
    · by_cases hm : m = 0
      · subst hm
        have hw0 : IntKind.i64.wrap 0 = 0 := rfl
        simp [u32s] at hst hroom ⊢
        simp [Builtin.append_, run_underlying (P := Tryz.prog) Tryz.underlying22, hu, sizeOf, typeInfo, hi, hz1, hz2, Addr.add_lit, asInt, asIntOf, hw0, hroom, hst]
      · have hm0 : ¬ (m : Int) ≤ 0 := by omega
        simp [Builtin.append_, run_underlying (P := Tryz.prog) Tryz.underlying22, hu, sizeOf, typeInfo, hi, hz1, hz2, zeroValue, hz0, hw, hneg, hbig, hroom, hm, zeros_u32, Addr.add_lit, asInt, asIntOf] at hst ⊢
        rw [hst]; rfl
    · simp
    · simp [hzl]
    · simp [hzl]; omega
    · simp [u32s]; omega
    · have hl : (cur.toList.take n ++ (u32s (List.replicate m 0)).toList).length = (zs ++ List.replicate m 0).length * 1 := by simp [u32s, hzl]; omega
      rw [List.toList_toArray, ← hl, List.take_left, h7]
      simp [u32s]
  · have hm : m ≠ 0 := by omega
    have hm0 : ¬ (m : Int) ≤ 0 := by omega
    have hn63 : ¬ (9223372036854775807 < (n : Int) + (m : Int)) := by omega
    have hfits := growslice_fits (need := n + m) (old := cap) (bytes := 4) (by omega) (by omega)
    have h48 : ¬ (281474976710656 < Builtin.nextslicecap (n + m) cap * 4) := by omega
    have hfo := run_firstCells_some (P := Tryz.prog) w.drew 1 n ⟨g, 0, none⟩ n cap (zs.map fun x : Nat => Value.int .u32 (x : Int)) (by simp [hzl]) (by
      intro j v hj
      have := (hown.own.cells (g := g) rfl) j v (by simpa using hj)
      simpa using this)
    have hge := grownCap_ge w (n + m) cap 86
    have hcm : grownCap w (n + m) cap 86 ≤ maxLen := grownCap_le_maxLen w (n + m) cap 86 (by unfold maxLen; omega)
    refine ⟨w.heap.size, grownCap w (n + m) cap 86, w.drew.alloc (.cells ((zs.map fun x : Nat => Value.int .u32 (x : Int)).toArray ++ u32s (List.replicate m 0) ++ u32s (List.replicate (grownCap w (n + m) cap 86 - (n + m)) 0)) 86), ?_, ⟨hlim, ?_, .inr ⟨w.heap.size, _, _, ?_, hB, heap_alloc_new w.drew _, ?_, hcm, ?_, ?_⟩⟩, ⟨rfl, rfl, rfl, by simp, fun k hk _ => heap_alloc_old w.drew _ hk⟩, .inr (Nat.le_refl _)⟩
    · simp [Builtin.append_, run_underlying (P := Tryz.prog) Tryz.underlying22, hu, sizeOf, typeInfo, hi, hz1, hz2, zeroValue, hz0, hw, hneg, hbig, hroom, hm, hn63, h48, zeros_u32, asInt, asIntOf, Question.forced, hfo, newRow, grownCap]
    · simp
    · simp [hzl]
    · simp [hzl]; omega
    · simp [u32s, hzl]; omega
    · have hl : ((zs.map fun x : Nat => Value.int .u32 (x : Int)) ++ (u32s (List.replicate m 0)).toList).length = (zs ++ List.replicate m 0).length * 1 := by simp [u32s]
      rw [Array.toList_append, Array.toList_append, ← hl, List.toList_toArray, List.take_left]
      simp [u32s]

section
variable {ops : Array Oper} {rest : List Oper} {o : Oper} {a : Act} {Q : Exit → Act → World → Prop}
/-- 'append(xs, make([]uint32, m)...)'. -/
theorem wp_appZ {w : World} (hgd : o.guard = none) (s x : Operand) (ho : o.op = .call { callee := .builtin .append, args := #[s, x], argTypes := #[22, 3] })
    {B g n cap m : Nat} {zs : List Nat} (hown : Ow B w (.slice (some ⟨g, 0, none⟩) n cap) zs) (hs : a.eval s = .slice (some ⟨g, 0, none⟩) n cap) {K : Int} (hx : a.eval x = .int .i64 K) (hK : K = (m : Int))
    (hn : 0 < n) (hlen : n + m ≤ 1099511627776) (hB : B ≤ w.heap.size)
    (h : ∀ g' cap' w', Ow B w' (.slice (some ⟨g', 0, none⟩) (n + m) cap') (zs ++ List.replicate m 0) → w.grownBy w' (some g) → (g' = g ∨ w.heap.size ≤ g') → wpList Tryz.prog ops Q rest (a.put o.dst (.slice (some ⟨g', 0, none⟩) (n + m) cap')) w') :
    wpList Tryz.prog ops Q (o :: rest) a w := by
  subst hK
  obtain ⟨g', cap', w', hr, h2, h3, h4⟩ := run_appZ w B g n cap m zs o.type hown hn hlen hB
  refine wpList_plain hgd fun _ hK => ?_
  unfold Oper.wp execOp
  simp only [ho, resolve, invoke, builtin, Sem.run_bind, Sem.run_pure, Result.andThen_ok, List.map_toArray, List.map_cons, List.map_nil, hs, hx, hr]
  exact hK _ _ (h g' cap' w' h2 h3 h4)
end
end Go.Proofs.YtbobhhnhlgdkiaaGreat

/- root.headAt, heads. -/
namespace Go.Proofs.YtbobhhnhlgdkiaaGreat
open Go.RowKit M
set_option maxRecDepth 100000

theorem limbAt_same (N : Nat) (w : World) (ao : Option Addr) (n cap k : Nat) (xs : List Nat) (h : Sl N w ao n cap xs) (x : Nat) (hx : x = xs.getD k 0) (K : Int) (hK : K = (k : Int)) :
    Calls Tryz.prog 109 #[.slice ao n cap, .int .i64 K] w fun e w' => e = .returned (.int .u32 (x : Int)) ∧ w' = w := by
  subst hx hK
  exact (limbAt_any N w ao n cap k xs h).mono fun e w' ⟨h1, h2⟩ => ⟨h1, h2.symm⟩

theorem or_head {p q d : Nat} (hq : q < 2 ^ d) (hp : p * 2 ^ d + 2 ^ d ≤ 18446744073709551616) : Go.bits .or .u64 (IntKind.u64.wrap ((p : Int) * 2 ^ d)) (q : Int) = ((p * 2 ^ d + q : Nat) : Int) := by
  rw [IntKind.wrap_u64, show (p : Int) * 2 ^ d = ((p * 2 ^ d : Nat) : Int) from by rw [Int.natCast_mul, Int.natCast_pow]; rfl]
  have := Nat.two_pow_pos d
  rw [show ((p * 2 ^ d : Nat) : Int) % 18446744073709551616 = ((p * 2 ^ d : Nat) : Int) from by omega]
  rw [u64_or_nat _ _ (by omega) (by omega), nat_join d _ _ (Nat.mul_mod_left _ _) hq]

set_option maxHeartbeats 1000000 in
theorem headAt_any (N : Nat) (w : World) (ao : Option Addr) (m cap n d : Nat) (xs : List Nat) (h : Sl N w ao m cap xs) (hn : n ≤ 1099511627776) (hd32 : d < 32) (ht : xs.getD (n + 2) 0 < 2 ^ (32 - d)) :
    Calls Tryz.prog 113 #[.slice ao m cap, .int .i64 ((n + 2 : Nat) : Int), .int .i64 (d : Int)] w fun e w' => e = .returned (.int .u64 ((hd xs n d : Nat) : Int)) ∧ Qt w w' := by
  obtain ⟨f1, f2⟩ := hd_lt (n := n) h.lim (Nat.le_of_lt hd32) ht
  have l2 := h.lim.getD (n + 2)
  have l1 := h.lim.getD (n + 1)
  have l0 := h.lim.getD n
  obtain ⟨z2, hz2⟩ : ∃ z, z = xs.getD (n + 2) 0 := ⟨_, rfl⟩
  obtain ⟨z1, hz1⟩ : ∃ z, z = xs.getD (n + 1) 0 := ⟨_, rfl⟩
  obtain ⟨z0, hz0⟩ : ∃ z, z = xs.getD n 0 := ⟨_, rfl⟩
  have c2 := limbAt_same N w ao m cap (n + 2) xs h z2 hz2
  have c1 := limbAt_same N w ao m cap (n + 1) xs h z1 hz1
  have c0 := fun w1 (q : Qt w w1) => limbAt_same N w1 ao m cap n xs (q.sl h) z0 hz0
  have hj := or_join (r := z2) (x := z1) (by omega) (by omega)
  rw [← hz2, ← hz1] at f1
  rw [← hz0] at f2
  have hh := or_head f2 f1
  rw [show (z2 * 4294967296 + z1) * 2 ^ d + z0 / 2 ^ (32 - d) = hd xs n d from by unfold hd; rw [hz2, hz1, hz0]] at hh
  have e32 : ((32 : Int) - (d : Int)) = ((32 - d : Nat) : Int) := by omega
  have esh : (z0 : Int) / 2 ^ (32 - d) = ((z0 / 2 ^ (32 - d) : Nat) : Int) := by rw [Int.natCast_ediv, Int.natCast_pow]; rfl
  have C2 : Hid _ := c2
  have C1 : Hid _ := c1
  have C0 : Hid _ := c0
  have HJ : Hid _ := hj
  have HH : Hid _ := hh
  rw [← hz2] at l2
  rw [← hz1] at l1
  rw [← hz0] at l0
  have EW : Hid (IntKind.u64.wrap ((z0 : Int) / 2 ^ (32 - d)) = ((z0 / 2 ^ (32 - d) : Nat) : Int)) := by
    show IntKind.u64.wrap ((z0 : Int) / 2 ^ (32 - d)) = _
    rw [esh, IntKind.wrap_u64]
    have := Nat.div_le_self z0 (2 ^ (32 - d))
    generalize z0 / 2 ^ (32 - d) = q at *
    omega
  clear c2 c1 c0 f1 f2 hj hh ht esh hz2 hz1 hz0
  generalize hd xs n d = R at *
  go_enter Tryz.func113, Tryz.ntmps113
  go_wp2_with fail
  refine Calls.mono (C2.out _ (by omega)) ?_
  rintro e w' ⟨rfl, rfl⟩
  go_wp2_with fail
  refine Calls.mono (C1.out _ (by omega)) ?_
  rintro e w'' ⟨rfl, rfl⟩
  go_wp2
  rw [HJ.out]
  have hj2 : z2 * 4294967296 + z1 < 18446744073709551616 := by omega
  generalize z2 * 4294967296 + z1 = p at *
  go_quiet ((go_at_call 109; exact Calls.quiet_of_same (C0.out _ ((Qt.refl _).drewN _) _ (by omega))))
  go_wp2
  go_ret
  exact ⟨ret1 (by rw [EW.out]; exact HH.out), (Qt.refl _).drewN _⟩

set_option maxHeartbeats 1000000 in
theorem heads_any (N : Nat) (w : World) (ao bo : Option Addr) (n cap m bcap A B : Nat) (h : Sl N w ao (n + 3) cap (toL A)) (h2 : Sl N w bo m bcap (toL B)) (hn : n ≤ 1099511627773) (hle : B ≤ A) :
    Calls Tryz.prog 103 #[.slice ao (n + 3) cap, .slice bo m bcap] w fun e w' => ∃ (a b P x y : Nat), e = .returned (.tuple #[.int .u64 (a : Int), .int .u64 (b : Int)]) ∧ Qt w w' ∧
      a < 18446744073709551616 ∧ b ≤ a ∧ 1 ≤ a ∧ A = P * a + x ∧ x < P ∧ B = P * b + y ∧ y < P := by
  obtain ⟨b', o, x, hao, hb, cx, lx, HX⟩ := h.cell (n + 2) (by omega)
  subst hao
  have hA0 : A ≠ 0 := by
    intro h0
    have := h.len
    rw [h0, toL_zero] at this
    simp at this
  have hx0 : x ≠ 0 := by
    have := toL_last hA0
    rw [h.len] at this
    rw [HX.out]; exact this
  obtain ⟨g1, g2, g3, g4⟩ := shift_top (l := nb x) hx0 rfl lx
  obtain ⟨d, hdx⟩ : ∃ d, d + nb x = 32 := ⟨32 - nb x, by omega⟩
  have hlz := fun w => lz32_any (x : Int) w (by omega) (by omega)
  rw [Int.toNat_natCast, bitLen_nb x lx, show (32 : Int) - (nb x : Int) = (d : Int) from by omega] at hlz
  have HLZ : Hid _ := hlz
  have hd32 : d < 32 := by omega
  have htx : (toL A).getD (n + 2) 0 < 2 ^ (32 - d) := by
    rw [← HX.out, show 32 - d = nb x from by omega]; exact nb_lt x
  have hml : m ≤ n + 3 := by rw [← h2.len]; exact toL_len_le (Nat.lt_of_le_of_lt hle (by have := h.lt; rwa [val_toL] at this))
  have hty : (toL B).getD (n + 2) 0 < 2 ^ (32 - d) :=
    Nat.lt_of_le_of_lt (top_le (Lim_toL A) (by rw [h.len]; omega) (by rw [h2.len]; omega) (by rw [val_toL, val_toL]; exact hle)) htx
  obtain ⟨xa, ea, la⟩ := hd_split (n := n) (d := d) (Lim_toL A) (by rw [h.len]; omega) (by omega)
  obtain ⟨xb, eb, lb⟩ := hd_split (n := n) (d := d) (Lim_toL B) (by rw [h2.len]; omega) (by omega)
  rw [val_toL] at ea eb
  obtain ⟨f1, f2⟩ := hd_lt (n := n) (Lim_toL A) (Nat.le_of_lt hd32) htx
  have hlta : hd (toL A) n d < 18446744073709551616 := by unfold hd; omega
  have hpos : 1 ≤ hd (toL A) n d := by
    have hp := Nat.two_pow_pos d
    have : 1 ≤ ((toL A).getD (n + 2) 0 * 4294967296 + (toL A).getD (n + 1) 0) * 2 ^ d := Nat.mul_pos (by rw [← HX.out]; omega) hp
    exact Nat.le_trans this (Nat.le_add_right _ _)
  have ca := fun w1 (q : Qt w w1) => headAt_any N w1 _ (n + 3) cap n d _ (q.sl h) (by omega) hd32 htx
  have cb := fun w1 (q : Qt w w1) => headAt_any N w1 bo m bcap n d _ (q.sl h2) (by omega) hd32 hty
  have hfin : ∃ P, A = P * hd (toL A) n d + xa ∧ xa < P ∧ B = P * hd (toL B) n d + xb ∧ xb < P := ⟨_, ea, la, eb, lb⟩
  have hba : hd (toL B) n d ≤ hd (toL A) n d := head_le ea la eb hle
  have CA : Hid _ := ca
  have CB : Hid _ := cb
  have HF : Hid _ := hfin
  have L1 : Hid _ := hlta
  have L2 : Hid _ := hpos
  have L3 : Hid _ := hba
  clear ca cb hfin hlta hpos hba f1 f2 ea eb la lb hty htx hml hlz g1 g2 g3 g4 hx0 HX hdx hle hA0 h h2
  rw [show ((n + 2 : Nat) : Int) = (n : Int) + 2 from by omega] at CA CB
  generalize M.hd (toL A) n d = ha at *
  generalize M.hd (toL B) n d = hb2 at *
  have cx' : w.cell? ⟨b', o + (n + 3 - 1), none⟩ = some (.int .u32 (x : Int)) := cx
  go_enter Tryz.func103, Tryz.ntmps103
  go_wp2_with (first | (go_at_call 112; refine (HLZ.out _).mono ?_; rintro e w' ⟨rfl, rfl⟩))
  have e3 : (n : Int) + 3 - 1 = (n : Int) + 2 := by omega
  rw [e3]
  refine Calls.mono (CA.out _ (Qt.refl _)) ?_
  rintro e w1 ⟨rfl, q1⟩
  go_wp2_with fail
  refine Calls.mono (CB.out _ q1) ?_
  rintro e w2 ⟨rfl, q2⟩
  go_wp2
  go_ret2
  obtain ⟨P, p1, p2, p3, p4⟩ := HF.out
  exact ⟨ha, hb2, P, xa, xb, rfl, q1.trans q2, L1.out, L3.out, L2.out, p1, p2, p3, p4⟩
end Go.Proofs.YtbobhhnhlgdkiaaGreat

/- root.difference.next. -/
namespace Go.Proofs.YtbobhhnhlgdkiaaGreat
open Go.RowKit M
set_option maxRecDepth 100000

/-- Block g is a difference: what it carries. -/
structure Df (w : World) (g p q b : Nat) : Prop where
  at_ : w.heap[g]? = some (.cells #[.int .u64 (p : Int), .int .u64 (q : Int), .int .u32 (b : Int)] 130 (0, 0))

theorem Df.cells {w : World} {g p q b : Nat} (h : Df w g p q b) : w.cell? ⟨g, 0, none⟩ = some (.int .u64 (p : Int)) ∧ w.cell? ⟨g, 1, none⟩ = some (.int .u64 (q : Int)) ∧ w.cell? ⟨g, 2, none⟩ = some (.int .u32 (b : Int)) :=
  ⟨by rw [cell_of_row w g 0 _ _ _ h.at_]; rfl, by rw [cell_of_row w g 1 _ _ _ h.at_]; rfl, by rw [cell_of_row w g 2 _ _ _ h.at_]; rfl⟩
theorem Df.free {w : World} {g p q b : Nat} (h : Df w g p q b) (i : Nat) : w.frozen? ⟨g, i, none⟩ = false := frozen_of_row w g i _ _ h.at_
theorem Df.set0 {w : World} {g p q b : Nat} (h : Df w g p q b) (x : Nat) : Df (w.setCell ⟨g, 0, none⟩ (.int .u64 (x : Int))) g x q b := ⟨by
  rw [heap_setCell_same w g 0 _ _ _ h.at_]; rfl⟩
theorem Df.set1 {w : World} {g p q b : Nat} (h : Df w g p q b) (x : Nat) : Df (w.setCell ⟨g, 1, none⟩ (.int .u64 (x : Int))) g p x b := ⟨by
  rw [heap_setCell_same w g 1 _ _ _ h.at_]; rfl⟩
theorem Df.set2 {w : World} {g p q b : Nat} (h : Df w g p q b) (x : Nat) : Df (w.setCell ⟨g, 2, none⟩ (.int .u32 (x : Int))) g p q x := ⟨by
  rw [heap_setCell_same w g 2 _ _ _ h.at_]; rfl⟩
theorem Df.lt {w : World} {g p q b : Nat} (h : Df w g p q b) : g < w.heap.size := (Array.getElem?_eq_some_iff.1 h.at_).1
theorem Df.keep {w w' : World} {g p q b : Nat} (h : Df w g p q b) (hb : w'.heap[g]? = w.heap[g]?) : Df w' g p q b := ⟨by rw [hb]; exact h.at_⟩
theorem Df.qt {w w' : World} {g p q b : Nat} (h : Df w g p q b) (k : Qt w w') : Df w' g p q b := h.keep (by rw [k.heap])

set_option maxHeartbeats 1000000 in
theorem dnext_any (w : World) (g p q b x y : Nat) (hb : Df w g p q b)
    (hp : p < 4294967296) (hq : q < 4294967296) (hb1 : b ≤ 1) (hx : x ≤ 18446744065119617025) (hy : y ≤ 18446744065119617025) :
    Calls Tryz.prog 114 #[.pointer (some ⟨g, 0, none⟩), .int .u64 (x : Int), .int .u64 (y : Int)] w fun e w' => ∃ v b' : Nat, e = .returned (.int .u32 (v : Int)) ∧ v < 4294967296 ∧ b' ≤ 1 ∧
      v + ((q + y) % 4294967296 + b) = (p + x) % 4294967296 + 4294967296 * b' ∧ Df w' g ((p + x) / 4294967296) ((q + y) / 4294967296) b' ∧ Fr g w w' := by
  obtain ⟨c0, c1, c2⟩ := hb.cells
  have f0 := hb.free 0
  have f1 := hb.free 1
  have f2 := hb.free 2
  have HB : Hid _ := hb
  clear hb
  go_enter Tryz.func114, Tryz.ntmps114
  go_wp2
  have d1 := (HB.out.set0 (p + x)).set1 (q + y)
  have r1 := ((Fr.refl g w).set 0 (.int .u64 ((p + x : Nat) : Int))).set 1 (.int .u64 ((q + y : Nat) : Int))
  rw [Int.natCast_add, Int.natCast_add] at d1 r1
  generalize (w.setCell ⟨g, 0, none⟩ (.int .u64 ((p : Int) + (x : Int)))).setCell ⟨g, 1, none⟩ (.int .u64 ((q : Int) + (y : Int))) = w1 at d1 r1 ⊢
  clear c0 c1 c2 f0 f1 f2 HB
  obtain ⟨X, hX⟩ : ∃ X, X = p + x := ⟨_, rfl⟩
  obtain ⟨Y, hY⟩ : ∃ Y, Y = q + y := ⟨_, rfl⟩
  rw [← Int.natCast_add, ← Int.natCast_add, ← hX, ← hY]
  rw [← hX, ← hY] at d1
  have hX1 : X < 18446744073709551616 := by omega
  have hY1 : Y < 18446744073709551616 := by omega
  obtain ⟨c0, c1, c2⟩ := d1.cells
  obtain ⟨v, b2, ev, eb, hv, hb2, he⟩ := sub_step (x := X % 4294967296) (y := Y % 4294967296) (c := b) (by omega) (by omega) hb1
  have hc : ∀ u, Calls Tryz.prog 111 #[.int .u32 ((X : Int) % 4294967296), .int .u32 ((Y : Int) % 4294967296), .int .u32 (b : Int)] u fun e w' => e = .returned (.tuple #[.int .u32 (v : Int), .int .u32 (b2 : Int)]) ∧ w' = u := by
    intro u
    refine (sub32_any _ _ _ u (by omega) (by omega) (by omega) (by omega) (by omega) (by omega)).mono ?_
    rintro e w' ⟨rfl, rfl⟩
    refine ⟨?_, rfl⟩
    rw [show (X : Int) % 4294967296 = ((X % 4294967296 : Nat) : Int) from by omega, show (Y : Int) % 4294967296 = ((Y % 4294967296 : Nat) : Int) from by omega, ev, eb]
  have HC : Hid _ := hc
  have HE : Hid _ := he
  have HXE : Hid (X = p + x) := hX
  have HYE : Hid (Y = q + y) := hY
  have D1 : Hid _ := d1
  have R1 : Hid _ := r1
  clear hc he ev eb d1 r1 hX hY
  have w32x : IntKind.u32.wrap (X : Int) = (X : Int) % 4294967296 := IntKind.wrap_u32 _
  have w32y : IntKind.u32.wrap (Y : Int) = (Y : Int) % 4294967296 := IntKind.wrap_u32 _
  go_quiet ((go_at_call 111; exact Calls.quiet_of_same (HC.out _)))
  have D2 : Df (w1.drewN nq) g X Y b := D1.out.qt ((Qt.refl _).drewN _)
  have R2 : Fr g w (w1.drewN nq) := R1.out.qt ((Qt.refl _).drewN _)
  generalize w1.drewN nq = w2 at D2 R2 ⊢
  clear c0 c1 c2 D1 R1
  obtain ⟨c0, c1, c2⟩ := D2.cells
  have f0 := D2.free 0
  have f1 := D2.free 1
  have f2 := D2.free 2
  have D3 : Hid _ := D2
  have R3 : Hid _ := R2
  clear D2 R2 HC w32x w32y
  go_wp2
  go_ret
  have e1 : (X : Int) / 4294967296 = ((X / 4294967296 : Nat) : Int) := by omega
  have e2 : (Y : Int) / 4294967296 = ((Y / 4294967296 : Nat) : Int) := by omega
  rw [e1, e2, ← HXE.out, ← HYE.out]
  exact ⟨v, b2, rfl, hv, hb2, by have := HE.out; omega, ((D3.out.set0 _).set1 _).set2 _, ((R3.out.set _ _).set _ _).set _ _⟩
end Go.Proofs.YtbobhhnhlgdkiaaGreat
