/- penumbraref01: at, Half. -/
import Derived.Test.YthcclkjccaoniaaR4
import Derived.Deep.RegionLaw
namespace Go.Proofs.Ythcclkjccaoniaa
open Go.RowKit M

/-- 'append(out, x)' as one step of a region that draws its order. -/
theorem step_app1 {ops : Array Oper} {o : Oper} {a : Act} {w : World} {K : Act → World → Prop} {Q : Exit → Act → World → Prop} {E : Prop}
    (hg : o.guard = none) (s x : Operand) (hop : o.op = Op.call { callee := Callee.builtin Builtin.append, args := #[s, x], argTypes := #[22, 22] })
    {B : Nat} {v : Value} {zs : List Nat} (y : Nat) (Y : Int) (ad : Addr) (hown : Ow B w v zs) (hs : a.eval s = v) (hx : a.eval x = .slice (some ad) 1 1) (hc : w.cell? ad = some (.int .u32 Y)) (hY : Y = (y : Int))
    (hy : y < 4294967296) (hlen : zs.length ≤ 1099511627776) (hB : B ≤ w.heap.size)
    (hK : ∀ v' w', Ow B w' v' (zs ++ [y]) → Below B w w' → K (a.put o.dst v') w') :
    if Region.wanted o (yielded ops a.tmps) = true then Oper.wp Try.prog o a w K Q else E := by
  subst hY
  have hw : Region.wanted o (yielded ops a.tmps) = true := by simp [Region.wanted, hg]
  rw [if_pos hw]
  obtain ⟨i0, hi, hz0, hz1, hz2⟩ := info_parts info38
  refine wp_append_own _ s x 22 hop B 32 i0 (.int .u32 0) 1 4 Try.underlying22 hi hz0 hz1 hz2 rfl (by decide) v zs.length _ hs hown.own ad 1 1 [.int .u32 (y : Int)] hx rfl ?_ ?_ ?_ ?_ hB ?_
  · intro j u hj
    match j, hj with
    | 0, hj => simp at hj; subst hj; simpa [Addr.add] using hc
  · intro u hu; simp at hu; subst hu; rfl
  · unfold maxLen; omega
  · omega
  · intro v' w' ho' hgr _
    refine hK v' w' ⟨hown.lim.append (Lim.mk hy Lim.nil), ?_⟩ ?_
    · rw [List.length_append, List.map_append]; exact ho'
    · exact (Below.refl B w).grown hgr hB fun k hk => (hown.own.lt k hk).1

theorem Ow.alloc {B : Nat} {w : World} {v : Value} {zs : List Nat} (h : Ow B w v zs) (o : Obj) : Ow B (w.alloc o) v zs := ⟨h.lim, h.own.alloc o⟩

set_option maxHeartbeats 400000 in
theorem at_any (w : World) (x p : Nat) (hx : x < 18446744073709551616) (hp : p ≤ 274877906944) :
    Calls Try.prog 45 #[.int .u64 (x : Int), .int .i64 (p : Int)] w fun e w' => ∃ ao n cap zs, e = .returned (.slice ao n cap) ∧ Sl w'.heap.size w' ao n cap zs ∧ n = p + 2 ∧ Hid (val zs = Bp p * x) ∧ Below w.heap.size w w' := by
  have hmk := fun u => make_run p (by omega) u
  have hb0 : Below w.heap.size w (w.alloc (.cells (u32s (List.replicate p 0)) 32)) := (Below.refl _ _).alloc (Nat.le_refl _) _
  have ow0 := Ow.zeros w p (by omega)
  obtain ⟨l1, lb⟩ := lit1 (w.alloc (.cells (u32s (List.replicate p 0)) 32)) 2 [x % 4294967296, x / 4294967296] #[.int .u32 ((x : Int) % 4294967296), .int .u32 ((x : Int) / 4294967296)] (by simp [u32s]) (lim2 (by omega) (by omega)) rfl
  have ow1 := ow0.alloc (.cells #[.int .u32 ((x : Int) % 4294967296), .int .u32 ((x : Int) / 4294967296)] 32)
  have hz : (w.alloc (.cells (u32s (List.replicate p 0)) 32)).heap.size = w.heap.size + 1 := by simp
  rw [hz] at l1
  have hbs := (hb0.trans (lb.mono hb0.size)).size
  go_enter Try.func45, Try.ntmps45
  go_wp2_with (at_builtin; refine wp_appS rfl _ _ rfl ow1 l1 rfl rfl (by simp; omega) hbs ?_; intro v' w2 hv hb2; obtain ⟨fo, fm, fc, rfl, sf⟩ := hv.sl)
  go_ret
  refine ⟨fo, fm, fc, _, rfl, sf, ?_, ?_, (hb0.trans (lb.mono hb0.size)).trans hb2⟩
  · rw [← sf.len, List.length_append, List.length_replicate]; rfl
  · show val _ = _
    rw [val_append, val_rep, List.length_replicate, Nat.zero_add]
    congr 1
    simp only [val_cons, val_nil]
    omega

/-- Halving, limb by limb, the answer growing: after k rounds. -/
structure RhInv (xs zs : List Nat) (k : Nat) : Prop where
  len : zs.length = k
  sum : 2 * val zs + xs.getD 0 0 % 2 = val (xs.take k) + Bp k * (xs.getD k 0 % 2)
theorem RhInv.step {xs zs : List Nat} {k x y : Nat} (h : RhInv xs zs k) (hx : x = xs.getD k 0) (hy : y = xs.getD (k + 1) 0) : RhInv xs (zs ++ [(y % 2 * 4294967296 + x) / 2]) (k + 1) := by
  refine ⟨by rw [List.length_append, h.len]; rfl, ?_⟩
  rw [val_snoc, val_take_succ' xs, Bp_succ, h.len, ← hy, ← hx]
  have hs := h.sum
  rw [← hx] at hs
  have e : 2 * ((y % 2 * 4294967296 + x) / 2) + x % 2 = x + 4294967296 * (y % 2) := by omega
  have e2 := congrArg (Bp k * ·) e
  simp only [Nat.mul_add] at e2
  rw [Nat.mul_assoc 4294967296, Nat.mul_left_comm 4294967296 (Bp k), Nat.mul_add 2, Nat.mul_left_comm 2 (Bp k)]
  omega
theorem RhInv.done {xs zs : List Nat} {k : Nat} (h : RhInv xs zs k) (hx : xs.length ≤ k) : val zs = val xs / 2 := by
  have hs := h.sum
  rw [List.take_of_length_le hx, getD_beyond hx] at hs
  omega

set_option maxHeartbeats 1000000 in
theorem half_any (w : World) (ao : Option Addr) (n cap : Nat) (xs : List Nat) (h : Sl w.heap.size w ao n cap xs) (hlen : n ≤ 1099511627770) :
    Calls Try.prog 47 #[.slice ao n cap] w (Gives w (toL (val xs / 2))) := by
  go_enter Try.func47, Try.ntmps47
  go_wp2
  go_loopw [3, 4] (fun v iv wr => ∃ k zs, k ≤ n ∧ iv = .int .i64 ((k : Nat) : Int) ∧ Below w.heap.size w wr ∧ Ow w.heap.size wr v zs ∧ RhInv xs zs k) (fun _ iv _ => n - (intOf iv).toNat)
  case atStart => exact ⟨0, [], by omega, rfl, (Below.refl _ _).alloc (Nat.le_refl _) _, Ow.start w, ⟨rfl, by simp [val, Bp]⟩⟩
  case round =>
    obtain ⟨k, zs, hk, rfl, hbl, how, hi⟩ := hrel
    have hbs := hbl.size
    have HZ : Hid (zs.length = k) := hi.len
    by_cases hlt : k < n
    · obtain ⟨b, p, x, rfl, hx0, hx1, hx2, HX⟩ := (h.below hbl).cell k hlt
      obtain ⟨y, hy⟩ : ∃ y, y = xs.getD (k + 1) 0 := ⟨_, rfl⟩
      have hy2 : y < 4294967296 := by rw [hy]; exact h.lim.getD _
      have cy := fun u (hu : Qt wr u) => limb_any u (some ⟨b, p, none⟩) n cap _ (k + 1) xs (hu.sl (h.below hbl))
      rw [← hy, show ((k + 1 : Nat) : Int) = (k : Int) + 1 from by omega] at cy
      have HS : Hid _ := hi.step HX.out hy
      have CY : Hid _ := cy
      have hoA : Hid (Ow w.heap.size (wr.alloc (.cells #[.int .u32 (((y : Int) % 2 * 4294967296 + (x : Int)) / 2)] 32)).drew _ zs) := (how.alloc (.cells #[.int .u32 (((y : Int) % 2 * 4294967296 + (x : Int)) / 2)] 32)).qt (Qt.refl _).drew
      have hcA : Hid ((wr.alloc (.cells #[.int .u32 (((y : Int) % 2 * 4294967296 + (x : Int)) / 2)] 32)).drew.cell? ⟨wr.heap.size, 0, none⟩ = some (.int .u32 (((y : Int) % 2 * 4294967296 + (x : Int)) / 2))) := by
        show (wr.alloc _).cell? _ = _
        simp
      have hBA : Hid (Below w.heap.size wr (wr.alloc (.cells #[.int .u32 (((y : Int) % 2 * 4294967296 + (x : Int)) / 2)] 32)).drew) := ((Below.refl _ _).alloc hbs _).drew
      have hd1 : (k : Int) < (n : Int) := by omega
      have hw1 : IntKind.i64.wrap ((k : Int) + 1) = (k : Int) + 1 := by simp [IntKind.wrap, IntKind.bits, IntKind.signed]; omega
      have r1 : (y : Int).tmod 2 = (y : Int) % 2 := Int.tmod_eq_emod_of_nonneg (by omega)
      have r2 : IntKind.u64.wrap ((y : Int) % 2 * 4294967296) = (y : Int) % 2 * 4294967296 := by rw [IntKind.wrap_u64]; omega
      have r3 : IntKind.u64.wrap (x : Int) = (x : Int) := by rw [IntKind.wrap_u64]; omega
      have r4 : IntKind.u64.wrap ((y : Int) % 2 * 4294967296 + (x : Int)) = (y : Int) % 2 * 4294967296 + (x : Int) := by rw [IntKind.wrap_u64]; omega
      have r5 : ((y : Int) % 2 * 4294967296 + (x : Int)).tdiv 2 = ((y : Int) % 2 * 4294967296 + (x : Int)) / 2 := Int.tdiv_eq_ediv_of_nonneg (by omega)
      have r6 : IntKind.u64.wrap (((y : Int) % 2 * 4294967296 + (x : Int)) / 2) = ((y : Int) % 2 * 4294967296 + (x : Int)) / 2 := by rw [IntKind.wrap_u64]; omega
      have r7 : IntKind.u32.wrap (((y : Int) % 2 * 4294967296 + (x : Int)) / 2) = ((y : Int) % 2 * 4294967296 + (x : Int)) / 2 := by rw [IntKind.wrap_u32']; omega
      clear cy hy
      go_wp2
      go_region_law (first | (go_simp; go_at_call 50; refine (CY.out _ (Qt.refl _).drew).mono ?_; rintro e w' ⟨rfl, rfl⟩) | (refine step_app1 rfl (.tmp 12) (.tmp 27) rfl ((y % 2 * 4294967296 + x) / 2) _ ⟨wr.heap.size, 0, none⟩ hoA.out rfl rfl hcA.out (by omega) (by omega) (by rw [HZ.out]; omega) (Nat.le_trans hbs hBA.out.size) ?_; intro v' w2 hv hb2))
      all_goals go_wp2
      all_goals go_roundw
      all_goals first | exact ⟨k + 1, _, by omega, by go_num, (hbl.trans (hBA.out)).trans hb2, hv, HS.out⟩ | (simp [intOf]; omega)
    · obtain rfl : k = n := by omega
      have HD : Hid _ := hi.done (by rw [h.len]; exact Nat.le_refl _)
      obtain ⟨fo, fm, fc, rfl, sf⟩ := how.sl
      clear hi
      go_wp2_with fail
      refine (rnorm_any wr fo fm fc _ sf (by rw [← sf.len, HZ.out]; omega)).mono ?_
      rintro e w3 ⟨a3, n3, c3, rfl, s3, b3⟩
      go_wp2
      go_ret
      rw [HD.out] at s3
      exact ⟨a3, n3, c3, rfl, s3, hbl.trans (b3.mono hbl.size)⟩

end Go.Proofs.Ythcclkjccaoniaa
