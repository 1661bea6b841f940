/- penumbralaw04.DecimalPoints: true. -/
import Derived.Test.YtmfpnlhpdjabeaaGreatDoorBUe
namespace Go.Proofs.YtmfpnlhpdjabeaaGreatDoor
open Go.RowKit M Kahn

set_option maxRecDepth 100000 in
set_option maxHeartbeats 8000000 in
theorem points_any (w0 : World) (ao : Option Addr) (n cap : Nat) (xs : List Nat) (bo : Option Addr) (m bcap : Nat) (ys : List Nat) (z : Int) (hx : Sb w0.heap.size w0 ao n cap xs) (hn : n ≤ 1048576) (hy : Sb w0.heap.size w0 bo m bcap ys) (hm : m ≤ 1048576) (z1 : -9223372036854775808 ≤ z) (z2 : z ≤ 9223372036854775807) :
    Calls Tryz.prog 6 #[.slice ao n cap, .slice bo m bcap, .int .i64 z] w0 fun e w' => e = .returned (.bool true) ∧ Below w0.heap.size w0 w' := by
  have C1 : Hid (∀ u, u = w0 → Calls Tryz.prog 18 #[.slice ao n cap] u fun e w' => e = .returned (.string (tx (dgs xs))) ∧ u = w') := by
    rintro u rfl
    exact digits_k hx hn
  have C2 : Hid (∀ u, u = w0 → Calls Tryz.prog 18 #[.slice bo m bcap] u fun e w' => e = .returned (.string (tx (dgs ys))) ∧ u = w') := by
    rintro u rfl
    exact digits_k hy hm
  have s1 := dgs_len xs
  have t1 := dgs_len ys
  have HSD : Hid (Dig (dgs xs)) := dgs_dig xs
  have HTD : Hid (Dig (dgs ys)) := dgs_dig ys
  have nS := tx_beq_nil (dgs xs)
  have nT := tx_beq_nil (dgs ys)
  have zS := tx_size (dgs xs)
  have zT := tx_size (dgs ys)
  generalize dgs xs = s at *
  generalize dgs ys = t at *
  clear hx hy
  go_enter Tryz.func6, Tryz.ntmps6
  by_cases e1 : s = []
  · rw [decide_eq_true e1] at nS
    clear e1 nT
    generalize tx s = S at *
    generalize tx t = T at *
    generalize s.length = sl at *
    generalize t.length = tl at *
    go_wp2_with fail
    refine (C1.out _ rfl).mono ?_
    rintro e w1 ⟨rfl, rfl⟩
    go_wp2_with fail
    refine (C2.out _ rfl).mono ?_
    rintro e w1 ⟨rfl, rfl⟩
    go_wp2_with fail
    refine (fixed4_any w0).mono ?_
    rintro e w1 ⟨rfl, B1⟩
    clear C1 C2
    go_wp2_with fail
    refine (fixed4_any w1).mono ?_
    rintro e w2 ⟨rfl, lb⟩
    go_wp2
    go_ret
    exact ⟨rfl, B1.trans (lb.mono B1.size)⟩
  rw [decide_eq_false e1] at nS
  by_cases e2 : t = []
  · rw [decide_eq_true e2] at nT
    clear e1 e2
    generalize tx s = S at *
    generalize tx t = T at *
    generalize s.length = sl at *
    generalize t.length = tl at *
    go_wp2_with fail
    refine (C1.out _ rfl).mono ?_
    rintro e w1 ⟨rfl, rfl⟩
    go_wp2_with fail
    refine (C2.out _ rfl).mono ?_
    rintro e w1 ⟨rfl, rfl⟩
    go_wp2_with fail
    refine (fixed4_any w0).mono ?_
    rintro e w1 ⟨rfl, B1⟩
    clear C1 C2
    go_wp2_with fail
    refine (fixed4_any w1).mono ?_
    rintro e w2 ⟨rfl, lb⟩
    go_wp2
    go_ret
    exact ⟨rfl, B1.trans (lb.mono B1.size)⟩
  rw [decide_eq_false e2] at nT
  have hs0 : 0 < s.length := by
    rcases Nat.eq_zero_or_pos s.length with h | h
    · exact absurd (List.eq_nil_of_length_eq_zero h) e1
    · exact h
  have ht0 : 0 < t.length := by
    rcases Nat.eq_zero_or_pos t.length with h | h
    · exact absurd (List.eq_nil_of_length_eq_zero h) e2
    · exact h
  clear e1 e2
  by_cases e3 : z < 0
  · have d3 : decide (z < 0) = true := decide_eq_true e3
    generalize tx s = S at *
    generalize tx t = T at *
    generalize s.length = sl at *
    generalize t.length = tl at *
    go_wp2_with fail
    refine (C1.out _ rfl).mono ?_
    rintro e w1 ⟨rfl, rfl⟩
    go_wp2_with fail
    refine (C2.out _ rfl).mono ?_
    rintro e w1 ⟨rfl, rfl⟩
    go_wp2_with fail
    refine (fixed4_any w0).mono ?_
    rintro e w1 ⟨rfl, B1⟩
    clear C1 C2
    go_wp2_with fail
    refine (fixed4_any w1).mono ?_
    rintro e w2 ⟨rfl, lb⟩
    go_wp2
    go_ret
    exact ⟨rfl, B1.trans (lb.mono B1.size)⟩
  by_cases e4 : 20 < z
  · have d3 : decide (z < 0) = false := decide_eq_false e3
    have d4 : decide (20 < z) = true := decide_eq_true e4
    generalize tx s = S at *
    generalize tx t = T at *
    generalize s.length = sl at *
    generalize t.length = tl at *
    go_wp2_with fail
    refine (C1.out _ rfl).mono ?_
    rintro e w1 ⟨rfl, rfl⟩
    go_wp2_with fail
    refine (C2.out _ rfl).mono ?_
    rintro e w1 ⟨rfl, rfl⟩
    go_wp2_with fail
    refine (fixed4_any w0).mono ?_
    rintro e w1 ⟨rfl, B1⟩
    clear C1 C2
    go_wp2_with fail
    refine (fixed4_any w1).mono ?_
    rintro e w2 ⟨rfl, lb⟩
    go_wp2
    go_ret
    exact ⟨rfl, B1.trans (lb.mono B1.size)⟩
  · have d3 : decide (z < 0) = false := decide_eq_false e3
    have d4 : decide (20 < z) = false := decide_eq_false e4
    obtain ⟨k, rfl⟩ : ∃ k : Nat, z = (k : Int) := ⟨z.toNat, by omega⟩
    have hk : k ≤ 20 := by omega
    obtain ⟨q, qd, qe, hp⟩ := pts (k := k) HSD.out HTD.out hs0 ht0 s1 t1 hk
    have HSUM : Hid (q = qd + qe) := hp.sum
    have zZ := tx_size (List.replicate k 48)
    rw [List.length_replicate] at zZ
    have zO := tx_size (49 :: List.replicate t.length 48)
    rw [List.length_cons, List.length_replicate] at zO
    have sB := HSD.out.byt
    have tB := HTD.out.byt
    have kB := (zeros_dig k).byt
    have oB := (zeros_dig t.length).byt
    have HA : Hid (∀ u, Calls Tryz.prog 9 #[.string (tx s ++ ⟨#[46]⟩ ++ tx t)] u (Gqi u 20001 (q, 0))) := fun u => by
      rw [← hp.a, show tx s ++ ⟨#[46]⟩ ++ tx t = tx (s ++ 46 :: t) from by rw [show (⟨#[46]⟩ : ByteArray) = tx [46] from rfl, tx_append, tx_append]; simp]
      exact dparse_k (sB.append (Byt.mk (by omega) tB)) (by simp; omega)
    have HB : Hid (∀ u, Calls Tryz.prog 9 #[.string (tx s ++ tx t ++ ⟨#[47]⟩ ++ tx (49 :: List.replicate t.length 48))] u (Gqi u 20001 (q, 0))) := fun u => by
      rw [← hp.b, show tx s ++ tx t ++ ⟨#[47]⟩ ++ tx (49 :: List.replicate t.length 48) = tx (s ++ t ++ 47 :: 49 :: List.replicate t.length 48) from by rw [show (⟨#[47]⟩ : ByteArray) = tx [47] from rfl, tx_append, tx_append, tx_append]; simp]
      exact dparse_k ((sB.append tB).append (Byt.mk (by omega) (Byt.mk (by omega) oB))) (by simp; omega)
    have HC : Hid (∀ u, Calls Tryz.prog 9 #[.string (⟨#[45]⟩ ++ tx (List.replicate k 48) ++ tx s ++ ⟨#[46]⟩ ++ tx t ++ tx (List.replicate k 48))] u (Gqi u 20001 (-q, 0))) := fun u => by
      rw [← hp.c, show (⟨#[45]⟩ ++ tx (List.replicate k 48) ++ tx s ++ ⟨#[46]⟩ ++ tx t ++ tx (List.replicate k 48) : ByteArray) = tx (45 :: (List.replicate k 48 ++ s ++ 46 :: (t ++ List.replicate k 48))) from by rw [show (⟨#[46]⟩ : ByteArray) = tx [46] from rfl, show (⟨#[45]⟩ : ByteArray) = tx [45] from rfl, tx_append, tx_append, tx_append, tx_append, tx_append]; simp]
      exact dparse_k (Byt.mk (by omega) ((kB.append sB).append (Byt.mk (by omega) (tB.append kB)))) (by simp; omega)
    have HD : Hid (∀ u, Calls Tryz.prog 9 #[.string (tx s)] u (Gqi u 20001 (qd, 0))) := fun u => by
      rw [← hp.d]
      exact dparse_k sB (by omega)
    have HE : Hid (∀ u, Calls Tryz.prog 9 #[.string (⟨#[48, 46]⟩ ++ tx t)] u (Gqi u 20001 (qe, 0))) := fun u => by
      rw [← hp.e, show (⟨#[48, 46]⟩ ++ tx t : ByteArray) = tx (48 :: 46 :: t) from by rw [show (⟨#[48, 46]⟩ : ByteArray) = tx [48, 46] from rfl, tx_append]; rfl]
      exact dparse_k (Byt.mk (by omega) (Byt.mk (by omega) tB)) (by simp; omega)
    have hzs := fun j => tx_append (List.replicate j 48) [48]
    have hos := fun j => tx_append (49 :: List.replicate j 48) [48]
    have HZS : Hid (∀ j, tx (List.replicate j 48) ++ ⟨#[48]⟩ = tx (List.replicate (j + 1) 48)) := fun j => by
      have := hzs j
      rw [← List.replicate_succ'] at this
      exact this
    have HOS : Hid (∀ j, tx (49 :: List.replicate j 48) ++ ⟨#[48]⟩ = tx (49 :: List.replicate (j + 1) 48)) := fun j => by
      have := hos j
      rw [List.cons_append, ← List.replicate_succ'] at this
      exact this
    clear hzs hos hp sB tB kB oB HSD HTD
    generalize tx s = S at *
    generalize tx t = T at *
    generalize s.length = sl at *
    generalize t.length = tl at *
    go_wp2_with fail
    refine (C1.out _ rfl).mono ?_
    rintro e w1 ⟨rfl, rfl⟩
    go_wp2_with fail
    refine (C2.out _ rfl).mono ?_
    rintro e w1 ⟨rfl, rfl⟩
    go_wp2_with fail
    refine (fixed4_any w0).mono ?_
    rintro e w1 ⟨rfl, B1⟩
    clear C1 C2
    go_wp2
    go_loop [9, 11] (fun zv iv => ∃ j : Nat, j ≤ k ∧ iv = .int .i64 (j : Int) ∧ zv = .string (tx (List.replicate j 48))) (fun _ iv => k - (intOf iv).toNat)
    case atStart => exact ⟨0, Nat.zero_le _, rfl, rfl⟩
    case round =>
      obtain ⟨j, hj, rfl, rfl⟩ := hrel
      by_cases hlt : j < k
      · have hcat := HZS.out j
        have hsz := tx_size (List.replicate j 48)
        rw [List.length_replicate] at hsz
        generalize tx (List.replicate j 48) = Zj at *
        go_wp2
        go_round
        case rel => exact ⟨j + 1, by omega, by go_num, rfl⟩
        case measure => simp [intOf]; omega
      · obtain rfl : j = k := by omega
        have HTL : Hid (tx (49 :: List.replicate 0 48) = ⟨#[49]⟩) := rfl
        go_wp2
        go_loop [10, 12] (fun zv iv => ∃ i : Nat, i ≤ tl ∧ iv = .int .i64 (i : Int) ∧ zv = .string (tx (49 :: List.replicate i 48))) (fun _ iv => tl - (intOf iv).toNat)
        case atStart => exact ⟨0, Nat.zero_le _, rfl, rfl⟩
        case round =>
          obtain ⟨i, hi, rfl, rfl⟩ := hrel
          by_cases hlt2 : i < tl
          · have hcat := HOS.out i
            have hsz := tx_size (49 :: List.replicate i 48)
            rw [List.length_cons, List.length_replicate] at hsz
            generalize tx (49 :: List.replicate i 48) = Oi at *
            go_wp2
            go_round
            case rel => exact ⟨i + 1, by omega, by go_num, rfl⟩
            case measure => simp [intOf]; omega
          · obtain rfl : i = tl := by omega
            generalize tx (List.replicate j 48) = Z at *
            generalize tx (49 :: List.replicate i 48) = O at *
            clear HZS HOS HTL
            go_wp2_with fail
            refine (HA.out w1).mono ?_
            rintro e w2 ⟨sv, nov, nnv, ncv, eov, env, ecv, rfl, cqv, lb⟩
            have B2 := B1.trans (lb.mono B1.size)
            clear B1 lb
            have bv : Rb (w2.alloc (.cells #[.bool sv, .slice nov nnv ncv, .slice eov env ecv] 25)) w2.heap.size (.bool sv) (.slice nov nnv ncv) (.slice eov env ecv) := ⟨heap_alloc_new _ _⟩
            have lb : Below w2.heap.size w2 (w2.alloc (.cells #[.bool sv, .slice nov nnv ncv, .slice eov env ecv] 25)) := (Below.refl _ _).alloc (Nat.le_refl _) _
            replace cqv := cqv.later lb
            have B3 := B2.trans (lb.mono B2.size)
            clear B2 lb
            go_wp2_with fail
            generalize w2.heap.size = gv at *
            generalize w2.alloc (.cells #[.bool sv, .slice nov nnv ncv, .slice eov env ecv] 25) = w3 at *
            refine (HB.out w3).mono ?_
            rintro e w4 ⟨sg, nog, nng, ncg, eog, eng, ecg, rfl, cqg, lb⟩
            replace cqv := cqv.later lb
            replace bv := bv.later lb
            have B4 := B3.trans (lb.mono B3.size)
            clear B3 lb
            have bg : Rb (w4.alloc (.cells #[.bool sg, .slice nog nng ncg, .slice eog eng ecg] 25)) w4.heap.size (.bool sg) (.slice nog nng ncg) (.slice eog eng ecg) := ⟨heap_alloc_new _ _⟩
            have lb : Below w4.heap.size w4 (w4.alloc (.cells #[.bool sg, .slice nog nng ncg, .slice eog eng ecg] 25)) := (Below.refl _ _).alloc (Nat.le_refl _) _
            replace cqv := cqv.later lb
            replace cqg := cqg.later lb
            replace bv := bv.later lb
            have B5 := B4.trans (lb.mono B4.size)
            clear B4 lb
            go_wp2_with fail
            generalize w4.heap.size = gg at *
            generalize w4.alloc (.cells #[.bool sg, .slice nog nng ncg, .slice eog eng ecg] 25) = w5 at *
            refine (HC.out w5).mono ?_
            rintro e w6 ⟨sx, nox, nnx, ncx, eox, enx, ecx, rfl, cqx, lb⟩
            replace cqv := cqv.later lb
            replace cqg := cqg.later lb
            replace bv := bv.later lb
            replace bg := bg.later lb
            have B6 := B5.trans (lb.mono B5.size)
            clear B5 lb
            have bx : Rb (w6.alloc (.cells #[.bool sx, .slice nox nnx ncx, .slice eox enx ecx] 25)) w6.heap.size (.bool sx) (.slice nox nnx ncx) (.slice eox enx ecx) := ⟨heap_alloc_new _ _⟩
            have lb : Below w6.heap.size w6 (w6.alloc (.cells #[.bool sx, .slice nox nnx ncx, .slice eox enx ecx] 25)) := (Below.refl _ _).alloc (Nat.le_refl _) _
            replace cqv := cqv.later lb
            replace cqg := cqg.later lb
            replace cqx := cqx.later lb
            replace bv := bv.later lb
            replace bg := bg.later lb
            have B7 := B6.trans (lb.mono B6.size)
            clear B6 lb
            go_wp2_with fail
            generalize w6.heap.size = gx at *
            generalize w6.alloc (.cells #[.bool sx, .slice nox nnx ncx, .slice eox enx ecx] 25) = w7 at *
            refine (HD.out w7).mono ?_
            rintro e w8 ⟨sk, nok, nnk, nck, eok, enk, eck, rfl, cqk, lb⟩
            replace cqv := cqv.later lb
            replace cqg := cqg.later lb
            replace cqx := cqx.later lb
            replace bv := bv.later lb
            replace bg := bg.later lb
            replace bx := bx.later lb
            have B8 := B7.trans (lb.mono B7.size)
            clear B7 lb
            have bk : Rb (w8.alloc (.cells #[.bool sk, .slice nok nnk nck, .slice eok enk eck] 25)) w8.heap.size (.bool sk) (.slice nok nnk nck) (.slice eok enk eck) := ⟨heap_alloc_new _ _⟩
            have lb : Below w8.heap.size w8 (w8.alloc (.cells #[.bool sk, .slice nok nnk nck, .slice eok enk eck] 25)) := (Below.refl _ _).alloc (Nat.le_refl _) _
            replace cqv := cqv.later lb
            replace cqg := cqg.later lb
            replace cqx := cqx.later lb
            replace cqk := cqk.later lb
            replace bv := bv.later lb
            replace bg := bg.later lb
            replace bx := bx.later lb
            have B9 := B8.trans (lb.mono B8.size)
            clear B8 lb
            go_wp2_with fail
            generalize w8.heap.size = gk at *
            generalize w8.alloc (.cells #[.bool sk, .slice nok nnk nck, .slice eok enk eck] 25) = w9 at *
            refine (HE.out w9).mono ?_
            rintro e w10 ⟨su, nou, nnu, ncu, eou, enu, ecu, rfl, cqu, lb⟩
            replace cqv := cqv.later lb
            replace cqg := cqg.later lb
            replace cqx := cqx.later lb
            replace cqk := cqk.later lb
            replace bv := bv.later lb
            replace bg := bg.later lb
            replace bx := bx.later lb
            replace bk := bk.later lb
            have B10 := B9.trans (lb.mono B9.size)
            clear B9 lb
            have bu : Rb (w10.alloc (.cells #[.bool su, .slice nou nnu ncu, .slice eou enu ecu] 25)) w10.heap.size (.bool su) (.slice nou nnu ncu) (.slice eou enu ecu) := ⟨heap_alloc_new _ _⟩
            have lb : Below w10.heap.size w10 (w10.alloc (.cells #[.bool su, .slice nou nnu ncu, .slice eou enu ecu] 25)) := (Below.refl _ _).alloc (Nat.le_refl _) _
            replace cqv := cqv.later lb
            replace cqg := cqg.later lb
            replace cqx := cqx.later lb
            replace cqk := cqk.later lb
            replace cqu := cqu.later lb
            replace bv := bv.later lb
            replace bg := bg.later lb
            replace bx := bx.later lb
            replace bk := bk.later lb
            have B11 := B10.trans (lb.mono B10.size)
            clear B10 lb
            go_wp2
            generalize w10.heap.size = gu at *
            generalize w10.alloc (.cells #[.bool su, .slice nou nnu ncu, .slice eou enu ecu] 25) = w11 at *
            have HLst : Lst [VV (.int .i64 0), VV (.bool true), VV (.bool true), VV (.int .i64 0), VV (.bool true), VV (.bool true), VV (.bool true), VV (.int .i64 0), VV (.bool true), VV (.bool true), VV (.bool true), VV (.int .i64 0), VV (.bool true), VV (.bool true), VV (.bool true), VV (.int .i64 0), VV (.bool true), VV (.bool true), VV (.bool true), VV (.agg #[.bool sv, .slice nov nnv ncv, .slice eov env ecv]), VV (.agg #[.bool sg, .slice nog nng ncg, .slice eog eng ecg]), VV (.bool true), VV (.bool true), VV (.bool true), VV (.agg #[.bool sv, .slice nov nnv ncv, .slice eov env ecv]), VV (.agg #[.bool sx, .slice nox nnx ncx, .slice eox enx ecx]), VC (-((-q))) (20001), VV (.bool true), VV (.bool true), VV (.bool true), VV (.agg #[.bool sv, .slice nov nnv ncv, .slice eov env ecv]), VV (.agg #[.bool sk, .slice nok nnk nck, .slice eok enk eck]), VV (.agg #[.bool su, .slice nou nnu ncu, .slice eou enu ecu]), VL [qd, qe] (20001), VC (qd + qe) (2 * (20001 + 1) + 1), VV (.bool true), VV (.bool true)] := ⟨VV.lasts _, VV.lasts _, VV.lasts _, VV.lasts _, VV.lasts _, VV.lasts _, VV.lasts _, VV.lasts _, VV.lasts _, VV.lasts _, VV.lasts _, VV.lasts _, VV.lasts _, VV.lasts _, VV.lasts _, VV.lasts _, VV.lasts _, VV.lasts _, VV.lasts _, VV.lasts _, VV.lasts _, VV.lasts _, VV.lasts _, VV.lasts _, VV.lasts _, VV.lasts _, VC.lasts _ _, VV.lasts _, VV.lasts _, VV.lasts _, VV.lasts _, VV.lasts _, VV.lasts _, VL.lasts _ _, VC.lasts _ _, VV.lasts _, VV.lasts _, trivial⟩
            refine wp_region_kahn 37 140 [([], [14]), ([(0, 103)], []), ([(1, 104)], []), ([], [16]), ([(3, 106)], []), ([(2, 105), (4, 107)], []), ([(5, 108)], []), ([], [18]), ([(7, 110)], []), ([(6, 109), (8, 111)], []), ([(9, 112)], []), ([], [20]), ([(11, 114)], []), ([(10, 113), (12, 115)], []), ([(13, 116)], []), ([], [22]), ([(15, 118)], []), ([(14, 117), (16, 119)], []), ([(17, 120)], []), ([], [13]), ([], [15]), ([(19, 122), (20, 123)], []), ([(18, 121), (21, 124)], []), ([(22, 125)], []), ([], [13]), ([], [17]), ([(25, 128)], []), ([(24, 127), (26, 129)], []), ([(23, 126), (27, 130)], []), ([(28, 131)], []), ([], [13]), ([], [19]), ([], [21]), ([(31, 134), (32, 135)], []), ([(33, 136)], []), ([(30, 133), (34, 137)], []), ([(29, 132), (35, 138)], [])]
              (fun u => Below w11.heap.size w11 u) (fun u u' => Below u.heap.size u u')
              (Sp [VV (.int .i64 0), VV (.bool true), VV (.bool true), VV (.int .i64 0), VV (.bool true), VV (.bool true), VV (.bool true), VV (.int .i64 0), VV (.bool true), VV (.bool true), VV (.bool true), VV (.int .i64 0), VV (.bool true), VV (.bool true), VV (.bool true), VV (.int .i64 0), VV (.bool true), VV (.bool true), VV (.bool true), VV (.agg #[.bool sv, .slice nov nnv ncv, .slice eov env ecv]), VV (.agg #[.bool sg, .slice nog nng ncg, .slice eog eng ecg]), VV (.bool true), VV (.bool true), VV (.bool true), VV (.agg #[.bool sv, .slice nov nnv ncv, .slice eov env ecv]), VV (.agg #[.bool sx, .slice nox nnx ncx, .slice eox enx ecx]), VC (-((-q))) (20001), VV (.bool true), VV (.bool true), VV (.bool true), VV (.agg #[.bool sv, .slice nov nnv ncv, .slice eov env ecv]), VV (.agg #[.bool sk, .slice nok nnk nck, .slice eok enk eck]), VV (.agg #[.bool su, .slice nou nnu ncu, .slice eou enu ecu]), VL [qd, qe] (20001), VC (qd + qe) (2 * (20001 + 1) + 1), VV (.bool true), VV (.bool true)])
              (by kernel_rfl) rfl (by kernel_rfl) (Below.refl _ _).drew (fun k v u u' _ hg hs => Sp.lasts HLst k v u u' hg hs) ?_ ?_
            · clear HLst
              refine ⟨.inl ⟨by simp, fun ρ u hC hc hf hd ho => ?_⟩, .inl ⟨by simp, fun ρ u hC hc hf hd ho => ?_⟩, .inl ⟨by simp, fun ρ u hC hc hf hd ho => ?_⟩, .inl ⟨guard_of rfl fun _ _ h => h, fun ρ u hC hc hf hd ho => ?_⟩, .inl ⟨guard_of rfl fun _ _ h => h, fun ρ u hC hc hf hd ho => ?_⟩, .inl ⟨by simp, fun ρ u hC hc hf hd ho => ?_⟩, .inl ⟨by simp, fun ρ u hC hc hf hd ho => ?_⟩, .inl ⟨guard_of rfl fun _ _ h => h, fun ρ u hC hc hf hd ho => ?_⟩, .inl ⟨guard_of rfl fun _ _ h => h, fun ρ u hC hc hf hd ho => ?_⟩, .inl ⟨by simp, fun ρ u hC hc hf hd ho => ?_⟩, .inl ⟨by simp, fun ρ u hC hc hf hd ho => ?_⟩, .inl ⟨guard_of rfl fun _ _ h => h, fun ρ u hC hc hf hd ho => ?_⟩, .inl ⟨guard_of rfl fun _ _ h => h, fun ρ u hC hc hf hd ho => ?_⟩, .inl ⟨by simp, fun ρ u hC hc hf hd ho => ?_⟩, .inl ⟨by simp, fun ρ u hC hc hf hd ho => ?_⟩, .inl ⟨guard_of rfl fun _ _ h => h, fun ρ u hC hc hf hd ho => ?_⟩, .inl ⟨guard_of rfl fun _ _ h => h, fun ρ u hC hc hf hd ho => ?_⟩, .inl ⟨by simp, fun ρ u hC hc hf hd ho => ?_⟩, .inl ⟨by simp, fun ρ u hC hc hf hd ho => ?_⟩, .inl ⟨guard_of rfl fun _ _ h => h, fun ρ u hC hc hf hd ho => ?_⟩, .inl ⟨guard_of rfl fun _ _ h => h, fun ρ u hC hc hf hd ho => ?_⟩, .inl ⟨guard_of rfl fun _ _ h => h, fun ρ u hC hc hf hd ho => ?_⟩, .inl ⟨by simp, fun ρ u hC hc hf hd ho => ?_⟩, .inl ⟨by simp, fun ρ u hC hc hf hd ho => ?_⟩, .inl ⟨guard_of rfl fun _ _ h => h, fun ρ u hC hc hf hd ho => ?_⟩, .inl ⟨guard_of rfl fun _ _ h => h, fun ρ u hC hc hf hd ho => ?_⟩, .inl ⟨guard_of rfl fun _ _ h => h, fun ρ u hC hc hf hd ho => ?_⟩, .inl ⟨guard_of rfl fun _ _ h => h, fun ρ u hC hc hf hd ho => ?_⟩, .inl ⟨by simp, fun ρ u hC hc hf hd ho => ?_⟩, .inl ⟨by simp, fun ρ u hC hc hf hd ho => ?_⟩, .inl ⟨guard_of rfl fun _ _ h => h, fun ρ u hC hc hf hd ho => ?_⟩, .inl ⟨guard_of rfl fun _ _ h => h, fun ρ u hC hc hf hd ho => ?_⟩, .inl ⟨guard_of rfl fun _ _ h => h, fun ρ u hC hc hf hd ho => ?_⟩, .inl ⟨guard_of rfl fun _ _ h => h, fun ρ u hC hc hf hd ho => ?_⟩, .inl ⟨guard_of rfl fun _ _ h => h, fun ρ u hC hc hf hd ho => ?_⟩, .inl ⟨guard_of rfl fun _ _ h => h, fun ρ u hC hc hf hd ho => ?_⟩, .inl ⟨by simp, fun ρ u hC hc hf hd ho => ?_⟩, trivial⟩
              · have e14 : ρ (.tmp 14) = .int .i64 0 := ho 14 (by simp)
                refine Goes.pure (.int .i64 0) ?_ ⟨hC, Below.refl _ _, rfl⟩
                unfold Goes
                go_simp
              · have e103 : ρ (.tmp 103) = .int .i64 0 := hd (0, 103) (by simp)
                refine Goes.pure (.bool true) ?_ ⟨hC, Below.refl _ _, rfl⟩
                unfold Goes
                go_simp
              · have e104 : ρ (.tmp 104) = .bool true := hd (1, 104) (by simp)
                refine Goes.pure (.bool true) ?_ ⟨hC, Below.refl _ _, rfl⟩
                unfold Goes
                go_simp
              · have e16 : ρ (.tmp 16) = .int .i64 0 := ho 16 (by simp)
                refine Goes.pure (.int .i64 0) ?_ ⟨hC, Below.refl _ _, rfl⟩
                unfold Goes
                go_simp
              · have e106 : ρ (.tmp 106) = .int .i64 0 := hd (3, 106) (by simp)
                refine Goes.pure (.bool true) ?_ ⟨hC, Below.refl _ _, rfl⟩
                unfold Goes
                go_simp
              · have e105 : ρ (.tmp 105) = .bool true := hd (2, 105) (by simp)
                have e107 : ρ (.tmp 107) = .bool true := hd (4, 107) (by simp)
                refine Goes.pure (.bool true) ?_ ⟨hC, Below.refl _ _, rfl⟩
                unfold Goes
                go_simp
              · have e108 : ρ (.tmp 108) = .bool true := hd (5, 108) (by simp)
                refine Goes.pure (.bool true) ?_ ⟨hC, Below.refl _ _, rfl⟩
                unfold Goes
                go_simp
              · have e18 : ρ (.tmp 18) = .int .i64 0 := ho 18 (by simp)
                refine Goes.pure (.int .i64 0) ?_ ⟨hC, Below.refl _ _, rfl⟩
                unfold Goes
                go_simp
              · have e110 : ρ (.tmp 110) = .int .i64 0 := hd (7, 110) (by simp)
                refine Goes.pure (.bool true) ?_ ⟨hC, Below.refl _ _, rfl⟩
                unfold Goes
                go_simp
              · have e109 : ρ (.tmp 109) = .bool true := hd (6, 109) (by simp)
                have e111 : ρ (.tmp 111) = .bool true := hd (8, 111) (by simp)
                refine Goes.pure (.bool true) ?_ ⟨hC, Below.refl _ _, rfl⟩
                unfold Goes
                go_simp
              · have e112 : ρ (.tmp 112) = .bool true := hd (9, 112) (by simp)
                refine Goes.pure (.bool true) ?_ ⟨hC, Below.refl _ _, rfl⟩
                unfold Goes
                go_simp
              · have e20 : ρ (.tmp 20) = .int .i64 0 := ho 20 (by simp)
                refine Goes.pure (.int .i64 0) ?_ ⟨hC, Below.refl _ _, rfl⟩
                unfold Goes
                go_simp
              · have e114 : ρ (.tmp 114) = .int .i64 0 := hd (11, 114) (by simp)
                refine Goes.pure (.bool true) ?_ ⟨hC, Below.refl _ _, rfl⟩
                unfold Goes
                go_simp
              · have e113 : ρ (.tmp 113) = .bool true := hd (10, 113) (by simp)
                have e115 : ρ (.tmp 115) = .bool true := hd (12, 115) (by simp)
                refine Goes.pure (.bool true) ?_ ⟨hC, Below.refl _ _, rfl⟩
                unfold Goes
                go_simp
              · have e116 : ρ (.tmp 116) = .bool true := hd (13, 116) (by simp)
                refine Goes.pure (.bool true) ?_ ⟨hC, Below.refl _ _, rfl⟩
                unfold Goes
                go_simp
              · have e22 : ρ (.tmp 22) = .int .i64 0 := ho 22 (by simp)
                refine Goes.pure (.int .i64 0) ?_ ⟨hC, Below.refl _ _, rfl⟩
                unfold Goes
                go_simp
              · have e118 : ρ (.tmp 118) = .int .i64 0 := hd (15, 118) (by simp)
                refine Goes.pure (.bool true) ?_ ⟨hC, Below.refl _ _, rfl⟩
                unfold Goes
                go_simp
              · have e117 : ρ (.tmp 117) = .bool true := hd (14, 117) (by simp)
                have e119 : ρ (.tmp 119) = .bool true := hd (16, 119) (by simp)
                refine Goes.pure (.bool true) ?_ ⟨hC, Below.refl _ _, rfl⟩
                unfold Goes
                go_simp
              · have e120 : ρ (.tmp 120) = .bool true := hd (17, 120) (by simp)
                refine Goes.pure (.bool true) ?_ ⟨hC, Below.refl _ _, rfl⟩
                unfold Goes
                go_simp
              · have e13 : ρ (.tmp 13) = .pointer (some ⟨gv, 0, none⟩) := ho 13 (by simp)
                obtain ⟨c0, c1, c2⟩ := (bv.later hC).cells
                refine Goes.pure (.agg #[.bool sv, .slice nov nnv ncv, .slice eov env ecv]) ?_ ⟨hC, Below.refl _ _, rfl⟩
                unfold Goes
                go_simp
              · have e15 : ρ (.tmp 15) = .pointer (some ⟨gg, 0, none⟩) := ho 15 (by simp)
                obtain ⟨c0, c1, c2⟩ := (bg.later hC).cells
                refine Goes.pure (.agg #[.bool sg, .slice nog nng ncg, .slice eog eng ecg]) ?_ ⟨hC, Below.refl _ _, rfl⟩
                unfold Goes
                go_simp
              · have e122 : ρ (.tmp 122) = .agg #[.bool sv, .slice nov nnv ncv, .slice eov env ecv] := hd (19, 122) (by simp)
                have e123 : ρ (.tmp 123) = .agg #[.bool sg, .slice nog nng ncg, .slice eog eng ecg] := hd (20, 123) (by simp)
                refine Goes.call 11 #[.agg #[.bool sv, .slice nov nnv ncv, .slice eov env ecv], .agg #[.bool sg, .slice nog nng ncg, .slice eog eng ecg]] (by go_simp) ?_
                refine Calls.mono (is3_any u sv nov nnv ncv eov env ecv sg nog nng ncg eog eng ecg _ _ _ _ (cqv.later hC).num (cqv.later hC).den (cqg.later hC).num (cqg.later hC).den (by have := (cqv.later hC).ln; omega) (by have := (cqv.later hC).ld; omega) (by have := (cqg.later hC).ln; omega) (by have := (cqg.later hC).ld; omega)) ?_
                rintro e u' ⟨r, rfl, HR, lb⟩
                exact ⟨_, rfl, hC.trans (lb.mono hC.size), lb, by rw [HR.out.2 (cq_same (cqv.later hC) (cqg.later hC) (rfl))]; rfl⟩
              · have e121 : ρ (.tmp 121) = .bool true := hd (18, 121) (by simp)
                have e124 : ρ (.tmp 124) = .bool true := hd (21, 124) (by simp)
                refine Goes.pure (.bool true) ?_ ⟨hC, Below.refl _ _, rfl⟩
                unfold Goes
                go_simp
              · have e125 : ρ (.tmp 125) = .bool true := hd (22, 125) (by simp)
                refine Goes.pure (.bool true) ?_ ⟨hC, Below.refl _ _, rfl⟩
                unfold Goes
                go_simp
              · have e13 : ρ (.tmp 13) = .pointer (some ⟨gv, 0, none⟩) := ho 13 (by simp)
                obtain ⟨c0, c1, c2⟩ := (bv.later hC).cells
                refine Goes.pure (.agg #[.bool sv, .slice nov nnv ncv, .slice eov env ecv]) ?_ ⟨hC, Below.refl _ _, rfl⟩
                unfold Goes
                go_simp
              · have e17 : ρ (.tmp 17) = .pointer (some ⟨gx, 0, none⟩) := ho 17 (by simp)
                obtain ⟨c0, c1, c2⟩ := (bx.later hC).cells
                refine Goes.pure (.agg #[.bool sx, .slice nox nnx ncx, .slice eox enx ecx]) ?_ ⟨hC, Below.refl _ _, rfl⟩
                unfold Goes
                go_simp
              · have e128 : ρ (.tmp 128) = .agg #[.bool sx, .slice nox nnx ncx, .slice eox enx ecx] := hd (25, 128) (by simp)
                refine Goes.call 19 #[.agg #[.bool sx, .slice nox nnx ncx, .slice eox enx ecx]] (by go_simp) ?_
                refine Calls.mono (ratNeg_k (cqx.later hC).rd (by omega) (by omega)) ?_
                rintro e u' ⟨s1, no1, nn1, nc1, eo1, en1, ec1, rfl, cq, lb⟩
                exact ⟨_, rfl, hC.trans (lb.mono hC.size), lb, ⟨s1, no1, nn1, nc1, eo1, en1, ec1, rfl, cq⟩⟩
              · have e127 : ρ (.tmp 127) = .agg #[.bool sv, .slice nov nnv ncv, .slice eov env ecv] := hd (24, 127) (by simp)
                obtain ⟨s129, no129, nn129, nc129, eo129, en129, ec129, e129, k129⟩ : VC (-((-q))) (20001) (ρ (.tmp 129)) u := hd (26, 129) (by simp)
                refine Goes.call 11 #[.agg #[.bool sv, .slice nov nnv ncv, .slice eov env ecv], .agg #[.bool s129, .slice no129 nn129 nc129, .slice eo129 en129 ec129]] (by go_simp) ?_
                refine Calls.mono (is3_any u sv nov nnv ncv eov env ecv s129 no129 nn129 nc129 eo129 en129 ec129 _ _ _ _ (cqv.later hC).num (cqv.later hC).den k129.num k129.den (by have := (cqv.later hC).ln; omega) (by have := (cqv.later hC).ld; omega) (by have := k129.ln; omega) (by have := k129.ld; omega)) ?_
                rintro e u' ⟨r, rfl, HR, lb⟩
                exact ⟨_, rfl, hC.trans (lb.mono hC.size), lb, by rw [HR.out.2 (cq_same (cqv.later hC) k129 (by grind))]; rfl⟩
              · have e126 : ρ (.tmp 126) = .bool true := hd (23, 126) (by simp)
                have e130 : ρ (.tmp 130) = .bool true := hd (27, 130) (by simp)
                refine Goes.pure (.bool true) ?_ ⟨hC, Below.refl _ _, rfl⟩
                unfold Goes
                go_simp
              · have e131 : ρ (.tmp 131) = .bool true := hd (28, 131) (by simp)
                refine Goes.pure (.bool true) ?_ ⟨hC, Below.refl _ _, rfl⟩
                unfold Goes
                go_simp
              · have e13 : ρ (.tmp 13) = .pointer (some ⟨gv, 0, none⟩) := ho 13 (by simp)
                obtain ⟨c0, c1, c2⟩ := (bv.later hC).cells
                refine Goes.pure (.agg #[.bool sv, .slice nov nnv ncv, .slice eov env ecv]) ?_ ⟨hC, Below.refl _ _, rfl⟩
                unfold Goes
                go_simp
              · have e19 : ρ (.tmp 19) = .pointer (some ⟨gk, 0, none⟩) := ho 19 (by simp)
                obtain ⟨c0, c1, c2⟩ := (bk.later hC).cells
                refine Goes.pure (.agg #[.bool sk, .slice nok nnk nck, .slice eok enk eck]) ?_ ⟨hC, Below.refl _ _, rfl⟩
                unfold Goes
                go_simp
              · have e21 : ρ (.tmp 21) = .pointer (some ⟨gu, 0, none⟩) := ho 21 (by simp)
                obtain ⟨c0, c1, c2⟩ := (bu.later hC).cells
                refine Goes.pure (.agg #[.bool su, .slice nou nnu ncu, .slice eou enu ecu]) ?_ ⟨hC, Below.refl _ _, rfl⟩
                unfold Goes
                go_simp
              · have e134 : ρ (.tmp 134) = .agg #[.bool sk, .slice nok nnk nck, .slice eok enk eck] := hd (31, 134) (by simp)
                have e135 : ρ (.tmp 135) = .agg #[.bool su, .slice nou nnu ncu, .slice eou enu ecu] := hd (32, 135) (by simp)
                have lb : Below u.heap.size u (u.alloc (.cells #[.bool sk, .slice nok nnk nck, .slice eok enk eck, .bool su, .slice nou nnu ncu, .slice eou enu ecu] 25)) := (Below.refl _ _).alloc (Nat.le_refl _) _
                refine Goes.run (.slice (some ⟨u.heap.size, 0, none⟩) 2 2) (u.alloc (.cells #[.bool sk, .slice nok nnk nck, .slice eok enk eck, .bool su, .slice nou nnu ncu, .slice eou enu ecu] 25)) (by go_simp) ⟨hC.trans (lb.mono hC.size), lb, ?_⟩
                exact VL.made [⟨sk, nok, nnk, nck, eok, enk, eck⟩, ⟨su, nou, nnu, ncu, eou, enu, ecu⟩] [qd, qe] ⟨(cqk.later hC).rd.mono (by omega), (cqu.later hC).rd.mono (by omega), trivial⟩ _ rfl 2 rfl
              · have k136 : VL [qd, qe] (20001) (ρ (.tmp 136)) u := hd (33, 136) (by simp)
                refine Goes.call 20 #[ρ (.tmp 136)] (by go_simp) ?_
                refine Calls.mono (ratSum_k k136 (by omega) (by simp only [List.length_cons, List.length_nil]; omega)) ?_
                rintro e u' ⟨s1, no1, nn1, nc1, eo1, en1, ec1, rfl, cq, lb⟩
                exact ⟨_, rfl, hC.trans (lb.mono hC.size), lb, ⟨s1, no1, nn1, nc1, eo1, en1, ec1, rfl, by rw [qsum2] at cq; exact cq.mono (by simp only [List.length_cons, List.length_nil]; omega)⟩⟩
              · have e133 : ρ (.tmp 133) = .agg #[.bool sv, .slice nov nnv ncv, .slice eov env ecv] := hd (30, 133) (by simp)
                obtain ⟨s137, no137, nn137, nc137, eo137, en137, ec137, e137, k137⟩ : VC (qd + qe) (2 * (20001 + 1) + 1) (ρ (.tmp 137)) u := hd (34, 137) (by simp)
                refine Goes.call 11 #[.agg #[.bool sv, .slice nov nnv ncv, .slice eov env ecv], .agg #[.bool s137, .slice no137 nn137 nc137, .slice eo137 en137 ec137]] (by go_simp) ?_
                refine Calls.mono (is3_any u sv nov nnv ncv eov env ecv s137 no137 nn137 nc137 eo137 en137 ec137 _ _ _ _ (cqv.later hC).num (cqv.later hC).den k137.num k137.den (by have := (cqv.later hC).ln; omega) (by have := (cqv.later hC).ld; omega) (by have := k137.ln; omega) (by have := k137.ld; omega)) ?_
                rintro e u' ⟨r, rfl, HR, lb⟩
                exact ⟨_, rfl, hC.trans (lb.mono hC.size), lb, by rw [HR.out.2 (cq_same (cqv.later hC) k137 (HSUM.out))]; rfl⟩
              · have e132 : ρ (.tmp 132) = .bool true := hd (29, 132) (by simp)
                have e138 : ρ (.tmp 138) = .bool true := hd (35, 138) (by simp)
                refine Goes.pure (.bool true) ?_ ⟨hC, Below.refl _ _, rfl⟩
                unfold Goes
                go_simp
            · intro vs u hC hv
              have eR : vs 36 = .bool true := hv 36 (by omega)
              clear hv
              simp only [puts, List.take, List.drop, Act.put, List.setIfInBounds_toArray, List.set_cons_succ, List.set_cons_zero, Nat.reduceAdd, eR]
              go_wp2
              go_ret
              exact ⟨rfl, B11.trans (hC.mono B11.size)⟩
end Go.Proofs.YtmfpnlhpdjabeaaGreatDoor
