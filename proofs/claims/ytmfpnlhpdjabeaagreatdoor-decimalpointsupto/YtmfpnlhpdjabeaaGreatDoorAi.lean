/- penumbraref04: Parse. -/
import Derived.Test.YtmfpnlhpdjabeaaGreatDoorAh
namespace Go.Proofs.YtmfpnlhpdjabeaaGreatDoor
open Go.RowKit M Kahn

/-- What a text says behind its sign, and the error's number. -/
def prs2 (neg : Bool) (r : List Nat) : Rat × Int :=
  if dg r = 0 then (0, 40)
  else if dg r < r.length then
    if dg (r.drop (dg r + 1)) = 0 ∨ dg r + 1 + dg (r.drop (dg r + 1)) < r.length ∨ (r.getD (dg r) 0 ≠ 46 ∧ r.getD (dg r) 0 ≠ 47) then (0, 40)
    else if r.getD (dg r) 0 = 47 then
      if dnum (r.drop (dg r + 1)) = 0 then (0, 42) else (rq neg (dnum (r.take (dg r))) (dnum (r.drop (dg r + 1))), 0)
    else (rq neg (dnum (r.take (dg r) ++ r.drop (dg r + 1))) (10 ^ dg (r.drop (dg r + 1))), 0)
  else (rq neg (dnum r) 1, 0)
/-- What a text says, and the error's number. -/
def prs (l : List Nat) : Rat × Int :=
  if 20000 < l.length then (0, 41)
  else if l.getD 0 0 = 45 then prs2 true (l.drop 1) else prs2 false l

/-- What a call leaves that hands back a number and an error's number. -/
def Gqi (w : World) (K : Nat) (p : Rat × Int) (e : Ending) (w' : World) : Prop :=
  ∃ s no nn nc eo en ec, e = .returned (.tuple #[.agg #[.bool s, .slice no nn nc, .slice eo en ec], .int .i64 p.2]) ∧ Cq w' s no nn nc eo en ec p.1 K ∧ Below w.heap.size w w'
theorem ret_store3 {fn : Func} {p t : Tmp} {act : Act} {w u : World} {g K : Nat} {q : Rat} {z : Int} {s : Bool} {no : Option Addr} {nn nc : Nat} {eo : Option Addr} {en ec : Nat} (h : fn.results = #[.cell p 25, .tmp t]) (hp : act.tmps.getD p undef = .pointer (some ⟨g, 0, none⟩)) (ht : act.tmps.getD t undef = .int .i64 z) (hd : act.defers = [])
    (hb : Rb u g (.bool false) (.slice none 0 0) (.slice none 0 0)) (hg : w.heap.size ≤ g) (hc : Cq u s no nn nc eo en ec q K) (h5 : Below w.heap.size w u) :
    bodyPost Tryz.prog fn (Gqi w K (q, z)) .ret act (((u.setCell ⟨g, 0, none⟩ (.bool s)).setCell ⟨g, 1, none⟩ (.slice no nn nc)).setCell ⟨g, 2, none⟩ (.slice eo en ec)) := by
  have fr := Rb.putFr g u (.bool s) (.slice no nn nc) (.slice eo en ec)
  exact ret_rat2 h hp ht hd (hb.put _ _ _) ⟨s, no, nn, nc, eo, en, ec, rfl, hc.store hb fr, h5.trans (fr.below hg)⟩

theorem tx_tail (x : Nat) (r : List Nat) : (tx (x :: r)).extract 1 (r.length + 1) = tx r := by
  have := tx_drop (x :: r) 1
  simpa using this
theorem i64_near {x : Int} (h1 : 0 ≤ x) (h2 : x ≤ 9223372036854775807) : IntKind.i64.wrap x = x := by rw [IntKind.wrap_i64]; omega
/-- The block for the answer. -/
theorem boxR (w : World) : ∃ w0 g, w0 = w.alloc (.cells #[.bool false, .slice none 0 0, .slice none 0 0] 25) ∧ g = w.heap.size ∧ Rb w0 g (.bool false) (.slice none 0 0) (.slice none 0 0) ∧ Below w.heap.size w w0 ∧ Hid (w.heap.size = g) :=
  ⟨_, _, rfl, rfl, ⟨heap_alloc_new _ _⟩, (Below.refl _ _).alloc (Nat.le_refl _) _, rfl⟩

set_option maxRecDepth 100000 in
set_option maxHeartbeats 4000000 in
theorem rparse_neg_form {w : World} {r : List Nat} (hb : Byt r) (hlen : r.length + 1 ≤ 20000) (hn : dg r = 0) :
    Calls Tryz.prog 10 #[.string (tx (45 :: r))] w (Gqi w 20001 (0, 40)) := by
  obtain ⟨w0, g, hw0, hg, rs, B0, HG⟩ := boxR w
  have hsz := tx_size (45 :: r)
  have hix0 : ∀ u, (Instr.index 9 (.string (tx (45 :: r))) (.int .i64 0)).run Tryz.prog u = .ok (.int .u8 45) u := fun u => idx_run (l := 45 :: r) (Byt.mk (by omega) hb) (i := 0) (by simp) u
  have hl1 : (45 :: r).length = r.length + 1 := rfl
  rw [hl1] at hsz
  go_enter Tryz.func10, Tryz.ntmps10
  go_wp2_with fail
  rw [← hw0, ← hg]
  clear hw0 hg hix0
  rw [tx_tail]
  clear hl1
  have hsz := tx_size r
  refine (rdigits_any w0 r hb (by omega)).mono ?_
  rintro e w1 ⟨rfl, rfl⟩
  rw [hn]

  go_wp2_with fail
  refine (zero3_any w0).mono ?_
  rintro e w9 ⟨s9, no9, nn9, nc9, eo9, en9, ec9, rfl, cz, lb⟩
  have rs9 := rs.later lb
  obtain ⟨r0, r1, r2⟩ := rs9.cells
  have f0 := rs9.free 0
  have f1 := rs9.free 1
  have f2 := rs9.free 2
  go_wp2
  exact ret_store3 rfl rfl rfl rfl rs9 (by rw [HG.out]; omega) (cz.mono (by omega)) (B0.trans (lb.mono B0.size))

set_option maxRecDepth 100000 in
set_option maxHeartbeats 4000000 in
theorem rparse_neg_whole {w : World} {r : List Nat} (hb : Byt r) (hlen : r.length + 1 ≤ 20000) (hn : dg r = r.length) (hn0 : 0 < r.length) :
    Calls Tryz.prog 10 #[.string (tx (45 :: r))] w (Gqi w 20001 (rq true (dnum r) 1, 0)) := by
  obtain ⟨w0, g, hw0, hg, rs, B0, HG⟩ := boxR w
  have hsz := tx_size (45 :: r)
  have hix0 : ∀ u, (Instr.index 9 (.string (tx (45 :: r))) (.int .i64 0)).run Tryz.prog u = .ok (.int .u8 45) u := fun u => idx_run (l := 45 :: r) (Byt.mk (by omega) hb) (i := 0) (by simp) u
  have hl1 : (45 :: r).length = r.length + 1 := rfl
  rw [hl1] at hsz
  go_enter Tryz.func10, Tryz.ntmps10
  go_wp2_with fail
  rw [← hw0, ← hg]
  clear hw0 hg hix0
  rw [tx_tail]
  clear hl1
  have hsz := tx_size r
  refine (rdigits_any w0 r hb (by omega)).mono ?_
  rintro e w1 ⟨rfl, rfl⟩

  have HDT : Hid (Dig r) := by show Dig r; have := dg_take r; rw [hn, List.take_length] at this; exact this
  rw [hn]
  have hnb : (((r.length : Nat) : Int) == 0) = false := by rw [beq_eq_false_iff_ne]; omega
  have HN : Hid (dg r = r.length) := hn
  clear hn
  go_wp2_with fail
  rw [tx_take, List.take_length]
  refine (rnumber_k HDT.out (by omega)).mono ?_
  rintro e w2 ⟨uo, un, uc, rfl, su, lu, b2⟩
  have hun : un ≤ 20001 := by omega
  obtain ⟨sl, bl⟩ := lit1 w2 1 [1] #[.int .u32 1] rfl one_lim rfl
  have rs3 := (rs.later b2).later bl
  have su3 := su.later bl
  have B3 := (B0.trans (b2.mono B0.size)).trans (bl.mono (Nat.le_trans B0.size b2.size))
  clear su rs b2 bl B0 lu

  go_wp2_with fail
  generalize w2.alloc (.cells #[.int .u32 1] 40) = w3 at *
  generalize w2.heap.size = g3 at *
  refine (zero_any w3 _ _ _ _ sl (by omega)).mono ?_
  rintro e w4 ⟨rfl, rfl⟩
  rw [show (cmpN (val [1]) 0 == 0) = false from rfl]
  go_wp2_with fail

  have hqn : Qn w3 true uo un uc (some ⟨g3, 0, none⟩) 1 1 (rq true (dnum r) 1) 20001 := ⟨⟨_, _, su3, sl, by rw [val_toL]; rfl⟩, hun, by omega⟩
  refine (read3_any w3 true uo un uc (some ⟨g3, 0, none⟩) 1 1 20001 (rq true (dnum r) 1) hqn (by omega) (by omega)).mono ?_
  rintro e w9 ⟨s9, no9, nn9, nc9, eo9, en9, ec9, rfl, cz, lb⟩
  have rs9 := rs3.later lb
  obtain ⟨r0, r1, r2⟩ := rs9.cells
  have f0 := rs9.free 0
  have f1 := rs9.free 1
  have f2 := rs9.free 2
  go_wp2
  exact ret_store3 rfl rfl rfl rfl rs9 (by rw [HG.out]; omega) cz (B3.trans (lb.mono B3.size))

set_option maxRecDepth 100000 in
set_option maxHeartbeats 4000000 in
theorem rparse_neg_bad1 {w : World} {r : List Nat} (hb : Byt r) (hlen : r.length + 1 ≤ 20000) {n k : Nat} (hn : dg r = n) (hn0 : 0 < n) (hnl : n < r.length) (hk : dg (r.drop (n + 1)) = k) (hk0 : k = 0) :
    Calls Tryz.prog 10 #[.string (tx (45 :: r))] w (Gqi w 20001 (0, 40)) := by
  obtain ⟨w0, g, hw0, hg, rs, B0, HG⟩ := boxR w
  have hsz := tx_size (45 :: r)
  have hix0 : ∀ u, (Instr.index 9 (.string (tx (45 :: r))) (.int .i64 0)).run Tryz.prog u = .ok (.int .u8 45) u := fun u => idx_run (l := 45 :: r) (Byt.mk (by omega) hb) (i := 0) (by simp) u
  have hl1 : (45 :: r).length = r.length + 1 := rfl
  rw [hl1] at hsz
  go_enter Tryz.func10, Tryz.ntmps10
  go_wp2_with fail
  rw [← hw0, ← hg]
  clear hw0 hg hix0
  rw [tx_tail]
  clear hl1
  have hsz := tx_size r
  refine (rdigits_any w0 r hb (by omega)).mono ?_
  rintro e w1 ⟨rfl, rfl⟩

  have HDT : Hid (Dig (r.take n)) := by show Dig (r.take n); rw [← hn]; exact dg_take r
  rw [hn]
  have hnb : ((n : Int) == 0) = false := by rw [beq_eq_false_iff_ne]; omega
  have HN : Hid (dg r = n) := hn
  clear hn
  go_wp2_with fail
  rw [tx_take]
  refine (rnumber_k HDT.out (by rw [List.length_take]; omega)).mono ?_
  rintro e w2 ⟨uo, un, uc, rfl, su, lu, b2⟩
  have hun : un ≤ 20001 := by rw [List.length_take] at lu; omega
  obtain ⟨sl, bl⟩ := lit1 w2 1 [1] #[.int .u32 1] rfl one_lim rfl
  have rs3 := (rs.later b2).later bl
  have su3 := su.later bl
  have B3 := (B0.trans (b2.mono B0.size)).trans (bl.mono (Nat.le_trans B0.size b2.size))
  clear su rs b2 bl B0 lu

  go_wp2_with fail
  generalize w2.alloc (.cells #[.int .u32 1] 40) = w3 at *
  generalize w2.heap.size = g3 at *
  rw [tx_drop]
  have hkl := dg_le (r.drop (n + 1))
  rw [hk, List.length_drop] at hkl
  refine (rdigits_any w3 (r.drop (n + 1)) (hb.drop _) (by rw [List.length_drop]; omega)).mono ?_
  rintro e w4 ⟨rfl, rfl⟩
  rw [hk]
  have HK : Hid (dg (r.drop (n + 1)) = k) := hk
  clear hk
  subst hk0

  go_wp2_with fail
  refine (zero3_any w3).mono ?_
  rintro e w9 ⟨s9, no9, nn9, nc9, eo9, en9, ec9, rfl, cz, lb⟩
  have rs9 := rs3.later lb
  obtain ⟨r0, r1, r2⟩ := rs9.cells
  have f0 := rs9.free 0
  have f1 := rs9.free 1
  have f2 := rs9.free 2
  go_wp2
  exact ret_store3 rfl rfl rfl rfl rs9 (by rw [HG.out]; omega) (cz.mono (by omega)) (B3.trans (lb.mono B3.size))

set_option maxRecDepth 100000 in
set_option maxHeartbeats 4000000 in
theorem rparse_neg_bad2 {w : World} {r : List Nat} (hb : Byt r) (hlen : r.length + 1 ≤ 20000) {n k : Nat} (hn : dg r = n) (hn0 : 0 < n) (hnl : n < r.length) (hk : dg (r.drop (n + 1)) = k) (hk0 : 0 < k) (hks : n + 1 + k < r.length) :
    Calls Tryz.prog 10 #[.string (tx (45 :: r))] w (Gqi w 20001 (0, 40)) := by
  obtain ⟨w0, g, hw0, hg, rs, B0, HG⟩ := boxR w
  have hsz := tx_size (45 :: r)
  have hix0 : ∀ u, (Instr.index 9 (.string (tx (45 :: r))) (.int .i64 0)).run Tryz.prog u = .ok (.int .u8 45) u := fun u => idx_run (l := 45 :: r) (Byt.mk (by omega) hb) (i := 0) (by simp) u
  have hl1 : (45 :: r).length = r.length + 1 := rfl
  rw [hl1] at hsz
  go_enter Tryz.func10, Tryz.ntmps10
  go_wp2_with fail
  rw [← hw0, ← hg]
  clear hw0 hg hix0
  rw [tx_tail]
  clear hl1
  have hsz := tx_size r
  refine (rdigits_any w0 r hb (by omega)).mono ?_
  rintro e w1 ⟨rfl, rfl⟩

  have HDT : Hid (Dig (r.take n)) := by show Dig (r.take n); rw [← hn]; exact dg_take r
  rw [hn]
  have hnb : ((n : Int) == 0) = false := by rw [beq_eq_false_iff_ne]; omega
  have HN : Hid (dg r = n) := hn
  clear hn
  go_wp2_with fail
  rw [tx_take]
  refine (rnumber_k HDT.out (by rw [List.length_take]; omega)).mono ?_
  rintro e w2 ⟨uo, un, uc, rfl, su, lu, b2⟩
  have hun : un ≤ 20001 := by rw [List.length_take] at lu; omega
  obtain ⟨sl, bl⟩ := lit1 w2 1 [1] #[.int .u32 1] rfl one_lim rfl
  have rs3 := (rs.later b2).later bl
  have su3 := su.later bl
  have B3 := (B0.trans (b2.mono B0.size)).trans (bl.mono (Nat.le_trans B0.size b2.size))
  clear su rs b2 bl B0 lu

  go_wp2_with fail
  generalize w2.alloc (.cells #[.int .u32 1] 40) = w3 at *
  generalize w2.heap.size = g3 at *
  rw [tx_drop]
  have hkl := dg_le (r.drop (n + 1))
  rw [hk, List.length_drop] at hkl
  refine (rdigits_any w3 (r.drop (n + 1)) (hb.drop _) (by rw [List.length_drop]; omega)).mono ?_
  rintro e w4 ⟨rfl, rfl⟩
  rw [hk]
  have HK : Hid (dg (r.drop (n + 1)) = k) := hk
  clear hk
  have hkb : ((k : Int) == 0) = false := by rw [beq_eq_false_iff_ne]; omega

  go_wp2_with fail
  refine (zero3_any w3).mono ?_
  rintro e w9 ⟨s9, no9, nn9, nc9, eo9, en9, ec9, rfl, cz, lb⟩
  have rs9 := rs3.later lb
  obtain ⟨r0, r1, r2⟩ := rs9.cells
  have f0 := rs9.free 0
  have f1 := rs9.free 1
  have f2 := rs9.free 2
  go_wp2
  exact ret_store3 rfl rfl rfl rfl rs9 (by rw [HG.out]; omega) (cz.mono (by omega)) (B3.trans (lb.mono B3.size))

set_option maxRecDepth 100000 in
set_option maxHeartbeats 4000000 in
theorem rparse_neg_bad3 {w : World} {r : List Nat} (hb : Byt r) (hlen : r.length + 1 ≤ 20000) {n k : Nat} (hn : dg r = n) (hn0 : 0 < n) (hnl : n < r.length) (hk : dg (r.drop (n + 1)) = k) (hk0 : 0 < k) (hks : r.length ≤ n + 1 + k) {c : Nat} (hc : r.getD n 0 = c) (h6 : c ≠ 46) (h7 : c ≠ 47) :
    Calls Tryz.prog 10 #[.string (tx (45 :: r))] w (Gqi w 20001 (0, 40)) := by
  obtain ⟨w0, g, hw0, hg, rs, B0, HG⟩ := boxR w
  have hsz := tx_size (45 :: r)
  have hix0 : ∀ u, (Instr.index 9 (.string (tx (45 :: r))) (.int .i64 0)).run Tryz.prog u = .ok (.int .u8 45) u := fun u => idx_run (l := 45 :: r) (Byt.mk (by omega) hb) (i := 0) (by simp) u
  have hl1 : (45 :: r).length = r.length + 1 := rfl
  rw [hl1] at hsz
  go_enter Tryz.func10, Tryz.ntmps10
  go_wp2_with fail
  rw [← hw0, ← hg]
  clear hw0 hg hix0
  rw [tx_tail]
  clear hl1
  have hsz := tx_size r
  refine (rdigits_any w0 r hb (by omega)).mono ?_
  rintro e w1 ⟨rfl, rfl⟩

  have HDT : Hid (Dig (r.take n)) := by show Dig (r.take n); rw [← hn]; exact dg_take r
  rw [hn]
  have hnb : ((n : Int) == 0) = false := by rw [beq_eq_false_iff_ne]; omega
  have HN : Hid (dg r = n) := hn
  clear hn
  go_wp2_with fail
  rw [tx_take]
  refine (rnumber_k HDT.out (by rw [List.length_take]; omega)).mono ?_
  rintro e w2 ⟨uo, un, uc, rfl, su, lu, b2⟩
  have hun : un ≤ 20001 := by rw [List.length_take] at lu; omega
  obtain ⟨sl, bl⟩ := lit1 w2 1 [1] #[.int .u32 1] rfl one_lim rfl
  have rs3 := (rs.later b2).later bl
  have su3 := su.later bl
  have B3 := (B0.trans (b2.mono B0.size)).trans (bl.mono (Nat.le_trans B0.size b2.size))
  clear su rs b2 bl B0 lu

  go_wp2_with fail
  generalize w2.alloc (.cells #[.int .u32 1] 40) = w3 at *
  generalize w2.heap.size = g3 at *
  rw [tx_drop]
  have hkl := dg_le (r.drop (n + 1))
  rw [hk, List.length_drop] at hkl
  refine (rdigits_any w3 (r.drop (n + 1)) (hb.drop _) (by rw [List.length_drop]; omega)).mono ?_
  rintro e w4 ⟨rfl, rfl⟩
  rw [hk]
  have HK : Hid (dg (r.drop (n + 1)) = k) := hk
  clear hk
  have hkb : ((k : Int) == 0) = false := by rw [beq_eq_false_iff_ne]; omega
  have hix := fun u => idx_run hb hnl u
  rw [hc] at hix
  clear hc
  have h6b : ((c : Int) != 46) = true := by rw [bne_iff_ne]; omega
  have h7b : ((c : Int) != 47) = true := by rw [bne_iff_ne]; omega
  clear h6 h7

  go_wp2_with fail
  refine (zero3_any w3).mono ?_
  rintro e w9 ⟨s9, no9, nn9, nc9, eo9, en9, ec9, rfl, cz, lb⟩
  have rs9 := rs3.later lb
  obtain ⟨r0, r1, r2⟩ := rs9.cells
  have f0 := rs9.free 0
  have f1 := rs9.free 1
  have f2 := rs9.free 2
  go_wp2
  exact ret_store3 rfl rfl rfl rfl rs9 (by rw [HG.out]; omega) (cz.mono (by omega)) (B3.trans (lb.mono B3.size))

set_option maxRecDepth 100000 in
set_option maxHeartbeats 4000000 in
theorem rparse_neg_nil {w : World} {r : List Nat} (hb : Byt r) (hlen : r.length + 1 ≤ 20000) {n k : Nat} (hn : dg r = n) (hn0 : 0 < n) (hnl : n < r.length) (hk : dg (r.drop (n + 1)) = k) (hk0 : 0 < k) (hks : r.length ≤ n + 1 + k) {c : Nat} (hc : r.getD n 0 = c) (hc7 : c = 47) (hd0 : dnum (r.drop (n + 1)) = 0) :
    Calls Tryz.prog 10 #[.string (tx (45 :: r))] w (Gqi w 20001 (0, 42)) := by
  obtain ⟨w0, g, hw0, hg, rs, B0, HG⟩ := boxR w
  have hsz := tx_size (45 :: r)
  have hix0 : ∀ u, (Instr.index 9 (.string (tx (45 :: r))) (.int .i64 0)).run Tryz.prog u = .ok (.int .u8 45) u := fun u => idx_run (l := 45 :: r) (Byt.mk (by omega) hb) (i := 0) (by simp) u
  have hl1 : (45 :: r).length = r.length + 1 := rfl
  rw [hl1] at hsz
  go_enter Tryz.func10, Tryz.ntmps10
  go_wp2_with fail
  rw [← hw0, ← hg]
  clear hw0 hg hix0
  rw [tx_tail]
  clear hl1
  have hsz := tx_size r
  refine (rdigits_any w0 r hb (by omega)).mono ?_
  rintro e w1 ⟨rfl, rfl⟩

  have HDT : Hid (Dig (r.take n)) := by show Dig (r.take n); rw [← hn]; exact dg_take r
  rw [hn]
  have hnb : ((n : Int) == 0) = false := by rw [beq_eq_false_iff_ne]; omega
  have HN : Hid (dg r = n) := hn
  clear hn
  go_wp2_with fail
  rw [tx_take]
  refine (rnumber_k HDT.out (by rw [List.length_take]; omega)).mono ?_
  rintro e w2 ⟨uo, un, uc, rfl, su, lu, b2⟩
  have hun : un ≤ 20001 := by rw [List.length_take] at lu; omega
  obtain ⟨sl, bl⟩ := lit1 w2 1 [1] #[.int .u32 1] rfl one_lim rfl
  have rs3 := (rs.later b2).later bl
  have su3 := su.later bl
  have B3 := (B0.trans (b2.mono B0.size)).trans (bl.mono (Nat.le_trans B0.size b2.size))
  clear su rs b2 bl B0 lu

  go_wp2_with fail
  generalize w2.alloc (.cells #[.int .u32 1] 40) = w3 at *
  generalize w2.heap.size = g3 at *
  rw [tx_drop]
  have hkl := dg_le (r.drop (n + 1))
  rw [hk, List.length_drop] at hkl
  refine (rdigits_any w3 (r.drop (n + 1)) (hb.drop _) (by rw [List.length_drop]; omega)).mono ?_
  rintro e w4 ⟨rfl, rfl⟩
  rw [hk]
  have HK : Hid (dg (r.drop (n + 1)) = k) := hk
  clear hk
  have hkb : ((k : Int) == 0) = false := by rw [beq_eq_false_iff_ne]; omega
  have hix := fun u => idx_run hb hnl u
  rw [hc] at hix
  clear hc
  have h6b : ((c : Int) != 46) = true := by rw [bne_iff_ne]; omega
  have h7b : ((c : Int) != 47) = false := by rw [hc7]; rfl
  have h7c : ((c : Int) == 47) = true := by rw [hc7]; rfl
  have hdg : Dig (r.drop (n + 1)) := by
    have := dg_take (r.drop (n + 1))
    rw [HK.out, List.take_of_length_le (by rw [List.length_drop]; omega)] at this
    exact this
  have HDG : Hid _ := hdg
  clear hdg hc7
  go_wp2_with fail
  rw [tx_drop]
  refine (rnumber_k HDG.out (by rw [List.length_drop]; omega)).mono ?_
  rintro e w5 ⟨vo, vn, vc, rfl, sv, lv, b5⟩
  have hvn : vn ≤ 20001 := by rw [List.length_drop] at lv; omega
  have su5 := su3.later b5
  have rs5 := rs3.later b5
  have B5 := B3.trans (b5.mono B3.size)
  clear su3 rs3 B3 b5 lv sl
  go_wp2_with fail
  refine (zero_any w5 _ _ _ _ sv (by omega)).mono ?_
  rintro e w6 ⟨rfl, rfl⟩
  rw [val_toL]
  rw [hd0, cmpN_eq rfl]

  go_wp2_with fail
  refine (zero3_any w5).mono ?_
  rintro e w9 ⟨s9, no9, nn9, nc9, eo9, en9, ec9, rfl, cz, lb⟩
  have rs9 := rs5.later lb
  obtain ⟨r0, r1, r2⟩ := rs9.cells
  have f0 := rs9.free 0
  have f1 := rs9.free 1
  have f2 := rs9.free 2
  go_wp2
  exact ret_store3 rfl rfl rfl rfl rs9 (by rw [HG.out]; omega) (cz.mono (by omega)) (B5.trans (lb.mono B5.size))

set_option maxRecDepth 100000 in
set_option maxHeartbeats 4000000 in
theorem rparse_neg_over {w : World} {r : List Nat} (hb : Byt r) (hlen : r.length + 1 ≤ 20000) {n k : Nat} (hn : dg r = n) (hn0 : 0 < n) (hnl : n < r.length) (hk : dg (r.drop (n + 1)) = k) (hk0 : 0 < k) (hks : r.length ≤ n + 1 + k) {c : Nat} (hc : r.getD n 0 = c) (hc7 : c = 47) (hd0 : dnum (r.drop (n + 1)) ≠ 0) :
    Calls Tryz.prog 10 #[.string (tx (45 :: r))] w (Gqi w 20001 (rq true (dnum (r.take n)) (dnum (r.drop (n + 1))), 0)) := by
  obtain ⟨w0, g, hw0, hg, rs, B0, HG⟩ := boxR w
  have hsz := tx_size (45 :: r)
  have hix0 : ∀ u, (Instr.index 9 (.string (tx (45 :: r))) (.int .i64 0)).run Tryz.prog u = .ok (.int .u8 45) u := fun u => idx_run (l := 45 :: r) (Byt.mk (by omega) hb) (i := 0) (by simp) u
  have hl1 : (45 :: r).length = r.length + 1 := rfl
  rw [hl1] at hsz
  go_enter Tryz.func10, Tryz.ntmps10
  go_wp2_with fail
  rw [← hw0, ← hg]
  clear hw0 hg hix0
  rw [tx_tail]
  clear hl1
  have hsz := tx_size r
  refine (rdigits_any w0 r hb (by omega)).mono ?_
  rintro e w1 ⟨rfl, rfl⟩

  have HDT : Hid (Dig (r.take n)) := by show Dig (r.take n); rw [← hn]; exact dg_take r
  rw [hn]
  have hnb : ((n : Int) == 0) = false := by rw [beq_eq_false_iff_ne]; omega
  have HN : Hid (dg r = n) := hn
  clear hn
  go_wp2_with fail
  rw [tx_take]
  refine (rnumber_k HDT.out (by rw [List.length_take]; omega)).mono ?_
  rintro e w2 ⟨uo, un, uc, rfl, su, lu, b2⟩
  have hun : un ≤ 20001 := by rw [List.length_take] at lu; omega
  obtain ⟨sl, bl⟩ := lit1 w2 1 [1] #[.int .u32 1] rfl one_lim rfl
  have rs3 := (rs.later b2).later bl
  have su3 := su.later bl
  have B3 := (B0.trans (b2.mono B0.size)).trans (bl.mono (Nat.le_trans B0.size b2.size))
  clear su rs b2 bl B0 lu

  go_wp2_with fail
  generalize w2.alloc (.cells #[.int .u32 1] 40) = w3 at *
  generalize w2.heap.size = g3 at *
  rw [tx_drop]
  have hkl := dg_le (r.drop (n + 1))
  rw [hk, List.length_drop] at hkl
  refine (rdigits_any w3 (r.drop (n + 1)) (hb.drop _) (by rw [List.length_drop]; omega)).mono ?_
  rintro e w4 ⟨rfl, rfl⟩
  rw [hk]
  have HK : Hid (dg (r.drop (n + 1)) = k) := hk
  clear hk
  have hkb : ((k : Int) == 0) = false := by rw [beq_eq_false_iff_ne]; omega
  have hix := fun u => idx_run hb hnl u
  rw [hc] at hix
  clear hc
  have h6b : ((c : Int) != 46) = true := by rw [bne_iff_ne]; omega
  have h7b : ((c : Int) != 47) = false := by rw [hc7]; rfl
  have h7c : ((c : Int) == 47) = true := by rw [hc7]; rfl
  have hdg : Dig (r.drop (n + 1)) := by
    have := dg_take (r.drop (n + 1))
    rw [HK.out, List.take_of_length_le (by rw [List.length_drop]; omega)] at this
    exact this
  have HDG : Hid _ := hdg
  clear hdg hc7
  go_wp2_with fail
  rw [tx_drop]
  refine (rnumber_k HDG.out (by rw [List.length_drop]; omega)).mono ?_
  rintro e w5 ⟨vo, vn, vc, rfl, sv, lv, b5⟩
  have hvn : vn ≤ 20001 := by rw [List.length_drop] at lv; omega
  have su5 := su3.later b5
  have rs5 := rs3.later b5
  have B5 := B3.trans (b5.mono B3.size)
  clear su3 rs3 B3 b5 lv sl
  go_wp2_with fail
  refine (zero_any w5 _ _ _ _ sv (by omega)).mono ?_
  rintro e w6 ⟨rfl, rfl⟩
  rw [val_toL]
  rw [show (cmpN (dnum (r.drop (n + 1))) 0 == 0) = false from by rw [cmpN_gt (by omega)]; rfl]
  go_wp2_with fail

  have hqn : Qn w5 true uo un uc vo vn vc (rq true (dnum (r.take n)) (dnum (r.drop (n + 1)))) 20001 := ⟨⟨_, _, su5, sv, by rw [val_toL, val_toL]⟩, hun, hvn⟩
  refine (read3_any w5 true uo un uc vo vn vc 20001 (rq true (dnum (r.take n)) (dnum (r.drop (n + 1)))) hqn (by omega) (by omega)).mono ?_
  rintro e w9 ⟨s9, no9, nn9, nc9, eo9, en9, ec9, rfl, cz, lb⟩
  have rs9 := rs5.later lb
  obtain ⟨r0, r1, r2⟩ := rs9.cells
  have f0 := rs9.free 0
  have f1 := rs9.free 1
  have f2 := rs9.free 2
  go_wp2
  exact ret_store3 rfl rfl rfl rfl rs9 (by rw [HG.out]; omega) cz (B5.trans (lb.mono B5.size))

set_option maxRecDepth 100000 in
set_option maxHeartbeats 4000000 in
theorem rparse_neg_point {w : World} {r : List Nat} (hb : Byt r) (hlen : r.length + 1 ≤ 20000) {n k : Nat} (hn : dg r = n) (hn0 : 0 < n) (hnl : n < r.length) (hk : dg (r.drop (n + 1)) = k) (hk0 : 0 < k) (hks : r.length ≤ n + 1 + k) {c : Nat} (hc : r.getD n 0 = c) (hc6 : c = 46) :
    Calls Tryz.prog 10 #[.string (tx (45 :: r))] w (Gqi w 20001 (rq true (dnum (r.take n ++ r.drop (n + 1))) (10 ^ k), 0)) := by
  obtain ⟨w0, g, hw0, hg, rs, B0, HG⟩ := boxR w
  have hsz := tx_size (45 :: r)
  have hix0 : ∀ u, (Instr.index 9 (.string (tx (45 :: r))) (.int .i64 0)).run Tryz.prog u = .ok (.int .u8 45) u := fun u => idx_run (l := 45 :: r) (Byt.mk (by omega) hb) (i := 0) (by simp) u
  have hl1 : (45 :: r).length = r.length + 1 := rfl
  rw [hl1] at hsz
  go_enter Tryz.func10, Tryz.ntmps10
  go_wp2_with fail
  rw [← hw0, ← hg]
  clear hw0 hg hix0
  rw [tx_tail]
  clear hl1
  have hsz := tx_size r
  refine (rdigits_any w0 r hb (by omega)).mono ?_
  rintro e w1 ⟨rfl, rfl⟩

  have HDT : Hid (Dig (r.take n)) := by show Dig (r.take n); rw [← hn]; exact dg_take r
  rw [hn]
  have hnb : ((n : Int) == 0) = false := by rw [beq_eq_false_iff_ne]; omega
  have HN : Hid (dg r = n) := hn
  clear hn
  go_wp2_with fail
  rw [tx_take]
  refine (rnumber_k HDT.out (by rw [List.length_take]; omega)).mono ?_
  rintro e w2 ⟨uo, un, uc, rfl, su, lu, b2⟩
  have hun : un ≤ 20001 := by rw [List.length_take] at lu; omega
  obtain ⟨sl, bl⟩ := lit1 w2 1 [1] #[.int .u32 1] rfl one_lim rfl
  have rs3 := (rs.later b2).later bl
  have su3 := su.later bl
  have B3 := (B0.trans (b2.mono B0.size)).trans (bl.mono (Nat.le_trans B0.size b2.size))
  clear su rs b2 bl B0 lu

  go_wp2_with fail
  generalize w2.alloc (.cells #[.int .u32 1] 40) = w3 at *
  generalize w2.heap.size = g3 at *
  rw [tx_drop]
  have hkl := dg_le (r.drop (n + 1))
  rw [hk, List.length_drop] at hkl
  refine (rdigits_any w3 (r.drop (n + 1)) (hb.drop _) (by rw [List.length_drop]; omega)).mono ?_
  rintro e w4 ⟨rfl, rfl⟩
  rw [hk]
  have HK : Hid (dg (r.drop (n + 1)) = k) := hk
  clear hk
  have hkb : ((k : Int) == 0) = false := by rw [beq_eq_false_iff_ne]; omega
  have hix := fun u => idx_run hb hnl u
  rw [hc] at hix
  clear hc
  have h6b : ((c : Int) != 46) = false := by rw [hc6]; rfl
  have h7c : ((c : Int) == 47) = false := by rw [hc6]; rfl
  have hdg : Dig (r.drop (n + 1)) := by
    have := dg_take (r.drop (n + 1))
    rw [HK.out, List.take_of_length_le (by rw [List.length_drop]; omega)] at this
    exact this
  have hda : Dig (r.take n ++ r.drop (n + 1)) := Dig.append (a := r.take n) HDT.out hdg
  have HDA : Hid (Dig (r.take n ++ r.drop (n + 1))) := hda
  have hal : (r.take n ++ r.drop (n + 1)).length ≤ 20000 := by rw [List.length_append, List.length_take, List.length_drop]; omega
  have hs1 := tx_size (r.take n)
  have hs2 := tx_size (r.drop (n + 1))
  rw [List.length_take] at hs1
  rw [List.length_drop] at hs2
  have hw1 : IntKind.i64.wrap (((n : Nat) : Int) + 1) = ((n : Nat) : Int) + 1 := i64_near (by omega) (by omega)
  clear hdg hda hc6
  go_wp2
  clear h6b h7c hix hkb
  have HLst : Lst [VV (.string (tx r)), VV (.int .i64 ((n : Nat) : Int)), VV (.string (tx (r.take n))), VV (.string (tx r)), VV (.int .i64 ((n : Nat) : Int)), VV (.int .i64 (((n : Nat) : Int) + 1)), VV (.string (tx (r.drop (n + 1)))), VV (.string (tx (r.take n ++ r.drop (n + 1)))), VN (dnum (r.take n ++ r.drop (n + 1))) (20001)] := ⟨VV.lasts _, VV.lasts _, VV.lasts _, VV.lasts _, VV.lasts _, VV.lasts _, VV.lasts _, VV.lasts _, VN.lasts _ _, trivial⟩
  refine wp_region_kahn 9 102 [([], [0]), ([], [5]), ([(0, 77), (1, 78)], []), ([], [0]), ([], [5]), ([(4, 81)], []), ([(3, 80), (5, 82)], []), ([(2, 79), (6, 83)], []), ([(7, 84)], [])]
    (fun u => Below w3.heap.size w3 u) (fun u u' => Below u.heap.size u u')
    (Sp [VV (.string (tx r)), VV (.int .i64 ((n : Nat) : Int)), VV (.string (tx (r.take n))), VV (.string (tx r)), VV (.int .i64 ((n : Nat) : Int)), VV (.int .i64 (((n : Nat) : Int) + 1)), VV (.string (tx (r.drop (n + 1)))), VV (.string (tx (r.take n ++ r.drop (n + 1)))), VN (dnum (r.take n ++ r.drop (n + 1))) (20001)])
    (by kernel_rfl) rfl (by kernel_rfl) (Below.refl _ _).drew (fun k v u u' _ hg hs => Sp.lasts HLst k v u u' hg hs) ?_ ?_
  · refine ⟨.inl ⟨by simp, fun ρ u hC hc hf hd ho => ?_⟩, .inl ⟨by simp, fun ρ u hC hc hf hd ho => ?_⟩, .inl ⟨by simp, fun ρ u hC hc hf hd ho => ?_⟩, .inl ⟨by simp, fun ρ u hC hc hf hd ho => ?_⟩, .inl ⟨by simp, fun ρ u hC hc hf hd ho => ?_⟩, .inl ⟨by simp, fun ρ u hC hc hf hd ho => ?_⟩, .inl ⟨by simp, fun ρ u hC hc hf hd ho => ?_⟩, .inl ⟨by simp, fun ρ u hC hc hf hd ho => ?_⟩, .inl ⟨by simp, fun ρ u hC hc hf hd ho => ?_⟩, trivial⟩
    · have e0 : ρ (.tmp 0) = .string (tx r) := ho 0 (by simp)
      refine Goes.pure (.string (tx r)) ?_ ⟨hC, Below.refl _ _, rfl⟩
      unfold Goes
      go_simp
    · have e5 : ρ (.tmp 5) = .int .i64 ((n : Nat) : Int) := ho 5 (by simp)
      refine Goes.pure (.int .i64 ((n : Nat) : Int)) ?_ ⟨hC, Below.refl _ _, rfl⟩
      unfold Goes
      go_simp
    · have e77 : ρ (.tmp 77) = .string (tx r) := hd (0, 77) (by simp)
      have e78 : ρ (.tmp 78) = .int .i64 ((n : Nat) : Int) := hd (1, 78) (by simp)
      have hq0 := tx_take r n
      refine Goes.pure (.string (tx (r.take n))) ?_ ⟨hC, Below.refl _ _, rfl⟩
      unfold Goes
      go_simp
      rw [if_pos (by omega)]
      exact ⟨rfl, rfl⟩
    · have e0 : ρ (.tmp 0) = .string (tx r) := ho 0 (by simp)
      refine Goes.pure (.string (tx r)) ?_ ⟨hC, Below.refl _ _, rfl⟩
      unfold Goes
      go_simp
    · have e5 : ρ (.tmp 5) = .int .i64 ((n : Nat) : Int) := ho 5 (by simp)
      refine Goes.pure (.int .i64 ((n : Nat) : Int)) ?_ ⟨hC, Below.refl _ _, rfl⟩
      unfold Goes
      go_simp
    · have e81 : ρ (.tmp 81) = .int .i64 ((n : Nat) : Int) := hd (4, 81) (by simp)
      refine Goes.pure (.int .i64 (((n : Nat) : Int) + 1)) ?_ ⟨hC, Below.refl _ _, rfl⟩
      unfold Goes
      go_simp
    · have e80 : ρ (.tmp 80) = .string (tx r) := hd (3, 80) (by simp)
      have e82 : ρ (.tmp 82) = .int .i64 (((n : Nat) : Int) + 1) := hd (5, 82) (by simp)
      have hq0 := tx_drop r (n + 1)
      refine Goes.pure (.string (tx (r.drop (n + 1)))) ?_ ⟨hC, Below.refl _ _, rfl⟩
      unfold Goes
      go_simp
      rw [if_pos (by omega)]
      exact ⟨rfl, rfl⟩
    · have e79 : ρ (.tmp 79) = .string (tx (r.take n)) := hd (2, 79) (by simp)
      have e83 : ρ (.tmp 83) = .string (tx (r.drop (n + 1))) := hd (6, 83) (by simp)
      have hq0 := tx_append (r.take n) (r.drop (n + 1))
      refine Goes.pure (.string (tx (r.take n ++ r.drop (n + 1)))) ?_ ⟨hC, Below.refl _ _, rfl⟩
      unfold Goes
      go_simp
      rw [if_neg (by omega)]
      exact ⟨rfl, rfl⟩
    · have e84 : ρ (.tmp 84) = .string (tx (r.take n ++ r.drop (n + 1))) := hd (7, 84) (by simp)
      refine Goes.call 31 #[.string (tx (r.take n ++ r.drop (n + 1)))] (by go_simp) ?_
      refine Calls.mono (rnumber_k HDA.out (by omega)) ?_
      rintro e u' ⟨ro, rn, rc, rfl, sr, lr, lb⟩
      exact ⟨_, rfl, hC.trans (lb.mono hC.size), lb, ⟨ro, rn, rc, rfl, sr, by omega⟩⟩
  · intro vs u hC hv
    obtain ⟨ro, rn, rc, e85, sr, lr⟩ : VN (dnum (r.take n ++ r.drop (n + 1))) 20001 (vs 8) u := hv 8 (by omega)
    simp only [puts, List.take, List.drop, Act.put, List.setIfInBounds_toArray, List.set_cons_succ, List.set_cons_zero, Nat.reduceAdd, e85]
    clear hv
    have sl4 := sl.later hC
    have rs4 := rs3.later hC
    have B4 := B3.trans (hC.mono B3.size)
    clear hC su3 sl rs3 B3 hs1 hs2 hal hw1 HDA HDT HK HN
    rw [← toL_one] at sl4
    go_wp2
    go_loopw [7, 9] (fun dv iv wr => ∃ i po pn pc, i ≤ k ∧ iv = .int .i64 ((i : Nat) : Int) ∧ dv = .slice po pn pc ∧ Sl wr.heap.size wr po pn pc (toL (10 ^ i)) ∧ pn ≤ i + 1 ∧ Sl wr.heap.size wr ro rn rc (toL (dnum (r.take n ++ r.drop (n + 1)))) ∧ Rb wr g (.bool false) (.slice none 0 0) (.slice none 0 0) ∧ Below w.heap.size w wr) (fun _ iv _ => k - (intOf iv).toNat)
    case atStart => exact ⟨0, _, _, _, Nat.zero_le _, rfl, rfl, sl4, by omega, sr, rs4, B4⟩
    case round =>
      clear sl4 sr rs4 B4
      obtain ⟨i, po, pn, pc, hi, rfl, rfl, sp, hpn, sr, rs4, B4⟩ := hrel
      by_cases hlt : i < k
      · obtain ⟨sT, bT⟩ := lit1 wr 1 [10] #[.int .u32 10] rfl (Lim.mk (by omega) Lim.nil) rfl
        have sp5 := sp.later bT
        have sr5 := sr.later bT
        have rs5 := rs4.later bT
        have B5 := B4.trans (bT.mono B4.size)
        clear sp sr rs4 B4 bT
        go_wp2_with fail
        generalize wr.alloc (.cells #[.int .u32 10] 40) = w5 at *
        generalize wr.heap.size = g5 at *
        refine (rmul_k sp5 sT (i + 1) 1 hpn (by omega) (by omega) (by omega)).mono ?_
        rintro e w6 ⟨mo, mn, mc, rfl, sm, lm, b6⟩
        rw [val_toL, show val [10] = 10 from rfl, ← Nat.pow_succ] at sm
        have sr6 := sr5.later b6
        have rs6 := rs5.later b6
        have B6 := B5.trans (b6.mono B5.size)
        clear sp5 sr5 rs5 B5 b6 sT
        go_wp2
        go_roundw
        case rel => exact ⟨i + 1, mo, mn, mc, by omega, by go_num, rfl, sm, by omega, sr6, rs6, B6⟩
        case measure => simp [intOf]; omega
      · obtain rfl : i = k := by omega
        have HT : Hid ((cmpN (10 ^ i) 0 == 0) = false) := by show (cmpN (10 ^ i) 0 == 0) = false; rw [cmpN_gt (Nat.pow_pos (by omega))]; rfl
        go_wp2_with fail
        refine (zero_any wr _ _ _ _ sp (by omega)).mono ?_
        rintro e w6 ⟨rfl, rfl⟩
        rw [val_toL, HT.out]
        go_wp2_with fail
        have hqn : Qn wr true ro rn rc po pn pc (rq true (dnum (r.take n ++ r.drop (n + 1))) (10 ^ i)) 20001 := ⟨⟨_, _, sr, sp, by rw [val_toL, val_toL]⟩, lr, by omega⟩
        refine (read3_any wr true ro rn rc po pn pc 20001 _ hqn (by omega) (by omega)).mono ?_
        rintro e w9 ⟨s9, no9, nn9, nc9, eo9, en9, ec9, rfl, cz, lb⟩
        have rs9 := rs4.later lb
        obtain ⟨r0, r1, r2⟩ := rs9.cells
        have f0 := rs9.free 0
        have f1 := rs9.free 1
        have f2 := rs9.free 2
        go_wp2
        exact ret_store3 rfl rfl rfl rfl rs9 (by rw [HG.out]; omega) cz (B4.trans (lb.mono B4.size))

set_option maxRecDepth 100000 in
set_option maxHeartbeats 4000000 in
theorem rparse_pos_form {w : World} {r : List Nat} (hb : Byt r) (hlen : r.length ≤ 20000) (hpos : 0 < r.length) (hne : r.getD 0 0 ≠ 45) (hn : dg r = 0) :
    Calls Tryz.prog 10 #[.string (tx r)] w (Gqi w 20001 (0, 40)) := by
  obtain ⟨w0, g, hw0, hg, rs, B0, HG⟩ := boxR w
  have hsz := tx_size (r)
  have hix0 : ∀ u, (Instr.index 9 (.string (tx r)) (.int .i64 0)).run Tryz.prog u = .ok (.int .u8 ((r.getD 0 0 : Nat) : Int)) u := fun u => idx_run hb (i := 0) hpos u
  obtain ⟨c0, hc0⟩ : ∃ c0, c0 = r.getD 0 0 := ⟨_, rfl⟩
  rw [← hc0] at hix0 hne
  have hc45 : ((c0 : Int) == 45) = false := by rw [beq_eq_false_iff_ne]; omega
  clear hc0 hne
  go_enter Tryz.func10, Tryz.ntmps10
  go_wp2_with fail
  rw [← hw0, ← hg]
  clear hw0 hg hix0
  clear hc45
  refine (rdigits_any w0 r hb (by omega)).mono ?_
  rintro e w1 ⟨rfl, rfl⟩
  rw [hn]

  go_wp2_with fail
  refine (zero3_any w0).mono ?_
  rintro e w9 ⟨s9, no9, nn9, nc9, eo9, en9, ec9, rfl, cz, lb⟩
  have rs9 := rs.later lb
  obtain ⟨r0, r1, r2⟩ := rs9.cells
  have f0 := rs9.free 0
  have f1 := rs9.free 1
  have f2 := rs9.free 2
  go_wp2
  exact ret_store3 rfl rfl rfl rfl rs9 (by rw [HG.out]; omega) (cz.mono (by omega)) (B0.trans (lb.mono B0.size))

set_option maxRecDepth 100000 in
set_option maxHeartbeats 4000000 in
theorem rparse_pos_whole {w : World} {r : List Nat} (hb : Byt r) (hlen : r.length ≤ 20000) (hpos : 0 < r.length) (hne : r.getD 0 0 ≠ 45) (hn : dg r = r.length) :
    Calls Tryz.prog 10 #[.string (tx r)] w (Gqi w 20001 (rq false (dnum r) 1, 0)) := by
  obtain ⟨w0, g, hw0, hg, rs, B0, HG⟩ := boxR w
  have hsz := tx_size (r)
  have hix0 : ∀ u, (Instr.index 9 (.string (tx r)) (.int .i64 0)).run Tryz.prog u = .ok (.int .u8 ((r.getD 0 0 : Nat) : Int)) u := fun u => idx_run hb (i := 0) hpos u
  obtain ⟨c0, hc0⟩ : ∃ c0, c0 = r.getD 0 0 := ⟨_, rfl⟩
  rw [← hc0] at hix0 hne
  have hc45 : ((c0 : Int) == 45) = false := by rw [beq_eq_false_iff_ne]; omega
  clear hc0 hne
  go_enter Tryz.func10, Tryz.ntmps10
  go_wp2_with fail
  rw [← hw0, ← hg]
  clear hw0 hg hix0
  clear hc45
  refine (rdigits_any w0 r hb (by omega)).mono ?_
  rintro e w1 ⟨rfl, rfl⟩

  have HDT : Hid (Dig r) := by show Dig r; have := dg_take r; rw [hn, List.take_length] at this; exact this
  rw [hn]
  have hnb : (((r.length : Nat) : Int) == 0) = false := by rw [beq_eq_false_iff_ne]; omega
  have HN : Hid (dg r = r.length) := hn
  clear hn
  go_wp2_with fail
  rw [tx_take, List.take_length]
  refine (rnumber_k HDT.out (by omega)).mono ?_
  rintro e w2 ⟨uo, un, uc, rfl, su, lu, b2⟩
  have hun : un ≤ 20001 := by omega
  obtain ⟨sl, bl⟩ := lit1 w2 1 [1] #[.int .u32 1] rfl one_lim rfl
  have rs3 := (rs.later b2).later bl
  have su3 := su.later bl
  have B3 := (B0.trans (b2.mono B0.size)).trans (bl.mono (Nat.le_trans B0.size b2.size))
  clear su rs b2 bl B0 lu

  go_wp2_with fail
  generalize w2.alloc (.cells #[.int .u32 1] 40) = w3 at *
  generalize w2.heap.size = g3 at *
  refine (zero_any w3 _ _ _ _ sl (by omega)).mono ?_
  rintro e w4 ⟨rfl, rfl⟩
  rw [show (cmpN (val [1]) 0 == 0) = false from rfl]
  go_wp2_with fail

  have hqn : Qn w3 false uo un uc (some ⟨g3, 0, none⟩) 1 1 (rq false (dnum r) 1) 20001 := ⟨⟨_, _, su3, sl, by rw [val_toL]; rfl⟩, hun, by omega⟩
  refine (read3_any w3 false uo un uc (some ⟨g3, 0, none⟩) 1 1 20001 (rq false (dnum r) 1) hqn (by omega) (by omega)).mono ?_
  rintro e w9 ⟨s9, no9, nn9, nc9, eo9, en9, ec9, rfl, cz, lb⟩
  have rs9 := rs3.later lb
  obtain ⟨r0, r1, r2⟩ := rs9.cells
  have f0 := rs9.free 0
  have f1 := rs9.free 1
  have f2 := rs9.free 2
  go_wp2
  exact ret_store3 rfl rfl rfl rfl rs9 (by rw [HG.out]; omega) cz (B3.trans (lb.mono B3.size))

set_option maxRecDepth 100000 in
set_option maxHeartbeats 4000000 in
theorem rparse_pos_bad1 {w : World} {r : List Nat} (hb : Byt r) (hlen : r.length ≤ 20000) (hpos : 0 < r.length) (hne : r.getD 0 0 ≠ 45) {n k : Nat} (hn : dg r = n) (hn0 : 0 < n) (hnl : n < r.length) (hk : dg (r.drop (n + 1)) = k) (hk0 : k = 0) :
    Calls Tryz.prog 10 #[.string (tx r)] w (Gqi w 20001 (0, 40)) := by
  obtain ⟨w0, g, hw0, hg, rs, B0, HG⟩ := boxR w
  have hsz := tx_size (r)
  have hix0 : ∀ u, (Instr.index 9 (.string (tx r)) (.int .i64 0)).run Tryz.prog u = .ok (.int .u8 ((r.getD 0 0 : Nat) : Int)) u := fun u => idx_run hb (i := 0) hpos u
  obtain ⟨c0, hc0⟩ : ∃ c0, c0 = r.getD 0 0 := ⟨_, rfl⟩
  rw [← hc0] at hix0 hne
  have hc45 : ((c0 : Int) == 45) = false := by rw [beq_eq_false_iff_ne]; omega
  clear hc0 hne
  go_enter Tryz.func10, Tryz.ntmps10
  go_wp2_with fail
  rw [← hw0, ← hg]
  clear hw0 hg hix0
  clear hc45
  refine (rdigits_any w0 r hb (by omega)).mono ?_
  rintro e w1 ⟨rfl, rfl⟩

  have HDT : Hid (Dig (r.take n)) := by show Dig (r.take n); rw [← hn]; exact dg_take r
  rw [hn]
  have hnb : ((n : Int) == 0) = false := by rw [beq_eq_false_iff_ne]; omega
  have HN : Hid (dg r = n) := hn
  clear hn
  go_wp2_with fail
  rw [tx_take]
  refine (rnumber_k HDT.out (by rw [List.length_take]; omega)).mono ?_
  rintro e w2 ⟨uo, un, uc, rfl, su, lu, b2⟩
  have hun : un ≤ 20001 := by rw [List.length_take] at lu; omega
  obtain ⟨sl, bl⟩ := lit1 w2 1 [1] #[.int .u32 1] rfl one_lim rfl
  have rs3 := (rs.later b2).later bl
  have su3 := su.later bl
  have B3 := (B0.trans (b2.mono B0.size)).trans (bl.mono (Nat.le_trans B0.size b2.size))
  clear su rs b2 bl B0 lu

  go_wp2_with fail
  generalize w2.alloc (.cells #[.int .u32 1] 40) = w3 at *
  generalize w2.heap.size = g3 at *
  rw [tx_drop]
  have hkl := dg_le (r.drop (n + 1))
  rw [hk, List.length_drop] at hkl
  refine (rdigits_any w3 (r.drop (n + 1)) (hb.drop _) (by rw [List.length_drop]; omega)).mono ?_
  rintro e w4 ⟨rfl, rfl⟩
  rw [hk]
  have HK : Hid (dg (r.drop (n + 1)) = k) := hk
  clear hk
  subst hk0

  go_wp2_with fail
  refine (zero3_any w3).mono ?_
  rintro e w9 ⟨s9, no9, nn9, nc9, eo9, en9, ec9, rfl, cz, lb⟩
  have rs9 := rs3.later lb
  obtain ⟨r0, r1, r2⟩ := rs9.cells
  have f0 := rs9.free 0
  have f1 := rs9.free 1
  have f2 := rs9.free 2
  go_wp2
  exact ret_store3 rfl rfl rfl rfl rs9 (by rw [HG.out]; omega) (cz.mono (by omega)) (B3.trans (lb.mono B3.size))

set_option maxRecDepth 100000 in
set_option maxHeartbeats 4000000 in
theorem rparse_pos_bad2 {w : World} {r : List Nat} (hb : Byt r) (hlen : r.length ≤ 20000) (hpos : 0 < r.length) (hne : r.getD 0 0 ≠ 45) {n k : Nat} (hn : dg r = n) (hn0 : 0 < n) (hnl : n < r.length) (hk : dg (r.drop (n + 1)) = k) (hk0 : 0 < k) (hks : n + 1 + k < r.length) :
    Calls Tryz.prog 10 #[.string (tx r)] w (Gqi w 20001 (0, 40)) := by
  obtain ⟨w0, g, hw0, hg, rs, B0, HG⟩ := boxR w
  have hsz := tx_size (r)
  have hix0 : ∀ u, (Instr.index 9 (.string (tx r)) (.int .i64 0)).run Tryz.prog u = .ok (.int .u8 ((r.getD 0 0 : Nat) : Int)) u := fun u => idx_run hb (i := 0) hpos u
  obtain ⟨c0, hc0⟩ : ∃ c0, c0 = r.getD 0 0 := ⟨_, rfl⟩
  rw [← hc0] at hix0 hne
  have hc45 : ((c0 : Int) == 45) = false := by rw [beq_eq_false_iff_ne]; omega
  clear hc0 hne
  go_enter Tryz.func10, Tryz.ntmps10
  go_wp2_with fail
  rw [← hw0, ← hg]
  clear hw0 hg hix0
  clear hc45
  refine (rdigits_any w0 r hb (by omega)).mono ?_
  rintro e w1 ⟨rfl, rfl⟩

  have HDT : Hid (Dig (r.take n)) := by show Dig (r.take n); rw [← hn]; exact dg_take r
  rw [hn]
  have hnb : ((n : Int) == 0) = false := by rw [beq_eq_false_iff_ne]; omega
  have HN : Hid (dg r = n) := hn
  clear hn
  go_wp2_with fail
  rw [tx_take]
  refine (rnumber_k HDT.out (by rw [List.length_take]; omega)).mono ?_
  rintro e w2 ⟨uo, un, uc, rfl, su, lu, b2⟩
  have hun : un ≤ 20001 := by rw [List.length_take] at lu; omega
  obtain ⟨sl, bl⟩ := lit1 w2 1 [1] #[.int .u32 1] rfl one_lim rfl
  have rs3 := (rs.later b2).later bl
  have su3 := su.later bl
  have B3 := (B0.trans (b2.mono B0.size)).trans (bl.mono (Nat.le_trans B0.size b2.size))
  clear su rs b2 bl B0 lu

  go_wp2_with fail
  generalize w2.alloc (.cells #[.int .u32 1] 40) = w3 at *
  generalize w2.heap.size = g3 at *
  rw [tx_drop]
  have hkl := dg_le (r.drop (n + 1))
  rw [hk, List.length_drop] at hkl
  refine (rdigits_any w3 (r.drop (n + 1)) (hb.drop _) (by rw [List.length_drop]; omega)).mono ?_
  rintro e w4 ⟨rfl, rfl⟩
  rw [hk]
  have HK : Hid (dg (r.drop (n + 1)) = k) := hk
  clear hk
  have hkb : ((k : Int) == 0) = false := by rw [beq_eq_false_iff_ne]; omega

  go_wp2_with fail
  refine (zero3_any w3).mono ?_
  rintro e w9 ⟨s9, no9, nn9, nc9, eo9, en9, ec9, rfl, cz, lb⟩
  have rs9 := rs3.later lb
  obtain ⟨r0, r1, r2⟩ := rs9.cells
  have f0 := rs9.free 0
  have f1 := rs9.free 1
  have f2 := rs9.free 2
  go_wp2
  exact ret_store3 rfl rfl rfl rfl rs9 (by rw [HG.out]; omega) (cz.mono (by omega)) (B3.trans (lb.mono B3.size))

set_option maxRecDepth 100000 in
set_option maxHeartbeats 4000000 in
theorem rparse_pos_bad3 {w : World} {r : List Nat} (hb : Byt r) (hlen : r.length ≤ 20000) (hpos : 0 < r.length) (hne : r.getD 0 0 ≠ 45) {n k : Nat} (hn : dg r = n) (hn0 : 0 < n) (hnl : n < r.length) (hk : dg (r.drop (n + 1)) = k) (hk0 : 0 < k) (hks : r.length ≤ n + 1 + k) {c : Nat} (hc : r.getD n 0 = c) (h6 : c ≠ 46) (h7 : c ≠ 47) :
    Calls Tryz.prog 10 #[.string (tx r)] w (Gqi w 20001 (0, 40)) := by
  obtain ⟨w0, g, hw0, hg, rs, B0, HG⟩ := boxR w
  have hsz := tx_size (r)
  have hix0 : ∀ u, (Instr.index 9 (.string (tx r)) (.int .i64 0)).run Tryz.prog u = .ok (.int .u8 ((r.getD 0 0 : Nat) : Int)) u := fun u => idx_run hb (i := 0) hpos u
  obtain ⟨c0, hc0⟩ : ∃ c0, c0 = r.getD 0 0 := ⟨_, rfl⟩
  rw [← hc0] at hix0 hne
  have hc45 : ((c0 : Int) == 45) = false := by rw [beq_eq_false_iff_ne]; omega
  clear hc0 hne
  go_enter Tryz.func10, Tryz.ntmps10
  go_wp2_with fail
  rw [← hw0, ← hg]
  clear hw0 hg hix0
  clear hc45
  refine (rdigits_any w0 r hb (by omega)).mono ?_
  rintro e w1 ⟨rfl, rfl⟩

  have HDT : Hid (Dig (r.take n)) := by show Dig (r.take n); rw [← hn]; exact dg_take r
  rw [hn]
  have hnb : ((n : Int) == 0) = false := by rw [beq_eq_false_iff_ne]; omega
  have HN : Hid (dg r = n) := hn
  clear hn
  go_wp2_with fail
  rw [tx_take]
  refine (rnumber_k HDT.out (by rw [List.length_take]; omega)).mono ?_
  rintro e w2 ⟨uo, un, uc, rfl, su, lu, b2⟩
  have hun : un ≤ 20001 := by rw [List.length_take] at lu; omega
  obtain ⟨sl, bl⟩ := lit1 w2 1 [1] #[.int .u32 1] rfl one_lim rfl
  have rs3 := (rs.later b2).later bl
  have su3 := su.later bl
  have B3 := (B0.trans (b2.mono B0.size)).trans (bl.mono (Nat.le_trans B0.size b2.size))
  clear su rs b2 bl B0 lu

  go_wp2_with fail
  generalize w2.alloc (.cells #[.int .u32 1] 40) = w3 at *
  generalize w2.heap.size = g3 at *
  rw [tx_drop]
  have hkl := dg_le (r.drop (n + 1))
  rw [hk, List.length_drop] at hkl
  refine (rdigits_any w3 (r.drop (n + 1)) (hb.drop _) (by rw [List.length_drop]; omega)).mono ?_
  rintro e w4 ⟨rfl, rfl⟩
  rw [hk]
  have HK : Hid (dg (r.drop (n + 1)) = k) := hk
  clear hk
  have hkb : ((k : Int) == 0) = false := by rw [beq_eq_false_iff_ne]; omega
  have hix := fun u => idx_run hb hnl u
  rw [hc] at hix
  clear hc
  have h6b : ((c : Int) != 46) = true := by rw [bne_iff_ne]; omega
  have h7b : ((c : Int) != 47) = true := by rw [bne_iff_ne]; omega
  clear h6 h7

  go_wp2_with fail
  refine (zero3_any w3).mono ?_
  rintro e w9 ⟨s9, no9, nn9, nc9, eo9, en9, ec9, rfl, cz, lb⟩
  have rs9 := rs3.later lb
  obtain ⟨r0, r1, r2⟩ := rs9.cells
  have f0 := rs9.free 0
  have f1 := rs9.free 1
  have f2 := rs9.free 2
  go_wp2
  exact ret_store3 rfl rfl rfl rfl rs9 (by rw [HG.out]; omega) (cz.mono (by omega)) (B3.trans (lb.mono B3.size))

set_option maxRecDepth 100000 in
set_option maxHeartbeats 4000000 in
theorem rparse_pos_nil {w : World} {r : List Nat} (hb : Byt r) (hlen : r.length ≤ 20000) (hpos : 0 < r.length) (hne : r.getD 0 0 ≠ 45) {n k : Nat} (hn : dg r = n) (hn0 : 0 < n) (hnl : n < r.length) (hk : dg (r.drop (n + 1)) = k) (hk0 : 0 < k) (hks : r.length ≤ n + 1 + k) {c : Nat} (hc : r.getD n 0 = c) (hc7 : c = 47) (hd0 : dnum (r.drop (n + 1)) = 0) :
    Calls Tryz.prog 10 #[.string (tx r)] w (Gqi w 20001 (0, 42)) := by
  obtain ⟨w0, g, hw0, hg, rs, B0, HG⟩ := boxR w
  have hsz := tx_size (r)
  have hix0 : ∀ u, (Instr.index 9 (.string (tx r)) (.int .i64 0)).run Tryz.prog u = .ok (.int .u8 ((r.getD 0 0 : Nat) : Int)) u := fun u => idx_run hb (i := 0) hpos u
  obtain ⟨c0, hc0⟩ : ∃ c0, c0 = r.getD 0 0 := ⟨_, rfl⟩
  rw [← hc0] at hix0 hne
  have hc45 : ((c0 : Int) == 45) = false := by rw [beq_eq_false_iff_ne]; omega
  clear hc0 hne
  go_enter Tryz.func10, Tryz.ntmps10
  go_wp2_with fail
  rw [← hw0, ← hg]
  clear hw0 hg hix0
  clear hc45
  refine (rdigits_any w0 r hb (by omega)).mono ?_
  rintro e w1 ⟨rfl, rfl⟩

  have HDT : Hid (Dig (r.take n)) := by show Dig (r.take n); rw [← hn]; exact dg_take r
  rw [hn]
  have hnb : ((n : Int) == 0) = false := by rw [beq_eq_false_iff_ne]; omega
  have HN : Hid (dg r = n) := hn
  clear hn
  go_wp2_with fail
  rw [tx_take]
  refine (rnumber_k HDT.out (by rw [List.length_take]; omega)).mono ?_
  rintro e w2 ⟨uo, un, uc, rfl, su, lu, b2⟩
  have hun : un ≤ 20001 := by rw [List.length_take] at lu; omega
  obtain ⟨sl, bl⟩ := lit1 w2 1 [1] #[.int .u32 1] rfl one_lim rfl
  have rs3 := (rs.later b2).later bl
  have su3 := su.later bl
  have B3 := (B0.trans (b2.mono B0.size)).trans (bl.mono (Nat.le_trans B0.size b2.size))
  clear su rs b2 bl B0 lu

  go_wp2_with fail
  generalize w2.alloc (.cells #[.int .u32 1] 40) = w3 at *
  generalize w2.heap.size = g3 at *
  rw [tx_drop]
  have hkl := dg_le (r.drop (n + 1))
  rw [hk, List.length_drop] at hkl
  refine (rdigits_any w3 (r.drop (n + 1)) (hb.drop _) (by rw [List.length_drop]; omega)).mono ?_
  rintro e w4 ⟨rfl, rfl⟩
  rw [hk]
  have HK : Hid (dg (r.drop (n + 1)) = k) := hk
  clear hk
  have hkb : ((k : Int) == 0) = false := by rw [beq_eq_false_iff_ne]; omega
  have hix := fun u => idx_run hb hnl u
  rw [hc] at hix
  clear hc
  have h6b : ((c : Int) != 46) = true := by rw [bne_iff_ne]; omega
  have h7b : ((c : Int) != 47) = false := by rw [hc7]; rfl
  have h7c : ((c : Int) == 47) = true := by rw [hc7]; rfl
  have hdg : Dig (r.drop (n + 1)) := by
    have := dg_take (r.drop (n + 1))
    rw [HK.out, List.take_of_length_le (by rw [List.length_drop]; omega)] at this
    exact this
  have HDG : Hid _ := hdg
  clear hdg hc7
  go_wp2_with fail
  rw [tx_drop]
  refine (rnumber_k HDG.out (by rw [List.length_drop]; omega)).mono ?_
  rintro e w5 ⟨vo, vn, vc, rfl, sv, lv, b5⟩
  have hvn : vn ≤ 20001 := by rw [List.length_drop] at lv; omega
  have su5 := su3.later b5
  have rs5 := rs3.later b5
  have B5 := B3.trans (b5.mono B3.size)
  clear su3 rs3 B3 b5 lv sl
  go_wp2_with fail
  refine (zero_any w5 _ _ _ _ sv (by omega)).mono ?_
  rintro e w6 ⟨rfl, rfl⟩
  rw [val_toL]
  rw [hd0, cmpN_eq rfl]

  go_wp2_with fail
  refine (zero3_any w5).mono ?_
  rintro e w9 ⟨s9, no9, nn9, nc9, eo9, en9, ec9, rfl, cz, lb⟩
  have rs9 := rs5.later lb
  obtain ⟨r0, r1, r2⟩ := rs9.cells
  have f0 := rs9.free 0
  have f1 := rs9.free 1
  have f2 := rs9.free 2
  go_wp2
  exact ret_store3 rfl rfl rfl rfl rs9 (by rw [HG.out]; omega) (cz.mono (by omega)) (B5.trans (lb.mono B5.size))

set_option maxRecDepth 100000 in
set_option maxHeartbeats 4000000 in
theorem rparse_pos_over {w : World} {r : List Nat} (hb : Byt r) (hlen : r.length ≤ 20000) (hpos : 0 < r.length) (hne : r.getD 0 0 ≠ 45) {n k : Nat} (hn : dg r = n) (hn0 : 0 < n) (hnl : n < r.length) (hk : dg (r.drop (n + 1)) = k) (hk0 : 0 < k) (hks : r.length ≤ n + 1 + k) {c : Nat} (hc : r.getD n 0 = c) (hc7 : c = 47) (hd0 : dnum (r.drop (n + 1)) ≠ 0) :
    Calls Tryz.prog 10 #[.string (tx r)] w (Gqi w 20001 (rq false (dnum (r.take n)) (dnum (r.drop (n + 1))), 0)) := by
  obtain ⟨w0, g, hw0, hg, rs, B0, HG⟩ := boxR w
  have hsz := tx_size (r)
  have hix0 : ∀ u, (Instr.index 9 (.string (tx r)) (.int .i64 0)).run Tryz.prog u = .ok (.int .u8 ((r.getD 0 0 : Nat) : Int)) u := fun u => idx_run hb (i := 0) hpos u
  obtain ⟨c0, hc0⟩ : ∃ c0, c0 = r.getD 0 0 := ⟨_, rfl⟩
  rw [← hc0] at hix0 hne
  have hc45 : ((c0 : Int) == 45) = false := by rw [beq_eq_false_iff_ne]; omega
  clear hc0 hne
  go_enter Tryz.func10, Tryz.ntmps10
  go_wp2_with fail
  rw [← hw0, ← hg]
  clear hw0 hg hix0
  clear hc45
  refine (rdigits_any w0 r hb (by omega)).mono ?_
  rintro e w1 ⟨rfl, rfl⟩

  have HDT : Hid (Dig (r.take n)) := by show Dig (r.take n); rw [← hn]; exact dg_take r
  rw [hn]
  have hnb : ((n : Int) == 0) = false := by rw [beq_eq_false_iff_ne]; omega
  have HN : Hid (dg r = n) := hn
  clear hn
  go_wp2_with fail
  rw [tx_take]
  refine (rnumber_k HDT.out (by rw [List.length_take]; omega)).mono ?_
  rintro e w2 ⟨uo, un, uc, rfl, su, lu, b2⟩
  have hun : un ≤ 20001 := by rw [List.length_take] at lu; omega
  obtain ⟨sl, bl⟩ := lit1 w2 1 [1] #[.int .u32 1] rfl one_lim rfl
  have rs3 := (rs.later b2).later bl
  have su3 := su.later bl
  have B3 := (B0.trans (b2.mono B0.size)).trans (bl.mono (Nat.le_trans B0.size b2.size))
  clear su rs b2 bl B0 lu

  go_wp2_with fail
  generalize w2.alloc (.cells #[.int .u32 1] 40) = w3 at *
  generalize w2.heap.size = g3 at *
  rw [tx_drop]
  have hkl := dg_le (r.drop (n + 1))
  rw [hk, List.length_drop] at hkl
  refine (rdigits_any w3 (r.drop (n + 1)) (hb.drop _) (by rw [List.length_drop]; omega)).mono ?_
  rintro e w4 ⟨rfl, rfl⟩
  rw [hk]
  have HK : Hid (dg (r.drop (n + 1)) = k) := hk
  clear hk
  have hkb : ((k : Int) == 0) = false := by rw [beq_eq_false_iff_ne]; omega
  have hix := fun u => idx_run hb hnl u
  rw [hc] at hix
  clear hc
  have h6b : ((c : Int) != 46) = true := by rw [bne_iff_ne]; omega
  have h7b : ((c : Int) != 47) = false := by rw [hc7]; rfl
  have h7c : ((c : Int) == 47) = true := by rw [hc7]; rfl
  have hdg : Dig (r.drop (n + 1)) := by
    have := dg_take (r.drop (n + 1))
    rw [HK.out, List.take_of_length_le (by rw [List.length_drop]; omega)] at this
    exact this
  have HDG : Hid _ := hdg
  clear hdg hc7
  go_wp2_with fail
  rw [tx_drop]
  refine (rnumber_k HDG.out (by rw [List.length_drop]; omega)).mono ?_
  rintro e w5 ⟨vo, vn, vc, rfl, sv, lv, b5⟩
  have hvn : vn ≤ 20001 := by rw [List.length_drop] at lv; omega
  have su5 := su3.later b5
  have rs5 := rs3.later b5
  have B5 := B3.trans (b5.mono B3.size)
  clear su3 rs3 B3 b5 lv sl
  go_wp2_with fail
  refine (zero_any w5 _ _ _ _ sv (by omega)).mono ?_
  rintro e w6 ⟨rfl, rfl⟩
  rw [val_toL]
  rw [show (cmpN (dnum (r.drop (n + 1))) 0 == 0) = false from by rw [cmpN_gt (by omega)]; rfl]
  go_wp2_with fail

  have hqn : Qn w5 false uo un uc vo vn vc (rq false (dnum (r.take n)) (dnum (r.drop (n + 1)))) 20001 := ⟨⟨_, _, su5, sv, by rw [val_toL, val_toL]⟩, hun, hvn⟩
  refine (read3_any w5 false uo un uc vo vn vc 20001 (rq false (dnum (r.take n)) (dnum (r.drop (n + 1)))) hqn (by omega) (by omega)).mono ?_
  rintro e w9 ⟨s9, no9, nn9, nc9, eo9, en9, ec9, rfl, cz, lb⟩
  have rs9 := rs5.later lb
  obtain ⟨r0, r1, r2⟩ := rs9.cells
  have f0 := rs9.free 0
  have f1 := rs9.free 1
  have f2 := rs9.free 2
  go_wp2
  exact ret_store3 rfl rfl rfl rfl rs9 (by rw [HG.out]; omega) cz (B5.trans (lb.mono B5.size))

set_option maxRecDepth 100000 in
set_option maxHeartbeats 4000000 in
theorem rparse_pos_point {w : World} {r : List Nat} (hb : Byt r) (hlen : r.length ≤ 20000) (hpos : 0 < r.length) (hne : r.getD 0 0 ≠ 45) {n k : Nat} (hn : dg r = n) (hn0 : 0 < n) (hnl : n < r.length) (hk : dg (r.drop (n + 1)) = k) (hk0 : 0 < k) (hks : r.length ≤ n + 1 + k) {c : Nat} (hc : r.getD n 0 = c) (hc6 : c = 46) :
    Calls Tryz.prog 10 #[.string (tx r)] w (Gqi w 20001 (rq false (dnum (r.take n ++ r.drop (n + 1))) (10 ^ k), 0)) := by
  obtain ⟨w0, g, hw0, hg, rs, B0, HG⟩ := boxR w
  have hsz := tx_size (r)
  have hix0 : ∀ u, (Instr.index 9 (.string (tx r)) (.int .i64 0)).run Tryz.prog u = .ok (.int .u8 ((r.getD 0 0 : Nat) : Int)) u := fun u => idx_run hb (i := 0) hpos u
  obtain ⟨c0, hc0⟩ : ∃ c0, c0 = r.getD 0 0 := ⟨_, rfl⟩
  rw [← hc0] at hix0 hne
  have hc45 : ((c0 : Int) == 45) = false := by rw [beq_eq_false_iff_ne]; omega
  clear hc0 hne
  go_enter Tryz.func10, Tryz.ntmps10
  go_wp2_with fail
  rw [← hw0, ← hg]
  clear hw0 hg hix0
  clear hc45
  refine (rdigits_any w0 r hb (by omega)).mono ?_
  rintro e w1 ⟨rfl, rfl⟩

  have HDT : Hid (Dig (r.take n)) := by show Dig (r.take n); rw [← hn]; exact dg_take r
  rw [hn]
  have hnb : ((n : Int) == 0) = false := by rw [beq_eq_false_iff_ne]; omega
  have HN : Hid (dg r = n) := hn
  clear hn
  go_wp2_with fail
  rw [tx_take]
  refine (rnumber_k HDT.out (by rw [List.length_take]; omega)).mono ?_
  rintro e w2 ⟨uo, un, uc, rfl, su, lu, b2⟩
  have hun : un ≤ 20001 := by rw [List.length_take] at lu; omega
  obtain ⟨sl, bl⟩ := lit1 w2 1 [1] #[.int .u32 1] rfl one_lim rfl
  have rs3 := (rs.later b2).later bl
  have su3 := su.later bl
  have B3 := (B0.trans (b2.mono B0.size)).trans (bl.mono (Nat.le_trans B0.size b2.size))
  clear su rs b2 bl B0 lu

  go_wp2_with fail
  generalize w2.alloc (.cells #[.int .u32 1] 40) = w3 at *
  generalize w2.heap.size = g3 at *
  rw [tx_drop]
  have hkl := dg_le (r.drop (n + 1))
  rw [hk, List.length_drop] at hkl
  refine (rdigits_any w3 (r.drop (n + 1)) (hb.drop _) (by rw [List.length_drop]; omega)).mono ?_
  rintro e w4 ⟨rfl, rfl⟩
  rw [hk]
  have HK : Hid (dg (r.drop (n + 1)) = k) := hk
  clear hk
  have hkb : ((k : Int) == 0) = false := by rw [beq_eq_false_iff_ne]; omega
  have hix := fun u => idx_run hb hnl u
  rw [hc] at hix
  clear hc
  have h6b : ((c : Int) != 46) = false := by rw [hc6]; rfl
  have h7c : ((c : Int) == 47) = false := by rw [hc6]; rfl
  have hdg : Dig (r.drop (n + 1)) := by
    have := dg_take (r.drop (n + 1))
    rw [HK.out, List.take_of_length_le (by rw [List.length_drop]; omega)] at this
    exact this
  have hda : Dig (r.take n ++ r.drop (n + 1)) := Dig.append (a := r.take n) HDT.out hdg
  have HDA : Hid (Dig (r.take n ++ r.drop (n + 1))) := hda
  have hal : (r.take n ++ r.drop (n + 1)).length ≤ 20000 := by rw [List.length_append, List.length_take, List.length_drop]; omega
  have hs1 := tx_size (r.take n)
  have hs2 := tx_size (r.drop (n + 1))
  rw [List.length_take] at hs1
  rw [List.length_drop] at hs2
  have hw1 : IntKind.i64.wrap (((n : Nat) : Int) + 1) = ((n : Nat) : Int) + 1 := i64_near (by omega) (by omega)
  clear hdg hda hc6
  go_wp2
  clear h6b h7c hix hkb
  have HLst : Lst [VV (.string (tx r)), VV (.int .i64 ((n : Nat) : Int)), VV (.string (tx (r.take n))), VV (.string (tx r)), VV (.int .i64 ((n : Nat) : Int)), VV (.int .i64 (((n : Nat) : Int) + 1)), VV (.string (tx (r.drop (n + 1)))), VV (.string (tx (r.take n ++ r.drop (n + 1)))), VN (dnum (r.take n ++ r.drop (n + 1))) (20001)] := ⟨VV.lasts _, VV.lasts _, VV.lasts _, VV.lasts _, VV.lasts _, VV.lasts _, VV.lasts _, VV.lasts _, VN.lasts _ _, trivial⟩
  refine wp_region_kahn 9 102 [([], [0]), ([], [5]), ([(0, 77), (1, 78)], []), ([], [0]), ([], [5]), ([(4, 81)], []), ([(3, 80), (5, 82)], []), ([(2, 79), (6, 83)], []), ([(7, 84)], [])]
    (fun u => Below w3.heap.size w3 u) (fun u u' => Below u.heap.size u u')
    (Sp [VV (.string (tx r)), VV (.int .i64 ((n : Nat) : Int)), VV (.string (tx (r.take n))), VV (.string (tx r)), VV (.int .i64 ((n : Nat) : Int)), VV (.int .i64 (((n : Nat) : Int) + 1)), VV (.string (tx (r.drop (n + 1)))), VV (.string (tx (r.take n ++ r.drop (n + 1)))), VN (dnum (r.take n ++ r.drop (n + 1))) (20001)])
    (by kernel_rfl) rfl (by kernel_rfl) (Below.refl _ _).drew (fun k v u u' _ hg hs => Sp.lasts HLst k v u u' hg hs) ?_ ?_
  · refine ⟨.inl ⟨by simp, fun ρ u hC hc hf hd ho => ?_⟩, .inl ⟨by simp, fun ρ u hC hc hf hd ho => ?_⟩, .inl ⟨by simp, fun ρ u hC hc hf hd ho => ?_⟩, .inl ⟨by simp, fun ρ u hC hc hf hd ho => ?_⟩, .inl ⟨by simp, fun ρ u hC hc hf hd ho => ?_⟩, .inl ⟨by simp, fun ρ u hC hc hf hd ho => ?_⟩, .inl ⟨by simp, fun ρ u hC hc hf hd ho => ?_⟩, .inl ⟨by simp, fun ρ u hC hc hf hd ho => ?_⟩, .inl ⟨by simp, fun ρ u hC hc hf hd ho => ?_⟩, trivial⟩
    · have e0 : ρ (.tmp 0) = .string (tx r) := ho 0 (by simp)
      refine Goes.pure (.string (tx r)) ?_ ⟨hC, Below.refl _ _, rfl⟩
      unfold Goes
      go_simp
    · have e5 : ρ (.tmp 5) = .int .i64 ((n : Nat) : Int) := ho 5 (by simp)
      refine Goes.pure (.int .i64 ((n : Nat) : Int)) ?_ ⟨hC, Below.refl _ _, rfl⟩
      unfold Goes
      go_simp
    · have e77 : ρ (.tmp 77) = .string (tx r) := hd (0, 77) (by simp)
      have e78 : ρ (.tmp 78) = .int .i64 ((n : Nat) : Int) := hd (1, 78) (by simp)
      have hq0 := tx_take r n
      refine Goes.pure (.string (tx (r.take n))) ?_ ⟨hC, Below.refl _ _, rfl⟩
      unfold Goes
      go_simp
      rw [if_pos (by omega)]
      exact ⟨rfl, rfl⟩
    · have e0 : ρ (.tmp 0) = .string (tx r) := ho 0 (by simp)
      refine Goes.pure (.string (tx r)) ?_ ⟨hC, Below.refl _ _, rfl⟩
      unfold Goes
      go_simp
    · have e5 : ρ (.tmp 5) = .int .i64 ((n : Nat) : Int) := ho 5 (by simp)
      refine Goes.pure (.int .i64 ((n : Nat) : Int)) ?_ ⟨hC, Below.refl _ _, rfl⟩
      unfold Goes
      go_simp
    · have e81 : ρ (.tmp 81) = .int .i64 ((n : Nat) : Int) := hd (4, 81) (by simp)
      refine Goes.pure (.int .i64 (((n : Nat) : Int) + 1)) ?_ ⟨hC, Below.refl _ _, rfl⟩
      unfold Goes
      go_simp
    · have e80 : ρ (.tmp 80) = .string (tx r) := hd (3, 80) (by simp)
      have e82 : ρ (.tmp 82) = .int .i64 (((n : Nat) : Int) + 1) := hd (5, 82) (by simp)
      have hq0 := tx_drop r (n + 1)
      refine Goes.pure (.string (tx (r.drop (n + 1)))) ?_ ⟨hC, Below.refl _ _, rfl⟩
      unfold Goes
      go_simp
      rw [if_pos (by omega)]
      exact ⟨rfl, rfl⟩
    · have e79 : ρ (.tmp 79) = .string (tx (r.take n)) := hd (2, 79) (by simp)
      have e83 : ρ (.tmp 83) = .string (tx (r.drop (n + 1))) := hd (6, 83) (by simp)
      have hq0 := tx_append (r.take n) (r.drop (n + 1))
      refine Goes.pure (.string (tx (r.take n ++ r.drop (n + 1)))) ?_ ⟨hC, Below.refl _ _, rfl⟩
      unfold Goes
      go_simp
      rw [if_neg (by omega)]
      exact ⟨rfl, rfl⟩
    · have e84 : ρ (.tmp 84) = .string (tx (r.take n ++ r.drop (n + 1))) := hd (7, 84) (by simp)
      refine Goes.call 31 #[.string (tx (r.take n ++ r.drop (n + 1)))] (by go_simp) ?_
      refine Calls.mono (rnumber_k HDA.out (by omega)) ?_
      rintro e u' ⟨ro, rn, rc, rfl, sr, lr, lb⟩
      exact ⟨_, rfl, hC.trans (lb.mono hC.size), lb, ⟨ro, rn, rc, rfl, sr, by omega⟩⟩
  · intro vs u hC hv
    obtain ⟨ro, rn, rc, e85, sr, lr⟩ : VN (dnum (r.take n ++ r.drop (n + 1))) 20001 (vs 8) u := hv 8 (by omega)
    simp only [puts, List.take, List.drop, Act.put, List.setIfInBounds_toArray, List.set_cons_succ, List.set_cons_zero, Nat.reduceAdd, e85]
    clear hv
    have sl4 := sl.later hC
    have rs4 := rs3.later hC
    have B4 := B3.trans (hC.mono B3.size)
    clear hC su3 sl rs3 B3 hs1 hs2 hal hw1 HDA HDT HK HN
    rw [← toL_one] at sl4
    go_wp2
    go_loopw [7, 9] (fun dv iv wr => ∃ i po pn pc, i ≤ k ∧ iv = .int .i64 ((i : Nat) : Int) ∧ dv = .slice po pn pc ∧ Sl wr.heap.size wr po pn pc (toL (10 ^ i)) ∧ pn ≤ i + 1 ∧ Sl wr.heap.size wr ro rn rc (toL (dnum (r.take n ++ r.drop (n + 1)))) ∧ Rb wr g (.bool false) (.slice none 0 0) (.slice none 0 0) ∧ Below w.heap.size w wr) (fun _ iv _ => k - (intOf iv).toNat)
    case atStart => exact ⟨0, _, _, _, Nat.zero_le _, rfl, rfl, sl4, by omega, sr, rs4, B4⟩
    case round =>
      clear sl4 sr rs4 B4
      obtain ⟨i, po, pn, pc, hi, rfl, rfl, sp, hpn, sr, rs4, B4⟩ := hrel
      by_cases hlt : i < k
      · obtain ⟨sT, bT⟩ := lit1 wr 1 [10] #[.int .u32 10] rfl (Lim.mk (by omega) Lim.nil) rfl
        have sp5 := sp.later bT
        have sr5 := sr.later bT
        have rs5 := rs4.later bT
        have B5 := B4.trans (bT.mono B4.size)
        clear sp sr rs4 B4 bT
        go_wp2_with fail
        generalize wr.alloc (.cells #[.int .u32 10] 40) = w5 at *
        generalize wr.heap.size = g5 at *
        refine (rmul_k sp5 sT (i + 1) 1 hpn (by omega) (by omega) (by omega)).mono ?_
        rintro e w6 ⟨mo, mn, mc, rfl, sm, lm, b6⟩
        rw [val_toL, show val [10] = 10 from rfl, ← Nat.pow_succ] at sm
        have sr6 := sr5.later b6
        have rs6 := rs5.later b6
        have B6 := B5.trans (b6.mono B5.size)
        clear sp5 sr5 rs5 B5 b6 sT
        go_wp2
        go_roundw
        case rel => exact ⟨i + 1, mo, mn, mc, by omega, by go_num, rfl, sm, by omega, sr6, rs6, B6⟩
        case measure => simp [intOf]; omega
      · obtain rfl : i = k := by omega
        have HT : Hid ((cmpN (10 ^ i) 0 == 0) = false) := by show (cmpN (10 ^ i) 0 == 0) = false; rw [cmpN_gt (Nat.pow_pos (by omega))]; rfl
        go_wp2_with fail
        refine (zero_any wr _ _ _ _ sp (by omega)).mono ?_
        rintro e w6 ⟨rfl, rfl⟩
        rw [val_toL, HT.out]
        go_wp2_with fail
        have hqn : Qn wr false ro rn rc po pn pc (rq false (dnum (r.take n ++ r.drop (n + 1))) (10 ^ i)) 20001 := ⟨⟨_, _, sr, sp, by rw [val_toL, val_toL]⟩, lr, by omega⟩
        refine (read3_any wr false ro rn rc po pn pc 20001 _ hqn (by omega) (by omega)).mono ?_
        rintro e w9 ⟨s9, no9, nn9, nc9, eo9, en9, ec9, rfl, cz, lb⟩
        have rs9 := rs4.later lb
        obtain ⟨r0, r1, r2⟩ := rs9.cells
        have f0 := rs9.free 0
        have f1 := rs9.free 1
        have f2 := rs9.free 2
        go_wp2
        exact ret_store3 rfl rfl rfl rfl rs9 (by rw [HG.out]; omega) cz (B4.trans (lb.mono B4.size))

set_option maxRecDepth 100000 in
set_option maxHeartbeats 4000000 in
theorem rparse_long {w : World} {l : List Nat} (hlen : l.length ≤ 1099511627776) (hlong : 20000 < l.length) :
    Calls Tryz.prog 10 #[.string (tx l)] w (Gqi w 20001 (0, 41)) := by
  obtain ⟨w0, g, hw0, hg, rs, B0, HG⟩ := boxR w
  have hsz := tx_size l
  go_enter Tryz.func10, Tryz.ntmps10
  go_wp2_with fail
  rw [← hw0, ← hg]
  clear hw0 hg
  refine (zero3_any w0).mono ?_
  rintro e w9 ⟨s9, no9, nn9, nc9, eo9, en9, ec9, rfl, cz, lb⟩
  have rs9 := rs.later lb
  obtain ⟨r0, r1, r2⟩ := rs9.cells
  have f0 := rs9.free 0
  have f1 := rs9.free 1
  have f2 := rs9.free 2
  go_wp2
  exact ret_store3 rfl rfl rfl rfl rs9 (by rw [HG.out]; omega) (cz.mono (by omega)) (B0.trans (lb.mono B0.size))
set_option maxRecDepth 100000 in
set_option maxHeartbeats 4000000 in
theorem rparse_empty {w : World} : Calls Tryz.prog 10 #[.string (tx [])] w (Gqi w 20001 (0, 40)) := by
  obtain ⟨w0, g, hw0, hg, rs, B0, HG⟩ := boxR w
  have hsz := tx_size []
  have hd := rdigits_any w0 [] Byt.nil (by simp)
  go_enter Tryz.func10, Tryz.ntmps10
  go_wp2_with fail
  rw [← hw0, ← hg]
  clear hw0 hg
  refine hd.mono ?_
  rintro e w1 ⟨rfl, rfl⟩
  rw [show dg [] = 0 from rfl]
  go_wp2_with fail
  refine (zero3_any w0).mono ?_
  rintro e w9 ⟨s9, no9, nn9, nc9, eo9, en9, ec9, rfl, cz, lb⟩
  have rs9 := rs.later lb
  obtain ⟨r0, r1, r2⟩ := rs9.cells
  have f0 := rs9.free 0
  have f1 := rs9.free 1
  have f2 := rs9.free 2
  go_wp2
  exact ret_store3 rfl rfl rfl rfl rs9 (by rw [HG.out]; omega) (cz.mono (by omega)) (B0.trans (lb.mono B0.size))

end Go.Proofs.YtmfpnlhpdjabeaaGreatDoor

/- penumbraref04: Parse, of any text. -/
namespace Go.Proofs.YtmfpnlhpdjabeaaGreatDoor
open Go.RowKit M

theorem rparse_rest {r : List Nat} {neg : Bool} {C : Rat × Int → Prop}
    (form : dg r = 0 → C (0, 40)) (whole : dg r = r.length → 0 < r.length → C (rq neg (dnum r) 1, 0))
    (bad1 : ∀ n k, dg r = n → 0 < n → n < r.length → dg (r.drop (n + 1)) = k → k = 0 → C (0, 40))
    (bad2 : ∀ n k, dg r = n → 0 < n → n < r.length → dg (r.drop (n + 1)) = k → 0 < k → n + 1 + k < r.length → C (0, 40))
    (bad3 : ∀ n k c, dg r = n → 0 < n → n < r.length → dg (r.drop (n + 1)) = k → 0 < k → r.length ≤ n + 1 + k → r.getD n 0 = c → c ≠ 46 → c ≠ 47 → C (0, 40))
    (nil : ∀ n k c, dg r = n → 0 < n → n < r.length → dg (r.drop (n + 1)) = k → 0 < k → r.length ≤ n + 1 + k → r.getD n 0 = c → c = 47 → dnum (r.drop (n + 1)) = 0 → C (0, 42))
    (over : ∀ n k c, dg r = n → 0 < n → n < r.length → dg (r.drop (n + 1)) = k → 0 < k → r.length ≤ n + 1 + k → r.getD n 0 = c → c = 47 → dnum (r.drop (n + 1)) ≠ 0 → C (rq neg (dnum (r.take n)) (dnum (r.drop (n + 1))), 0))
    (point : ∀ n k c, dg r = n → 0 < n → n < r.length → dg (r.drop (n + 1)) = k → 0 < k → r.length ≤ n + 1 + k → r.getD n 0 = c → c = 46 → C (rq neg (dnum (r.take n ++ r.drop (n + 1))) (10 ^ k), 0)) :
    C (prs2 neg r) := by
  unfold prs2
  by_cases h0 : dg r = 0
  · rw [if_pos h0]; exact form h0
  · rw [if_neg h0]
    have hle := dg_le r
    by_cases h1 : dg r < r.length
    · rw [if_pos h1]
      by_cases hk : dg (r.drop (dg r + 1)) = 0
      · rw [if_pos (.inl hk)]; exact bad1 _ _ rfl (by omega) h1 rfl hk
      · by_cases hs : dg r + 1 + dg (r.drop (dg r + 1)) < r.length
        · rw [if_pos (.inr (.inl hs))]; exact bad2 _ _ rfl (by omega) h1 rfl (by omega) hs
        · by_cases h7 : r.getD (dg r) 0 = 47
          · rw [if_neg (fun h => by rcases h with h | h | h; exact hk h; exact hs h; exact h.2 h7), if_pos h7]
            by_cases hd : dnum (r.drop (dg r + 1)) = 0
            · rw [if_pos hd]; exact nil _ _ _ rfl (by omega) h1 rfl (by omega) (by omega) rfl h7 hd
            · rw [if_neg hd]; exact over _ _ _ rfl (by omega) h1 rfl (by omega) (by omega) rfl h7 hd
          · by_cases h6 : r.getD (dg r) 0 = 46
            · rw [if_neg (fun h => by rcases h with h | h | h; exact hk h; exact hs h; exact h.1 h6), if_neg h7]
              exact point _ _ _ rfl (by omega) h1 rfl (by omega) (by omega) rfl h6
            · rw [if_pos (.inr (.inr ⟨h6, h7⟩))]
              exact bad3 _ _ _ rfl (by omega) h1 rfl (by omega) (by omega) rfl h6 h7
    · rw [if_neg h1]
      exact whole (by omega) (by omega)

theorem rparse_k {w : World} {l : List Nat} (hb : Byt l) (hlen : l.length ≤ 1099511627776) :
    Calls Tryz.prog 10 #[.string (tx l)] w (Gqi w 20001 (prs l)) := by
  unfold prs
  by_cases hl : 20000 < l.length
  · rw [if_pos hl]; exact rparse_long hlen hl
  · rw [if_neg hl]
    by_cases hs : l.getD 0 0 = 45
    · rw [if_pos hs]
      obtain ⟨r, rfl⟩ : ∃ r, l = 45 :: r := by
        cases l with
        | nil => simp at hs
        | cons x r => simp at hs; exact ⟨r, by rw [hs]⟩
      have hr : r.length + 1 ≤ 20000 := by simp at hl; omega
      have hbr : Byt r := fun x hx => hb x (List.mem_cons_of_mem _ hx)
      rw [show (45 :: r).drop 1 = r from rfl]
      exact rparse_rest (neg := true) (C := fun p => Calls Tryz.prog 10 #[.string (tx (45 :: r))] w (Gqi w 20001 p))
        (fun h => rparse_neg_form hbr hr h) (fun h h' => rparse_neg_whole hbr hr h h')
        (fun n k a b c d e => rparse_neg_bad1 hbr hr a b c d e) (fun n k a b c d e f => rparse_neg_bad2 hbr hr a b c d e f) (fun n k c a b cc d e f g h6 h7 => rparse_neg_bad3 hbr hr a b cc d e f g h6 h7)
        (fun n k c a b cc d e f g h7 h => rparse_neg_nil hbr hr a b cc d e f g h7 h) (fun n k c a b cc d e f g h7 h => rparse_neg_over hbr hr a b cc d e f g h7 h) (fun n k c a b cc d e f g h6 => rparse_neg_point hbr hr a b cc d e f g h6)
    · rw [if_neg hs]
      by_cases he : l = []
      · subst he
        exact rparse_empty
      · have hp : 0 < l.length := by cases l with
          | nil => exact absurd rfl he
          | cons x r => simp
        have hr : l.length ≤ 20000 := by omega
        exact rparse_rest (neg := false) (C := fun p => Calls Tryz.prog 10 #[.string (tx l)] w (Gqi w 20001 p))
          (fun h => rparse_pos_form hb hr hp hs h) (fun h _ => rparse_pos_whole hb hr hp hs h)
          (fun n k a b c d e => rparse_pos_bad1 hb hr hp hs a b c d e) (fun n k a b c d e f => rparse_pos_bad2 hb hr hp hs a b c d e f) (fun n k c a b cc d e f g h6 h7 => rparse_pos_bad3 hb hr hp hs a b cc d e f g h6 h7)
          (fun n k c a b cc d e f g h7 h => rparse_pos_nil hb hr hp hs a b cc d e f g h7 h) (fun n k c a b cc d e f g h7 h => rparse_pos_over hb hr hp hs a b cc d e f g h7 h) (fun n k c a b cc d e f g h6 => rparse_pos_point hb hr hp hs a b cc d e f g h6)
end Go.Proofs.YtmfpnlhpdjabeaaGreatDoor

/- What is printed is read again as the number. -/
namespace Go.Proofs.YtmfpnlhpdjabeaaGreatDoor
open M

theorem dec_first (n : Nat) : 48 ≤ (dec n).getD 0 0 ∧ (dec n).getD 0 0 ≤ 57 := by
  have hne := dec_ne n
  cases h : dec n with
  | nil => exact absurd h hne
  | cons x r =>
    have := dec_dig n x (by rw [h]; exact List.mem_cons_self ..)
    exact isd_iff.1 this
theorem dg_dec_app {n : Nat} {t : List Nat} (ht : t = [] ∨ isd (t.getD 0 0) = false) : dg (dec n ++ t) = (dec n).length := by
  refine dg_is ?_ (by simp) ?_
  · rw [List.take_left]; exact dec_dig n
  · intro hl
    rcases ht with rfl | ht
    · simp at hl
    · rw [List.getD_eq_getElem?_getD, List.getElem?_append_right (Nat.le_refl _), Nat.sub_self, ← List.getD_eq_getElem?_getD]
      exact ht
theorem prs2_print (q : Rat) : prs2 (decide (q.num < 0)) (dec q.num.natAbs ++ (if q.den = 1 then [] else 47 :: dec q.den)) = (q, 0) := by
  have hpos : 0 < (dec q.num.natAbs).length := List.length_pos_iff.2 (dec_ne _)
  have hpos2 : 0 < (dec q.den).length := List.length_pos_iff.2 (dec_ne _)
  by_cases h1 : q.den = 1
  · rw [if_pos h1, List.append_nil]
    unfold prs2
    rw [dg_all (dec_dig _), if_neg (by omega), if_neg (Nat.lt_irrefl _), dec_num]
    have := rq_self q
    rw [h1] at this
    rw [this]
  · rw [if_neg h1]
    have hn : dg (dec q.num.natAbs ++ 47 :: dec q.den) = (dec q.num.natAbs).length := dg_dec_app (.inr rfl)
    have hdrop : (dec q.num.natAbs ++ 47 :: dec q.den).drop ((dec q.num.natAbs).length + 1) = dec q.den := by
      rw [← List.drop_drop, List.drop_left]
      rfl
    have htake : (dec q.num.natAbs ++ 47 :: dec q.den).take (dec q.num.natAbs).length = dec q.num.natAbs := List.take_left
    have hget : (dec q.num.natAbs ++ 47 :: dec q.den).getD (dec q.num.natAbs).length 0 = 47 := by
      rw [List.getD_eq_getElem?_getD, List.getElem?_append_right (Nat.le_refl _), Nat.sub_self]
      rfl
    have hlen : (dec q.num.natAbs ++ 47 :: dec q.den).length = (dec q.num.natAbs).length + (dec q.den).length + 1 := by simp; omega
    unfold prs2
    rw [hn, hdrop, htake, hget, hlen, dg_all (dec_dig _), dec_num, dec_num]
    rw [if_neg (by omega), if_pos (by omega), if_neg (fun h => by rcases h with h | h | h; omega; omega; exact h.2 rfl), if_pos rfl, if_neg q.den_nz, rq_self]
/-- What is printed is read again as the number. -/
theorem prs_prt {q : Rat} (h : (prt q).length ≤ 20000) : prs (prt q) = (q, 0) := by
  have hp := prs2_print q
  unfold prs
  rw [if_neg (by omega)]
  by_cases hn : q.num < 0
  · have he : prt q = 45 :: (dec q.num.natAbs ++ (if q.den = 1 then [] else 47 :: dec q.den)) := by unfold prt; rw [if_pos hn]; rfl
    rw [he, if_pos (show (45 :: (dec q.num.natAbs ++ if q.den = 1 then [] else 47 :: dec q.den)).getD 0 0 = 45 from rfl)]
    rw [decide_eq_true hn] at hp
    exact hp
  · have he : prt q = dec q.num.natAbs ++ (if q.den = 1 then [] else 47 :: dec q.den) := by unfold prt; rw [if_neg hn]; rfl
    have hf := dec_first q.num.natAbs
    have hpos : 0 < (dec q.num.natAbs).length := List.length_pos_iff.2 (dec_ne _)
    have hg : (prt q).getD 0 0 = (dec q.num.natAbs).getD 0 0 := by
      rw [he, List.getD_eq_getElem?_getD, List.getElem?_append_left hpos, ← List.getD_eq_getElem?_getD]
    rw [if_neg (by rw [hg]; omega), he]
    rw [decide_eq_false hn] at hp
    exact hp
theorem prt_inj {a b : Rat} (ha : (prt a).length ≤ 20000) (h : prt a = prt b) : a = b := by
  have h1 := prs_prt ha
  have h2 := prs_prt (q := b) (by rw [← h]; exact ha)
  rw [h, h2] at h1
  exact (Prod.mk.inj h1).1.symm
theorem prt_len {q : Rat} {K : Nat} (h1 : q.num.natAbs < Bp K) (h2 : q.den < Bp K) (hK : 1 ≤ K) : (prt q).length ≤ 20 * K + 2 := by
  have a1 := dec_bd h1 hK
  have a2 := dec_bd h2 hK
  unfold prt
  rw [List.length_append, List.length_append]
  have b1 : (if q.num < 0 then [45] else ([] : List Nat)).length ≤ 1 := by split <;> simp
  have b2 : (if q.den = 1 then [] else 47 :: dec q.den).length ≤ 10 * K + 1 := by split <;> simp <;> omega
  omega
end Go.Proofs.YtmfpnlhpdjabeaaGreatDoor

/- What digits say, put together. -/
namespace Go.Proofs.YtmfpnlhpdjabeaaGreatDoor
open M

theorem dnum_fold (t : List Nat) : ∀ a, t.foldl (fun a x => a * 10 + (x - 48)) a = a * 10 ^ t.length + dnum t := by
  induction t with
  | nil => intro a; simp [dnum]
  | cons x t ih =>
    intro a
    have h0 := ih (0 * 10 + (x - 48))
    rw [List.foldl_cons, ih, List.length_cons]
    have hd : dnum (x :: t) = (x - 48) * 10 ^ t.length + dnum t := by
      show (x :: t).foldl (fun a x => a * 10 + (x - 48)) 0 = _
      rw [List.foldl_cons, h0, Nat.zero_mul, Nat.zero_add]
    rw [hd, Nat.add_mul, Nat.pow_succ, Nat.mul_assoc, Nat.mul_comm 10 (10 ^ t.length), Nat.add_assoc]
theorem dnum_append (s t : List Nat) : dnum (s ++ t) = dnum s * 10 ^ t.length + dnum t := by
  show (s ++ t).foldl (fun a x => a * 10 + (x - 48)) 0 = _
  rw [List.foldl_append, dnum_fold]
  rfl
theorem dnum_zeros (k : Nat) : dnum (List.replicate k 48) = 0 := by
  induction k with
  | zero => rfl
  | succ k ih => rw [List.replicate_succ', dnum_snoc, ih]
theorem zeros_dig (k : Nat) : Dig (List.replicate k 48) := fun x hx => by rw [List.eq_of_mem_replicate hx]; rfl

section
variable {neg : Bool} {s t : List Nat}
theorem dg_app (hs : Dig s) {c : Nat} (hc : isd c = false) : dg (s ++ c :: t) = s.length := by
  refine dg_is ?_ (by simp) ?_
  · rw [List.take_left]; exact hs
  · intro _
    rw [List.getD_eq_getElem?_getD, List.getElem?_append_right (Nat.le_refl _), Nat.sub_self]
    exact hc
theorem app_drop (c : Nat) : (s ++ c :: t).drop (s.length + 1) = t := by rw [← List.drop_drop, List.drop_left]; rfl
theorem app_get (c : Nat) : (s ++ c :: t).getD s.length 0 = c := by
  rw [List.getD_eq_getElem?_getD, List.getElem?_append_right (Nat.le_refl _), Nat.sub_self]; rfl
theorem prs2_whole (hs : Dig s) (h0 : 0 < s.length) : prs2 neg s = (rq neg (dnum s) 1, 0) := by
  unfold prs2
  rw [dg_all hs, if_neg (by omega), if_neg (Nat.lt_irrefl _)]
theorem prs2_point (hs : Dig s) (h0 : 0 < s.length) (ht : Dig t) (h1 : 0 < t.length) : prs2 neg (s ++ 46 :: t) = (rq neg (dnum (s ++ t)) (10 ^ t.length), 0) := by
  unfold prs2
  rw [dg_app hs rfl, app_drop, app_get, List.take_left, dg_all ht, List.length_append, List.length_cons]
  rw [if_neg (by omega), if_pos (by omega), if_neg (fun h => by rcases h with h | h | h; omega; omega; exact h.1 rfl), if_neg (by omega)]
theorem prs2_over (hs : Dig s) (h0 : 0 < s.length) (ht : Dig t) (h1 : dnum t ≠ 0) : prs2 neg (s ++ 47 :: t) = (rq neg (dnum s) (dnum t), 0) := by
  have h2 : 0 < t.length := by
    cases t with
    | nil => exact absurd rfl h1
    | cons x t => simp
  unfold prs2
  rw [dg_app hs rfl, app_drop, app_get, List.take_left, dg_all ht, List.length_append, List.length_cons]
  rw [if_neg (by omega), if_pos (by omega), if_neg (fun h => by rcases h with h | h | h; omega; omega; exact h.2 rfl), if_pos rfl, if_neg h1]
/-- A text that begins with a digit has no sign. -/
theorem prs_plain {l : List Nat} (h : Dig s) (h0 : 0 < s.length) (hl : (s ++ l).length ≤ 20000) : prs (s ++ l) = prs2 false (s ++ l) := by
  unfold prs
  have hg : (s ++ l).getD 0 0 ≠ 45 := by
    cases s with
    | nil => simp at h0
    | cons x s =>
      have := isd_iff.1 (h x (List.mem_cons_self ..))
      show x ≠ 45
      omega
  rw [if_neg (by omega), if_neg hg]
theorem prs_minus {l : List Nat} (hl : l.length + 1 ≤ 20000) : prs (45 :: l) = prs2 true l := by
  unfold prs
  rw [if_neg (by simp; omega), if_pos (show (45 :: l).getD 0 0 = 45 from rfl)]
  rfl
end
/-- A quotient's two parts, each so many times as great. -/
theorem rq_scale (s : Bool) (n d : Nat) {m : Nat} (hm : m ≠ 0) : rq s (n * m) (d * m) = rq s n d := by
  unfold rq
  rw [show sg s (n * m) = sg s n * (m : Int) from by cases s <;> simp [sg, Int.natCast_mul, Int.neg_mul], Rat.mkRat_mul_right hm]
end Go.Proofs.YtmfpnlhpdjabeaaGreatDoor
