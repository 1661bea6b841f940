/- penumbralaw05.VecLinear: true. -/
import Derived.Test.YtmbemidacilakaaAs
import Derived.Test.YtmbemidacilakaaBYg
namespace Go.Proofs.Ytmbemidacilakaa
open Go.RowKit M Kahn
set_option maxRecDepth 100000

/-- A pointer to a Vec's block of zeros of one's own. -/
def VPv (B : Nat) : Value → World → Prop := fun v u => ∃ g, v = .pointer (some ⟨g, 0, none⟩) ∧ B ≤ g ∧ Vb u g zRP zRP zRP
theorem VPv.lasts (B : Nat) : Lasts (VPv B) := fun _ _ _ hb ⟨g, h1, h2, h3⟩ => ⟨g, h1, h2, h3.later hb⟩
set_option maxHeartbeats 16000000 in
theorem vlinear_any (w0 : World) (a1 a2 a3 b1 b2 b3 y1 y2 y3 k : RP) (qa1 qa2 qa3 qb1 qb2 qb3 qy1 qy2 qy3 qk : Rat) (K : Nat) (ha : Qv w0 a1 a2 a3 qa1 qa2 qa3 K) (hb : Qv w0 b1 b2 b3 qb1 qb2 qb3 K) (hy : Qv w0 y1 y2 y3 qy1 qy2 qy3 K) (hk : Qp w0 k qk K) (K1 : 1 ≤ K) (hK : K ≤ 1048576) : Calls Try.prog 6 #[.agg #[.bool a1.s, .slice a1.no a1.nn a1.nc, .slice a1.eo a1.en a1.ec, .bool a2.s, .slice a2.no a2.nn a2.nc, .slice a2.eo a2.en a2.ec, .bool a3.s, .slice a3.no a3.nn a3.nc, .slice a3.eo a3.en a3.ec, .bool b1.s, .slice b1.no b1.nn b1.nc, .slice b1.eo b1.en b1.ec, .bool b2.s, .slice b2.no b2.nn b2.nc, .slice b2.eo b2.en b2.ec, .bool b3.s, .slice b3.no b3.nn b3.nc, .slice b3.eo b3.en b3.ec, .bool y1.s, .slice y1.no y1.nn y1.nc, .slice y1.eo y1.en y1.ec, .bool y2.s, .slice y2.no y2.nn y2.nc, .slice y2.eo y2.en y2.ec, .bool y3.s, .slice y3.no y3.nn y3.nc, .slice y3.eo y3.en y3.ec, .bool k.s, .slice k.no k.nn k.nc, .slice k.eo k.en k.ec]] w0 fun e w' => e = .returned (.bool true) ∧ Below w0.heap.size w0 w' := by
  have B0 : Below w0.heap.size w0 w0 := Below.refl _ _
  obtain ⟨w1, hw, xf, lb⟩ := bx_one w0 44 [.bool a1.s, .slice a1.no a1.nn a1.nc, .slice a1.eo a1.en a1.ec, .bool a2.s, .slice a2.no a2.nn a2.nc, .slice a2.eo a2.en a2.ec, .bool a3.s, .slice a3.no a3.nn a3.nc, .slice a3.eo a3.en a3.ec, .bool b1.s, .slice b1.no b1.nn b1.nc, .slice b1.eo b1.en b1.ec, .bool b2.s, .slice b2.no b2.nn b2.nc, .slice b2.eo b2.en b2.ec, .bool b3.s, .slice b3.no b3.nn b3.nc, .slice b3.eo b3.en b3.ec, .bool y1.s, .slice y1.no y1.nn y1.nc, .slice y1.eo y1.en y1.ec, .bool y2.s, .slice y2.no y2.nn y2.nc, .slice y2.eo y2.en y2.ec, .bool y3.s, .slice y3.no y3.nn y3.nc, .slice y3.eo y3.en y3.ec, .bool k.s, .slice k.no k.nn k.nc, .slice k.eo k.en k.ec]
  obtain ⟨gf, hgf⟩ : ∃ gf, gf = w0.heap.size := ⟨_, rfl⟩
  rw [← hgf] at xf
  replace ha := ha.later lb
  replace hb := hb.later lb
  replace hy := hy.later lb
  replace hk := hk.later lb
  have B1 := B0.trans (lb.mono B0.size)
  clear B0 lb
  have hw' := hw
  clear hw
  go_enter Try.func6, Try.ntmps6
  go_wp2
  rw [← hgf]
  rw [show World.alloc w0 _ = w1 from hw'.symm]
  clear hw' hgf
  refine wp_region_inv 15 94 [([], [1]), ([(0, 10)], []), ([], [1]), ([(2, 12)], []), ([], [1]), ([(4, 14)], []), ([], [1]), ([(6, 16)], []), ([], []), ([], []), ([], []), ([], []), ([(8, 3), (1, 11)], []), ([(9, 4), (3, 13)], []), ([(10, 5), (5, 15)], [])]
    (fun L vs u => Know [some (.pointer (some ⟨gf, 0, none⟩)), some (.agg #[.bool a1.s, .slice a1.no a1.nn a1.nc, .slice a1.eo a1.en a1.ec, .bool a2.s, .slice a2.no a2.nn a2.nc, .slice a2.eo a2.en a2.ec, .bool a3.s, .slice a3.no a3.nn a3.nc, .slice a3.eo a3.en a3.ec]), some (.pointer (some ⟨gf, 9, none⟩)), some (.agg #[.bool b1.s, .slice b1.no b1.nn b1.nc, .slice b1.eo b1.en b1.ec, .bool b2.s, .slice b2.no b2.nn b2.nc, .slice b2.eo b2.en b2.ec, .bool b3.s, .slice b3.no b3.nn b3.nc, .slice b3.eo b3.en b3.ec]), some (.pointer (some ⟨gf, 18, none⟩)), some (.agg #[.bool y1.s, .slice y1.no y1.nn y1.nc, .slice y1.eo y1.en y1.ec, .bool y2.s, .slice y2.no y2.nn y2.nc, .slice y2.eo y2.en y2.ec, .bool y3.s, .slice y3.no y3.nn y3.nc, .slice y3.eo y3.en y3.ec]), some (.pointer (some ⟨gf, 27, none⟩)), some (.agg #[.bool k.s, .slice k.no k.nn k.nc, .slice k.eo k.en k.ec]), none, none, none, none, none, none, none] L vs ∧ Below w1.heap.size w1 u ∧ Own1 (fun g => .pointer (some ⟨g, 0, none⟩)) w1.heap.size (bif L 12 then .cells #[.bool a1.s, .slice a1.no a1.nn a1.nc, .slice a1.eo a1.en a1.ec, .bool a2.s, .slice a2.no a2.nn a2.nc, .slice a2.eo a2.en a2.ec, .bool a3.s, .slice a3.no a3.nn a3.nc, .slice a3.eo a3.en a3.ec] 26 (0, 0) else .cells #[.bool false, .slice none 0 0, .slice none 0 0, .bool false, .slice none 0 0, .slice none 0 0, .bool false, .slice none 0 0, .slice none 0 0] 26 (0, 0)) (L 8) (vs 8) u ∧ Own1 (fun g => .pointer (some ⟨g, 0, none⟩)) w1.heap.size (bif L 13 then .cells #[.bool b1.s, .slice b1.no b1.nn b1.nc, .slice b1.eo b1.en b1.ec, .bool b2.s, .slice b2.no b2.nn b2.nc, .slice b2.eo b2.en b2.ec, .bool b3.s, .slice b3.no b3.nn b3.nc, .slice b3.eo b3.en b3.ec] 26 (0, 0) else .cells #[.bool false, .slice none 0 0, .slice none 0 0, .bool false, .slice none 0 0, .slice none 0 0, .bool false, .slice none 0 0, .slice none 0 0] 26 (0, 0)) (L 9) (vs 9) u ∧ Own1 (fun g => .pointer (some ⟨g, 0, none⟩)) w1.heap.size (bif L 14 then .cells #[.bool y1.s, .slice y1.no y1.nn y1.nc, .slice y1.eo y1.en y1.ec, .bool y2.s, .slice y2.no y2.nn y2.nc, .slice y2.eo y2.en y2.ec, .bool y3.s, .slice y3.no y3.nn y3.nc, .slice y3.eo y3.en y3.ec] 26 (0, 0) else .cells #[.bool false, .slice none 0 0, .slice none 0 0, .bool false, .slice none 0 0, .slice none 0 0, .bool false, .slice none 0 0, .slice none 0 0] 26 (0, 0)) (L 10) (vs 10) u ∧ Own1 (fun g => .pointer (some ⟨g, 0, none⟩)) w1.heap.size (.cells #[.bool false, .slice none 0 0, .slice none 0 0] 24 (0, 0)) (L 11) (vs 11) u ∧ Apart (L 8) (vs 8) (L 9) (vs 9) ∧ Apart (L 8) (vs 8) (L 10) (vs 10) ∧ Apart (L 8) (vs 8) (L 11) (vs 11) ∧ Apart (L 9) (vs 9) (L 10) (vs 10) ∧ Apart (L 9) (vs 9) (L 11) (vs 11) ∧ Apart (L 10) (vs 10) (L 11) (vs 11) ∧ (L 12 = true → L 8 = true) ∧ (L 13 = true → L 9 = true) ∧ (L 14 = true → L 10 = true))
    (by kernel_rfl) rfl (by kernel_rfl) (fun vs => ⟨Know.start _ _, (Below.refl _ _).drew, Own1.no, Own1.no, Own1.no, Own1.no, Apart.no1, Apart.no1, Apart.no1, Apart.no1, Apart.no1, Apart.no1, fun h => (by cases h), fun h => (by cases h), fun h => (by cases h)⟩) ?_ ?_
  · refine ⟨fun L vs ρ u hJ hL hc hf hd ho => ?_, fun L vs ρ u hJ hL hc hf hd ho => ?_, fun L vs ρ u hJ hL hc hf hd ho => ?_, fun L vs ρ u hJ hL hc hf hd ho => ?_, fun L vs ρ u hJ hL hc hf hd ho => ?_, fun L vs ρ u hJ hL hc hf hd ho => ?_, fun L vs ρ u hJ hL hc hf hd ho => ?_, fun L vs ρ u hJ hL hc hf hd ho => ?_, fun L vs ρ u hJ hL hc hf hd ho => ?_, fun L vs ρ u hJ hL hc hf hd ho => ?_, fun L vs ρ u hJ hL hc hf hd ho => ?_, fun L vs ρ u hJ hL hc hf hd ho => ?_, fun L vs ρ u hJ hL hc hf hd ho => ?_, fun L vs ρ u hJ hL hc hf hd ho => ?_, fun L vs ρ u hJ hL hc hf hd ho => ?_, trivial⟩
    · obtain ⟨hK, hB, o8, o9, o10, o11, a8x9, a8x10, a8x11, a9x10, a9x11, a10x11, s12, s13, s14⟩ := hJ
      have e1 : ρ (.tmp 1) = .pointer (some ⟨gf, 0, none⟩) := ho 1 (by simp)
      refine Goes.pure (.pointer (some ⟨gf, 0, none⟩)) ?_ ⟨hK.pure rfl, hB, o8, o9, o10, o11, a8x9, a8x10, a8x11, a9x10, a9x11, a10x11, s12, s13, s14⟩
      unfold Goes
      go_simp
    · obtain ⟨hK, hB, o8, o9, o10, o11, a8x9, a8x10, a8x11, a9x10, a9x11, a10x11, s12, s13, s14⟩ := hJ
      have e10 : ρ (.tmp 10) = .pointer (some ⟨gf, 0, none⟩) := (hd (0, 10) (by simp)).2.trans (hK 0 _ rfl (hd (0, 10) (by simp)).1)
      have c0 := (xf.later hB).cell 0 rfl
      have c1 := (xf.later hB).cell 1 rfl
      have c2 := (xf.later hB).cell 2 rfl
      have c3 := (xf.later hB).cell 3 rfl
      have c4 := (xf.later hB).cell 4 rfl
      have c5 := (xf.later hB).cell 5 rfl
      have c6 := (xf.later hB).cell 6 rfl
      have c7 := (xf.later hB).cell 7 rfl
      have c8 := (xf.later hB).cell 8 rfl
      refine Goes.pure (.agg #[.bool a1.s, .slice a1.no a1.nn a1.nc, .slice a1.eo a1.en a1.ec, .bool a2.s, .slice a2.no a2.nn a2.nc, .slice a2.eo a2.en a2.ec, .bool a3.s, .slice a3.no a3.nn a3.nc, .slice a3.eo a3.en a3.ec]) ?_ ⟨hK.pure rfl, hB, o8, o9, o10, o11, a8x9, a8x10, a8x11, a9x10, a9x11, a10x11, s12, s13, s14⟩
      unfold Goes
      go_simp
    · obtain ⟨hK, hB, o8, o9, o10, o11, a8x9, a8x10, a8x11, a9x10, a9x11, a10x11, s12, s13, s14⟩ := hJ
      have e1 : ρ (.tmp 1) = .pointer (some ⟨gf, 0, none⟩) := ho 1 (by simp)
      refine Goes.pure (.pointer (some ⟨gf, 9, none⟩)) ?_ ⟨hK.pure rfl, hB, o8, o9, o10, o11, a8x9, a8x10, a8x11, a9x10, a9x11, a10x11, s12, s13, s14⟩
      unfold Goes
      go_simp
    · obtain ⟨hK, hB, o8, o9, o10, o11, a8x9, a8x10, a8x11, a9x10, a9x11, a10x11, s12, s13, s14⟩ := hJ
      have e12 : ρ (.tmp 12) = .pointer (some ⟨gf, 9, none⟩) := (hd (2, 12) (by simp)).2.trans (hK 2 _ rfl (hd (2, 12) (by simp)).1)
      have c0 := (xf.later hB).cell 9 rfl
      have c1 := (xf.later hB).cell 10 rfl
      have c2 := (xf.later hB).cell 11 rfl
      have c3 := (xf.later hB).cell 12 rfl
      have c4 := (xf.later hB).cell 13 rfl
      have c5 := (xf.later hB).cell 14 rfl
      have c6 := (xf.later hB).cell 15 rfl
      have c7 := (xf.later hB).cell 16 rfl
      have c8 := (xf.later hB).cell 17 rfl
      refine Goes.pure (.agg #[.bool b1.s, .slice b1.no b1.nn b1.nc, .slice b1.eo b1.en b1.ec, .bool b2.s, .slice b2.no b2.nn b2.nc, .slice b2.eo b2.en b2.ec, .bool b3.s, .slice b3.no b3.nn b3.nc, .slice b3.eo b3.en b3.ec]) ?_ ⟨hK.pure rfl, hB, o8, o9, o10, o11, a8x9, a8x10, a8x11, a9x10, a9x11, a10x11, s12, s13, s14⟩
      unfold Goes
      go_simp
    · obtain ⟨hK, hB, o8, o9, o10, o11, a8x9, a8x10, a8x11, a9x10, a9x11, a10x11, s12, s13, s14⟩ := hJ
      have e1 : ρ (.tmp 1) = .pointer (some ⟨gf, 0, none⟩) := ho 1 (by simp)
      refine Goes.pure (.pointer (some ⟨gf, 18, none⟩)) ?_ ⟨hK.pure rfl, hB, o8, o9, o10, o11, a8x9, a8x10, a8x11, a9x10, a9x11, a10x11, s12, s13, s14⟩
      unfold Goes
      go_simp
    · obtain ⟨hK, hB, o8, o9, o10, o11, a8x9, a8x10, a8x11, a9x10, a9x11, a10x11, s12, s13, s14⟩ := hJ
      have e14 : ρ (.tmp 14) = .pointer (some ⟨gf, 18, none⟩) := (hd (4, 14) (by simp)).2.trans (hK 4 _ rfl (hd (4, 14) (by simp)).1)
      have c0 := (xf.later hB).cell 18 rfl
      have c1 := (xf.later hB).cell 19 rfl
      have c2 := (xf.later hB).cell 20 rfl
      have c3 := (xf.later hB).cell 21 rfl
      have c4 := (xf.later hB).cell 22 rfl
      have c5 := (xf.later hB).cell 23 rfl
      have c6 := (xf.later hB).cell 24 rfl
      have c7 := (xf.later hB).cell 25 rfl
      have c8 := (xf.later hB).cell 26 rfl
      refine Goes.pure (.agg #[.bool y1.s, .slice y1.no y1.nn y1.nc, .slice y1.eo y1.en y1.ec, .bool y2.s, .slice y2.no y2.nn y2.nc, .slice y2.eo y2.en y2.ec, .bool y3.s, .slice y3.no y3.nn y3.nc, .slice y3.eo y3.en y3.ec]) ?_ ⟨hK.pure rfl, hB, o8, o9, o10, o11, a8x9, a8x10, a8x11, a9x10, a9x11, a10x11, s12, s13, s14⟩
      unfold Goes
      go_simp
    · obtain ⟨hK, hB, o8, o9, o10, o11, a8x9, a8x10, a8x11, a9x10, a9x11, a10x11, s12, s13, s14⟩ := hJ
      have e1 : ρ (.tmp 1) = .pointer (some ⟨gf, 0, none⟩) := ho 1 (by simp)
      refine Goes.pure (.pointer (some ⟨gf, 27, none⟩)) ?_ ⟨hK.pure rfl, hB, o8, o9, o10, o11, a8x9, a8x10, a8x11, a9x10, a9x11, a10x11, s12, s13, s14⟩
      unfold Goes
      go_simp
    · obtain ⟨hK, hB, o8, o9, o10, o11, a8x9, a8x10, a8x11, a9x10, a9x11, a10x11, s12, s13, s14⟩ := hJ
      have e16 : ρ (.tmp 16) = .pointer (some ⟨gf, 27, none⟩) := (hd (6, 16) (by simp)).2.trans (hK 6 _ rfl (hd (6, 16) (by simp)).1)
      have c0 := (xf.later hB).cell 27 rfl
      have c1 := (xf.later hB).cell 28 rfl
      have c2 := (xf.later hB).cell 29 rfl
      refine Goes.pure (.agg #[.bool k.s, .slice k.no k.nn k.nc, .slice k.eo k.en k.ec]) ?_ ⟨hK.pure rfl, hB, o8, o9, o10, o11, a8x9, a8x10, a8x11, a9x10, a9x11, a10x11, s12, s13, s14⟩
      unfold Goes
      go_simp
    · obtain ⟨hK, hB, o8, o9, o10, o11, a8x9, a8x10, a8x11, a9x10, a9x11, a10x11, s12, s13, s14⟩ := hJ
      have hs : L 12 = false := by cases h : L 12; exact rfl; exact absurd (s12 h) (by rw [hL]; simp)
      have lb : Below u.heap.size u (u.alloc (.cells #[.bool false, .slice none 0 0, .slice none 0 0, .bool false, .slice none 0 0, .slice none 0 0, .bool false, .slice none 0 0, .slice none 0 0] 26)) := (Below.refl _ _).alloc (Nat.le_refl _) _
      refine Goes.run (.pointer (some ⟨u.heap.size, 0, none⟩)) (u.alloc (.cells #[.bool false, .slice none 0 0, .slice none 0 0, .bool false, .slice none 0 0, .slice none 0 0, .bool false, .slice none 0 0, .slice none 0 0] 26)) (by go_simp) ⟨hK.other rfl, hB.trans (lb.mono hB.size), fun _ => ⟨u.heap.size, rfl, hB.size, by rw [heap_alloc_new]; rw [show Upd L 8 true 12 = false from hs]; rfl⟩, o9.later lb, o10.later lb, o11.later lb, (o9.apart (pt' := fun g => .pointer (some ⟨g, 0, none⟩)) (fun a b e => by simpa using e)).symm, (o10.apart (pt' := fun g => .pointer (some ⟨g, 0, none⟩)) (fun a b e => by simpa using e)).symm, (o11.apart (pt' := fun g => .pointer (some ⟨g, 0, none⟩)) (fun a b e => by simpa using e)).symm, a9x10, a9x11, a10x11, (fun _ => rfl), s13, s14⟩
    · obtain ⟨hK, hB, o8, o9, o10, o11, a8x9, a8x10, a8x11, a9x10, a9x11, a10x11, s12, s13, s14⟩ := hJ
      have hs : L 13 = false := by cases h : L 13; exact rfl; exact absurd (s13 h) (by rw [hL]; simp)
      have lb : Below u.heap.size u (u.alloc (.cells #[.bool false, .slice none 0 0, .slice none 0 0, .bool false, .slice none 0 0, .slice none 0 0, .bool false, .slice none 0 0, .slice none 0 0] 26)) := (Below.refl _ _).alloc (Nat.le_refl _) _
      refine Goes.run (.pointer (some ⟨u.heap.size, 0, none⟩)) (u.alloc (.cells #[.bool false, .slice none 0 0, .slice none 0 0, .bool false, .slice none 0 0, .slice none 0 0, .bool false, .slice none 0 0, .slice none 0 0] 26)) (by go_simp) ⟨hK.other rfl, hB.trans (lb.mono hB.size), o8.later lb, fun _ => ⟨u.heap.size, rfl, hB.size, by rw [heap_alloc_new]; rw [show Upd L 9 true 13 = false from hs]; rfl⟩, o10.later lb, o11.later lb, o8.apart (pt' := fun g => .pointer (some ⟨g, 0, none⟩)) (fun a b e => by simpa using e), a8x10, a8x11, (o10.apart (pt' := fun g => .pointer (some ⟨g, 0, none⟩)) (fun a b e => by simpa using e)).symm, (o11.apart (pt' := fun g => .pointer (some ⟨g, 0, none⟩)) (fun a b e => by simpa using e)).symm, a10x11, s12, (fun _ => rfl), s14⟩
    · obtain ⟨hK, hB, o8, o9, o10, o11, a8x9, a8x10, a8x11, a9x10, a9x11, a10x11, s12, s13, s14⟩ := hJ
      have hs : L 14 = false := by cases h : L 14; exact rfl; exact absurd (s14 h) (by rw [hL]; simp)
      have lb : Below u.heap.size u (u.alloc (.cells #[.bool false, .slice none 0 0, .slice none 0 0, .bool false, .slice none 0 0, .slice none 0 0, .bool false, .slice none 0 0, .slice none 0 0] 26)) := (Below.refl _ _).alloc (Nat.le_refl _) _
      refine Goes.run (.pointer (some ⟨u.heap.size, 0, none⟩)) (u.alloc (.cells #[.bool false, .slice none 0 0, .slice none 0 0, .bool false, .slice none 0 0, .slice none 0 0, .bool false, .slice none 0 0, .slice none 0 0] 26)) (by go_simp) ⟨hK.other rfl, hB.trans (lb.mono hB.size), o8.later lb, o9.later lb, fun _ => ⟨u.heap.size, rfl, hB.size, by rw [heap_alloc_new]; rw [show Upd L 10 true 14 = false from hs]; rfl⟩, o11.later lb, a8x9, o8.apart (pt' := fun g => .pointer (some ⟨g, 0, none⟩)) (fun a b e => by simpa using e), a8x11, o9.apart (pt' := fun g => .pointer (some ⟨g, 0, none⟩)) (fun a b e => by simpa using e), a9x11, (o11.apart (pt' := fun g => .pointer (some ⟨g, 0, none⟩)) (fun a b e => by simpa using e)).symm, s12, s13, (fun _ => rfl)⟩
    · obtain ⟨hK, hB, o8, o9, o10, o11, a8x9, a8x10, a8x11, a9x10, a9x11, a10x11, s12, s13, s14⟩ := hJ
      have lb : Below u.heap.size u (u.alloc (.cells #[.bool false, .slice none 0 0, .slice none 0 0] 24)) := (Below.refl _ _).alloc (Nat.le_refl _) _
      refine Goes.run (.pointer (some ⟨u.heap.size, 0, none⟩)) (u.alloc (.cells #[.bool false, .slice none 0 0, .slice none 0 0] 24)) (by go_simp) ⟨hK.other rfl, hB.trans (lb.mono hB.size), o8.later lb, o9.later lb, o10.later lb, fun _ => ⟨u.heap.size, rfl, hB.size, heap_alloc_new _ _⟩, a8x9, a8x10, o8.apart (pt' := fun g => .pointer (some ⟨g, 0, none⟩)) (fun a b e => by simpa using e), a9x10, o9.apart (pt' := fun g => .pointer (some ⟨g, 0, none⟩)) (fun a b e => by simpa using e), o10.apart (pt' := fun g => .pointer (some ⟨g, 0, none⟩)) (fun a b e => by simpa using e), s12, s13, s14⟩
    · obtain ⟨hK, hB, o8, o9, o10, o11, a8x9, a8x10, a8x11, a9x10, a9x11, a10x11, s12, s13, s14⟩ := hJ
      have e3 : ρ (.tmp 3) = vs 8 := (hd (8, 3) (by simp)).2
      have e11 : ρ (.tmp 11) = .agg #[.bool a1.s, .slice a1.no a1.nn a1.nc, .slice a1.eo a1.en a1.ec, .bool a2.s, .slice a2.no a2.nn a2.nc, .slice a2.eo a2.en a2.ec, .bool a3.s, .slice a3.no a3.nn a3.nc, .slice a3.eo a3.en a3.ec] := (hd (1, 11) (by simp)).2.trans (hK 1 _ rfl (hd (1, 11) (by simp)).1)
      have h8 := (hd (8, 3) (by simp)).1
      obtain ⟨g, eg, bg, rg⟩ := o8 h8
      rw [hL] at rg
      have xg : Vb u g zRP zRP zRP := ⟨rg⟩
      have fr := putV.fr g u a1 a2 a3
      have xn := xg.put a1 a2 a3
      obtain ⟨c0, c1, c2⟩ := xg.c0
      obtain ⟨c3, c4, c5⟩ := xg.c1
      obtain ⟨c6, c7, c8⟩ := xg.c2
      have f0 := xg.free 0
      have f1 := xg.free 1
      have f2 := xg.free 2
      have f3 := xg.free 3
      have f4 := xg.free 4
      have f5 := xg.free 5
      have f6 := xg.free 6
      have f7 := xg.free 7
      have f8 := xg.free 8
      rw [eg] at e3
      unfold Goes
      go_simp
      exact ⟨hK.other rfl, hB.trans (fr.below bg), fun _ => ⟨g, eg, bg, xn.at_⟩, o9.keep fr (fun h e => a8x9 h8 h (by rw [eg]; exact e.symm)), o10.keep fr (fun h e => a8x10 h8 h (by rw [eg]; exact e.symm)), o11.keep fr (fun h e => a8x11 h8 h (by rw [eg]; exact e.symm)), a8x9, a8x10, a8x11, a9x10, a9x11, a10x11, (fun _ => h8), s13, s14⟩
    · obtain ⟨hK, hB, o8, o9, o10, o11, a8x9, a8x10, a8x11, a9x10, a9x11, a10x11, s12, s13, s14⟩ := hJ
      have e4 : ρ (.tmp 4) = vs 9 := (hd (9, 4) (by simp)).2
      have e13 : ρ (.tmp 13) = .agg #[.bool b1.s, .slice b1.no b1.nn b1.nc, .slice b1.eo b1.en b1.ec, .bool b2.s, .slice b2.no b2.nn b2.nc, .slice b2.eo b2.en b2.ec, .bool b3.s, .slice b3.no b3.nn b3.nc, .slice b3.eo b3.en b3.ec] := (hd (3, 13) (by simp)).2.trans (hK 3 _ rfl (hd (3, 13) (by simp)).1)
      have h8 := (hd (9, 4) (by simp)).1
      obtain ⟨g, eg, bg, rg⟩ := o9 h8
      rw [hL] at rg
      have xg : Vb u g zRP zRP zRP := ⟨rg⟩
      have fr := putV.fr g u b1 b2 b3
      have xn := xg.put b1 b2 b3
      obtain ⟨c0, c1, c2⟩ := xg.c0
      obtain ⟨c3, c4, c5⟩ := xg.c1
      obtain ⟨c6, c7, c8⟩ := xg.c2
      have f0 := xg.free 0
      have f1 := xg.free 1
      have f2 := xg.free 2
      have f3 := xg.free 3
      have f4 := xg.free 4
      have f5 := xg.free 5
      have f6 := xg.free 6
      have f7 := xg.free 7
      have f8 := xg.free 8
      rw [eg] at e4
      unfold Goes
      go_simp
      exact ⟨hK.other rfl, hB.trans (fr.below bg), o8.keep fr (fun h e => a8x9 h h8 (by rw [eg]; exact e)), fun _ => ⟨g, eg, bg, xn.at_⟩, o10.keep fr (fun h e => a9x10 h8 h (by rw [eg]; exact e.symm)), o11.keep fr (fun h e => a9x11 h8 h (by rw [eg]; exact e.symm)), a8x9, a8x10, a8x11, a9x10, a9x11, a10x11, s12, (fun _ => h8), s14⟩
    · obtain ⟨hK, hB, o8, o9, o10, o11, a8x9, a8x10, a8x11, a9x10, a9x11, a10x11, s12, s13, s14⟩ := hJ
      have e5 : ρ (.tmp 5) = vs 10 := (hd (10, 5) (by simp)).2
      have e15 : ρ (.tmp 15) = .agg #[.bool y1.s, .slice y1.no y1.nn y1.nc, .slice y1.eo y1.en y1.ec, .bool y2.s, .slice y2.no y2.nn y2.nc, .slice y2.eo y2.en y2.ec, .bool y3.s, .slice y3.no y3.nn y3.nc, .slice y3.eo y3.en y3.ec] := (hd (5, 15) (by simp)).2.trans (hK 5 _ rfl (hd (5, 15) (by simp)).1)
      have h8 := (hd (10, 5) (by simp)).1
      obtain ⟨g, eg, bg, rg⟩ := o10 h8
      rw [hL] at rg
      have xg : Vb u g zRP zRP zRP := ⟨rg⟩
      have fr := putV.fr g u y1 y2 y3
      have xn := xg.put y1 y2 y3
      obtain ⟨c0, c1, c2⟩ := xg.c0
      obtain ⟨c3, c4, c5⟩ := xg.c1
      obtain ⟨c6, c7, c8⟩ := xg.c2
      have f0 := xg.free 0
      have f1 := xg.free 1
      have f2 := xg.free 2
      have f3 := xg.free 3
      have f4 := xg.free 4
      have f5 := xg.free 5
      have f6 := xg.free 6
      have f7 := xg.free 7
      have f8 := xg.free 8
      rw [eg] at e5
      unfold Goes
      go_simp
      exact ⟨hK.other rfl, hB.trans (fr.below bg), o8.keep fr (fun h e => a8x10 h h8 (by rw [eg]; exact e)), o9.keep fr (fun h e => a9x10 h h8 (by rw [eg]; exact e)), fun _ => ⟨g, eg, bg, xn.at_⟩, o11.keep fr (fun h e => a10x11 h8 h (by rw [eg]; exact e.symm)), a8x9, a8x10, a8x11, a9x10, a9x11, a10x11, s12, s13, (fun _ => h8)⟩
  · intro L vs u hL hJ
    obtain ⟨hK, hB, o8, o9, o10, o11, a8x9, a8x10, a8x11, a9x10, a9x11, a10x11, s12, s13, s14⟩ := hJ
    obtain ⟨ga, ega, bga, rga⟩ := o8 (hL 8 (by omega))
    obtain ⟨gb, egb, bgb, rgb⟩ := o9 (hL 9 (by omega))
    obtain ⟨gy, egy, bgy, rgy⟩ := o10 (hL 10 (by omega))
    obtain ⟨gk, egk, bgk, rgk⟩ := o11 (hL 11 (by omega))
    rw [hL 12 (by omega)] at rga
    rw [hL 13 (by omega)] at rgb
    rw [hL 14 (by omega)] at rgy
    have mga : ga ≠ gk := fun e => by rw [e, rgk] at rga; simp at rga
    have mgb : gb ≠ gk := fun e => by rw [e, rgk] at rgb; simp at rgb
    have mgy : gy ≠ gk := fun e => by rw [e, rgk] at rgy; simp at rgy
    have k0 : vs 0 = .pointer (some ⟨gf, 0, none⟩) := hK 0 _ rfl (hL 0 (by omega))
    have k1 : vs 1 = .agg #[.bool a1.s, .slice a1.no a1.nn a1.nc, .slice a1.eo a1.en a1.ec, .bool a2.s, .slice a2.no a2.nn a2.nc, .slice a2.eo a2.en a2.ec, .bool a3.s, .slice a3.no a3.nn a3.nc, .slice a3.eo a3.en a3.ec] := hK 1 _ rfl (hL 1 (by omega))
    have k2 : vs 2 = .pointer (some ⟨gf, 9, none⟩) := hK 2 _ rfl (hL 2 (by omega))
    have k3 : vs 3 = .agg #[.bool b1.s, .slice b1.no b1.nn b1.nc, .slice b1.eo b1.en b1.ec, .bool b2.s, .slice b2.no b2.nn b2.nc, .slice b2.eo b2.en b2.ec, .bool b3.s, .slice b3.no b3.nn b3.nc, .slice b3.eo b3.en b3.ec] := hK 3 _ rfl (hL 3 (by omega))
    have k4 : vs 4 = .pointer (some ⟨gf, 18, none⟩) := hK 4 _ rfl (hL 4 (by omega))
    have k5 : vs 5 = .agg #[.bool y1.s, .slice y1.no y1.nn y1.nc, .slice y1.eo y1.en y1.ec, .bool y2.s, .slice y2.no y2.nn y2.nc, .slice y2.eo y2.en y2.ec, .bool y3.s, .slice y3.no y3.nn y3.nc, .slice y3.eo y3.en y3.ec] := hK 5 _ rfl (hL 5 (by omega))
    have k6 : vs 6 = .pointer (some ⟨gf, 27, none⟩) := hK 6 _ rfl (hL 6 (by omega))
    have k7 : vs 7 = .agg #[.bool k.s, .slice k.no k.nn k.nc, .slice k.eo k.en k.ec] := hK 7 _ rfl (hL 7 (by omega))
    have xga : Vb u ga a1 a2 a3 := ⟨rga⟩
    have xgb : Vb u gb b1 b2 b3 := ⟨rgb⟩
    have xgy : Vb u gy y1 y2 y3 := ⟨rgy⟩
    have xgk : Rb u gk (.bool zRP.s) (.slice zRP.no zRP.nn zRP.nc) (.slice zRP.eo zRP.en zRP.ec) := ⟨rgk⟩
    have lb : Below w1.heap.size w1 u := hB
    clear hB
    clear hK o8 o9 o10 o11 a8x9 a8x10 a8x11 a9x10 a9x11 a10x11 s12 s13 s14 rga rgb rgy rgk hL
    simp only [puts, List.take, List.drop, Act.put, List.setIfInBounds_toArray, List.set_cons_succ, List.set_cons_zero, Nat.reduceAdd, ega, egb, egy, egk, k0, k1, k2, k3, k4, k5, k6, k7]
    clear ega egb egy egk k0 k1 k2 k3 k4 k5 k6 k7
    obtain ⟨c0, c1, c2⟩ := xgk.cells
    have f0 := xgk.free 0
    have f1 := xgk.free 1
    have f2 := xgk.free 2
    obtain ⟨w2, hw2⟩ : ∃ w2, w2 = ((u.setCell ⟨gk, 0, none⟩ (.bool k.s)).setCell ⟨gk, 1, none⟩ (.slice k.no k.nn k.nc)).setCell ⟨gk, 2, none⟩ (.slice k.eo k.en k.ec) := ⟨_, rfl⟩
    have fr := Rb.putFr gk u (.bool k.s) (.slice k.no k.nn k.nc) (.slice k.eo k.en k.ec)
    replace xgk := xgk.put (.bool k.s) (.slice k.no k.nn k.nc) (.slice k.eo k.en k.ec)
    rw [← hw2] at fr xgk
    replace xga := xga.keep (fr.block ga mga)
    replace xgb := xgb.keep (fr.block gb mgb)
    replace xgy := xgy.keep (fr.block gy mgy)
    replace lb := lb.trans (fr.below bgk)
    clear fr
    go_wp2
    rw [← hw2]
    clear hw2 c0 c1 c2 f0 f1 f2 mga mgb mgy bga bgb bgy bgk
    clear xf
    replace ha := ha.later lb
    replace hb := hb.later lb
    replace hy := hy.later lb
    replace hk := hk.later lb
    have B2 := B1.trans (lb.mono B1.size)
    clear B1 lb
    have HLst : Lst [VV (.agg #[.bool a1.s, .slice a1.no a1.nn a1.nc, .slice a1.eo a1.en a1.ec, .bool a2.s, .slice a2.no a2.nn a2.nc, .slice a2.eo a2.en a2.ec, .bool a3.s, .slice a3.no a3.nn a3.nc, .slice a3.eo a3.en a3.ec]), VV (.agg #[.bool k.s, .slice k.no k.nn k.nc, .slice k.eo k.en k.ec]), VV (.agg #[.bool b1.s, .slice b1.no b1.nn b1.nc, .slice b1.eo b1.en b1.ec, .bool b2.s, .slice b2.no b2.nn b2.nc, .slice b2.eo b2.en b2.ec, .bool b3.s, .slice b3.no b3.nn b3.nc, .slice b3.eo b3.en b3.ec]), VG (qk * qb1) (qk * qb2) (qk * qb3) (K + (K)), VW [qa1, qk * qb1] [qa2, qk * qb2] [qa3, qk * qb3] (K + K + (K)), VG (qa1 + (qk * qb1)) (qa2 + (qk * qb2)) (qa3 + (qk * qb3)) (2 * (K + K + (K) + 1) + 1), VPv w2.heap.size] := ⟨VV.lasts _, VV.lasts _, VV.lasts _, VG.lasts _ _ _ _, VW.lasts _ _ _ _, VG.lasts _ _ _ _, VPv.lasts _, trivial⟩
    refine wp_region_kahn 7 94 [([], [3]), ([], [6]), ([], [4]), ([(1, 19), (2, 20)], []), ([(0, 18), (3, 21)], []), ([(4, 22)], []), ([], [])]
      (fun u => Below w2.heap.size w2 u) (fun u u' => Below u.heap.size u u')
      (Sp [VV (.agg #[.bool a1.s, .slice a1.no a1.nn a1.nc, .slice a1.eo a1.en a1.ec, .bool a2.s, .slice a2.no a2.nn a2.nc, .slice a2.eo a2.en a2.ec, .bool a3.s, .slice a3.no a3.nn a3.nc, .slice a3.eo a3.en a3.ec]), VV (.agg #[.bool k.s, .slice k.no k.nn k.nc, .slice k.eo k.en k.ec]), VV (.agg #[.bool b1.s, .slice b1.no b1.nn b1.nc, .slice b1.eo b1.en b1.ec, .bool b2.s, .slice b2.no b2.nn b2.nc, .slice b2.eo b2.en b2.ec, .bool b3.s, .slice b3.no b3.nn b3.nc, .slice b3.eo b3.en b3.ec]), VG (qk * qb1) (qk * qb2) (qk * qb3) (K + (K)), VW [qa1, qk * qb1] [qa2, qk * qb2] [qa3, qk * qb3] (K + K + (K)), VG (qa1 + (qk * qb1)) (qa2 + (qk * qb2)) (qa3 + (qk * qb3)) (2 * (K + K + (K) + 1) + 1), VPv w2.heap.size])
      (by kernel_rfl) rfl (by kernel_rfl) (Below.refl _ _).drew (fun k v u u' _ hg hs => Sp.lasts HLst k v u u' hg hs) ?_ ?_
    · clear HLst
      refine ⟨.inl ⟨by simp, fun ρ u hC hc hf hd ho => ?_⟩, .inl ⟨by simp, fun ρ u hC hc hf hd ho => ?_⟩, .inl ⟨by simp, fun ρ u hC hc hf hd ho => ?_⟩, .inl ⟨by simp, fun ρ u hC hc hf hd ho => ?_⟩, .inl ⟨by simp, fun ρ u hC hc hf hd ho => ?_⟩, .inl ⟨by simp, fun ρ u hC hc hf hd ho => ?_⟩, .inl ⟨by simp, fun ρ u hC hc hf hd ho => ?_⟩, trivial⟩
      · have e3 : ρ (.tmp 3) = .pointer (some ⟨ga, 0, none⟩) := ho 3 (by simp)
        obtain ⟨c0, c1, c2⟩ := (xga.later hC).c0
        obtain ⟨c3, c4, c5⟩ := (xga.later hC).c1
        obtain ⟨c6, c7, c8⟩ := (xga.later hC).c2
        refine Goes.pure (.agg #[.bool a1.s, .slice a1.no a1.nn a1.nc, .slice a1.eo a1.en a1.ec, .bool a2.s, .slice a2.no a2.nn a2.nc, .slice a2.eo a2.en a2.ec, .bool a3.s, .slice a3.no a3.nn a3.nc, .slice a3.eo a3.en a3.ec]) ?_ ⟨hC, Below.refl _ _, rfl⟩
        unfold Goes
        go_simp
      · have e6 : ρ (.tmp 6) = .pointer (some ⟨gk, 0, none⟩) := ho 6 (by simp)
        obtain ⟨c0, c1, c2⟩ := (xgk.later hC).cells
        refine Goes.pure (.agg #[.bool k.s, .slice k.no k.nn k.nc, .slice k.eo k.en k.ec]) ?_ ⟨hC, Below.refl _ _, rfl⟩
        unfold Goes
        go_simp
      · have e4 : ρ (.tmp 4) = .pointer (some ⟨gb, 0, none⟩) := ho 4 (by simp)
        obtain ⟨c0, c1, c2⟩ := (xgb.later hC).c0
        obtain ⟨c3, c4, c5⟩ := (xgb.later hC).c1
        obtain ⟨c6, c7, c8⟩ := (xgb.later hC).c2
        refine Goes.pure (.agg #[.bool b1.s, .slice b1.no b1.nn b1.nc, .slice b1.eo b1.en b1.ec, .bool b2.s, .slice b2.no b2.nn b2.nc, .slice b2.eo b2.en b2.ec, .bool b3.s, .slice b3.no b3.nn b3.nc, .slice b3.eo b3.en b3.ec]) ?_ ⟨hC, Below.refl _ _, rfl⟩
        unfold Goes
        go_simp
      · have e19 : ρ (.tmp 19) = .agg #[.bool k.s, .slice k.no k.nn k.nc, .slice k.eo k.en k.ec] := hd (1, 19) (by simp)
        have e20 : ρ (.tmp 20) = .agg #[.bool b1.s, .slice b1.no b1.nn b1.nc, .slice b1.eo b1.en b1.ec, .bool b2.s, .slice b2.no b2.nn b2.nc, .slice b2.eo b2.en b2.ec, .bool b3.s, .slice b3.no b3.nn b3.nc, .slice b3.eo b3.en b3.ec] := hd (2, 20) (by simp)
        refine Goes.call 14 #[.agg #[.bool k.s, .slice k.no k.nn k.nc, .slice k.eo k.en k.ec], .agg #[.bool b1.s, .slice b1.no b1.nn b1.nc, .slice b1.eo b1.en b1.ec, .bool b2.s, .slice b2.no b2.nn b2.nc, .slice b2.eo b2.en b2.ec, .bool b3.s, .slice b3.no b3.nn b3.nc, .slice b3.eo b3.en b3.ec]] (by go_simp) ?_
        refine Calls.mono (vscale_k (k := ⟨k.s, k.no, k.nn, k.nc, k.eo, k.en, k.ec⟩) ((hk.later hC)) (hb.later hC) (by omega) (by omega) (by omega)) ?_
        rintro e u' ⟨ra, rb, rc, rfl, cv, lb⟩
        exact ⟨_, rfl, hC.trans (lb.mono hC.size), lb, ⟨ra, rb, rc, rfl, cv⟩⟩
      · have e18 : ρ (.tmp 18) = .agg #[.bool a1.s, .slice a1.no a1.nn a1.nc, .slice a1.eo a1.en a1.ec, .bool a2.s, .slice a2.no a2.nn a2.nc, .slice a2.eo a2.en a2.ec, .bool a3.s, .slice a3.no a3.nn a3.nc, .slice a3.eo a3.en a3.ec] := hd (0, 18) (by simp)
        obtain ⟨ra21, rb21, rc21, e21, k21⟩ : VG (qk * qb1) (qk * qb2) (qk * qb3) (K + (K)) (ρ (.tmp 21)) u := hd (3, 21) (by simp)
        have lb : Below u.heap.size u (u.alloc (.cells #[.bool a1.s, .slice a1.no a1.nn a1.nc, .slice a1.eo a1.en a1.ec, .bool a2.s, .slice a2.no a2.nn a2.nc, .slice a2.eo a2.en a2.ec, .bool a3.s, .slice a3.no a3.nn a3.nc, .slice a3.eo a3.en a3.ec, .bool ra21.s, .slice ra21.no ra21.nn ra21.nc, .slice ra21.eo ra21.en ra21.ec, .bool rb21.s, .slice rb21.no rb21.nn rb21.nc, .slice rb21.eo rb21.en rb21.ec, .bool rc21.s, .slice rc21.no rc21.nn rc21.nc, .slice rc21.eo rc21.en rc21.ec] 26)) := (Below.refl _ _).alloc (Nat.le_refl _) _
        refine Goes.run (.slice (some ⟨u.heap.size, 0, none⟩) 2 2) (u.alloc (.cells #[.bool a1.s, .slice a1.no a1.nn a1.nc, .slice a1.eo a1.en a1.ec, .bool a2.s, .slice a2.no a2.nn a2.nc, .slice a2.eo a2.en a2.ec, .bool a3.s, .slice a3.no a3.nn a3.nc, .slice a3.eo a3.en a3.ec, .bool ra21.s, .slice ra21.no ra21.nn ra21.nc, .slice ra21.eo ra21.en ra21.ec, .bool rb21.s, .slice rb21.no rb21.nn rb21.nc, .slice rb21.eo rb21.en rb21.ec, .bool rc21.s, .slice rc21.no rc21.nn rc21.nc, .slice rc21.eo rc21.en rc21.ec] 26)) (by go_simp) ⟨hC.trans (lb.mono hC.size), lb, ?_⟩
        exact VW.made [⟨a1, a2, a3⟩, ⟨ra21, rb21, rc21⟩] [qa1, qk * qb1] [qa2, qk * qb2] [qa3, qk * qb3] ⟨((ha.later hC).mono (K' := K + K + (K)) (by omega)).x, ((k21.rd).mono (K' := K + K + (K)) (by omega)).x, trivial⟩ ⟨((ha.later hC).mono (K' := K + K + (K)) (by omega)).y, ((k21.rd).mono (K' := K + K + (K)) (by omega)).y, trivial⟩ ⟨((ha.later hC).mono (K' := K + K + (K)) (by omega)).z, ((k21.rd).mono (K' := K + K + (K)) (by omega)).z, trivial⟩ _ rfl 2 rfl
      · have k22 : VW [qa1, qk * qb1] [qa2, qk * qb2] [qa3, qk * qb3] (K + K + (K)) (ρ (.tmp 22)) u := hd (4, 22) (by simp)
        refine Goes.call 10 #[ρ (.tmp 22)] (by go_simp) ?_
        refine Calls.mono (vsum_k k22 (by omega) (by simp only [List.length_cons, List.length_nil]; omega)) ?_
        rintro e u' ⟨ra, rb, rc, rfl, cv, lb⟩
        exact ⟨_, rfl, hC.trans (lb.mono hC.size), lb, ⟨ra, rb, rc, rfl, by simp only [qsum2] at cv; exact cv.mono (by simp only [List.length_cons, List.length_nil]; omega)⟩⟩
      · have lb : Below u.heap.size u (u.alloc (.cells #[.bool false, .slice none 0 0, .slice none 0 0, .bool false, .slice none 0 0, .slice none 0 0, .bool false, .slice none 0 0, .slice none 0 0] 26)) := (Below.refl _ _).alloc (Nat.le_refl _) _
        refine Goes.run (.pointer (some ⟨u.heap.size, 0, none⟩)) (u.alloc (.cells #[.bool false, .slice none 0 0, .slice none 0 0, .bool false, .slice none 0 0, .slice none 0 0, .bool false, .slice none 0 0, .slice none 0 0] 26)) (by go_simp) ⟨hC.trans (lb.mono hC.size), lb, ⟨_, rfl, hC.size, ⟨heap_alloc_new _ _⟩⟩⟩
    · intro vs u lb hv
      obtain ⟨x1, x2, x3, ex, cx⟩ : VG (qa1 + (qk * qb1)) (qa2 + (qk * qb2)) (qa3 + (qk * qb3)) (2 * (K + K + (K) + 1) + 1) (vs 5) u := hv 5 (by omega)
      obtain ⟨gx, eP, pg, xx⟩ : VPv w2.heap.size (vs 6) u := hv 6 (by omega)
      clear hv
      have f1 := putV.fr gx u x1 x2 x3
      obtain ⟨w3, hw⟩ : ∃ w3, w3 = putV u gx x1 x2 x3 := ⟨_, rfl⟩
      have xx2 : Vb w3 gx x1 x2 x3 := by rw [hw]; exact xx.put x1 x2 x3
      have cx2 : Cv w3 x1 x2 x3 (qa1 + (qk * qb1)) (qa2 + (qk * qb2)) (qa3 + (qk * qb3)) (2 * (K + K + (K) + 1) + 1) := by rw [hw]; exact cx.storeV xx f1
      have lb2 : Below w2.heap.size w2 w3 := by rw [hw]; exact lb.trans (f1.below pg)
      obtain ⟨c0, c1, c2⟩ := xx.c0
      obtain ⟨c3, c4, c5⟩ := xx.c1
      obtain ⟨c6, c7, c8⟩ := xx.c2
      have f0' := xx.free 0
      have f1' := xx.free 1
      have f2' := xx.free 2
      have f3' := xx.free 3
      have f4' := xx.free 4
      have f5' := xx.free 5
      have f6' := xx.free 6
      have f7' := xx.free 7
      have f8' := xx.free 8
      unfold putV at hw
      clear f1 cx lb pg
      simp only [puts, List.take, List.drop, Act.put, List.setIfInBounds_toArray, List.set_cons_succ, List.set_cons_zero, Nat.reduceAdd, ex, eP]
      clear ex eP
      go_wp2
      rw [← hw]
      clear hw xx c0 f0' c1 f1' c2 f2' c3 f3' c4 f4' c5 f5' c6 f6' c7 f7' c8 f8'
      replace ha := ha.later lb2
      replace hb := hb.later lb2
      replace hy := hy.later lb2
      replace hk := hk.later lb2
      replace xga := xga.later lb2
      replace xgb := xgb.later lb2
      replace xgy := xgy.later lb2
      replace xgk := xgk.later lb2
      have B3 := B2.trans (lb2.mono B2.size)
      clear B2 lb2
      have hs1 : (((-1) : Int) : Rat) / ((1 : Int) : Rat) = -1 := by decide +kernel
      have HLst : Lst [VV (.agg #[.bool x1.s, .slice x1.no x1.nn x1.nc, .slice x1.eo x1.en x1.ec, .bool x2.s, .slice x2.no x2.nn x2.nc, .slice x2.eo x2.en x2.ec, .bool x3.s, .slice x3.no x3.nn x3.nc, .slice x3.eo x3.en x3.ec]), VV (.agg #[.bool y1.s, .slice y1.no y1.nn y1.nc, .slice y1.eo y1.en y1.ec, .bool y2.s, .slice y2.no y2.nn y2.nc, .slice y2.eo y2.en y2.ec, .bool y3.s, .slice y3.no y3.nn y3.nc, .slice y3.eo y3.en y3.ec]), VC ((qa1 + (qk * qb1)) * qy1 + (qa2 + (qk * qb2)) * qy2 + (qa3 + (qk * qb3)) * qy3) (3 * (2 * (K + K + (K) + 1) + 1 + (K)) + 2), VV (.agg #[.bool a1.s, .slice a1.no a1.nn a1.nc, .slice a1.eo a1.en a1.ec, .bool a2.s, .slice a2.no a2.nn a2.nc, .slice a2.eo a2.en a2.ec, .bool a3.s, .slice a3.no a3.nn a3.nc, .slice a3.eo a3.en a3.ec]), VV (.agg #[.bool y1.s, .slice y1.no y1.nn y1.nc, .slice y1.eo y1.en y1.ec, .bool y2.s, .slice y2.no y2.nn y2.nc, .slice y2.eo y2.en y2.ec, .bool y3.s, .slice y3.no y3.nn y3.nc, .slice y3.eo y3.en y3.ec]), VC (qa1 * qy1 + qa2 * qy2 + qa3 * qy3) (3 * (K + (K)) + 2), VV (.agg #[.bool k.s, .slice k.no k.nn k.nc, .slice k.eo k.en k.ec]), VV (.agg #[.bool b1.s, .slice b1.no b1.nn b1.nc, .slice b1.eo b1.en b1.ec, .bool b2.s, .slice b2.no b2.nn b2.nc, .slice b2.eo b2.en b2.ec, .bool b3.s, .slice b3.no b3.nn b3.nc, .slice b3.eo b3.en b3.ec]), VV (.agg #[.bool y1.s, .slice y1.no y1.nn y1.nc, .slice y1.eo y1.en y1.ec, .bool y2.s, .slice y2.no y2.nn y2.nc, .slice y2.eo y2.en y2.ec, .bool y3.s, .slice y3.no y3.nn y3.nc, .slice y3.eo y3.en y3.ec]), VC (qb1 * qy1 + qb2 * qy2 + qb3 * qy3) (3 * (K + (K)) + 2), VL [qk, qb1 * qy1 + qb2 * qy2 + qb3 * qy3] (K + 3 * (K + (K)) + 2), VC (qk * (qb1 * qy1 + qb2 * qy2 + qb3 * qy3)) (2 * (K + 3 * (K + (K)) + 2 + 1) + 1), VL [qa1 * qy1 + qa2 * qy2 + qa3 * qy3, qk * (qb1 * qy1 + qb2 * qy2 + qb3 * qy3)] (3 * (K + (K)) + 2 + 2 * (K + 3 * (K + (K)) + 2 + 1) + 1), VC ((qa1 * qy1 + qa2 * qy2 + qa3 * qy3) + (qk * (qb1 * qy1 + qb2 * qy2 + qb3 * qy3))) (2 * (3 * (K + (K)) + 2 + 2 * (K + 3 * (K + (K)) + 2 + 1) + 1 + 1) + 1), VV (.bool true), VV (.bool true), VV (.agg #[.bool a1.s, .slice a1.no a1.nn a1.nc, .slice a1.eo a1.en a1.ec, .bool a2.s, .slice a2.no a2.nn a2.nc, .slice a2.eo a2.en a2.ec, .bool a3.s, .slice a3.no a3.nn a3.nc, .slice a3.eo a3.en a3.ec]), VV (.agg #[.bool y1.s, .slice y1.no y1.nn y1.nc, .slice y1.eo y1.en y1.ec, .bool y2.s, .slice y2.no y2.nn y2.nc, .slice y2.eo y2.en y2.ec, .bool y3.s, .slice y3.no y3.nn y3.nc, .slice y3.eo y3.en y3.ec]), VC (qa1 * qy1 + qa2 * qy2 + qa3 * qy3) (3 * (K + (K)) + 2), VV (.agg #[.bool y1.s, .slice y1.no y1.nn y1.nc, .slice y1.eo y1.en y1.ec, .bool y2.s, .slice y2.no y2.nn y2.nc, .slice y2.eo y2.en y2.ec, .bool y3.s, .slice y3.no y3.nn y3.nc, .slice y3.eo y3.en y3.ec]), VV (.agg #[.bool a1.s, .slice a1.no a1.nn a1.nc, .slice a1.eo a1.en a1.ec, .bool a2.s, .slice a2.no a2.nn a2.nc, .slice a2.eo a2.en a2.ec, .bool a3.s, .slice a3.no a3.nn a3.nc, .slice a3.eo a3.en a3.ec]), VC (qy1 * qa1 + qy2 * qa2 + qy3 * qa3) (3 * (K + (K)) + 2), VV (.bool true), VV (.bool true)] := ⟨VV.lasts _, VV.lasts _, VC.lasts _ _, VV.lasts _, VV.lasts _, VC.lasts _ _, VV.lasts _, VV.lasts _, VV.lasts _, VC.lasts _ _, VL.lasts _ _, VC.lasts _ _, VL.lasts _ _, VC.lasts _ _, VV.lasts _, VV.lasts _, VV.lasts _, VV.lasts _, VC.lasts _ _, VV.lasts _, VV.lasts _, VC.lasts _ _, VV.lasts _, VV.lasts _, trivial⟩
      refine wp_region_kahn 24 94 [([], [7]), ([], [5]), ([(0, 24), (1, 25)], []), ([], [3]), ([], [5]), ([(3, 27), (4, 28)], []), ([], [6]), ([], [4]), ([], [5]), ([(7, 31), (8, 32)], []), ([(6, 30), (9, 33)], []), ([(10, 34)], []), ([(5, 29), (11, 35)], []), ([(12, 36)], []), ([(2, 26), (13, 37)], []), ([(14, 38)], []), ([], [3]), ([], [5]), ([(16, 40), (17, 41)], []), ([], [5]), ([], [3]), ([(19, 43), (20, 44)], []), ([(18, 42), (21, 45)], []), ([(15, 39), (22, 46)], [])]
        (fun u => Below w3.heap.size w3 u) (fun u u' => Below u.heap.size u u')
        (Sp [VV (.agg #[.bool x1.s, .slice x1.no x1.nn x1.nc, .slice x1.eo x1.en x1.ec, .bool x2.s, .slice x2.no x2.nn x2.nc, .slice x2.eo x2.en x2.ec, .bool x3.s, .slice x3.no x3.nn x3.nc, .slice x3.eo x3.en x3.ec]), VV (.agg #[.bool y1.s, .slice y1.no y1.nn y1.nc, .slice y1.eo y1.en y1.ec, .bool y2.s, .slice y2.no y2.nn y2.nc, .slice y2.eo y2.en y2.ec, .bool y3.s, .slice y3.no y3.nn y3.nc, .slice y3.eo y3.en y3.ec]), VC ((qa1 + (qk * qb1)) * qy1 + (qa2 + (qk * qb2)) * qy2 + (qa3 + (qk * qb3)) * qy3) (3 * (2 * (K + K + (K) + 1) + 1 + (K)) + 2), VV (.agg #[.bool a1.s, .slice a1.no a1.nn a1.nc, .slice a1.eo a1.en a1.ec, .bool a2.s, .slice a2.no a2.nn a2.nc, .slice a2.eo a2.en a2.ec, .bool a3.s, .slice a3.no a3.nn a3.nc, .slice a3.eo a3.en a3.ec]), VV (.agg #[.bool y1.s, .slice y1.no y1.nn y1.nc, .slice y1.eo y1.en y1.ec, .bool y2.s, .slice y2.no y2.nn y2.nc, .slice y2.eo y2.en y2.ec, .bool y3.s, .slice y3.no y3.nn y3.nc, .slice y3.eo y3.en y3.ec]), VC (qa1 * qy1 + qa2 * qy2 + qa3 * qy3) (3 * (K + (K)) + 2), VV (.agg #[.bool k.s, .slice k.no k.nn k.nc, .slice k.eo k.en k.ec]), VV (.agg #[.bool b1.s, .slice b1.no b1.nn b1.nc, .slice b1.eo b1.en b1.ec, .bool b2.s, .slice b2.no b2.nn b2.nc, .slice b2.eo b2.en b2.ec, .bool b3.s, .slice b3.no b3.nn b3.nc, .slice b3.eo b3.en b3.ec]), VV (.agg #[.bool y1.s, .slice y1.no y1.nn y1.nc, .slice y1.eo y1.en y1.ec, .bool y2.s, .slice y2.no y2.nn y2.nc, .slice y2.eo y2.en y2.ec, .bool y3.s, .slice y3.no y3.nn y3.nc, .slice y3.eo y3.en y3.ec]), VC (qb1 * qy1 + qb2 * qy2 + qb3 * qy3) (3 * (K + (K)) + 2), VL [qk, qb1 * qy1 + qb2 * qy2 + qb3 * qy3] (K + 3 * (K + (K)) + 2), VC (qk * (qb1 * qy1 + qb2 * qy2 + qb3 * qy3)) (2 * (K + 3 * (K + (K)) + 2 + 1) + 1), VL [qa1 * qy1 + qa2 * qy2 + qa3 * qy3, qk * (qb1 * qy1 + qb2 * qy2 + qb3 * qy3)] (3 * (K + (K)) + 2 + 2 * (K + 3 * (K + (K)) + 2 + 1) + 1), VC ((qa1 * qy1 + qa2 * qy2 + qa3 * qy3) + (qk * (qb1 * qy1 + qb2 * qy2 + qb3 * qy3))) (2 * (3 * (K + (K)) + 2 + 2 * (K + 3 * (K + (K)) + 2 + 1) + 1 + 1) + 1), VV (.bool true), VV (.bool true), VV (.agg #[.bool a1.s, .slice a1.no a1.nn a1.nc, .slice a1.eo a1.en a1.ec, .bool a2.s, .slice a2.no a2.nn a2.nc, .slice a2.eo a2.en a2.ec, .bool a3.s, .slice a3.no a3.nn a3.nc, .slice a3.eo a3.en a3.ec]), VV (.agg #[.bool y1.s, .slice y1.no y1.nn y1.nc, .slice y1.eo y1.en y1.ec, .bool y2.s, .slice y2.no y2.nn y2.nc, .slice y2.eo y2.en y2.ec, .bool y3.s, .slice y3.no y3.nn y3.nc, .slice y3.eo y3.en y3.ec]), VC (qa1 * qy1 + qa2 * qy2 + qa3 * qy3) (3 * (K + (K)) + 2), VV (.agg #[.bool y1.s, .slice y1.no y1.nn y1.nc, .slice y1.eo y1.en y1.ec, .bool y2.s, .slice y2.no y2.nn y2.nc, .slice y2.eo y2.en y2.ec, .bool y3.s, .slice y3.no y3.nn y3.nc, .slice y3.eo y3.en y3.ec]), VV (.agg #[.bool a1.s, .slice a1.no a1.nn a1.nc, .slice a1.eo a1.en a1.ec, .bool a2.s, .slice a2.no a2.nn a2.nc, .slice a2.eo a2.en a2.ec, .bool a3.s, .slice a3.no a3.nn a3.nc, .slice a3.eo a3.en a3.ec]), VC (qy1 * qa1 + qy2 * qa2 + qy3 * qa3) (3 * (K + (K)) + 2), VV (.bool true), VV (.bool true)])
        (by kernel_rfl) rfl (by kernel_rfl) (Below.refl _ _).drew (fun k v u u' _ hg hs => Sp.lasts HLst k v u u' hg hs) ?_ ?_
      · clear HLst
        refine ⟨.inl ⟨by simp, fun ρ u hC hc hf hd ho => ?_⟩, .inl ⟨by simp, fun ρ u hC hc hf hd ho => ?_⟩, .inl ⟨by simp, fun ρ u hC hc hf hd ho => ?_⟩, .inl ⟨by simp, fun ρ u hC hc hf hd ho => ?_⟩, .inl ⟨by simp, fun ρ u hC hc hf hd ho => ?_⟩, .inl ⟨by simp, fun ρ u hC hc hf hd ho => ?_⟩, .inl ⟨by simp, fun ρ u hC hc hf hd ho => ?_⟩, .inl ⟨by simp, fun ρ u hC hc hf hd ho => ?_⟩, .inl ⟨by simp, fun ρ u hC hc hf hd ho => ?_⟩, .inl ⟨by simp, fun ρ u hC hc hf hd ho => ?_⟩, .inl ⟨by simp, fun ρ u hC hc hf hd ho => ?_⟩, .inl ⟨by simp, fun ρ u hC hc hf hd ho => ?_⟩, .inl ⟨by simp, fun ρ u hC hc hf hd ho => ?_⟩, .inl ⟨by simp, fun ρ u hC hc hf hd ho => ?_⟩, .inl ⟨by simp, fun ρ u hC hc hf hd ho => ?_⟩, .inl ⟨by simp, fun ρ u hC hc hf hd ho => ?_⟩, .inl ⟨guard_of rfl fun _ _ h => h, fun ρ u hC hc hf hd ho => ?_⟩, .inl ⟨guard_of rfl fun _ _ h => h, fun ρ u hC hc hf hd ho => ?_⟩, .inl ⟨guard_of rfl fun _ _ h => h, fun ρ u hC hc hf hd ho => ?_⟩, .inl ⟨guard_of rfl fun _ _ h => h, fun ρ u hC hc hf hd ho => ?_⟩, .inl ⟨guard_of rfl fun _ _ h => h, fun ρ u hC hc hf hd ho => ?_⟩, .inl ⟨guard_of rfl fun _ _ h => h, fun ρ u hC hc hf hd ho => ?_⟩, .inl ⟨guard_of rfl fun _ _ h => h, fun ρ u hC hc hf hd ho => ?_⟩, .inl ⟨by simp, fun ρ u hC hc hf hd ho => ?_⟩, trivial⟩
        · have e7 : ρ (.tmp 7) = .pointer (some ⟨gx, 0, none⟩) := ho 7 (by simp)
          obtain ⟨c0, c1, c2⟩ := (xx2.later hC).c0
          obtain ⟨c3, c4, c5⟩ := (xx2.later hC).c1
          obtain ⟨c6, c7, c8⟩ := (xx2.later hC).c2
          refine Goes.pure (.agg #[.bool x1.s, .slice x1.no x1.nn x1.nc, .slice x1.eo x1.en x1.ec, .bool x2.s, .slice x2.no x2.nn x2.nc, .slice x2.eo x2.en x2.ec, .bool x3.s, .slice x3.no x3.nn x3.nc, .slice x3.eo x3.en x3.ec]) ?_ ⟨hC, Below.refl _ _, rfl⟩
          unfold Goes
          go_simp
        · have e5 : ρ (.tmp 5) = .pointer (some ⟨gy, 0, none⟩) := ho 5 (by simp)
          obtain ⟨c0, c1, c2⟩ := (xgy.later hC).c0
          obtain ⟨c3, c4, c5⟩ := (xgy.later hC).c1
          obtain ⟨c6, c7, c8⟩ := (xgy.later hC).c2
          refine Goes.pure (.agg #[.bool y1.s, .slice y1.no y1.nn y1.nc, .slice y1.eo y1.en y1.ec, .bool y2.s, .slice y2.no y2.nn y2.nc, .slice y2.eo y2.en y2.ec, .bool y3.s, .slice y3.no y3.nn y3.nc, .slice y3.eo y3.en y3.ec]) ?_ ⟨hC, Below.refl _ _, rfl⟩
          unfold Goes
          go_simp
        · have e24 : ρ (.tmp 24) = .agg #[.bool x1.s, .slice x1.no x1.nn x1.nc, .slice x1.eo x1.en x1.ec, .bool x2.s, .slice x2.no x2.nn x2.nc, .slice x2.eo x2.en x2.ec, .bool x3.s, .slice x3.no x3.nn x3.nc, .slice x3.eo x3.en x3.ec] := hd (0, 24) (by simp)
          have e25 : ρ (.tmp 25) = .agg #[.bool y1.s, .slice y1.no y1.nn y1.nc, .slice y1.eo y1.en y1.ec, .bool y2.s, .slice y2.no y2.nn y2.nc, .slice y2.eo y2.en y2.ec, .bool y3.s, .slice y3.no y3.nn y3.nc, .slice y3.eo y3.en y3.ec] := hd (1, 25) (by simp)
          refine Goes.call 17 #[.agg #[.bool x1.s, .slice x1.no x1.nn x1.nc, .slice x1.eo x1.en x1.ec, .bool x2.s, .slice x2.no x2.nn x2.nc, .slice x2.eo x2.en x2.ec, .bool x3.s, .slice x3.no x3.nn x3.nc, .slice x3.eo x3.en x3.ec], .agg #[.bool y1.s, .slice y1.no y1.nn y1.nc, .slice y1.eo y1.en y1.ec, .bool y2.s, .slice y2.no y2.nn y2.nc, .slice y2.eo y2.en y2.ec, .bool y3.s, .slice y3.no y3.nn y3.nc, .slice y3.eo y3.en y3.ec]] (by go_simp) ?_
          refine Calls.mono (vdot_k ((cx2.later hC).rd) (hy.later hC) (by omega) (by omega) (by omega)) ?_
          rintro e u' ⟨s1, no1, nn1, nc1, eo1, en1, ec1, rfl, cq, lb⟩
          exact ⟨_, rfl, hC.trans (lb.mono hC.size), lb, ⟨s1, no1, nn1, nc1, eo1, en1, ec1, rfl, cq⟩⟩
        · have e3 : ρ (.tmp 3) = .pointer (some ⟨ga, 0, none⟩) := ho 3 (by simp)
          obtain ⟨c0, c1, c2⟩ := (xga.later hC).c0
          obtain ⟨c3, c4, c5⟩ := (xga.later hC).c1
          obtain ⟨c6, c7, c8⟩ := (xga.later hC).c2
          refine Goes.pure (.agg #[.bool a1.s, .slice a1.no a1.nn a1.nc, .slice a1.eo a1.en a1.ec, .bool a2.s, .slice a2.no a2.nn a2.nc, .slice a2.eo a2.en a2.ec, .bool a3.s, .slice a3.no a3.nn a3.nc, .slice a3.eo a3.en a3.ec]) ?_ ⟨hC, Below.refl _ _, rfl⟩
          unfold Goes
          go_simp
        · have e5 : ρ (.tmp 5) = .pointer (some ⟨gy, 0, none⟩) := ho 5 (by simp)
          obtain ⟨c0, c1, c2⟩ := (xgy.later hC).c0
          obtain ⟨c3, c4, c5⟩ := (xgy.later hC).c1
          obtain ⟨c6, c7, c8⟩ := (xgy.later hC).c2
          refine Goes.pure (.agg #[.bool y1.s, .slice y1.no y1.nn y1.nc, .slice y1.eo y1.en y1.ec, .bool y2.s, .slice y2.no y2.nn y2.nc, .slice y2.eo y2.en y2.ec, .bool y3.s, .slice y3.no y3.nn y3.nc, .slice y3.eo y3.en y3.ec]) ?_ ⟨hC, Below.refl _ _, rfl⟩
          unfold Goes
          go_simp
        · have e27 : ρ (.tmp 27) = .agg #[.bool a1.s, .slice a1.no a1.nn a1.nc, .slice a1.eo a1.en a1.ec, .bool a2.s, .slice a2.no a2.nn a2.nc, .slice a2.eo a2.en a2.ec, .bool a3.s, .slice a3.no a3.nn a3.nc, .slice a3.eo a3.en a3.ec] := hd (3, 27) (by simp)
          have e28 : ρ (.tmp 28) = .agg #[.bool y1.s, .slice y1.no y1.nn y1.nc, .slice y1.eo y1.en y1.ec, .bool y2.s, .slice y2.no y2.nn y2.nc, .slice y2.eo y2.en y2.ec, .bool y3.s, .slice y3.no y3.nn y3.nc, .slice y3.eo y3.en y3.ec] := hd (4, 28) (by simp)
          refine Goes.call 17 #[.agg #[.bool a1.s, .slice a1.no a1.nn a1.nc, .slice a1.eo a1.en a1.ec, .bool a2.s, .slice a2.no a2.nn a2.nc, .slice a2.eo a2.en a2.ec, .bool a3.s, .slice a3.no a3.nn a3.nc, .slice a3.eo a3.en a3.ec], .agg #[.bool y1.s, .slice y1.no y1.nn y1.nc, .slice y1.eo y1.en y1.ec, .bool y2.s, .slice y2.no y2.nn y2.nc, .slice y2.eo y2.en y2.ec, .bool y3.s, .slice y3.no y3.nn y3.nc, .slice y3.eo y3.en y3.ec]] (by go_simp) ?_
          refine Calls.mono (vdot_k (ha.later hC) (hy.later hC) (by omega) (by omega) (by omega)) ?_
          rintro e u' ⟨s1, no1, nn1, nc1, eo1, en1, ec1, rfl, cq, lb⟩
          exact ⟨_, rfl, hC.trans (lb.mono hC.size), lb, ⟨s1, no1, nn1, nc1, eo1, en1, ec1, rfl, cq⟩⟩
        · have e6 : ρ (.tmp 6) = .pointer (some ⟨gk, 0, none⟩) := ho 6 (by simp)
          obtain ⟨c0, c1, c2⟩ := (xgk.later hC).cells
          refine Goes.pure (.agg #[.bool k.s, .slice k.no k.nn k.nc, .slice k.eo k.en k.ec]) ?_ ⟨hC, Below.refl _ _, rfl⟩
          unfold Goes
          go_simp
        · have e4 : ρ (.tmp 4) = .pointer (some ⟨gb, 0, none⟩) := ho 4 (by simp)
          obtain ⟨c0, c1, c2⟩ := (xgb.later hC).c0
          obtain ⟨c3, c4, c5⟩ := (xgb.later hC).c1
          obtain ⟨c6, c7, c8⟩ := (xgb.later hC).c2
          refine Goes.pure (.agg #[.bool b1.s, .slice b1.no b1.nn b1.nc, .slice b1.eo b1.en b1.ec, .bool b2.s, .slice b2.no b2.nn b2.nc, .slice b2.eo b2.en b2.ec, .bool b3.s, .slice b3.no b3.nn b3.nc, .slice b3.eo b3.en b3.ec]) ?_ ⟨hC, Below.refl _ _, rfl⟩
          unfold Goes
          go_simp
        · have e5 : ρ (.tmp 5) = .pointer (some ⟨gy, 0, none⟩) := ho 5 (by simp)
          obtain ⟨c0, c1, c2⟩ := (xgy.later hC).c0
          obtain ⟨c3, c4, c5⟩ := (xgy.later hC).c1
          obtain ⟨c6, c7, c8⟩ := (xgy.later hC).c2
          refine Goes.pure (.agg #[.bool y1.s, .slice y1.no y1.nn y1.nc, .slice y1.eo y1.en y1.ec, .bool y2.s, .slice y2.no y2.nn y2.nc, .slice y2.eo y2.en y2.ec, .bool y3.s, .slice y3.no y3.nn y3.nc, .slice y3.eo y3.en y3.ec]) ?_ ⟨hC, Below.refl _ _, rfl⟩
          unfold Goes
          go_simp
        · have e31 : ρ (.tmp 31) = .agg #[.bool b1.s, .slice b1.no b1.nn b1.nc, .slice b1.eo b1.en b1.ec, .bool b2.s, .slice b2.no b2.nn b2.nc, .slice b2.eo b2.en b2.ec, .bool b3.s, .slice b3.no b3.nn b3.nc, .slice b3.eo b3.en b3.ec] := hd (7, 31) (by simp)
          have e32 : ρ (.tmp 32) = .agg #[.bool y1.s, .slice y1.no y1.nn y1.nc, .slice y1.eo y1.en y1.ec, .bool y2.s, .slice y2.no y2.nn y2.nc, .slice y2.eo y2.en y2.ec, .bool y3.s, .slice y3.no y3.nn y3.nc, .slice y3.eo y3.en y3.ec] := hd (8, 32) (by simp)
          refine Goes.call 17 #[.agg #[.bool b1.s, .slice b1.no b1.nn b1.nc, .slice b1.eo b1.en b1.ec, .bool b2.s, .slice b2.no b2.nn b2.nc, .slice b2.eo b2.en b2.ec, .bool b3.s, .slice b3.no b3.nn b3.nc, .slice b3.eo b3.en b3.ec], .agg #[.bool y1.s, .slice y1.no y1.nn y1.nc, .slice y1.eo y1.en y1.ec, .bool y2.s, .slice y2.no y2.nn y2.nc, .slice y2.eo y2.en y2.ec, .bool y3.s, .slice y3.no y3.nn y3.nc, .slice y3.eo y3.en y3.ec]] (by go_simp) ?_
          refine Calls.mono (vdot_k (hb.later hC) (hy.later hC) (by omega) (by omega) (by omega)) ?_
          rintro e u' ⟨s1, no1, nn1, nc1, eo1, en1, ec1, rfl, cq, lb⟩
          exact ⟨_, rfl, hC.trans (lb.mono hC.size), lb, ⟨s1, no1, nn1, nc1, eo1, en1, ec1, rfl, cq⟩⟩
        · have e30 : ρ (.tmp 30) = .agg #[.bool k.s, .slice k.no k.nn k.nc, .slice k.eo k.en k.ec] := hd (6, 30) (by simp)
          obtain ⟨s33, no33, nn33, nc33, eo33, en33, ec33, e33, k33⟩ : VC (qb1 * qy1 + qb2 * qy2 + qb3 * qy3) (3 * (K + (K)) + 2) (ρ (.tmp 33)) u := hd (9, 33) (by simp)
          have lb : Below u.heap.size u (u.alloc (.cells #[.bool k.s, .slice k.no k.nn k.nc, .slice k.eo k.en k.ec, .bool s33, .slice no33 nn33 nc33, .slice eo33 en33 ec33] 24)) := (Below.refl _ _).alloc (Nat.le_refl _) _
          refine Goes.run (.slice (some ⟨u.heap.size, 0, none⟩) 2 2) (u.alloc (.cells #[.bool k.s, .slice k.no k.nn k.nc, .slice k.eo k.en k.ec, .bool s33, .slice no33 nn33 nc33, .slice eo33 en33 ec33] 24)) (by go_simp) ⟨hC.trans (lb.mono hC.size), lb, ?_⟩
          exact VL.made [⟨k.s, k.no, k.nn, k.nc, k.eo, k.en, k.ec⟩, ⟨s33, no33, nn33, nc33, eo33, en33, ec33⟩] [qk, qb1 * qy1 + qb2 * qy2 + qb3 * qy3] ⟨(hk.later hC).mono (by omega), k33.rd.mono (by omega), trivial⟩ _ rfl 2 rfl
        · have k34 : VL [qk, qb1 * qy1 + qb2 * qy2 + qb3 * qy3] (K + 3 * (K + (K)) + 2) (ρ (.tmp 34)) u := hd (10, 34) (by simp)
          refine Goes.call 29 #[ρ (.tmp 34)] (by go_simp) ?_
          refine Calls.mono (ratProduct_k k34 (by omega) (by simp only [List.length_cons, List.length_nil]; omega)) ?_
          rintro e u' ⟨s1, no1, nn1, nc1, eo1, en1, ec1, rfl, cq, lb⟩
          exact ⟨_, rfl, hC.trans (lb.mono hC.size), lb, ⟨s1, no1, nn1, nc1, eo1, en1, ec1, rfl, by rw [qprod2] at cq; exact cq.mono (by simp only [List.length_cons, List.length_nil]; omega)⟩⟩
        · obtain ⟨s29, no29, nn29, nc29, eo29, en29, ec29, e29, k29⟩ : VC (qa1 * qy1 + qa2 * qy2 + qa3 * qy3) (3 * (K + (K)) + 2) (ρ (.tmp 29)) u := hd (5, 29) (by simp)
          obtain ⟨s35, no35, nn35, nc35, eo35, en35, ec35, e35, k35⟩ : VC (qk * (qb1 * qy1 + qb2 * qy2 + qb3 * qy3)) (2 * (K + 3 * (K + (K)) + 2 + 1) + 1) (ρ (.tmp 35)) u := hd (11, 35) (by simp)
          have lb : Below u.heap.size u (u.alloc (.cells #[.bool s29, .slice no29 nn29 nc29, .slice eo29 en29 ec29, .bool s35, .slice no35 nn35 nc35, .slice eo35 en35 ec35] 24)) := (Below.refl _ _).alloc (Nat.le_refl _) _
          refine Goes.run (.slice (some ⟨u.heap.size, 0, none⟩) 2 2) (u.alloc (.cells #[.bool s29, .slice no29 nn29 nc29, .slice eo29 en29 ec29, .bool s35, .slice no35 nn35 nc35, .slice eo35 en35 ec35] 24)) (by go_simp) ⟨hC.trans (lb.mono hC.size), lb, ?_⟩
          exact VL.made [⟨s29, no29, nn29, nc29, eo29, en29, ec29⟩, ⟨s35, no35, nn35, nc35, eo35, en35, ec35⟩] [qa1 * qy1 + qa2 * qy2 + qa3 * qy3, qk * (qb1 * qy1 + qb2 * qy2 + qb3 * qy3)] ⟨k29.rd.mono (by omega), k35.rd.mono (by omega), trivial⟩ _ rfl 2 rfl
        · have k36 : VL [qa1 * qy1 + qa2 * qy2 + qa3 * qy3, qk * (qb1 * qy1 + qb2 * qy2 + qb3 * qy3)] (3 * (K + (K)) + 2 + 2 * (K + 3 * (K + (K)) + 2 + 1) + 1) (ρ (.tmp 36)) u := hd (12, 36) (by simp)
          refine Goes.call 28 #[ρ (.tmp 36)] (by go_simp) ?_
          refine Calls.mono (ratSum_k k36 (by omega) (by simp only [List.length_cons, List.length_nil]; omega)) ?_
          rintro e u' ⟨s1, no1, nn1, nc1, eo1, en1, ec1, rfl, cq, lb⟩
          exact ⟨_, rfl, hC.trans (lb.mono hC.size), lb, ⟨s1, no1, nn1, nc1, eo1, en1, ec1, rfl, by rw [qsum2] at cq; exact cq.mono (by simp only [List.length_cons, List.length_nil]; omega)⟩⟩
        · obtain ⟨s26, no26, nn26, nc26, eo26, en26, ec26, e26, k26⟩ : VC ((qa1 + (qk * qb1)) * qy1 + (qa2 + (qk * qb2)) * qy2 + (qa3 + (qk * qb3)) * qy3) (3 * (2 * (K + K + (K) + 1) + 1 + (K)) + 2) (ρ (.tmp 26)) u := hd (2, 26) (by simp)
          obtain ⟨s37, no37, nn37, nc37, eo37, en37, ec37, e37, k37⟩ : VC ((qa1 * qy1 + qa2 * qy2 + qa3 * qy3) + (qk * (qb1 * qy1 + qb2 * qy2 + qb3 * qy3))) (2 * (3 * (K + (K)) + 2 + 2 * (K + 3 * (K + (K)) + 2 + 1) + 1 + 1) + 1) (ρ (.tmp 37)) u := hd (13, 37) (by simp)
          refine Goes.call 16 #[.agg #[.bool s26, .slice no26 nn26 nc26, .slice eo26 en26 ec26], .agg #[.bool s37, .slice no37 nn37 nc37, .slice eo37 en37 ec37]] (by go_simp) ?_
          refine Calls.mono (is3_any u s26 no26 nn26 nc26 eo26 en26 ec26 s37 no37 nn37 nc37 eo37 en37 ec37 _ _ _ _ k26.num k26.den k37.num k37.den (by have := k26.ln; omega) (by have := k26.ld; omega) (by have := k37.ln; omega) (by have := k37.ld; omega)) ?_
          rintro e u' ⟨r, rfl, HR, lb⟩
          exact ⟨_, rfl, hC.trans (lb.mono hC.size), lb, by rw [HR.out.2 (cq_same k26 k37 (by grind))]; rfl⟩
        · have e38 : ρ (.tmp 38) = .bool true := hd (14, 38) (by simp)
          refine Goes.pure (.bool true) ?_ ⟨hC, Below.refl _ _, rfl⟩
          unfold Goes
          go_simp
        · have e3 : ρ (.tmp 3) = .pointer (some ⟨ga, 0, none⟩) := ho 3 (by simp)
          obtain ⟨c0, c1, c2⟩ := (xga.later hC).c0
          obtain ⟨c3, c4, c5⟩ := (xga.later hC).c1
          obtain ⟨c6, c7, c8⟩ := (xga.later hC).c2
          refine Goes.pure (.agg #[.bool a1.s, .slice a1.no a1.nn a1.nc, .slice a1.eo a1.en a1.ec, .bool a2.s, .slice a2.no a2.nn a2.nc, .slice a2.eo a2.en a2.ec, .bool a3.s, .slice a3.no a3.nn a3.nc, .slice a3.eo a3.en a3.ec]) ?_ ⟨hC, Below.refl _ _, rfl⟩
          unfold Goes
          go_simp
        · have e5 : ρ (.tmp 5) = .pointer (some ⟨gy, 0, none⟩) := ho 5 (by simp)
          obtain ⟨c0, c1, c2⟩ := (xgy.later hC).c0
          obtain ⟨c3, c4, c5⟩ := (xgy.later hC).c1
          obtain ⟨c6, c7, c8⟩ := (xgy.later hC).c2
          refine Goes.pure (.agg #[.bool y1.s, .slice y1.no y1.nn y1.nc, .slice y1.eo y1.en y1.ec, .bool y2.s, .slice y2.no y2.nn y2.nc, .slice y2.eo y2.en y2.ec, .bool y3.s, .slice y3.no y3.nn y3.nc, .slice y3.eo y3.en y3.ec]) ?_ ⟨hC, Below.refl _ _, rfl⟩
          unfold Goes
          go_simp
        · have e40 : ρ (.tmp 40) = .agg #[.bool a1.s, .slice a1.no a1.nn a1.nc, .slice a1.eo a1.en a1.ec, .bool a2.s, .slice a2.no a2.nn a2.nc, .slice a2.eo a2.en a2.ec, .bool a3.s, .slice a3.no a3.nn a3.nc, .slice a3.eo a3.en a3.ec] := hd (16, 40) (by simp)
          have e41 : ρ (.tmp 41) = .agg #[.bool y1.s, .slice y1.no y1.nn y1.nc, .slice y1.eo y1.en y1.ec, .bool y2.s, .slice y2.no y2.nn y2.nc, .slice y2.eo y2.en y2.ec, .bool y3.s, .slice y3.no y3.nn y3.nc, .slice y3.eo y3.en y3.ec] := hd (17, 41) (by simp)
          refine Goes.call 17 #[.agg #[.bool a1.s, .slice a1.no a1.nn a1.nc, .slice a1.eo a1.en a1.ec, .bool a2.s, .slice a2.no a2.nn a2.nc, .slice a2.eo a2.en a2.ec, .bool a3.s, .slice a3.no a3.nn a3.nc, .slice a3.eo a3.en a3.ec], .agg #[.bool y1.s, .slice y1.no y1.nn y1.nc, .slice y1.eo y1.en y1.ec, .bool y2.s, .slice y2.no y2.nn y2.nc, .slice y2.eo y2.en y2.ec, .bool y3.s, .slice y3.no y3.nn y3.nc, .slice y3.eo y3.en y3.ec]] (by go_simp) ?_
          refine Calls.mono (vdot_k (ha.later hC) (hy.later hC) (by omega) (by omega) (by omega)) ?_
          rintro e u' ⟨s1, no1, nn1, nc1, eo1, en1, ec1, rfl, cq, lb⟩
          exact ⟨_, rfl, hC.trans (lb.mono hC.size), lb, ⟨s1, no1, nn1, nc1, eo1, en1, ec1, rfl, cq⟩⟩
        · have e5 : ρ (.tmp 5) = .pointer (some ⟨gy, 0, none⟩) := ho 5 (by simp)
          obtain ⟨c0, c1, c2⟩ := (xgy.later hC).c0
          obtain ⟨c3, c4, c5⟩ := (xgy.later hC).c1
          obtain ⟨c6, c7, c8⟩ := (xgy.later hC).c2
          refine Goes.pure (.agg #[.bool y1.s, .slice y1.no y1.nn y1.nc, .slice y1.eo y1.en y1.ec, .bool y2.s, .slice y2.no y2.nn y2.nc, .slice y2.eo y2.en y2.ec, .bool y3.s, .slice y3.no y3.nn y3.nc, .slice y3.eo y3.en y3.ec]) ?_ ⟨hC, Below.refl _ _, rfl⟩
          unfold Goes
          go_simp
        · have e3 : ρ (.tmp 3) = .pointer (some ⟨ga, 0, none⟩) := ho 3 (by simp)
          obtain ⟨c0, c1, c2⟩ := (xga.later hC).c0
          obtain ⟨c3, c4, c5⟩ := (xga.later hC).c1
          obtain ⟨c6, c7, c8⟩ := (xga.later hC).c2
          refine Goes.pure (.agg #[.bool a1.s, .slice a1.no a1.nn a1.nc, .slice a1.eo a1.en a1.ec, .bool a2.s, .slice a2.no a2.nn a2.nc, .slice a2.eo a2.en a2.ec, .bool a3.s, .slice a3.no a3.nn a3.nc, .slice a3.eo a3.en a3.ec]) ?_ ⟨hC, Below.refl _ _, rfl⟩
          unfold Goes
          go_simp
        · have e43 : ρ (.tmp 43) = .agg #[.bool y1.s, .slice y1.no y1.nn y1.nc, .slice y1.eo y1.en y1.ec, .bool y2.s, .slice y2.no y2.nn y2.nc, .slice y2.eo y2.en y2.ec, .bool y3.s, .slice y3.no y3.nn y3.nc, .slice y3.eo y3.en y3.ec] := hd (19, 43) (by simp)
          have e44 : ρ (.tmp 44) = .agg #[.bool a1.s, .slice a1.no a1.nn a1.nc, .slice a1.eo a1.en a1.ec, .bool a2.s, .slice a2.no a2.nn a2.nc, .slice a2.eo a2.en a2.ec, .bool a3.s, .slice a3.no a3.nn a3.nc, .slice a3.eo a3.en a3.ec] := hd (20, 44) (by simp)
          refine Goes.call 17 #[.agg #[.bool y1.s, .slice y1.no y1.nn y1.nc, .slice y1.eo y1.en y1.ec, .bool y2.s, .slice y2.no y2.nn y2.nc, .slice y2.eo y2.en y2.ec, .bool y3.s, .slice y3.no y3.nn y3.nc, .slice y3.eo y3.en y3.ec], .agg #[.bool a1.s, .slice a1.no a1.nn a1.nc, .slice a1.eo a1.en a1.ec, .bool a2.s, .slice a2.no a2.nn a2.nc, .slice a2.eo a2.en a2.ec, .bool a3.s, .slice a3.no a3.nn a3.nc, .slice a3.eo a3.en a3.ec]] (by go_simp) ?_
          refine Calls.mono (vdot_k (hy.later hC) (ha.later hC) (by omega) (by omega) (by omega)) ?_
          rintro e u' ⟨s1, no1, nn1, nc1, eo1, en1, ec1, rfl, cq, lb⟩
          exact ⟨_, rfl, hC.trans (lb.mono hC.size), lb, ⟨s1, no1, nn1, nc1, eo1, en1, ec1, rfl, cq⟩⟩
        · obtain ⟨s42, no42, nn42, nc42, eo42, en42, ec42, e42, k42⟩ : VC (qa1 * qy1 + qa2 * qy2 + qa3 * qy3) (3 * (K + (K)) + 2) (ρ (.tmp 42)) u := hd (18, 42) (by simp)
          obtain ⟨s45, no45, nn45, nc45, eo45, en45, ec45, e45, k45⟩ : VC (qy1 * qa1 + qy2 * qa2 + qy3 * qa3) (3 * (K + (K)) + 2) (ρ (.tmp 45)) u := hd (21, 45) (by simp)
          refine Goes.call 16 #[.agg #[.bool s42, .slice no42 nn42 nc42, .slice eo42 en42 ec42], .agg #[.bool s45, .slice no45 nn45 nc45, .slice eo45 en45 ec45]] (by go_simp) ?_
          refine Calls.mono (is3_any u s42 no42 nn42 nc42 eo42 en42 ec42 s45 no45 nn45 nc45 eo45 en45 ec45 _ _ _ _ k42.num k42.den k45.num k45.den (by have := k42.ln; omega) (by have := k42.ld; omega) (by have := k45.ln; omega) (by have := k45.ld; omega)) ?_
          rintro e u' ⟨r, rfl, HR, lb⟩
          exact ⟨_, rfl, hC.trans (lb.mono hC.size), lb, by rw [HR.out.2 (cq_same k42 k45 (by grind))]; rfl⟩
        · have e39 : ρ (.tmp 39) = .bool true := hd (15, 39) (by simp)
          have e46 : ρ (.tmp 46) = .bool true := hd (22, 46) (by simp)
          refine Goes.pure (.bool true) ?_ ⟨hC, Below.refl _ _, rfl⟩
          unfold Goes
          go_simp
      · intro vs u lb hv
        have eR : vs 23 = .bool true := hv 23 (by omega)
        clear hv
        simp only [puts, List.take, List.drop, Act.put, List.setIfInBounds_toArray, List.set_cons_succ, List.set_cons_zero, Nat.reduceAdd, eR]
        clear eR
        go_wp2
        obtain ⟨w4, rfl⟩ : ∃ w4, w4 = u := ⟨_, rfl⟩
        replace ha := ha.later lb
        replace hb := hb.later lb
        replace hy := hy.later lb
        replace hk := hk.later lb
        replace xga := xga.later lb
        replace xgb := xgb.later lb
        replace xgy := xgy.later lb
        replace xgk := xgk.later lb
        replace xx2 := xx2.later lb
        replace cx2 := cx2.later lb
        have B4 := B3.trans (lb.mono B3.size)
        clear B3 lb
        have HLst : Lst [VV (.agg #[.bool x1.s, .slice x1.no x1.nn x1.nc, .slice x1.eo x1.en x1.ec, .bool x2.s, .slice x2.no x2.nn x2.nc, .slice x2.eo x2.en x2.ec, .bool x3.s, .slice x3.no x3.nn x3.nc, .slice x3.eo x3.en x3.ec]), VV (.agg #[.bool y1.s, .slice y1.no y1.nn y1.nc, .slice y1.eo y1.en y1.ec, .bool y2.s, .slice y2.no y2.nn y2.nc, .slice y2.eo y2.en y2.ec, .bool y3.s, .slice y3.no y3.nn y3.nc, .slice y3.eo y3.en y3.ec]), VG ((qa2 + (qk * qb2)) * qy3 - (qa3 + (qk * qb3)) * qy2) ((qa3 + (qk * qb3)) * qy1 - (qa1 + (qk * qb1)) * qy3) ((qa1 + (qk * qb1)) * qy2 - (qa2 + (qk * qb2)) * qy1) (2 * (K + K + (K) + 1) + 1 + (K) + (2 * (K + K + (K) + 1) + 1 + (K)) + 1), VV (.agg #[.bool a1.s, .slice a1.no a1.nn a1.nc, .slice a1.eo a1.en a1.ec, .bool a2.s, .slice a2.no a2.nn a2.nc, .slice a2.eo a2.en a2.ec, .bool a3.s, .slice a3.no a3.nn a3.nc, .slice a3.eo a3.en a3.ec]), VV (.agg #[.bool y1.s, .slice y1.no y1.nn y1.nc, .slice y1.eo y1.en y1.ec, .bool y2.s, .slice y2.no y2.nn y2.nc, .slice y2.eo y2.en y2.ec, .bool y3.s, .slice y3.no y3.nn y3.nc, .slice y3.eo y3.en y3.ec]), VG (qa2 * qy3 - qa3 * qy2) (qa3 * qy1 - qa1 * qy3) (qa1 * qy2 - qa2 * qy1) (K + (K) + (K + (K)) + 1), VV (.agg #[.bool k.s, .slice k.no k.nn k.nc, .slice k.eo k.en k.ec]), VV (.agg #[.bool b1.s, .slice b1.no b1.nn b1.nc, .slice b1.eo b1.en b1.ec, .bool b2.s, .slice b2.no b2.nn b2.nc, .slice b2.eo b2.en b2.ec, .bool b3.s, .slice b3.no b3.nn b3.nc, .slice b3.eo b3.en b3.ec]), VV (.agg #[.bool y1.s, .slice y1.no y1.nn y1.nc, .slice y1.eo y1.en y1.ec, .bool y2.s, .slice y2.no y2.nn y2.nc, .slice y2.eo y2.en y2.ec, .bool y3.s, .slice y3.no y3.nn y3.nc, .slice y3.eo y3.en y3.ec]), VG (qb2 * qy3 - qb3 * qy2) (qb3 * qy1 - qb1 * qy3) (qb1 * qy2 - qb2 * qy1) (K + (K) + (K + (K)) + 1), VG (qk * (qb2 * qy3 - qb3 * qy2)) (qk * (qb3 * qy1 - qb1 * qy3)) (qk * (qb1 * qy2 - qb2 * qy1)) (K + (K + (K) + (K + (K)) + 1)), VW [qa2 * qy3 - qa3 * qy2, qk * (qb2 * qy3 - qb3 * qy2)] [qa3 * qy1 - qa1 * qy3, qk * (qb3 * qy1 - qb1 * qy3)] [qa1 * qy2 - qa2 * qy1, qk * (qb1 * qy2 - qb2 * qy1)] (K + (K) + (K + (K)) + 1 + K + (K + (K) + (K + (K)) + 1)), VG ((qa2 * qy3 - qa3 * qy2) + (qk * (qb2 * qy3 - qb3 * qy2))) ((qa3 * qy1 - qa1 * qy3) + (qk * (qb3 * qy1 - qb1 * qy3))) ((qa1 * qy2 - qa2 * qy1) + (qk * (qb1 * qy2 - qb2 * qy1))) (2 * (K + (K) + (K + (K)) + 1 + K + (K + (K) + (K + (K)) + 1) + 1) + 1), VV (.bool true), VV (.bool true), VV (.agg #[.bool y1.s, .slice y1.no y1.nn y1.nc, .slice y1.eo y1.en y1.ec, .bool y2.s, .slice y2.no y2.nn y2.nc, .slice y2.eo y2.en y2.ec, .bool y3.s, .slice y3.no y3.nn y3.nc, .slice y3.eo y3.en y3.ec]), VV (.agg #[.bool x1.s, .slice x1.no x1.nn x1.nc, .slice x1.eo x1.en x1.ec, .bool x2.s, .slice x2.no x2.nn x2.nc, .slice x2.eo x2.en x2.ec, .bool x3.s, .slice x3.no x3.nn x3.nc, .slice x3.eo x3.en x3.ec]), VG (qy2 * (qa3 + (qk * qb3)) - qy3 * (qa2 + (qk * qb2))) (qy3 * (qa1 + (qk * qb1)) - qy1 * (qa3 + (qk * qb3))) (qy1 * (qa2 + (qk * qb2)) - qy2 * (qa1 + (qk * qb1))) (K + (2 * (K + K + (K) + 1) + 1) + (K + (2 * (K + K + (K) + 1) + 1)) + 1), VC (((((-1) : Int) : Rat) / ((1 : Int) : Rat))) (2), VV (.agg #[.bool x1.s, .slice x1.no x1.nn x1.nc, .slice x1.eo x1.en x1.ec, .bool x2.s, .slice x2.no x2.nn x2.nc, .slice x2.eo x2.en x2.ec, .bool x3.s, .slice x3.no x3.nn x3.nc, .slice x3.eo x3.en x3.ec]), VV (.agg #[.bool y1.s, .slice y1.no y1.nn y1.nc, .slice y1.eo y1.en y1.ec, .bool y2.s, .slice y2.no y2.nn y2.nc, .slice y2.eo y2.en y2.ec, .bool y3.s, .slice y3.no y3.nn y3.nc, .slice y3.eo y3.en y3.ec]), VG ((qa2 + (qk * qb2)) * qy3 - (qa3 + (qk * qb3)) * qy2) ((qa3 + (qk * qb3)) * qy1 - (qa1 + (qk * qb1)) * qy3) ((qa1 + (qk * qb1)) * qy2 - (qa2 + (qk * qb2)) * qy1) (2 * (K + K + (K) + 1) + 1 + (K) + (2 * (K + K + (K) + 1) + 1 + (K)) + 1), VG (((((-1) : Int) : Rat) / ((1 : Int) : Rat)) * ((qa2 + (qk * qb2)) * qy3 - (qa3 + (qk * qb3)) * qy2)) (((((-1) : Int) : Rat) / ((1 : Int) : Rat)) * ((qa3 + (qk * qb3)) * qy1 - (qa1 + (qk * qb1)) * qy3)) (((((-1) : Int) : Rat) / ((1 : Int) : Rat)) * ((qa1 + (qk * qb1)) * qy2 - (qa2 + (qk * qb2)) * qy1)) (2 + (2 * (K + K + (K) + 1) + 1 + (K) + (2 * (K + K + (K) + 1) + 1 + (K)) + 1)), VV (.bool true), VV (.bool true)] := ⟨VV.lasts _, VV.lasts _, VG.lasts _ _ _ _, VV.lasts _, VV.lasts _, VG.lasts _ _ _ _, VV.lasts _, VV.lasts _, VV.lasts _, VG.lasts _ _ _ _, VG.lasts _ _ _ _, VW.lasts _ _ _ _, VG.lasts _ _ _ _, VV.lasts _, VV.lasts _, VV.lasts _, VV.lasts _, VG.lasts _ _ _ _, VC.lasts _ _, VV.lasts _, VV.lasts _, VG.lasts _ _ _ _, VG.lasts _ _ _ _, VV.lasts _, VV.lasts _, trivial⟩
        refine wp_region_kahn 25 94 [([], [7]), ([], [5]), ([(0, 48), (1, 49)], []), ([], [3]), ([], [5]), ([(3, 51), (4, 52)], []), ([], [6]), ([], [4]), ([], [5]), ([(7, 55), (8, 56)], []), ([(6, 54), (9, 57)], []), ([(5, 53), (10, 58)], []), ([(11, 59)], []), ([(2, 50), (12, 60)], []), ([(13, 61)], []), ([], [5]), ([], [7]), ([(15, 63), (16, 64)], []), ([], []), ([], [7]), ([], [5]), ([(19, 67), (20, 68)], []), ([(18, 66), (21, 69)], []), ([(17, 65), (22, 70)], []), ([(14, 62), (23, 71)], [])]
          (fun u => Below w4.heap.size w4 u) (fun u u' => Below u.heap.size u u')
          (Sp [VV (.agg #[.bool x1.s, .slice x1.no x1.nn x1.nc, .slice x1.eo x1.en x1.ec, .bool x2.s, .slice x2.no x2.nn x2.nc, .slice x2.eo x2.en x2.ec, .bool x3.s, .slice x3.no x3.nn x3.nc, .slice x3.eo x3.en x3.ec]), VV (.agg #[.bool y1.s, .slice y1.no y1.nn y1.nc, .slice y1.eo y1.en y1.ec, .bool y2.s, .slice y2.no y2.nn y2.nc, .slice y2.eo y2.en y2.ec, .bool y3.s, .slice y3.no y3.nn y3.nc, .slice y3.eo y3.en y3.ec]), VG ((qa2 + (qk * qb2)) * qy3 - (qa3 + (qk * qb3)) * qy2) ((qa3 + (qk * qb3)) * qy1 - (qa1 + (qk * qb1)) * qy3) ((qa1 + (qk * qb1)) * qy2 - (qa2 + (qk * qb2)) * qy1) (2 * (K + K + (K) + 1) + 1 + (K) + (2 * (K + K + (K) + 1) + 1 + (K)) + 1), VV (.agg #[.bool a1.s, .slice a1.no a1.nn a1.nc, .slice a1.eo a1.en a1.ec, .bool a2.s, .slice a2.no a2.nn a2.nc, .slice a2.eo a2.en a2.ec, .bool a3.s, .slice a3.no a3.nn a3.nc, .slice a3.eo a3.en a3.ec]), VV (.agg #[.bool y1.s, .slice y1.no y1.nn y1.nc, .slice y1.eo y1.en y1.ec, .bool y2.s, .slice y2.no y2.nn y2.nc, .slice y2.eo y2.en y2.ec, .bool y3.s, .slice y3.no y3.nn y3.nc, .slice y3.eo y3.en y3.ec]), VG (qa2 * qy3 - qa3 * qy2) (qa3 * qy1 - qa1 * qy3) (qa1 * qy2 - qa2 * qy1) (K + (K) + (K + (K)) + 1), VV (.agg #[.bool k.s, .slice k.no k.nn k.nc, .slice k.eo k.en k.ec]), VV (.agg #[.bool b1.s, .slice b1.no b1.nn b1.nc, .slice b1.eo b1.en b1.ec, .bool b2.s, .slice b2.no b2.nn b2.nc, .slice b2.eo b2.en b2.ec, .bool b3.s, .slice b3.no b3.nn b3.nc, .slice b3.eo b3.en b3.ec]), VV (.agg #[.bool y1.s, .slice y1.no y1.nn y1.nc, .slice y1.eo y1.en y1.ec, .bool y2.s, .slice y2.no y2.nn y2.nc, .slice y2.eo y2.en y2.ec, .bool y3.s, .slice y3.no y3.nn y3.nc, .slice y3.eo y3.en y3.ec]), VG (qb2 * qy3 - qb3 * qy2) (qb3 * qy1 - qb1 * qy3) (qb1 * qy2 - qb2 * qy1) (K + (K) + (K + (K)) + 1), VG (qk * (qb2 * qy3 - qb3 * qy2)) (qk * (qb3 * qy1 - qb1 * qy3)) (qk * (qb1 * qy2 - qb2 * qy1)) (K + (K + (K) + (K + (K)) + 1)), VW [qa2 * qy3 - qa3 * qy2, qk * (qb2 * qy3 - qb3 * qy2)] [qa3 * qy1 - qa1 * qy3, qk * (qb3 * qy1 - qb1 * qy3)] [qa1 * qy2 - qa2 * qy1, qk * (qb1 * qy2 - qb2 * qy1)] (K + (K) + (K + (K)) + 1 + K + (K + (K) + (K + (K)) + 1)), VG ((qa2 * qy3 - qa3 * qy2) + (qk * (qb2 * qy3 - qb3 * qy2))) ((qa3 * qy1 - qa1 * qy3) + (qk * (qb3 * qy1 - qb1 * qy3))) ((qa1 * qy2 - qa2 * qy1) + (qk * (qb1 * qy2 - qb2 * qy1))) (2 * (K + (K) + (K + (K)) + 1 + K + (K + (K) + (K + (K)) + 1) + 1) + 1), VV (.bool true), VV (.bool true), VV (.agg #[.bool y1.s, .slice y1.no y1.nn y1.nc, .slice y1.eo y1.en y1.ec, .bool y2.s, .slice y2.no y2.nn y2.nc, .slice y2.eo y2.en y2.ec, .bool y3.s, .slice y3.no y3.nn y3.nc, .slice y3.eo y3.en y3.ec]), VV (.agg #[.bool x1.s, .slice x1.no x1.nn x1.nc, .slice x1.eo x1.en x1.ec, .bool x2.s, .slice x2.no x2.nn x2.nc, .slice x2.eo x2.en x2.ec, .bool x3.s, .slice x3.no x3.nn x3.nc, .slice x3.eo x3.en x3.ec]), VG (qy2 * (qa3 + (qk * qb3)) - qy3 * (qa2 + (qk * qb2))) (qy3 * (qa1 + (qk * qb1)) - qy1 * (qa3 + (qk * qb3))) (qy1 * (qa2 + (qk * qb2)) - qy2 * (qa1 + (qk * qb1))) (K + (2 * (K + K + (K) + 1) + 1) + (K + (2 * (K + K + (K) + 1) + 1)) + 1), VC (((((-1) : Int) : Rat) / ((1 : Int) : Rat))) (2), VV (.agg #[.bool x1.s, .slice x1.no x1.nn x1.nc, .slice x1.eo x1.en x1.ec, .bool x2.s, .slice x2.no x2.nn x2.nc, .slice x2.eo x2.en x2.ec, .bool x3.s, .slice x3.no x3.nn x3.nc, .slice x3.eo x3.en x3.ec]), VV (.agg #[.bool y1.s, .slice y1.no y1.nn y1.nc, .slice y1.eo y1.en y1.ec, .bool y2.s, .slice y2.no y2.nn y2.nc, .slice y2.eo y2.en y2.ec, .bool y3.s, .slice y3.no y3.nn y3.nc, .slice y3.eo y3.en y3.ec]), VG ((qa2 + (qk * qb2)) * qy3 - (qa3 + (qk * qb3)) * qy2) ((qa3 + (qk * qb3)) * qy1 - (qa1 + (qk * qb1)) * qy3) ((qa1 + (qk * qb1)) * qy2 - (qa2 + (qk * qb2)) * qy1) (2 * (K + K + (K) + 1) + 1 + (K) + (2 * (K + K + (K) + 1) + 1 + (K)) + 1), VG (((((-1) : Int) : Rat) / ((1 : Int) : Rat)) * ((qa2 + (qk * qb2)) * qy3 - (qa3 + (qk * qb3)) * qy2)) (((((-1) : Int) : Rat) / ((1 : Int) : Rat)) * ((qa3 + (qk * qb3)) * qy1 - (qa1 + (qk * qb1)) * qy3)) (((((-1) : Int) : Rat) / ((1 : Int) : Rat)) * ((qa1 + (qk * qb1)) * qy2 - (qa2 + (qk * qb2)) * qy1)) (2 + (2 * (K + K + (K) + 1) + 1 + (K) + (2 * (K + K + (K) + 1) + 1 + (K)) + 1)), VV (.bool true), VV (.bool true)])
          (by kernel_rfl) rfl (by kernel_rfl) (Below.refl _ _).drew (fun k v u u' _ hg hs => Sp.lasts HLst k v u u' hg hs) ?_ ?_
        · clear HLst
          refine ⟨.inl ⟨by simp, fun ρ u hC hc hf hd ho => ?_⟩, .inl ⟨by simp, fun ρ u hC hc hf hd ho => ?_⟩, .inl ⟨by simp, fun ρ u hC hc hf hd ho => ?_⟩, .inl ⟨by simp, fun ρ u hC hc hf hd ho => ?_⟩, .inl ⟨by simp, fun ρ u hC hc hf hd ho => ?_⟩, .inl ⟨by simp, fun ρ u hC hc hf hd ho => ?_⟩, .inl ⟨by simp, fun ρ u hC hc hf hd ho => ?_⟩, .inl ⟨by simp, fun ρ u hC hc hf hd ho => ?_⟩, .inl ⟨by simp, fun ρ u hC hc hf hd ho => ?_⟩, .inl ⟨by simp, fun ρ u hC hc hf hd ho => ?_⟩, .inl ⟨by simp, fun ρ u hC hc hf hd ho => ?_⟩, .inl ⟨by simp, fun ρ u hC hc hf hd ho => ?_⟩, .inl ⟨by simp, fun ρ u hC hc hf hd ho => ?_⟩, .inl ⟨by simp, fun ρ u hC hc hf hd ho => ?_⟩, .inl ⟨by simp, fun ρ u hC hc hf hd ho => ?_⟩, .inl ⟨guard_of rfl fun _ _ h => h, fun ρ u hC hc hf hd ho => ?_⟩, .inl ⟨guard_of rfl fun _ _ h => h, fun ρ u hC hc hf hd ho => ?_⟩, .inl ⟨guard_of rfl fun _ _ h => h, fun ρ u hC hc hf hd ho => ?_⟩, .inl ⟨guard_of rfl fun _ _ h => h, fun ρ u hC hc hf hd ho => ?_⟩, .inl ⟨guard_of rfl fun _ _ h => h, fun ρ u hC hc hf hd ho => ?_⟩, .inl ⟨guard_of rfl fun _ _ h => h, fun ρ u hC hc hf hd ho => ?_⟩, .inl ⟨guard_of rfl fun _ _ h => h, fun ρ u hC hc hf hd ho => ?_⟩, .inl ⟨guard_of rfl fun _ _ h => h, fun ρ u hC hc hf hd ho => ?_⟩, .inl ⟨guard_of rfl fun _ _ h => h, fun ρ u hC hc hf hd ho => ?_⟩, .inl ⟨by simp, fun ρ u hC hc hf hd ho => ?_⟩, trivial⟩
          · have e7 : ρ (.tmp 7) = .pointer (some ⟨gx, 0, none⟩) := ho 7 (by simp)
            obtain ⟨c0, c1, c2⟩ := (xx2.later hC).c0
            obtain ⟨c3, c4, c5⟩ := (xx2.later hC).c1
            obtain ⟨c6, c7, c8⟩ := (xx2.later hC).c2
            refine Goes.pure (.agg #[.bool x1.s, .slice x1.no x1.nn x1.nc, .slice x1.eo x1.en x1.ec, .bool x2.s, .slice x2.no x2.nn x2.nc, .slice x2.eo x2.en x2.ec, .bool x3.s, .slice x3.no x3.nn x3.nc, .slice x3.eo x3.en x3.ec]) ?_ ⟨hC, Below.refl _ _, rfl⟩
            unfold Goes
            go_simp
          · have e5 : ρ (.tmp 5) = .pointer (some ⟨gy, 0, none⟩) := ho 5 (by simp)
            obtain ⟨c0, c1, c2⟩ := (xgy.later hC).c0
            obtain ⟨c3, c4, c5⟩ := (xgy.later hC).c1
            obtain ⟨c6, c7, c8⟩ := (xgy.later hC).c2
            refine Goes.pure (.agg #[.bool y1.s, .slice y1.no y1.nn y1.nc, .slice y1.eo y1.en y1.ec, .bool y2.s, .slice y2.no y2.nn y2.nc, .slice y2.eo y2.en y2.ec, .bool y3.s, .slice y3.no y3.nn y3.nc, .slice y3.eo y3.en y3.ec]) ?_ ⟨hC, Below.refl _ _, rfl⟩
            unfold Goes
            go_simp
          · have e48 : ρ (.tmp 48) = .agg #[.bool x1.s, .slice x1.no x1.nn x1.nc, .slice x1.eo x1.en x1.ec, .bool x2.s, .slice x2.no x2.nn x2.nc, .slice x2.eo x2.en x2.ec, .bool x3.s, .slice x3.no x3.nn x3.nc, .slice x3.eo x3.en x3.ec] := hd (0, 48) (by simp)
            have e49 : ρ (.tmp 49) = .agg #[.bool y1.s, .slice y1.no y1.nn y1.nc, .slice y1.eo y1.en y1.ec, .bool y2.s, .slice y2.no y2.nn y2.nc, .slice y2.eo y2.en y2.ec, .bool y3.s, .slice y3.no y3.nn y3.nc, .slice y3.eo y3.en y3.ec] := hd (1, 49) (by simp)
            refine Goes.call 19 #[.agg #[.bool x1.s, .slice x1.no x1.nn x1.nc, .slice x1.eo x1.en x1.ec, .bool x2.s, .slice x2.no x2.nn x2.nc, .slice x2.eo x2.en x2.ec, .bool x3.s, .slice x3.no x3.nn x3.nc, .slice x3.eo x3.en x3.ec], .agg #[.bool y1.s, .slice y1.no y1.nn y1.nc, .slice y1.eo y1.en y1.ec, .bool y2.s, .slice y2.no y2.nn y2.nc, .slice y2.eo y2.en y2.ec, .bool y3.s, .slice y3.no y3.nn y3.nc, .slice y3.eo y3.en y3.ec]] (by go_simp) ?_
            refine Calls.mono (vcross_k ((cx2.later hC).rd) (hy.later hC) (by omega) (by omega) (by omega)) ?_
            rintro e u' ⟨ra, rb, rc, rfl, cv, lb⟩
            exact ⟨_, rfl, hC.trans (lb.mono hC.size), lb, ⟨ra, rb, rc, rfl, cv⟩⟩
          · have e3 : ρ (.tmp 3) = .pointer (some ⟨ga, 0, none⟩) := ho 3 (by simp)
            obtain ⟨c0, c1, c2⟩ := (xga.later hC).c0
            obtain ⟨c3, c4, c5⟩ := (xga.later hC).c1
            obtain ⟨c6, c7, c8⟩ := (xga.later hC).c2
            refine Goes.pure (.agg #[.bool a1.s, .slice a1.no a1.nn a1.nc, .slice a1.eo a1.en a1.ec, .bool a2.s, .slice a2.no a2.nn a2.nc, .slice a2.eo a2.en a2.ec, .bool a3.s, .slice a3.no a3.nn a3.nc, .slice a3.eo a3.en a3.ec]) ?_ ⟨hC, Below.refl _ _, rfl⟩
            unfold Goes
            go_simp
          · have e5 : ρ (.tmp 5) = .pointer (some ⟨gy, 0, none⟩) := ho 5 (by simp)
            obtain ⟨c0, c1, c2⟩ := (xgy.later hC).c0
            obtain ⟨c3, c4, c5⟩ := (xgy.later hC).c1
            obtain ⟨c6, c7, c8⟩ := (xgy.later hC).c2
            refine Goes.pure (.agg #[.bool y1.s, .slice y1.no y1.nn y1.nc, .slice y1.eo y1.en y1.ec, .bool y2.s, .slice y2.no y2.nn y2.nc, .slice y2.eo y2.en y2.ec, .bool y3.s, .slice y3.no y3.nn y3.nc, .slice y3.eo y3.en y3.ec]) ?_ ⟨hC, Below.refl _ _, rfl⟩
            unfold Goes
            go_simp
          · have e51 : ρ (.tmp 51) = .agg #[.bool a1.s, .slice a1.no a1.nn a1.nc, .slice a1.eo a1.en a1.ec, .bool a2.s, .slice a2.no a2.nn a2.nc, .slice a2.eo a2.en a2.ec, .bool a3.s, .slice a3.no a3.nn a3.nc, .slice a3.eo a3.en a3.ec] := hd (3, 51) (by simp)
            have e52 : ρ (.tmp 52) = .agg #[.bool y1.s, .slice y1.no y1.nn y1.nc, .slice y1.eo y1.en y1.ec, .bool y2.s, .slice y2.no y2.nn y2.nc, .slice y2.eo y2.en y2.ec, .bool y3.s, .slice y3.no y3.nn y3.nc, .slice y3.eo y3.en y3.ec] := hd (4, 52) (by simp)
            refine Goes.call 19 #[.agg #[.bool a1.s, .slice a1.no a1.nn a1.nc, .slice a1.eo a1.en a1.ec, .bool a2.s, .slice a2.no a2.nn a2.nc, .slice a2.eo a2.en a2.ec, .bool a3.s, .slice a3.no a3.nn a3.nc, .slice a3.eo a3.en a3.ec], .agg #[.bool y1.s, .slice y1.no y1.nn y1.nc, .slice y1.eo y1.en y1.ec, .bool y2.s, .slice y2.no y2.nn y2.nc, .slice y2.eo y2.en y2.ec, .bool y3.s, .slice y3.no y3.nn y3.nc, .slice y3.eo y3.en y3.ec]] (by go_simp) ?_
            refine Calls.mono (vcross_k (ha.later hC) (hy.later hC) (by omega) (by omega) (by omega)) ?_
            rintro e u' ⟨ra, rb, rc, rfl, cv, lb⟩
            exact ⟨_, rfl, hC.trans (lb.mono hC.size), lb, ⟨ra, rb, rc, rfl, cv⟩⟩
          · have e6 : ρ (.tmp 6) = .pointer (some ⟨gk, 0, none⟩) := ho 6 (by simp)
            obtain ⟨c0, c1, c2⟩ := (xgk.later hC).cells
            refine Goes.pure (.agg #[.bool k.s, .slice k.no k.nn k.nc, .slice k.eo k.en k.ec]) ?_ ⟨hC, Below.refl _ _, rfl⟩
            unfold Goes
            go_simp
          · have e4 : ρ (.tmp 4) = .pointer (some ⟨gb, 0, none⟩) := ho 4 (by simp)
            obtain ⟨c0, c1, c2⟩ := (xgb.later hC).c0
            obtain ⟨c3, c4, c5⟩ := (xgb.later hC).c1
            obtain ⟨c6, c7, c8⟩ := (xgb.later hC).c2
            refine Goes.pure (.agg #[.bool b1.s, .slice b1.no b1.nn b1.nc, .slice b1.eo b1.en b1.ec, .bool b2.s, .slice b2.no b2.nn b2.nc, .slice b2.eo b2.en b2.ec, .bool b3.s, .slice b3.no b3.nn b3.nc, .slice b3.eo b3.en b3.ec]) ?_ ⟨hC, Below.refl _ _, rfl⟩
            unfold Goes
            go_simp
          · have e5 : ρ (.tmp 5) = .pointer (some ⟨gy, 0, none⟩) := ho 5 (by simp)
            obtain ⟨c0, c1, c2⟩ := (xgy.later hC).c0
            obtain ⟨c3, c4, c5⟩ := (xgy.later hC).c1
            obtain ⟨c6, c7, c8⟩ := (xgy.later hC).c2
            refine Goes.pure (.agg #[.bool y1.s, .slice y1.no y1.nn y1.nc, .slice y1.eo y1.en y1.ec, .bool y2.s, .slice y2.no y2.nn y2.nc, .slice y2.eo y2.en y2.ec, .bool y3.s, .slice y3.no y3.nn y3.nc, .slice y3.eo y3.en y3.ec]) ?_ ⟨hC, Below.refl _ _, rfl⟩
            unfold Goes
            go_simp
          · have e55 : ρ (.tmp 55) = .agg #[.bool b1.s, .slice b1.no b1.nn b1.nc, .slice b1.eo b1.en b1.ec, .bool b2.s, .slice b2.no b2.nn b2.nc, .slice b2.eo b2.en b2.ec, .bool b3.s, .slice b3.no b3.nn b3.nc, .slice b3.eo b3.en b3.ec] := hd (7, 55) (by simp)
            have e56 : ρ (.tmp 56) = .agg #[.bool y1.s, .slice y1.no y1.nn y1.nc, .slice y1.eo y1.en y1.ec, .bool y2.s, .slice y2.no y2.nn y2.nc, .slice y2.eo y2.en y2.ec, .bool y3.s, .slice y3.no y3.nn y3.nc, .slice y3.eo y3.en y3.ec] := hd (8, 56) (by simp)
            refine Goes.call 19 #[.agg #[.bool b1.s, .slice b1.no b1.nn b1.nc, .slice b1.eo b1.en b1.ec, .bool b2.s, .slice b2.no b2.nn b2.nc, .slice b2.eo b2.en b2.ec, .bool b3.s, .slice b3.no b3.nn b3.nc, .slice b3.eo b3.en b3.ec], .agg #[.bool y1.s, .slice y1.no y1.nn y1.nc, .slice y1.eo y1.en y1.ec, .bool y2.s, .slice y2.no y2.nn y2.nc, .slice y2.eo y2.en y2.ec, .bool y3.s, .slice y3.no y3.nn y3.nc, .slice y3.eo y3.en y3.ec]] (by go_simp) ?_
            refine Calls.mono (vcross_k (hb.later hC) (hy.later hC) (by omega) (by omega) (by omega)) ?_
            rintro e u' ⟨ra, rb, rc, rfl, cv, lb⟩
            exact ⟨_, rfl, hC.trans (lb.mono hC.size), lb, ⟨ra, rb, rc, rfl, cv⟩⟩
          · have e54 : ρ (.tmp 54) = .agg #[.bool k.s, .slice k.no k.nn k.nc, .slice k.eo k.en k.ec] := hd (6, 54) (by simp)
            obtain ⟨ra57, rb57, rc57, e57, k57⟩ : VG (qb2 * qy3 - qb3 * qy2) (qb3 * qy1 - qb1 * qy3) (qb1 * qy2 - qb2 * qy1) (K + (K) + (K + (K)) + 1) (ρ (.tmp 57)) u := hd (9, 57) (by simp)
            refine Goes.call 14 #[.agg #[.bool k.s, .slice k.no k.nn k.nc, .slice k.eo k.en k.ec], .agg #[.bool ra57.s, .slice ra57.no ra57.nn ra57.nc, .slice ra57.eo ra57.en ra57.ec, .bool rb57.s, .slice rb57.no rb57.nn rb57.nc, .slice rb57.eo rb57.en rb57.ec, .bool rc57.s, .slice rc57.no rc57.nn rc57.nc, .slice rc57.eo rc57.en rc57.ec]] (by go_simp) ?_
            refine Calls.mono (vscale_k (k := ⟨k.s, k.no, k.nn, k.nc, k.eo, k.en, k.ec⟩) ((hk.later hC)) (k57.rd) (by omega) (by omega) (by omega)) ?_
            rintro e u' ⟨ra, rb, rc, rfl, cv, lb⟩
            exact ⟨_, rfl, hC.trans (lb.mono hC.size), lb, ⟨ra, rb, rc, rfl, cv⟩⟩
          · obtain ⟨ra53, rb53, rc53, e53, k53⟩ : VG (qa2 * qy3 - qa3 * qy2) (qa3 * qy1 - qa1 * qy3) (qa1 * qy2 - qa2 * qy1) (K + (K) + (K + (K)) + 1) (ρ (.tmp 53)) u := hd (5, 53) (by simp)
            obtain ⟨ra58, rb58, rc58, e58, k58⟩ : VG (qk * (qb2 * qy3 - qb3 * qy2)) (qk * (qb3 * qy1 - qb1 * qy3)) (qk * (qb1 * qy2 - qb2 * qy1)) (K + (K + (K) + (K + (K)) + 1)) (ρ (.tmp 58)) u := hd (10, 58) (by simp)
            have lb : Below u.heap.size u (u.alloc (.cells #[.bool ra53.s, .slice ra53.no ra53.nn ra53.nc, .slice ra53.eo ra53.en ra53.ec, .bool rb53.s, .slice rb53.no rb53.nn rb53.nc, .slice rb53.eo rb53.en rb53.ec, .bool rc53.s, .slice rc53.no rc53.nn rc53.nc, .slice rc53.eo rc53.en rc53.ec, .bool ra58.s, .slice ra58.no ra58.nn ra58.nc, .slice ra58.eo ra58.en ra58.ec, .bool rb58.s, .slice rb58.no rb58.nn rb58.nc, .slice rb58.eo rb58.en rb58.ec, .bool rc58.s, .slice rc58.no rc58.nn rc58.nc, .slice rc58.eo rc58.en rc58.ec] 26)) := (Below.refl _ _).alloc (Nat.le_refl _) _
            refine Goes.run (.slice (some ⟨u.heap.size, 0, none⟩) 2 2) (u.alloc (.cells #[.bool ra53.s, .slice ra53.no ra53.nn ra53.nc, .slice ra53.eo ra53.en ra53.ec, .bool rb53.s, .slice rb53.no rb53.nn rb53.nc, .slice rb53.eo rb53.en rb53.ec, .bool rc53.s, .slice rc53.no rc53.nn rc53.nc, .slice rc53.eo rc53.en rc53.ec, .bool ra58.s, .slice ra58.no ra58.nn ra58.nc, .slice ra58.eo ra58.en ra58.ec, .bool rb58.s, .slice rb58.no rb58.nn rb58.nc, .slice rb58.eo rb58.en rb58.ec, .bool rc58.s, .slice rc58.no rc58.nn rc58.nc, .slice rc58.eo rc58.en rc58.ec] 26)) (by go_simp) ⟨hC.trans (lb.mono hC.size), lb, ?_⟩
            exact VW.made [⟨ra53, rb53, rc53⟩, ⟨ra58, rb58, rc58⟩] [qa2 * qy3 - qa3 * qy2, qk * (qb2 * qy3 - qb3 * qy2)] [qa3 * qy1 - qa1 * qy3, qk * (qb3 * qy1 - qb1 * qy3)] [qa1 * qy2 - qa2 * qy1, qk * (qb1 * qy2 - qb2 * qy1)] ⟨((k53.rd).mono (K' := K + (K) + (K + (K)) + 1 + K + (K + (K) + (K + (K)) + 1)) (by omega)).x, ((k58.rd).mono (K' := K + (K) + (K + (K)) + 1 + K + (K + (K) + (K + (K)) + 1)) (by omega)).x, trivial⟩ ⟨((k53.rd).mono (K' := K + (K) + (K + (K)) + 1 + K + (K + (K) + (K + (K)) + 1)) (by omega)).y, ((k58.rd).mono (K' := K + (K) + (K + (K)) + 1 + K + (K + (K) + (K + (K)) + 1)) (by omega)).y, trivial⟩ ⟨((k53.rd).mono (K' := K + (K) + (K + (K)) + 1 + K + (K + (K) + (K + (K)) + 1)) (by omega)).z, ((k58.rd).mono (K' := K + (K) + (K + (K)) + 1 + K + (K + (K) + (K + (K)) + 1)) (by omega)).z, trivial⟩ _ rfl 2 rfl
          · have k59 : VW [qa2 * qy3 - qa3 * qy2, qk * (qb2 * qy3 - qb3 * qy2)] [qa3 * qy1 - qa1 * qy3, qk * (qb3 * qy1 - qb1 * qy3)] [qa1 * qy2 - qa2 * qy1, qk * (qb1 * qy2 - qb2 * qy1)] (K + (K) + (K + (K)) + 1 + K + (K + (K) + (K + (K)) + 1)) (ρ (.tmp 59)) u := hd (11, 59) (by simp)
            refine Goes.call 10 #[ρ (.tmp 59)] (by go_simp) ?_
            refine Calls.mono (vsum_k k59 (by omega) (by simp only [List.length_cons, List.length_nil]; omega)) ?_
            rintro e u' ⟨ra, rb, rc, rfl, cv, lb⟩
            exact ⟨_, rfl, hC.trans (lb.mono hC.size), lb, ⟨ra, rb, rc, rfl, by simp only [qsum2] at cv; exact cv.mono (by simp only [List.length_cons, List.length_nil]; omega)⟩⟩
          · obtain ⟨ra50, rb50, rc50, e50, k50⟩ : VG ((qa2 + (qk * qb2)) * qy3 - (qa3 + (qk * qb3)) * qy2) ((qa3 + (qk * qb3)) * qy1 - (qa1 + (qk * qb1)) * qy3) ((qa1 + (qk * qb1)) * qy2 - (qa2 + (qk * qb2)) * qy1) (2 * (K + K + (K) + 1) + 1 + (K) + (2 * (K + K + (K) + 1) + 1 + (K)) + 1) (ρ (.tmp 50)) u := hd (2, 50) (by simp)
            obtain ⟨ra60, rb60, rc60, e60, k60⟩ : VG ((qa2 * qy3 - qa3 * qy2) + (qk * (qb2 * qy3 - qb3 * qy2))) ((qa3 * qy1 - qa1 * qy3) + (qk * (qb3 * qy1 - qb1 * qy3))) ((qa1 * qy2 - qa2 * qy1) + (qk * (qb1 * qy2 - qb2 * qy1))) (2 * (K + (K) + (K + (K)) + 1 + K + (K + (K) + (K + (K)) + 1) + 1) + 1) (ρ (.tmp 60)) u := hd (12, 60) (by simp)
            refine Goes.call 9 #[.agg #[.bool ra50.s, .slice ra50.no ra50.nn ra50.nc, .slice ra50.eo ra50.en ra50.ec, .bool rb50.s, .slice rb50.no rb50.nn rb50.nc, .slice rb50.eo rb50.en rb50.ec, .bool rc50.s, .slice rc50.no rc50.nn rc50.nc, .slice rc50.eo rc50.en rc50.ec], .agg #[.bool ra60.s, .slice ra60.no ra60.nn ra60.nc, .slice ra60.eo ra60.en ra60.ec, .bool rb60.s, .slice rb60.no rb60.nn rb60.nc, .slice rb60.eo rb60.en rb60.ec, .bool rc60.s, .slice rc60.no rc60.nn rc60.nc, .slice rc60.eo rc60.en rc60.ec]] (by go_simp) ?_
            refine Calls.mono (vis5 (k50) (k60) (by omega) (by omega)) ?_
            rintro e u' ⟨r, rfl, HR, lb⟩
            exact ⟨_, rfl, hC.trans (lb.mono hC.size), lb, by rw [HR.out.2 ⟨by grind, by grind, by grind⟩]; rfl⟩
          · have e61 : ρ (.tmp 61) = .bool true := hd (13, 61) (by simp)
            refine Goes.pure (.bool true) ?_ ⟨hC, Below.refl _ _, rfl⟩
            unfold Goes
            go_simp
          · have e5 : ρ (.tmp 5) = .pointer (some ⟨gy, 0, none⟩) := ho 5 (by simp)
            obtain ⟨c0, c1, c2⟩ := (xgy.later hC).c0
            obtain ⟨c3, c4, c5⟩ := (xgy.later hC).c1
            obtain ⟨c6, c7, c8⟩ := (xgy.later hC).c2
            refine Goes.pure (.agg #[.bool y1.s, .slice y1.no y1.nn y1.nc, .slice y1.eo y1.en y1.ec, .bool y2.s, .slice y2.no y2.nn y2.nc, .slice y2.eo y2.en y2.ec, .bool y3.s, .slice y3.no y3.nn y3.nc, .slice y3.eo y3.en y3.ec]) ?_ ⟨hC, Below.refl _ _, rfl⟩
            unfold Goes
            go_simp
          · have e7 : ρ (.tmp 7) = .pointer (some ⟨gx, 0, none⟩) := ho 7 (by simp)
            obtain ⟨c0, c1, c2⟩ := (xx2.later hC).c0
            obtain ⟨c3, c4, c5⟩ := (xx2.later hC).c1
            obtain ⟨c6, c7, c8⟩ := (xx2.later hC).c2
            refine Goes.pure (.agg #[.bool x1.s, .slice x1.no x1.nn x1.nc, .slice x1.eo x1.en x1.ec, .bool x2.s, .slice x2.no x2.nn x2.nc, .slice x2.eo x2.en x2.ec, .bool x3.s, .slice x3.no x3.nn x3.nc, .slice x3.eo x3.en x3.ec]) ?_ ⟨hC, Below.refl _ _, rfl⟩
            unfold Goes
            go_simp
          · have e63 : ρ (.tmp 63) = .agg #[.bool y1.s, .slice y1.no y1.nn y1.nc, .slice y1.eo y1.en y1.ec, .bool y2.s, .slice y2.no y2.nn y2.nc, .slice y2.eo y2.en y2.ec, .bool y3.s, .slice y3.no y3.nn y3.nc, .slice y3.eo y3.en y3.ec] := hd (15, 63) (by simp)
            have e64 : ρ (.tmp 64) = .agg #[.bool x1.s, .slice x1.no x1.nn x1.nc, .slice x1.eo x1.en x1.ec, .bool x2.s, .slice x2.no x2.nn x2.nc, .slice x2.eo x2.en x2.ec, .bool x3.s, .slice x3.no x3.nn x3.nc, .slice x3.eo x3.en x3.ec] := hd (16, 64) (by simp)
            refine Goes.call 19 #[.agg #[.bool y1.s, .slice y1.no y1.nn y1.nc, .slice y1.eo y1.en y1.ec, .bool y2.s, .slice y2.no y2.nn y2.nc, .slice y2.eo y2.en y2.ec, .bool y3.s, .slice y3.no y3.nn y3.nc, .slice y3.eo y3.en y3.ec], .agg #[.bool x1.s, .slice x1.no x1.nn x1.nc, .slice x1.eo x1.en x1.ec, .bool x2.s, .slice x2.no x2.nn x2.nc, .slice x2.eo x2.en x2.ec, .bool x3.s, .slice x3.no x3.nn x3.nc, .slice x3.eo x3.en x3.ec]] (by go_simp) ?_
            refine Calls.mono (vcross_k (hy.later hC) ((cx2.later hC).rd) (by omega) (by omega) (by omega)) ?_
            rintro e u' ⟨ra, rb, rc, rfl, cv, lb⟩
            exact ⟨_, rfl, hC.trans (lb.mono hC.size), lb, ⟨ra, rb, rc, rfl, cv⟩⟩
          · refine Goes.call 30 #[Value.int IntKind.i64 (-1), .int .i64 1] (by go_simp) ?_
            refine Calls.mono (ratOf_k (-1) 1 (by omega) (by omega) (by omega) (by omega)) ?_
            rintro e u' ⟨s1, no1, nn1, nc1, eo1, en1, ec1, rfl, cq, lb⟩
            exact ⟨_, rfl, hC.trans (lb.mono hC.size), lb, ⟨s1, no1, nn1, nc1, eo1, en1, ec1, rfl, cq⟩⟩
          · have e7 : ρ (.tmp 7) = .pointer (some ⟨gx, 0, none⟩) := ho 7 (by simp)
            obtain ⟨c0, c1, c2⟩ := (xx2.later hC).c0
            obtain ⟨c3, c4, c5⟩ := (xx2.later hC).c1
            obtain ⟨c6, c7, c8⟩ := (xx2.later hC).c2
            refine Goes.pure (.agg #[.bool x1.s, .slice x1.no x1.nn x1.nc, .slice x1.eo x1.en x1.ec, .bool x2.s, .slice x2.no x2.nn x2.nc, .slice x2.eo x2.en x2.ec, .bool x3.s, .slice x3.no x3.nn x3.nc, .slice x3.eo x3.en x3.ec]) ?_ ⟨hC, Below.refl _ _, rfl⟩
            unfold Goes
            go_simp
          · have e5 : ρ (.tmp 5) = .pointer (some ⟨gy, 0, none⟩) := ho 5 (by simp)
            obtain ⟨c0, c1, c2⟩ := (xgy.later hC).c0
            obtain ⟨c3, c4, c5⟩ := (xgy.later hC).c1
            obtain ⟨c6, c7, c8⟩ := (xgy.later hC).c2
            refine Goes.pure (.agg #[.bool y1.s, .slice y1.no y1.nn y1.nc, .slice y1.eo y1.en y1.ec, .bool y2.s, .slice y2.no y2.nn y2.nc, .slice y2.eo y2.en y2.ec, .bool y3.s, .slice y3.no y3.nn y3.nc, .slice y3.eo y3.en y3.ec]) ?_ ⟨hC, Below.refl _ _, rfl⟩
            unfold Goes
            go_simp
          · have e67 : ρ (.tmp 67) = .agg #[.bool x1.s, .slice x1.no x1.nn x1.nc, .slice x1.eo x1.en x1.ec, .bool x2.s, .slice x2.no x2.nn x2.nc, .slice x2.eo x2.en x2.ec, .bool x3.s, .slice x3.no x3.nn x3.nc, .slice x3.eo x3.en x3.ec] := hd (19, 67) (by simp)
            have e68 : ρ (.tmp 68) = .agg #[.bool y1.s, .slice y1.no y1.nn y1.nc, .slice y1.eo y1.en y1.ec, .bool y2.s, .slice y2.no y2.nn y2.nc, .slice y2.eo y2.en y2.ec, .bool y3.s, .slice y3.no y3.nn y3.nc, .slice y3.eo y3.en y3.ec] := hd (20, 68) (by simp)
            refine Goes.call 19 #[.agg #[.bool x1.s, .slice x1.no x1.nn x1.nc, .slice x1.eo x1.en x1.ec, .bool x2.s, .slice x2.no x2.nn x2.nc, .slice x2.eo x2.en x2.ec, .bool x3.s, .slice x3.no x3.nn x3.nc, .slice x3.eo x3.en x3.ec], .agg #[.bool y1.s, .slice y1.no y1.nn y1.nc, .slice y1.eo y1.en y1.ec, .bool y2.s, .slice y2.no y2.nn y2.nc, .slice y2.eo y2.en y2.ec, .bool y3.s, .slice y3.no y3.nn y3.nc, .slice y3.eo y3.en y3.ec]] (by go_simp) ?_
            refine Calls.mono (vcross_k ((cx2.later hC).rd) (hy.later hC) (by omega) (by omega) (by omega)) ?_
            rintro e u' ⟨ra, rb, rc, rfl, cv, lb⟩
            exact ⟨_, rfl, hC.trans (lb.mono hC.size), lb, ⟨ra, rb, rc, rfl, cv⟩⟩
          · obtain ⟨s66, no66, nn66, nc66, eo66, en66, ec66, e66, k66⟩ : VC (((((-1) : Int) : Rat) / ((1 : Int) : Rat))) (2) (ρ (.tmp 66)) u := hd (18, 66) (by simp)
            obtain ⟨ra69, rb69, rc69, e69, k69⟩ : VG ((qa2 + (qk * qb2)) * qy3 - (qa3 + (qk * qb3)) * qy2) ((qa3 + (qk * qb3)) * qy1 - (qa1 + (qk * qb1)) * qy3) ((qa1 + (qk * qb1)) * qy2 - (qa2 + (qk * qb2)) * qy1) (2 * (K + K + (K) + 1) + 1 + (K) + (2 * (K + K + (K) + 1) + 1 + (K)) + 1) (ρ (.tmp 69)) u := hd (21, 69) (by simp)
            refine Goes.call 14 #[.agg #[.bool s66, .slice no66 nn66 nc66, .slice eo66 en66 ec66], .agg #[.bool ra69.s, .slice ra69.no ra69.nn ra69.nc, .slice ra69.eo ra69.en ra69.ec, .bool rb69.s, .slice rb69.no rb69.nn rb69.nc, .slice rb69.eo rb69.en rb69.ec, .bool rc69.s, .slice rc69.no rc69.nn rc69.nc, .slice rc69.eo rc69.en rc69.ec]] (by go_simp) ?_
            refine Calls.mono (vscale_k (k := ⟨s66, no66, nn66, nc66, eo66, en66, ec66⟩) (k66.rd) (k69.rd) (by omega) (by omega) (by omega)) ?_
            rintro e u' ⟨ra, rb, rc, rfl, cv, lb⟩
            exact ⟨_, rfl, hC.trans (lb.mono hC.size), lb, ⟨ra, rb, rc, rfl, cv⟩⟩
          · obtain ⟨ra65, rb65, rc65, e65, k65⟩ : VG (qy2 * (qa3 + (qk * qb3)) - qy3 * (qa2 + (qk * qb2))) (qy3 * (qa1 + (qk * qb1)) - qy1 * (qa3 + (qk * qb3))) (qy1 * (qa2 + (qk * qb2)) - qy2 * (qa1 + (qk * qb1))) (K + (2 * (K + K + (K) + 1) + 1) + (K + (2 * (K + K + (K) + 1) + 1)) + 1) (ρ (.tmp 65)) u := hd (17, 65) (by simp)
            obtain ⟨ra70, rb70, rc70, e70, k70⟩ : VG (((((-1) : Int) : Rat) / ((1 : Int) : Rat)) * ((qa2 + (qk * qb2)) * qy3 - (qa3 + (qk * qb3)) * qy2)) (((((-1) : Int) : Rat) / ((1 : Int) : Rat)) * ((qa3 + (qk * qb3)) * qy1 - (qa1 + (qk * qb1)) * qy3)) (((((-1) : Int) : Rat) / ((1 : Int) : Rat)) * ((qa1 + (qk * qb1)) * qy2 - (qa2 + (qk * qb2)) * qy1)) (2 + (2 * (K + K + (K) + 1) + 1 + (K) + (2 * (K + K + (K) + 1) + 1 + (K)) + 1)) (ρ (.tmp 70)) u := hd (22, 70) (by simp)
            refine Goes.call 9 #[.agg #[.bool ra65.s, .slice ra65.no ra65.nn ra65.nc, .slice ra65.eo ra65.en ra65.ec, .bool rb65.s, .slice rb65.no rb65.nn rb65.nc, .slice rb65.eo rb65.en rb65.ec, .bool rc65.s, .slice rc65.no rc65.nn rc65.nc, .slice rc65.eo rc65.en rc65.ec], .agg #[.bool ra70.s, .slice ra70.no ra70.nn ra70.nc, .slice ra70.eo ra70.en ra70.ec, .bool rb70.s, .slice rb70.no rb70.nn rb70.nc, .slice rb70.eo rb70.en rb70.ec, .bool rc70.s, .slice rc70.no rc70.nn rc70.nc, .slice rc70.eo rc70.en rc70.ec]] (by go_simp) ?_
            refine Calls.mono (vis5 (k65) (k70) (by omega) (by omega)) ?_
            rintro e u' ⟨r, rfl, HR, lb⟩
            exact ⟨_, rfl, hC.trans (lb.mono hC.size), lb, by rw [HR.out.2 ⟨by rw [hs1]; grind, by rw [hs1]; grind, by rw [hs1]; grind⟩]; rfl⟩
          · have e62 : ρ (.tmp 62) = .bool true := hd (14, 62) (by simp)
            have e71 : ρ (.tmp 71) = .bool true := hd (23, 71) (by simp)
            refine Goes.pure (.bool true) ?_ ⟨hC, Below.refl _ _, rfl⟩
            unfold Goes
            go_simp
        · intro vs u lb hv
          have eR : vs 24 = .bool true := hv 24 (by omega)
          clear hv
          simp only [puts, List.take, List.drop, Act.put, List.setIfInBounds_toArray, List.set_cons_succ, List.set_cons_zero, Nat.reduceAdd, eR]
          clear eR
          go_wp2
          obtain ⟨w5, rfl⟩ : ∃ w5, w5 = u := ⟨_, rfl⟩
          replace ha := ha.later lb
          replace hb := hb.later lb
          replace hy := hy.later lb
          replace hk := hk.later lb
          replace xga := xga.later lb
          replace xgb := xgb.later lb
          replace xgy := xgy.later lb
          replace xgk := xgk.later lb
          replace xx2 := xx2.later lb
          replace cx2 := cx2.later lb
          have B5 := B4.trans (lb.mono B4.size)
          clear B4 lb
          have HLst : Lst [VV (.bool true), VV (.bool true), VV (.bool true), VV (.bool true), VV (.bool true), VV (.bool true), VV (.bool true), VV (.bool true), VV (.agg #[.bool a1.s, .slice a1.no a1.nn a1.nc, .slice a1.eo a1.en a1.ec, .bool a2.s, .slice a2.no a2.nn a2.nc, .slice a2.eo a2.en a2.ec, .bool a3.s, .slice a3.no a3.nn a3.nc, .slice a3.eo a3.en a3.ec]), VV (.agg #[.bool b1.s, .slice b1.no b1.nn b1.nc, .slice b1.eo b1.en b1.ec, .bool b2.s, .slice b2.no b2.nn b2.nc, .slice b2.eo b2.en b2.ec, .bool b3.s, .slice b3.no b3.nn b3.nc, .slice b3.eo b3.en b3.ec]), VV (.agg #[.bool y1.s, .slice y1.no y1.nn y1.nc, .slice y1.eo y1.en y1.ec, .bool y2.s, .slice y2.no y2.nn y2.nc, .slice y2.eo y2.en y2.ec, .bool y3.s, .slice y3.no y3.nn y3.nc, .slice y3.eo y3.en y3.ec]), VW [qa1, qb1, qy1] [qa2, qb2, qy2] [qa3, qb3, qy3] (K), VG (qa1 + qb1 + qy1) (qa2 + qb2 + qy2) (qa3 + qb3 + qy3) (3 * (K + 1) + 1), VV (.agg #[.bool y1.s, .slice y1.no y1.nn y1.nc, .slice y1.eo y1.en y1.ec, .bool y2.s, .slice y2.no y2.nn y2.nc, .slice y2.eo y2.en y2.ec, .bool y3.s, .slice y3.no y3.nn y3.nc, .slice y3.eo y3.en y3.ec]), VG ((qa1 + qb1 + qy1) - qy1) ((qa2 + qb2 + qy2) - qy2) ((qa3 + qb3 + qy3) - qy3) (3 * (K + 1) + 1 + (K) + 1), VV (.agg #[.bool b1.s, .slice b1.no b1.nn b1.nc, .slice b1.eo b1.en b1.ec, .bool b2.s, .slice b2.no b2.nn b2.nc, .slice b2.eo b2.en b2.ec, .bool b3.s, .slice b3.no b3.nn b3.nc, .slice b3.eo b3.en b3.ec]), VV (.agg #[.bool a1.s, .slice a1.no a1.nn a1.nc, .slice a1.eo a1.en a1.ec, .bool a2.s, .slice a2.no a2.nn a2.nc, .slice a2.eo a2.en a2.ec, .bool a3.s, .slice a3.no a3.nn a3.nc, .slice a3.eo a3.en a3.ec]), VW [qb1, qa1] [qb2, qa2] [qb3, qa3] (K), VG (qb1 + qa1) (qb2 + qa2) (qb3 + qa3) (2 * (K + 1) + 1), VV (.bool true), VV (.bool true)] := ⟨VV.lasts _, VV.lasts _, VV.lasts _, VV.lasts _, VV.lasts _, VV.lasts _, VV.lasts _, VV.lasts _, VV.lasts _, VV.lasts _, VV.lasts _, VW.lasts _ _ _ _, VG.lasts _ _ _ _, VV.lasts _, VG.lasts _ _ _ _, VV.lasts _, VV.lasts _, VW.lasts _ _ _ _, VG.lasts _ _ _ _, VV.lasts _, VV.lasts _, trivial⟩
          refine wp_region_kahn 21 94 [([], []), ([(0, 73)], []), ([], [8]), ([(1, 74), (2, 75)], []), ([(3, 76)], []), ([], [9]), ([(4, 77), (5, 78)], []), ([(6, 79)], []), ([], [3]), ([], [4]), ([], [5]), ([(8, 81), (9, 82), (10, 83)], []), ([(11, 84)], []), ([], [5]), ([(12, 85), (13, 86)], []), ([], [4]), ([], [3]), ([(15, 88), (16, 89)], []), ([(17, 90)], []), ([(14, 87), (18, 91)], []), ([(7, 80), (19, 92)], [])]
            (fun u => Below w5.heap.size w5 u) (fun u u' => Below u.heap.size u u')
            (Sp [VV (.bool true), VV (.bool true), VV (.bool true), VV (.bool true), VV (.bool true), VV (.bool true), VV (.bool true), VV (.bool true), VV (.agg #[.bool a1.s, .slice a1.no a1.nn a1.nc, .slice a1.eo a1.en a1.ec, .bool a2.s, .slice a2.no a2.nn a2.nc, .slice a2.eo a2.en a2.ec, .bool a3.s, .slice a3.no a3.nn a3.nc, .slice a3.eo a3.en a3.ec]), VV (.agg #[.bool b1.s, .slice b1.no b1.nn b1.nc, .slice b1.eo b1.en b1.ec, .bool b2.s, .slice b2.no b2.nn b2.nc, .slice b2.eo b2.en b2.ec, .bool b3.s, .slice b3.no b3.nn b3.nc, .slice b3.eo b3.en b3.ec]), VV (.agg #[.bool y1.s, .slice y1.no y1.nn y1.nc, .slice y1.eo y1.en y1.ec, .bool y2.s, .slice y2.no y2.nn y2.nc, .slice y2.eo y2.en y2.ec, .bool y3.s, .slice y3.no y3.nn y3.nc, .slice y3.eo y3.en y3.ec]), VW [qa1, qb1, qy1] [qa2, qb2, qy2] [qa3, qb3, qy3] (K), VG (qa1 + qb1 + qy1) (qa2 + qb2 + qy2) (qa3 + qb3 + qy3) (3 * (K + 1) + 1), VV (.agg #[.bool y1.s, .slice y1.no y1.nn y1.nc, .slice y1.eo y1.en y1.ec, .bool y2.s, .slice y2.no y2.nn y2.nc, .slice y2.eo y2.en y2.ec, .bool y3.s, .slice y3.no y3.nn y3.nc, .slice y3.eo y3.en y3.ec]), VG ((qa1 + qb1 + qy1) - qy1) ((qa2 + qb2 + qy2) - qy2) ((qa3 + qb3 + qy3) - qy3) (3 * (K + 1) + 1 + (K) + 1), VV (.agg #[.bool b1.s, .slice b1.no b1.nn b1.nc, .slice b1.eo b1.en b1.ec, .bool b2.s, .slice b2.no b2.nn b2.nc, .slice b2.eo b2.en b2.ec, .bool b3.s, .slice b3.no b3.nn b3.nc, .slice b3.eo b3.en b3.ec]), VV (.agg #[.bool a1.s, .slice a1.no a1.nn a1.nc, .slice a1.eo a1.en a1.ec, .bool a2.s, .slice a2.no a2.nn a2.nc, .slice a2.eo a2.en a2.ec, .bool a3.s, .slice a3.no a3.nn a3.nc, .slice a3.eo a3.en a3.ec]), VW [qb1, qa1] [qb2, qa2] [qb3, qa3] (K), VG (qb1 + qa1) (qb2 + qa2) (qb3 + qa3) (2 * (K + 1) + 1), VV (.bool true), VV (.bool true)])
            (by kernel_rfl) rfl (by kernel_rfl) (Below.refl _ _).drew (fun k v u u' _ hg hs => Sp.lasts HLst k v u u' hg hs) ?_ ?_
          · clear HLst
            refine ⟨.inl ⟨by simp, fun ρ u hC hc hf hd ho => ?_⟩, .inl ⟨by simp, fun ρ u hC hc hf hd ho => ?_⟩, .inl ⟨guard_of rfl fun _ _ h => h, fun ρ u hC hc hf hd ho => ?_⟩, .inl ⟨by simp, fun ρ u hC hc hf hd ho => ?_⟩, .inl ⟨by simp, fun ρ u hC hc hf hd ho => ?_⟩, .inl ⟨guard_of rfl fun _ _ h => h, fun ρ u hC hc hf hd ho => ?_⟩, .inl ⟨by simp, fun ρ u hC hc hf hd ho => ?_⟩, .inl ⟨by simp, fun ρ u hC hc hf hd ho => ?_⟩, .inl ⟨guard_of rfl fun _ _ h => h, fun ρ u hC hc hf hd ho => ?_⟩, .inl ⟨guard_of rfl fun _ _ h => h, fun ρ u hC hc hf hd ho => ?_⟩, .inl ⟨guard_of rfl fun _ _ h => h, fun ρ u hC hc hf hd ho => ?_⟩, .inl ⟨guard_of rfl fun _ _ h => h, fun ρ u hC hc hf hd ho => ?_⟩, .inl ⟨guard_of rfl fun _ _ h => h, fun ρ u hC hc hf hd ho => ?_⟩, .inl ⟨guard_of rfl fun _ _ h => h, fun ρ u hC hc hf hd ho => ?_⟩, .inl ⟨guard_of rfl fun _ _ h => h, fun ρ u hC hc hf hd ho => ?_⟩, .inl ⟨guard_of rfl fun _ _ h => h, fun ρ u hC hc hf hd ho => ?_⟩, .inl ⟨guard_of rfl fun _ _ h => h, fun ρ u hC hc hf hd ho => ?_⟩, .inl ⟨guard_of rfl fun _ _ h => h, fun ρ u hC hc hf hd ho => ?_⟩, .inl ⟨guard_of rfl fun _ _ h => h, fun ρ u hC hc hf hd ho => ?_⟩, .inl ⟨guard_of rfl fun _ _ h => h, fun ρ u hC hc hf hd ho => ?_⟩, .inl ⟨by simp, fun ρ u hC hc hf hd ho => ?_⟩, trivial⟩
            · refine Goes.call 8 #[] (by go_simp) ?_
              refine Calls.mono (fixed5_any u) ?_
              rintro e u' ⟨rfl, lb⟩
              exact ⟨_, rfl, hC.trans (lb.mono hC.size), lb, rfl⟩
            · have e73 : ρ (.tmp 73) = .bool true := hd (0, 73) (by simp)
              refine Goes.pure (.bool true) ?_ ⟨hC, Below.refl _ _, rfl⟩
              unfold Goes
              go_simp
            · have e8 : ρ (.tmp 8) = .bool true := ho 8 (by simp)
              refine Goes.pure (.bool true) ?_ ⟨hC, Below.refl _ _, rfl⟩
              unfold Goes
              go_simp
            · have e74 : ρ (.tmp 74) = .bool true := hd (1, 74) (by simp)
              have e75 : ρ (.tmp 75) = .bool true := hd (2, 75) (by simp)
              refine Goes.pure (.bool true) ?_ ⟨hC, Below.refl _ _, rfl⟩
              unfold Goes
              go_simp
            · have e76 : ρ (.tmp 76) = .bool true := hd (3, 76) (by simp)
              refine Goes.pure (.bool true) ?_ ⟨hC, Below.refl _ _, rfl⟩
              unfold Goes
              go_simp
            · have e9 : ρ (.tmp 9) = .bool true := ho 9 (by simp)
              refine Goes.pure (.bool true) ?_ ⟨hC, Below.refl _ _, rfl⟩
              unfold Goes
              go_simp
            · have e77 : ρ (.tmp 77) = .bool true := hd (4, 77) (by simp)
              have e78 : ρ (.tmp 78) = .bool true := hd (5, 78) (by simp)
              refine Goes.pure (.bool true) ?_ ⟨hC, Below.refl _ _, rfl⟩
              unfold Goes
              go_simp
            · have e79 : ρ (.tmp 79) = .bool true := hd (6, 79) (by simp)
              refine Goes.pure (.bool true) ?_ ⟨hC, Below.refl _ _, rfl⟩
              unfold Goes
              go_simp
            · have e3 : ρ (.tmp 3) = .pointer (some ⟨ga, 0, none⟩) := ho 3 (by simp)
              obtain ⟨c0, c1, c2⟩ := (xga.later hC).c0
              obtain ⟨c3, c4, c5⟩ := (xga.later hC).c1
              obtain ⟨c6, c7, c8⟩ := (xga.later hC).c2
              refine Goes.pure (.agg #[.bool a1.s, .slice a1.no a1.nn a1.nc, .slice a1.eo a1.en a1.ec, .bool a2.s, .slice a2.no a2.nn a2.nc, .slice a2.eo a2.en a2.ec, .bool a3.s, .slice a3.no a3.nn a3.nc, .slice a3.eo a3.en a3.ec]) ?_ ⟨hC, Below.refl _ _, rfl⟩
              unfold Goes
              go_simp
            · have e4 : ρ (.tmp 4) = .pointer (some ⟨gb, 0, none⟩) := ho 4 (by simp)
              obtain ⟨c0, c1, c2⟩ := (xgb.later hC).c0
              obtain ⟨c3, c4, c5⟩ := (xgb.later hC).c1
              obtain ⟨c6, c7, c8⟩ := (xgb.later hC).c2
              refine Goes.pure (.agg #[.bool b1.s, .slice b1.no b1.nn b1.nc, .slice b1.eo b1.en b1.ec, .bool b2.s, .slice b2.no b2.nn b2.nc, .slice b2.eo b2.en b2.ec, .bool b3.s, .slice b3.no b3.nn b3.nc, .slice b3.eo b3.en b3.ec]) ?_ ⟨hC, Below.refl _ _, rfl⟩
              unfold Goes
              go_simp
            · have e5 : ρ (.tmp 5) = .pointer (some ⟨gy, 0, none⟩) := ho 5 (by simp)
              obtain ⟨c0, c1, c2⟩ := (xgy.later hC).c0
              obtain ⟨c3, c4, c5⟩ := (xgy.later hC).c1
              obtain ⟨c6, c7, c8⟩ := (xgy.later hC).c2
              refine Goes.pure (.agg #[.bool y1.s, .slice y1.no y1.nn y1.nc, .slice y1.eo y1.en y1.ec, .bool y2.s, .slice y2.no y2.nn y2.nc, .slice y2.eo y2.en y2.ec, .bool y3.s, .slice y3.no y3.nn y3.nc, .slice y3.eo y3.en y3.ec]) ?_ ⟨hC, Below.refl _ _, rfl⟩
              unfold Goes
              go_simp
            · have e81 : ρ (.tmp 81) = .agg #[.bool a1.s, .slice a1.no a1.nn a1.nc, .slice a1.eo a1.en a1.ec, .bool a2.s, .slice a2.no a2.nn a2.nc, .slice a2.eo a2.en a2.ec, .bool a3.s, .slice a3.no a3.nn a3.nc, .slice a3.eo a3.en a3.ec] := hd (8, 81) (by simp)
              have e82 : ρ (.tmp 82) = .agg #[.bool b1.s, .slice b1.no b1.nn b1.nc, .slice b1.eo b1.en b1.ec, .bool b2.s, .slice b2.no b2.nn b2.nc, .slice b2.eo b2.en b2.ec, .bool b3.s, .slice b3.no b3.nn b3.nc, .slice b3.eo b3.en b3.ec] := hd (9, 82) (by simp)
              have e83 : ρ (.tmp 83) = .agg #[.bool y1.s, .slice y1.no y1.nn y1.nc, .slice y1.eo y1.en y1.ec, .bool y2.s, .slice y2.no y2.nn y2.nc, .slice y2.eo y2.en y2.ec, .bool y3.s, .slice y3.no y3.nn y3.nc, .slice y3.eo y3.en y3.ec] := hd (10, 83) (by simp)
              have lb : Below u.heap.size u (u.alloc (.cells #[.bool a1.s, .slice a1.no a1.nn a1.nc, .slice a1.eo a1.en a1.ec, .bool a2.s, .slice a2.no a2.nn a2.nc, .slice a2.eo a2.en a2.ec, .bool a3.s, .slice a3.no a3.nn a3.nc, .slice a3.eo a3.en a3.ec, .bool b1.s, .slice b1.no b1.nn b1.nc, .slice b1.eo b1.en b1.ec, .bool b2.s, .slice b2.no b2.nn b2.nc, .slice b2.eo b2.en b2.ec, .bool b3.s, .slice b3.no b3.nn b3.nc, .slice b3.eo b3.en b3.ec, .bool y1.s, .slice y1.no y1.nn y1.nc, .slice y1.eo y1.en y1.ec, .bool y2.s, .slice y2.no y2.nn y2.nc, .slice y2.eo y2.en y2.ec, .bool y3.s, .slice y3.no y3.nn y3.nc, .slice y3.eo y3.en y3.ec] 26)) := (Below.refl _ _).alloc (Nat.le_refl _) _
              refine Goes.run (.slice (some ⟨u.heap.size, 0, none⟩) 3 3) (u.alloc (.cells #[.bool a1.s, .slice a1.no a1.nn a1.nc, .slice a1.eo a1.en a1.ec, .bool a2.s, .slice a2.no a2.nn a2.nc, .slice a2.eo a2.en a2.ec, .bool a3.s, .slice a3.no a3.nn a3.nc, .slice a3.eo a3.en a3.ec, .bool b1.s, .slice b1.no b1.nn b1.nc, .slice b1.eo b1.en b1.ec, .bool b2.s, .slice b2.no b2.nn b2.nc, .slice b2.eo b2.en b2.ec, .bool b3.s, .slice b3.no b3.nn b3.nc, .slice b3.eo b3.en b3.ec, .bool y1.s, .slice y1.no y1.nn y1.nc, .slice y1.eo y1.en y1.ec, .bool y2.s, .slice y2.no y2.nn y2.nc, .slice y2.eo y2.en y2.ec, .bool y3.s, .slice y3.no y3.nn y3.nc, .slice y3.eo y3.en y3.ec] 26)) (by go_simp) ⟨hC.trans (lb.mono hC.size), lb, ?_⟩
              exact VW.made [⟨a1, a2, a3⟩, ⟨b1, b2, b3⟩, ⟨y1, y2, y3⟩] [qa1, qb1, qy1] [qa2, qb2, qy2] [qa3, qb3, qy3] ⟨((ha.later hC).mono (K' := K) (by omega)).x, ((hb.later hC).mono (K' := K) (by omega)).x, ((hy.later hC).mono (K' := K) (by omega)).x, trivial⟩ ⟨((ha.later hC).mono (K' := K) (by omega)).y, ((hb.later hC).mono (K' := K) (by omega)).y, ((hy.later hC).mono (K' := K) (by omega)).y, trivial⟩ ⟨((ha.later hC).mono (K' := K) (by omega)).z, ((hb.later hC).mono (K' := K) (by omega)).z, ((hy.later hC).mono (K' := K) (by omega)).z, trivial⟩ _ rfl 3 rfl
            · have k84 : VW [qa1, qb1, qy1] [qa2, qb2, qy2] [qa3, qb3, qy3] (K) (ρ (.tmp 84)) u := hd (11, 84) (by simp)
              refine Goes.call 10 #[ρ (.tmp 84)] (by go_simp) ?_
              refine Calls.mono (vsum_k k84 (by omega) (by simp only [List.length_cons, List.length_nil]; omega)) ?_
              rintro e u' ⟨ra, rb, rc, rfl, cv, lb⟩
              exact ⟨_, rfl, hC.trans (lb.mono hC.size), lb, ⟨ra, rb, rc, rfl, by simp only [qsum3] at cv; exact cv.mono (by simp only [List.length_cons, List.length_nil]; omega)⟩⟩
            · have e5 : ρ (.tmp 5) = .pointer (some ⟨gy, 0, none⟩) := ho 5 (by simp)
              obtain ⟨c0, c1, c2⟩ := (xgy.later hC).c0
              obtain ⟨c3, c4, c5⟩ := (xgy.later hC).c1
              obtain ⟨c6, c7, c8⟩ := (xgy.later hC).c2
              refine Goes.pure (.agg #[.bool y1.s, .slice y1.no y1.nn y1.nc, .slice y1.eo y1.en y1.ec, .bool y2.s, .slice y2.no y2.nn y2.nc, .slice y2.eo y2.en y2.ec, .bool y3.s, .slice y3.no y3.nn y3.nc, .slice y3.eo y3.en y3.ec]) ?_ ⟨hC, Below.refl _ _, rfl⟩
              unfold Goes
              go_simp
            · obtain ⟨ra85, rb85, rc85, e85, k85⟩ : VG (qa1 + qb1 + qy1) (qa2 + qb2 + qy2) (qa3 + qb3 + qy3) (3 * (K + 1) + 1) (ρ (.tmp 85)) u := hd (12, 85) (by simp)
              have e86 : ρ (.tmp 86) = .agg #[.bool y1.s, .slice y1.no y1.nn y1.nc, .slice y1.eo y1.en y1.ec, .bool y2.s, .slice y2.no y2.nn y2.nc, .slice y2.eo y2.en y2.ec, .bool y3.s, .slice y3.no y3.nn y3.nc, .slice y3.eo y3.en y3.ec] := hd (13, 86) (by simp)
              refine Goes.call 12 #[.agg #[.bool ra85.s, .slice ra85.no ra85.nn ra85.nc, .slice ra85.eo ra85.en ra85.ec, .bool rb85.s, .slice rb85.no rb85.nn rb85.nc, .slice rb85.eo rb85.en rb85.ec, .bool rc85.s, .slice rc85.no rc85.nn rc85.nc, .slice rc85.eo rc85.en rc85.ec], .agg #[.bool y1.s, .slice y1.no y1.nn y1.nc, .slice y1.eo y1.en y1.ec, .bool y2.s, .slice y2.no y2.nn y2.nc, .slice y2.eo y2.en y2.ec, .bool y3.s, .slice y3.no y3.nn y3.nc, .slice y3.eo y3.en y3.ec]] (by go_simp) ?_
              refine Calls.mono (vsub_k (k85.rd) (hy.later hC) (by omega) (by omega) (by omega)) ?_
              rintro e u' ⟨ra, rb, rc, rfl, cv, lb⟩
              exact ⟨_, rfl, hC.trans (lb.mono hC.size), lb, ⟨ra, rb, rc, rfl, cv⟩⟩
            · have e4 : ρ (.tmp 4) = .pointer (some ⟨gb, 0, none⟩) := ho 4 (by simp)
              obtain ⟨c0, c1, c2⟩ := (xgb.later hC).c0
              obtain ⟨c3, c4, c5⟩ := (xgb.later hC).c1
              obtain ⟨c6, c7, c8⟩ := (xgb.later hC).c2
              refine Goes.pure (.agg #[.bool b1.s, .slice b1.no b1.nn b1.nc, .slice b1.eo b1.en b1.ec, .bool b2.s, .slice b2.no b2.nn b2.nc, .slice b2.eo b2.en b2.ec, .bool b3.s, .slice b3.no b3.nn b3.nc, .slice b3.eo b3.en b3.ec]) ?_ ⟨hC, Below.refl _ _, rfl⟩
              unfold Goes
              go_simp
            · have e3 : ρ (.tmp 3) = .pointer (some ⟨ga, 0, none⟩) := ho 3 (by simp)
              obtain ⟨c0, c1, c2⟩ := (xga.later hC).c0
              obtain ⟨c3, c4, c5⟩ := (xga.later hC).c1
              obtain ⟨c6, c7, c8⟩ := (xga.later hC).c2
              refine Goes.pure (.agg #[.bool a1.s, .slice a1.no a1.nn a1.nc, .slice a1.eo a1.en a1.ec, .bool a2.s, .slice a2.no a2.nn a2.nc, .slice a2.eo a2.en a2.ec, .bool a3.s, .slice a3.no a3.nn a3.nc, .slice a3.eo a3.en a3.ec]) ?_ ⟨hC, Below.refl _ _, rfl⟩
              unfold Goes
              go_simp
            · have e88 : ρ (.tmp 88) = .agg #[.bool b1.s, .slice b1.no b1.nn b1.nc, .slice b1.eo b1.en b1.ec, .bool b2.s, .slice b2.no b2.nn b2.nc, .slice b2.eo b2.en b2.ec, .bool b3.s, .slice b3.no b3.nn b3.nc, .slice b3.eo b3.en b3.ec] := hd (15, 88) (by simp)
              have e89 : ρ (.tmp 89) = .agg #[.bool a1.s, .slice a1.no a1.nn a1.nc, .slice a1.eo a1.en a1.ec, .bool a2.s, .slice a2.no a2.nn a2.nc, .slice a2.eo a2.en a2.ec, .bool a3.s, .slice a3.no a3.nn a3.nc, .slice a3.eo a3.en a3.ec] := hd (16, 89) (by simp)
              have lb : Below u.heap.size u (u.alloc (.cells #[.bool b1.s, .slice b1.no b1.nn b1.nc, .slice b1.eo b1.en b1.ec, .bool b2.s, .slice b2.no b2.nn b2.nc, .slice b2.eo b2.en b2.ec, .bool b3.s, .slice b3.no b3.nn b3.nc, .slice b3.eo b3.en b3.ec, .bool a1.s, .slice a1.no a1.nn a1.nc, .slice a1.eo a1.en a1.ec, .bool a2.s, .slice a2.no a2.nn a2.nc, .slice a2.eo a2.en a2.ec, .bool a3.s, .slice a3.no a3.nn a3.nc, .slice a3.eo a3.en a3.ec] 26)) := (Below.refl _ _).alloc (Nat.le_refl _) _
              refine Goes.run (.slice (some ⟨u.heap.size, 0, none⟩) 2 2) (u.alloc (.cells #[.bool b1.s, .slice b1.no b1.nn b1.nc, .slice b1.eo b1.en b1.ec, .bool b2.s, .slice b2.no b2.nn b2.nc, .slice b2.eo b2.en b2.ec, .bool b3.s, .slice b3.no b3.nn b3.nc, .slice b3.eo b3.en b3.ec, .bool a1.s, .slice a1.no a1.nn a1.nc, .slice a1.eo a1.en a1.ec, .bool a2.s, .slice a2.no a2.nn a2.nc, .slice a2.eo a2.en a2.ec, .bool a3.s, .slice a3.no a3.nn a3.nc, .slice a3.eo a3.en a3.ec] 26)) (by go_simp) ⟨hC.trans (lb.mono hC.size), lb, ?_⟩
              exact VW.made [⟨b1, b2, b3⟩, ⟨a1, a2, a3⟩] [qb1, qa1] [qb2, qa2] [qb3, qa3] ⟨((hb.later hC).mono (K' := K) (by omega)).x, ((ha.later hC).mono (K' := K) (by omega)).x, trivial⟩ ⟨((hb.later hC).mono (K' := K) (by omega)).y, ((ha.later hC).mono (K' := K) (by omega)).y, trivial⟩ ⟨((hb.later hC).mono (K' := K) (by omega)).z, ((ha.later hC).mono (K' := K) (by omega)).z, trivial⟩ _ rfl 2 rfl
            · have k90 : VW [qb1, qa1] [qb2, qa2] [qb3, qa3] (K) (ρ (.tmp 90)) u := hd (17, 90) (by simp)
              refine Goes.call 10 #[ρ (.tmp 90)] (by go_simp) ?_
              refine Calls.mono (vsum_k k90 (by omega) (by simp only [List.length_cons, List.length_nil]; omega)) ?_
              rintro e u' ⟨ra, rb, rc, rfl, cv, lb⟩
              exact ⟨_, rfl, hC.trans (lb.mono hC.size), lb, ⟨ra, rb, rc, rfl, by simp only [qsum2] at cv; exact cv.mono (by simp only [List.length_cons, List.length_nil]; omega)⟩⟩
            · obtain ⟨ra87, rb87, rc87, e87, k87⟩ : VG ((qa1 + qb1 + qy1) - qy1) ((qa2 + qb2 + qy2) - qy2) ((qa3 + qb3 + qy3) - qy3) (3 * (K + 1) + 1 + (K) + 1) (ρ (.tmp 87)) u := hd (14, 87) (by simp)
              obtain ⟨ra91, rb91, rc91, e91, k91⟩ : VG (qb1 + qa1) (qb2 + qa2) (qb3 + qa3) (2 * (K + 1) + 1) (ρ (.tmp 91)) u := hd (18, 91) (by simp)
              refine Goes.call 9 #[.agg #[.bool ra87.s, .slice ra87.no ra87.nn ra87.nc, .slice ra87.eo ra87.en ra87.ec, .bool rb87.s, .slice rb87.no rb87.nn rb87.nc, .slice rb87.eo rb87.en rb87.ec, .bool rc87.s, .slice rc87.no rc87.nn rc87.nc, .slice rc87.eo rc87.en rc87.ec], .agg #[.bool ra91.s, .slice ra91.no ra91.nn ra91.nc, .slice ra91.eo ra91.en ra91.ec, .bool rb91.s, .slice rb91.no rb91.nn rb91.nc, .slice rb91.eo rb91.en rb91.ec, .bool rc91.s, .slice rc91.no rc91.nn rc91.nc, .slice rc91.eo rc91.en rc91.ec]] (by go_simp) ?_
              refine Calls.mono (vis5 (k87) (k91) (by omega) (by omega)) ?_
              rintro e u' ⟨r, rfl, HR, lb⟩
              exact ⟨_, rfl, hC.trans (lb.mono hC.size), lb, by rw [HR.out.2 ⟨by grind, by grind, by grind⟩]; rfl⟩
            · have e80 : ρ (.tmp 80) = .bool true := hd (7, 80) (by simp)
              have e92 : ρ (.tmp 92) = .bool true := hd (19, 92) (by simp)
              refine Goes.pure (.bool true) ?_ ⟨hC, Below.refl _ _, rfl⟩
              unfold Goes
              go_simp
          · intro vs u hC hv
            have eR : vs 20 = .bool true := hv 20 (by omega)
            clear hv
            simp only [puts, List.take, List.drop, Act.put, List.setIfInBounds_toArray, List.set_cons_succ, List.set_cons_zero, Nat.reduceAdd, eR]
            go_wp2
            go_ret
            exact ⟨rfl, B5.trans (hC.mono B5.size)⟩
end Go.Proofs.Ytmbemidacilakaa
