/- where a ray meets a triangle. -/
import Derived.Test.YtbobhhnhlgdkiaaGreatJU
namespace Go.Proofs.YtbobhhnhlgdkiaaGreat.Sy
open Go Go.RowKit M Kahn
set_option maxRecDepth 1000000
set_option linter.unusedSimpArgs false
set_option linter.unusedVariables false

section
variable (o1 o2 o3 d1 d2 d3 a1 a2 a3 b1 b2 b3 c1 c2 c3 : Rat)
theorem meetv_1 (x1 x2 x3 z1 z2 z3 y1 y2 y3 d1 d2 d3 : Rat) : ((z2 * y3 - z3 * y2) * d1 + (z3 * y1 - z1 * y3) * d2 + (z1 * y2 - z2 * y1) * d3) * (x1) - ((z2 * y3 - z3 * y2) * x1 + (z3 * y1 - z1 * y3) * x2 + (z1 * y2 - z2 * y1) * x3) * d1 + ((x2 * d3 - x3 * d2) * y1 + (x3 * d1 - x1 * d3) * y2 + (x1 * d2 - x2 * d1) * y3) * (z1) - ((x2 * d3 - x3 * d2) * z1 + (x3 * d1 - x1 * d3) * z2 + (x1 * d2 - x2 * d1) * z3) * (y1) = 0 := by grind
theorem meet_1 : (((b2 - a2) * (c3 - a3) - (b3 - a3) * (c2 - a2)) * d1 + ((b3 - a3) * (c1 - a1) - (b1 - a1) * (c3 - a3)) * d2 + ((b1 - a1) * (c2 - a2) - (b2 - a2) * (c1 - a1)) * d3) * (a1 - o1) - (((b2 - a2) * (c3 - a3) - (b3 - a3) * (c2 - a2)) * (a1 - o1) + ((b3 - a3) * (c1 - a1) - (b1 - a1) * (c3 - a3)) * (a2 - o2) + ((b1 - a1) * (c2 - a2) - (b2 - a2) * (c1 - a1)) * (a3 - o3)) * d1 + (((a2 - o2) * d3 - (a3 - o3) * d2) * (c1 - a1) + ((a3 - o3) * d1 - (a1 - o1) * d3) * (c2 - a2) + ((a1 - o1) * d2 - (a2 - o2) * d1) * (c3 - a3)) * (b1 - a1) - (((a2 - o2) * d3 - (a3 - o3) * d2) * (b1 - a1) + ((a3 - o3) * d1 - (a1 - o1) * d3) * (b2 - a2) + ((a1 - o1) * d2 - (a2 - o2) * d1) * (b3 - a3)) * (c1 - a1) = 0 := meetv_1 (a1 - o1) (a2 - o2) (a3 - o3) (b1 - a1) (b2 - a2) (b3 - a3) (c1 - a1) (c2 - a2) (c3 - a3) d1 d2 d3
theorem meetv_2 (x1 x2 x3 z1 z2 z3 y1 y2 y3 d1 d2 d3 : Rat) : ((z2 * y3 - z3 * y2) * d1 + (z3 * y1 - z1 * y3) * d2 + (z1 * y2 - z2 * y1) * d3) * (x2) - ((z2 * y3 - z3 * y2) * x1 + (z3 * y1 - z1 * y3) * x2 + (z1 * y2 - z2 * y1) * x3) * d2 + ((x2 * d3 - x3 * d2) * y1 + (x3 * d1 - x1 * d3) * y2 + (x1 * d2 - x2 * d1) * y3) * (z2) - ((x2 * d3 - x3 * d2) * z1 + (x3 * d1 - x1 * d3) * z2 + (x1 * d2 - x2 * d1) * z3) * (y2) = 0 := by grind
theorem meet_2 : (((b2 - a2) * (c3 - a3) - (b3 - a3) * (c2 - a2)) * d1 + ((b3 - a3) * (c1 - a1) - (b1 - a1) * (c3 - a3)) * d2 + ((b1 - a1) * (c2 - a2) - (b2 - a2) * (c1 - a1)) * d3) * (a2 - o2) - (((b2 - a2) * (c3 - a3) - (b3 - a3) * (c2 - a2)) * (a1 - o1) + ((b3 - a3) * (c1 - a1) - (b1 - a1) * (c3 - a3)) * (a2 - o2) + ((b1 - a1) * (c2 - a2) - (b2 - a2) * (c1 - a1)) * (a3 - o3)) * d2 + (((a2 - o2) * d3 - (a3 - o3) * d2) * (c1 - a1) + ((a3 - o3) * d1 - (a1 - o1) * d3) * (c2 - a2) + ((a1 - o1) * d2 - (a2 - o2) * d1) * (c3 - a3)) * (b2 - a2) - (((a2 - o2) * d3 - (a3 - o3) * d2) * (b1 - a1) + ((a3 - o3) * d1 - (a1 - o1) * d3) * (b2 - a2) + ((a1 - o1) * d2 - (a2 - o2) * d1) * (b3 - a3)) * (c2 - a2) = 0 := meetv_2 (a1 - o1) (a2 - o2) (a3 - o3) (b1 - a1) (b2 - a2) (b3 - a3) (c1 - a1) (c2 - a2) (c3 - a3) d1 d2 d3
theorem meetv_3 (x1 x2 x3 z1 z2 z3 y1 y2 y3 d1 d2 d3 : Rat) : ((z2 * y3 - z3 * y2) * d1 + (z3 * y1 - z1 * y3) * d2 + (z1 * y2 - z2 * y1) * d3) * (x3) - ((z2 * y3 - z3 * y2) * x1 + (z3 * y1 - z1 * y3) * x2 + (z1 * y2 - z2 * y1) * x3) * d3 + ((x2 * d3 - x3 * d2) * y1 + (x3 * d1 - x1 * d3) * y2 + (x1 * d2 - x2 * d1) * y3) * (z3) - ((x2 * d3 - x3 * d2) * z1 + (x3 * d1 - x1 * d3) * z2 + (x1 * d2 - x2 * d1) * z3) * (y3) = 0 := by grind
theorem meet_3 : (((b2 - a2) * (c3 - a3) - (b3 - a3) * (c2 - a2)) * d1 + ((b3 - a3) * (c1 - a1) - (b1 - a1) * (c3 - a3)) * d2 + ((b1 - a1) * (c2 - a2) - (b2 - a2) * (c1 - a1)) * d3) * (a3 - o3) - (((b2 - a2) * (c3 - a3) - (b3 - a3) * (c2 - a2)) * (a1 - o1) + ((b3 - a3) * (c1 - a1) - (b1 - a1) * (c3 - a3)) * (a2 - o2) + ((b1 - a1) * (c2 - a2) - (b2 - a2) * (c1 - a1)) * (a3 - o3)) * d3 + (((a2 - o2) * d3 - (a3 - o3) * d2) * (c1 - a1) + ((a3 - o3) * d1 - (a1 - o1) * d3) * (c2 - a2) + ((a1 - o1) * d2 - (a2 - o2) * d1) * (c3 - a3)) * (b3 - a3) - (((a2 - o2) * d3 - (a3 - o3) * d2) * (b1 - a1) + ((a3 - o3) * d1 - (a1 - o1) * d3) * (b2 - a2) + ((a1 - o1) * d2 - (a2 - o2) * d1) * (b3 - a3)) * (c3 - a3) = 0 := meetv_3 (a1 - o1) (a2 - o2) (a3 - o3) (b1 - a1) (b2 - a2) (b3 - a3) (c1 - a1) (c2 - a2) (c3 - a3) d1 d2 d3
end
theorem meet_pt {D S U V o d a b c : Rat} (hD : ¬ D = 0) (h : D * (a - o) - S * d + U * (b - a) - V * (c - a) = 0) : o + S / D * d = a + U / D * (b - a) + V / (-D) * (c - a) := by
  have e1 : S / D * D = S := by grind
  have e2 : U / D * D = U := by grind
  have e3 : V / (-D) * D = -V := by grind
  generalize S / D = s at *
  generalize U / D = u at *
  generalize V / (-D) = v at *
  subst e1 e2
  have : V = -(v * D) := by grind
  subst this
  have : D * (o + s * d - (a + u * (b - a) + v * (c - a))) = 0 := by grind
  grind
theorem div_pos_ne {S D : Rat} (h : 0 < S / D) : ¬ D = 0 := fun h0 => by
  rw [h0, div_z] at h
  exact Rat.lt_irrefl h
theorem around3 (a b c p : V3) (h1 : mn (mn (mn a.1 a.1) b.1) c.1 ≤ p.1 ∧ p.1 ≤ mx (mx (mx a.1 a.1) b.1) c.1) (h2 : mn (mn (mn a.2.1 a.2.1) b.2.1) c.2.1 ≤ p.2.1 ∧ p.2.1 ≤ mx (mx (mx a.2.1 a.2.1) b.2.1) c.2.1) (h3 : mn (mn (mn a.2.2 a.2.2) b.2.2) c.2.2 ≤ p.2.2 ∧ p.2.2 ≤ mx (mx (mx a.2.2 a.2.2) b.2.2) c.2.2) : inB (jns [dbl a, dbl b, dbl c]) p = true := inB_and.2 ⟨h1, h2, h3⟩
theorem lo3 (a b c : Rat) : mn (mn (mn a a) b) c ≤ a ∧ mn (mn (mn a a) b) c ≤ b ∧ mn (mn (mn a a) b) c ≤ c := by
  have k1 := mn_le (a := a) (b := a)
  have k2 := mn_le (a := mn a a) (b := b)
  have k3 := mn_le (a := mn (mn a a) b) (b := c)
  grind
theorem hi3 (a b c : Rat) : a ≤ mx (mx (mx a a) b) c ∧ b ≤ mx (mx (mx a a) b) c ∧ c ≤ mx (mx (mx a a) b) c := by
  have k1 := mx_le (a := a) (b := a)
  have k2 := mx_le (a := mx a a) (b := b)
  have k3 := mx_le (a := mx (mx a a) b) (b := c)
  grind
theorem mix3 {a b c u v : Rat} (hu : 0 ≤ u) (hv : 0 ≤ v) (huv : u + v ≤ 1) : mn (mn (mn a a) b) c ≤ a + u * (b - a) + v * (c - a) ∧ a + u * (b - a) + v * (c - a) ≤ mx (mx (mx a a) b) c :=
  mix_in hu hv huv (lo3 a b c).1 (lo3 a b c).2.1 (lo3 a b c).2.2 (hi3 a b c).1 (hi3 a b c).2.1 (hi3 a b c).2.2
theorem meet_in (o1 o2 o3 d1 d2 d3 a1 a2 a3 b1 b2 b3 c1 c2 c3 DD SS UU VV : Rat) (m1 : DD * (a1 - o1) - SS * d1 + UU * (b1 - a1) - VV * (c1 - a1) = 0) (m2 : DD * (a2 - o2) - SS * d2 + UU * (b2 - a2) - VV * (c2 - a2) = 0) (m3 : DD * (a3 - o3) - SS * d3 + UU * (b3 - a3) - VV * (c3 - a3) = 0) (hk : htOk (SS / DD) (UU / DD) (VV / (-DD)) = true) : 0 < SS / DD ∧ inB (jns [dbl (a1, a2, a3), dbl (b1, b2, b3), dbl (c1, c2, c3)]) (o1 + SS / DD * d1, o2 + SS / DD * d2, o3 + SS / DD * d3) = true ∧ ¬ DD = 0 := by
  obtain ⟨g1, g2, g3, g4⟩ := of_yes hk
  have hD := div_pos_ne g1
  refine ⟨g1, around3 _ _ _ _ ?_ ?_ ?_, hD⟩
  · show _ ≤ o1 + SS / DD * d1 ∧ o1 + SS / DD * d1 ≤ _
    rw [meet_pt hD m1]; exact mix3 g2 g3 g4
  · show _ ≤ o2 + SS / DD * d2 ∧ o2 + SS / DD * d2 ≤ _
    rw [meet_pt hD m2]; exact mix3 g2 g3 g4
  · show _ ≤ o3 + SS / DD * d3 ∧ o3 + SS / DD * d3 ≤ _
    rw [meet_pt hD m3]; exact mix3 g2 g3 g4
end Go.Proofs.YtbobhhnhlgdkiaaGreat.Sy
