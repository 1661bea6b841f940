/- Lehmer's steps: many steps of Euclid at once, foreseen from the first bits (Collins' rule). -/
import Derived.Test.YthcclkjccaoniaaMe
namespace Go.Proofs.Ythcclkjccaoniaa.M

/-- Two rests r and r' of the heads a and b, what they are made of, and that they are sure. -/
structure Sure (t : Bool) (a b u0 u1 v0 v1 r r' : Nat) : Prop where
  ea : v1 * r + v0 * r' = a
  eb : u1 * r + u0 * r' = b
  det : if t then u1 * v0 = u0 * v1 + 1 else u0 * v1 = u1 * v0 + 1
  lo : v1 ≤ r'
  gap : r' + v0 + v1 ≤ r
  uv0 : v0 = 0 ∨ u0 ≤ v0
  uv1 : u1 ≤ v1
  one : 1 ≤ v1
  up : v0 ≤ v1

/-- The loop of the heads: x and y are the last two rests. -/
structure Fs (t : Bool) (a b x y u0 u1 u2 v0 v1 v2 : Nat) : Prop where
  ea : v2 * x + v1 * y = a
  eb : u2 * x + u1 * y = b
  det : if t then u1 * v2 = u2 * v1 + 1 else u2 * v1 = u1 * v2 + 1
  le : y ≤ x
  pos : 1 ≤ x
  uv1 : (v1 = 0 ∧ u1 = 1 ∧ u2 = 0) ∨ u1 ≤ v1
  uv2 : u2 ≤ v2
  one : 1 ≤ v2
  up : v1 ≤ v2
  past : v0 = 0 ∨ ∃ r r', Sure t a b u0 u1 v0 v1 r r'

theorem Fs.start {a b : Nat} (hb : b ≤ a) (ha : 1 ≤ a) : Fs true a b a b 0 1 0 0 0 1 :=
  ⟨by omega, by omega, by simp, hb, ha, .inl ⟨rfl, rfl, rfl⟩, by omega, by omega, by omega, .inl rfl⟩

theorem Fs.bounds {t : Bool} {a b x y u0 u1 u2 v0 v1 v2 : Nat} (h : Fs t a b x y u0 u1 u2 v0 v1 v2) : v2 ≤ a ∧ v1 ≤ a ∧ u2 ≤ a ∧ x ≤ a := by
  have h1 := h.ea
  have h2 := Nat.le_mul_of_pos_right v2 h.pos
  have h3 := Nat.le_mul_of_pos_left x h.one
  have := h.up
  have := h.uv2
  omega

/-- A sure step. -/
theorem Fs.step {t : Bool} {a b x y u0 u1 u2 v0 v1 v2 : Nat} (h : Fs t a b x y u0 u1 u2 v0 v1 v2) (h1 : v2 ≤ y) (h2 : v1 + v2 ≤ x - y) :
    Fs (!t) a b y (x % y) u1 u2 (u1 + x / y * u2) v1 v2 (v1 + x / y * v2) := by
  have hy : 0 < y := by have := h.one; omega
  have hq : 1 ≤ x / y := (Nat.le_div_iff_mul_le hy).2 (by have := h.le; omega)
  have hm := Nat.mod_lt x hy
  have hd := Nat.div_add_mod x y
  have ea := h.ea
  have eb := h.eb
  have det := h.det
  have u2v := h.uv2
  generalize x / y = q at *
  generalize x % y = m at *
  have hm1 : v2 ≤ q * v2 := Nat.le_mul_of_pos_left _ hq
  have hm2 : q * u2 ≤ q * v2 := Nat.mul_le_mul_left q u2v
  have hle := h.le
  refine ⟨by grind, by grind, ?_, by omega, by omega, .inr u2v, ?_, by have := h.one; omega, by omega, .inr ⟨x, y, ea, eb, ?_, h1, by omega, h.uv1.imp (·.1) id, u2v, h.one, h.up⟩⟩
  · cases t <;> simp at det ⊢ <;> grind
  · rcases h.uv1 with h0 | h0
    · obtain ⟨e0, e1, e2⟩ := h0
      have := h.one
      rw [e0, e1, e2]; omega
    · omega
  · cases t <;> simp at det ⊢ <;> omega

/-- What the rests of the whole naturals are, by the same combination. -/
structure Lehm (t : Bool) (A B u0 u1 v0 v1 R R' : Nat) : Prop where
  er : if t then R + u0 * A = v0 * B else R + v0 * B = u0 * A
  er' : if t then R' + v1 * B = u1 * A else R' + u1 * A = v1 * B
  le : R' ≤ R
  sum : R + R' ≤ A
  gcd : Nat.gcd R R' = Nat.gcd A B

theorem Sure.lehm {t : Bool} {a b u0 u1 v0 v1 r r' P A B x y : Nat} (h : Sure t a b u0 u1 v0 v1 r r') (h0 : v0 ≠ 0) (hA : A = P * a + x) (hx : x < P) (hB : B = P * b + y) (hy : y < P) :
    ∃ R R', Lehm t A B u0 u1 v0 v1 R R' := by
  have ea := h.ea
  have eb := h.eb
  have det := h.det
  have uv0 : u0 ≤ v0 := h.uv0.resolve_left h0
  have uv1 := h.uv1
  have lo := h.lo
  have gap := h.gap
  have one := h.one
  -- what the rests of the naturals are more or less than P times those of the heads
  have m1 : u1 * x ≤ v1 * x := Nat.mul_le_mul_right x uv1
  have m2 : v1 * x ≤ v1 * P := Nat.mul_le_mul_left v1 (Nat.le_of_lt hx)
  have m3 : v1 * y ≤ v1 * P := Nat.mul_le_mul_left v1 (Nat.le_of_lt hy)
  have m4 : P * v1 ≤ P * r' := Nat.mul_le_mul_left P lo
  have m5 : P * (r' + v0 + v1) ≤ P * r := Nat.mul_le_mul_left P gap
  have m6 : u0 * x ≤ v0 * x := Nat.mul_le_mul_right x uv0
  have m7 : v0 * x ≤ v0 * P := Nat.mul_le_mul_left v0 (Nat.le_of_lt hx)
  have m8 : v0 * y ≤ v0 * P := Nat.mul_le_mul_left v0 (Nat.le_of_lt hy)
  rw [Nat.mul_add, Nat.mul_add] at m5
  rw [Nat.mul_comm P v1] at m4 m5
  rw [Nat.mul_comm P v0] at m5
  have key : ∀ R R' : Nat, (if t then R + u0 * A = v0 * B else R + v0 * B = u0 * A) → (if t then R' + v1 * B = u1 * A else R' + u1 * A = v1 * B) → R' ≤ R → Lehm t A B u0 u1 v0 v1 R R' := by
    intro R R' e1 e2 e3
    have eA : A = v1 * R + v0 * R' := by cases t <;> simp at det e1 e2 <;> grind
    have eB : B = u1 * R + u0 * R' := by cases t <;> simp at det e1 e2 <;> grind
    refine ⟨e1, e2, e3, ?_, ?_⟩
    · have g1 := Nat.le_mul_of_pos_left R one
      have g2 := Nat.le_mul_of_pos_left R' (Nat.pos_of_ne_zero h0)
      omega
    · apply Nat.dvd_antisymm
      · apply Nat.dvd_gcd
        · rw [eA]; exact Nat.dvd_add (Nat.dvd_mul_left_of_dvd (Nat.gcd_dvd_left _ _) _) (Nat.dvd_mul_left_of_dvd (Nat.gcd_dvd_right _ _) _)
        · rw [eB]; exact Nat.dvd_add (Nat.dvd_mul_left_of_dvd (Nat.gcd_dvd_left _ _) _) (Nat.dvd_mul_left_of_dvd (Nat.gcd_dvd_right _ _) _)
      · have dA : ∀ k, Nat.gcd A B ∣ k * A := fun k => Nat.dvd_mul_left_of_dvd (Nat.gcd_dvd_left _ _) _
        have dB : ∀ k, Nat.gcd A B ∣ k * B := fun k => Nat.dvd_mul_left_of_dvd (Nat.gcd_dvd_right _ _) _
        apply Nat.dvd_gcd
        · cases t
          · simp at e1; exact (Nat.dvd_add_left (dB v0)).1 (e1 ▸ dA u0)
          · simp at e1; exact (Nat.dvd_add_left (dA u0)).1 (e1 ▸ dB v0)
        · cases t
          · simp at e2; exact (Nat.dvd_add_left (dA u1)).1 (e2 ▸ dB v1)
          · simp at e2; exact (Nat.dvd_add_left (dB v1)).1 (e2 ▸ dA u1)
  cases t
  · simp at det
    have f1 : u0 * A = v0 * B + (P * r + u0 * x) - v0 * y := by
      have : u0 * A + v0 * y = v0 * B + (P * r + u0 * x) := by grind
      omega
    have f2 : v1 * B = u1 * A + (P * r' + v1 * y) - u1 * x := by
      have : v1 * B + u1 * x = u1 * A + (P * r' + v1 * y) := by grind
      omega
    exact ⟨P * r + u0 * x - v0 * y, P * r' + v1 * y - u1 * x, key _ _ (by simp; omega) (by simp; omega) (by omega)⟩
  · simp at det
    have f1 : v0 * B + u0 * x = u0 * A + (P * r + v0 * y) := by grind
    have f2 : u1 * A + v1 * y = v1 * B + (P * r' + u1 * x) := by grind
    exact ⟨P * r + v0 * y - u0 * x, P * r' + u1 * x - v1 * y, key _ _ (by simp; omega) (by simp; omega) (by omega)⟩

/-- The factors are below 2^32. -/
theorem Sure.small {t : Bool} {a b u0 u1 v0 v1 r r' : Nat} (h : Sure t a b u0 u1 v0 v1 r r') (h0 : v0 ≠ 0) (ha : a < 18446744073709551616) :
    u0 < 4294967296 ∧ u1 < 4294967296 ∧ v0 < 4294967296 ∧ v1 < 4294967296 := by
  have h1 : v1 * v1 ≤ v1 * r := Nat.mul_le_mul_left v1 (by have := h.lo; have := h.gap; omega)
  have h2 := h.ea
  have h3 : v1 < 4294967296 := by
    apply Nat.lt_of_not_le; intro hl
    have := Nat.mul_le_mul hl hl
    omega
  have := h.up
  have := h.uv1
  have := h.uv0.resolve_left h0
  omega
end Go.Proofs.Ythcclkjccaoniaa.M
