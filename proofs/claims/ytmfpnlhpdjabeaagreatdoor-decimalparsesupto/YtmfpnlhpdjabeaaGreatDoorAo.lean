/- Texts and lists of bytes that came in. -/
import Derived.Test.YtmfpnlhpdjabeaaGreatDoorAd
import Derived.Test.YtmfpnlhpdjabeaaGreatDoorAh
import Derived.ChangeMaps5
namespace Go.Proofs.YtmfpnlhpdjabeaaGreatDoor
open Go.RowKit M
/-- A slice of bytes that can be read. -/
structure Sb (N : Nat) (w : World) (ao : Option Addr) (n cap : Nat) (xs : List Nat) : Prop where
  len : xs.length = n
  le : n ≤ cap
  byt : Byt xs
  there : 0 < n → ∃ b o, ao = some ⟨b, o, none⟩ ∧ b < N ∧ ∀ i, i < n → w.cell? ⟨b, o + i, none⟩ = some (.int .u8 ((xs.getD i 0 : Nat) : Int))
theorem Sb.later {n cap : Nat} {w w' : World} {ao : Option Addr} {xs : List Nat} (h : Sb w.heap.size w ao n cap xs) (hb : Below w.heap.size w w') : Sb w'.heap.size w' ao n cap xs :=
  ⟨h.len, h.le, h.byt, fun h0 => by
    obtain ⟨b, o, h1, h2, h3⟩ := h.there h0
    exact ⟨b, o, h1, Nat.lt_of_lt_of_le h2 hb.size, fun i hi => by rw [hb.cell (p := ⟨b, o + i, none⟩) h2]; exact h3 i hi⟩⟩
end Go.Proofs.YtmfpnlhpdjabeaaGreatDoor
namespace Go.Proofs.YtmfpnlhpdjabeaaGreatDoor.Pz
open Go.ChangeShapes Go.WideShapes Go.ChangeAt Go.RowKit
set_option maxRecDepth 100000
open Go.Proofs.YtmfpnlhpdjabeaaGreatDoor Go.Proofs.YtmfpnlhpdjabeaaGreatDoor.M
open Go.ChangeMaps (open_string shut_string)

theorem open_text {H : Type} {enc : TypeId × Value → H} {W : World} {base : Nat} {v : Value} {d : DataW H} {p : List MemPlace} (hv : Value.okWide Tryz.prog W .any base 9 v) (h : ∃ fuel, DataW.trod enc Tryz.prog W 0 (fun _ => true) true fuel 9 v.cells.toList = some (d, p)) :
    ∃ l, v = .string (tx l) ∧ Byt l ∧ l.length ≤ Rows.uptoBulk d := by
  obtain ⟨s, rfl, rfl, _, _⟩ := open_string Tryz.underlying9 hv h
  obtain ⟨l, hb, rfl⟩ := tx_of s
  refine ⟨l, rfl, hb, ?_⟩
  have := tx_size l
  simp only [Rows.uptoBulk, tx, List.length_map]
  omega

theorem sb_of {W : World} {x : Addr} {len cap : Nat} {zs : List Int} (hl : len ≤ cap) (hz : zs.length = cap) (hcell : ∀ i, i < zs.length → W.cell? (x.add i) = some (.int .u8 (zs.getD i 0))) (hwz : ∀ n ∈ zs, (Lit.int .u8 n).wf = true) :
    Sb W.heap.size W (some x) len cap ((zs.take len).map Int.toNat) := by
  have bd : ∀ n, (Lit.int .u8 n).wf = true → 0 ≤ n ∧ n ≤ 255 := fun n h => by
    have h1 : IntKind.u8.min = 0 := rfl
    have h2 : IntKind.u8.max = 255 := rfl
    simp only [Lit.wf, Bool.and_eq_true, decide_eq_true_eq] at h
    omega
  have hb : ∀ i, i < len → 0 ≤ zs.getD i 0 ∧ zs.getD i 0 ≤ 255 := fun i hi => by
    have hi2 : i < zs.length := by omega
    rw [List.getD_eq_getElem?_getD, List.getElem?_eq_getElem hi2]
    exact bd _ (hwz _ (List.getElem_mem hi2))
  refine ⟨by simp; omega, hl, ?_, fun h0 => ?_⟩
  · intro y hy
    obtain ⟨z, hz1, rfl⟩ := List.mem_map.1 hy
    have := bd z (hwz z (List.mem_of_mem_take hz1))
    omega
  · obtain ⟨b, off, spot⟩ := x
    have h1 := hcell 0 (by omega)
    have hspot : spot = none := by simpa [Addr.add] using World.cell?_spot h1
    subst hspot
    have hadd : ∀ i, (⟨b, off, none⟩ : Addr).add i = ⟨b, off + i, none⟩ := fun i => by unfold Addr.add; split <;> simp_all
    refine ⟨b, off, rfl, ?_, fun i hi => ?_⟩
    · rw [hadd] at h1
      exact block_lt_of_cell h1
    · have := hcell i (by omega)
      rw [hadd] at this
      rw [this]
      have hbi := hb i hi
      have e : ((zs.take len).map Int.toNat).getD i 0 = (zs.getD i 0).toNat := by
        rw [List.getD_eq_getElem?_getD, List.getElem?_map, List.getElem?_take, if_pos hi, List.getD_eq_getElem?_getD]
        have hi2 : i < zs.length := by omega
        rw [List.getElem?_eq_getElem hi2]
        rfl
      rw [e, Int.toNat_of_nonneg hbi.1]

theorem open_bytes {H : Type} {enc : TypeId × Value → H} {W : World} {n : Nat} {v : Value} {y : DataW H × List MemPlace} (hf : DataW.trod enc Tryz.prog W 0 (fun _ => true) true n 35 [v] = some y) :
    ∃ ao m c xs, v = .slice ao m c ∧ Sb W.heap.size W ao m c xs ∧ m ≤ Rows.uptoBulk y.1 := by
  rcases open_ints Tryz.underlying35 Tryz.underlying5 (by kernel_rfl) hf with ⟨hcs, _⟩ | ⟨x, l, c, zs, hcs, _, hl, hm, hz, hx, hcell, hwz⟩
  · simp at hcs
    subst hcs
    exact ⟨none, 0, 0, [], rfl, ⟨rfl, Nat.le_refl _, Byt.nil, fun h => absurd h (Nat.lt_irrefl _)⟩, Nat.zero_le _⟩
  · simp at hcs
    subst hcs
    have hz2 : zs.length = c := by simpa using hz
    refine ⟨_, l, c, _, rfl, sb_of hl hz2 hcell hwz, ?_⟩
    rw [hx]
    have := length_le (lits (H := H) .u8 (zs.take l))
    simp only [Rows.uptoBulk]
    simp only [lits, List.length_map, List.length_take] at this
    simp only [lits]
    omega
end Go.Proofs.YtmfpnlhpdjabeaaGreatDoor.Pz
