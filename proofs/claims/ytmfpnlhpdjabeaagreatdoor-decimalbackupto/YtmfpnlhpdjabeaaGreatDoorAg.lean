/- Texts as lists of bytes; digits; what a number's text says, and a number's text. -/
import Derived.Test.YtmfpnlhpdjabeaaGreatDoorA1
import Derived.WalkKit
namespace Go.Proofs.YtmfpnlhpdjabeaaGreatDoor.M
open Go

/-- The text of some bytes. -/
def tx (l : List Nat) : ByteArray := ⟨(l.map UInt8.ofNat).toArray⟩
/-- They are bytes. -/
def Byt (l : List Nat) : Prop := ∀ x ∈ l, x < 256
theorem Byt.nil : Byt [] := fun _ h => by cases h
theorem Byt.mk {x : Nat} {l : List Nat} (hx : x < 256) (h : Byt l) : Byt (x :: l) := fun y hy => by
  rcases List.mem_cons.1 hy with rfl | hy
  · exact hx
  · exact h y hy
theorem Byt.append {a b : List Nat} (h : Byt a) (k : Byt b) : Byt (a ++ b) := fun x hx => by
  rcases List.mem_append.1 hx with hx | hx
  · exact h x hx
  · exact k x hx
theorem Byt.take {l : List Nat} (h : Byt l) (k : Nat) : Byt (l.take k) := fun x hx => h x (List.mem_of_mem_take hx)
theorem Byt.drop {l : List Nat} (h : Byt l) (k : Nat) : Byt (l.drop k) := fun x hx => h x (List.mem_of_mem_drop hx)
theorem Byt.get {l : List Nat} (h : Byt l) (i : Nat) : l.getD i 0 < 256 := by
  by_cases hi : i < l.length
  · rw [List.getD_eq_getElem?_getD, List.getElem?_eq_getElem hi]; exact h _ (List.getElem_mem hi)
  · rw [List.getD_eq_getElem?_getD, List.getElem?_eq_none (by omega)]; show 0 < 256; omega
theorem tx_size (l : List Nat) : (tx l).size = l.length := by simp [tx, ByteArray.size]
theorem tx_append (a b : List Nat) : tx a ++ tx b = tx (a ++ b) := by
  unfold tx
  rw [ByteArray.mk_append_mk]
  simp
theorem tx_take (l : List Nat) (k : Nat) : (tx l).extract 0 k = tx (l.take k) := by
  unfold tx
  rw [ByteArray.extract_mk]
  simp [List.map_take]
theorem tx_drop (l : List Nat) (k : Nat) : (tx l).extract k l.length = tx (l.drop k) := by
  unfold tx
  rw [ByteArray.extract_mk, List.take_of_length_le (by simp), List.map_drop]
theorem tx_get {l : List Nat} (h : Byt l) {i : Nat} (hi : i < (tx l).size) : ((tx l)[i]).toNat = l.getD i 0 := by
  have hl : i < l.length := by rw [← tx_size]; exact hi
  have h1 : (tx l)[i] = UInt8.ofNat l[i] := by
    show (tx l).data[i] = _
    simp [tx]
  rw [h1, List.getD_eq_getElem?_getD, List.getElem?_eq_getElem hl]
  have := h _ (List.getElem_mem hl)
  simp [UInt8.toNat_ofNat', Nat.mod_eq_of_lt this]
theorem tx_inj {a b : List Nat} (ha : Byt a) (hb : Byt b) (h : tx a = tx b) : a = b := by
  have hs : a.length = b.length := by rw [← tx_size a, ← tx_size b, h]
  apply List.ext_getElem hs
  intro i h1 h2
  have e1 := tx_get ha (i := i) (by rw [tx_size]; exact h1)
  have e2 := tx_get hb (i := i) (by rw [tx_size]; exact h2)
  simp only [h] at e1
  rw [e1, List.getD_eq_getElem?_getD, List.getElem?_eq_getElem h1, List.getD_eq_getElem?_getD, List.getElem?_eq_getElem h2] at e2
  simpa using e2
theorem tx_of (s : ByteArray) : ∃ l, Byt l ∧ s = tx l := by
  refine ⟨s.data.toList.map (·.toNat), ?_, ?_⟩
  · intro x hx
    obtain ⟨c, _, rfl⟩ := List.mem_map.1 hx
    exact c.toNat_lt
  · unfold tx
    rw [List.map_map]
    have : (UInt8.ofNat ∘ fun x : UInt8 => x.toNat) = id := by funext x; simp
    rw [this, List.map_id]

/-- Is it a digit? -/
def isd (x : Nat) : Bool := decide (48 ≤ x) && decide (x ≤ 57)
/-- How many digits a text begins with. -/
def dg : List Nat → Nat
  | [] => 0
  | x :: l => if isd x then dg l + 1 else 0
/-- All are digits. -/
def Dig (l : List Nat) : Prop := ∀ x ∈ l, isd x = true
/-- The number of digits. -/
def dnum (l : List Nat) : Nat := l.foldl (fun a x => a * 10 + (x - 48)) 0
theorem isd_iff {x : Nat} : isd x = true ↔ 48 ≤ x ∧ x ≤ 57 := by simp [isd]
theorem dg_le : ∀ l : List Nat, dg l ≤ l.length
  | [] => Nat.le_refl _
  | x :: l => by
    unfold dg
    split
    · have := dg_le l; simp; omega
    · simp
theorem dg_take : ∀ l : List Nat, Dig (l.take (dg l))
  | [] => fun _ h => by cases h
  | x :: l => by
    unfold dg
    split
    · rename_i h
      rw [List.take_succ_cons]
      intro y hy
      rcases List.mem_cons.1 hy with rfl | hy
      · exact h
      · exact dg_take l y hy
    · intro y hy; cases hy
theorem dg_stop : ∀ l : List Nat, dg l < l.length → isd (l.getD (dg l) 0) = false
  | [], h => by simp at h
  | x :: l, h => by
    unfold dg at h ⊢
    split at h
    · rename_i hx
      rw [if_pos hx]
      have := dg_stop l (by simpa using h)
      simpa using this
    · rename_i hx
      rw [if_neg hx]
      simpa using hx
theorem dg_is {l : List Nat} {k : Nat} (h1 : Dig (l.take k)) (hk : k ≤ l.length) (h2 : k < l.length → isd (l.getD k 0) = false) : dg l = k := by
  induction l generalizing k with
  | nil => simp at hk; subst hk; rfl
  | cons x l ih =>
    cases k with
    | zero =>
      have := h2 (by simp)
      simp at this
      unfold dg
      rw [if_neg (by simp [this])]
    | succ k =>
      rw [List.take_succ_cons] at h1
      have hx : isd x = true := h1 x (List.mem_cons_self ..)
      unfold dg
      rw [if_pos hx, ih (k := k) (fun y hy => h1 y (List.mem_cons_of_mem _ hy)) (by simpa using hk) (fun h => by have := h2 (by simpa using h); simpa using this)]
theorem dg_all {l : List Nat} (h : Dig l) : dg l = l.length := dg_is (by rw [List.take_length]; exact h) (Nat.le_refl _) (fun h => absurd h (Nat.lt_irrefl _))
theorem Dig.append {a b : List Nat} (h : Dig a) (k : Dig b) : Dig (a ++ b) := fun x hx => by
  rcases List.mem_append.1 hx with hx | hx
  · exact h x hx
  · exact k x hx
theorem Dig.byt {l : List Nat} (h : Dig l) : Byt l := fun x hx => by have := isd_iff.1 (h x hx); omega
theorem dnum_nil : dnum [] = 0 := rfl
theorem dnum_snoc (l : List Nat) (x : Nat) : dnum (l ++ [x]) = dnum l * 10 + (x - 48) := by simp [dnum]
theorem dnum_take {l : List Nat} {k : Nat} (hk : k < l.length) : dnum (l.take (k + 1)) = dnum (l.take k) * 10 + (l.getD k 0 - 48) := by
  rw [List.take_add_one, List.getElem?_eq_getElem hk, List.getD_eq_getElem?_getD, List.getElem?_eq_getElem hk]
  exact dnum_snoc _ _
theorem dnum_acc : ∀ (l : List Nat) (a : Nat), Dig l → l.foldl (fun a x => a * 10 + (x - 48)) a < (a + 1) * 10 ^ l.length
  | [], a, _ => by simp
  | x :: l, a, h => by
    have hx := isd_iff.1 (h x (List.mem_cons_self ..))
    have ih := dnum_acc l (a * 10 + (x - 48)) (fun y hy => h y (List.mem_cons_of_mem _ hy))
    rw [List.foldl_cons, List.length_cons, Nat.pow_succ]
    refine Nat.lt_of_lt_of_le ih ?_
    rw [Nat.mul_comm (10 ^ l.length) 10, ← Nat.mul_assoc]
    exact Nat.mul_le_mul_right _ (by omega)
theorem dnum_lt (l : List Nat) (h : Dig l) : dnum l < 10 ^ l.length := by
  have := dnum_acc l 0 h
  rwa [Nat.zero_add, Nat.one_mul] at this
theorem ten_bp (n : Nat) : 10 ^ n ≤ Bp n := by
  unfold Bp
  exact Nat.pow_le_pow_left (by omega) n

/-- The digits of a natural that is not 0. -/
def decf : Nat → Nat → List Nat
  | 0, _ => []
  | f + 1, n => if n = 0 then [] else decf f (n / 10) ++ [48 + n % 10]
def dec (n : Nat) : List Nat := if n = 0 then [48] else decf n n
theorem decf_more : ∀ (f n : Nat), n ≤ f → decf (f + 1) n = decf f n
  | 0, n, h => by
    obtain rfl : n = 0 := by omega
    rfl
  | f + 1, n, h => by
    rw [decf]
    conv => rhs; rw [decf]
    split
    · rfl
    · rw [decf_more f (n / 10) (by omega)]
theorem decf_any : ∀ (d f n : Nat), n ≤ f → decf (f + d) n = decf f n
  | 0, _, _, _ => rfl
  | d + 1, f, n, h => by rw [← Nat.add_assoc, decf_more _ _ (by omega), decf_any d f n h]
theorem dec_ten {n : Nat} (h : n ≠ 0) : decf n n = decf (n / 10) (n / 10) ++ [48 + n % 10] := by
  obtain ⟨f, rfl⟩ : ∃ f, n = f + 1 := ⟨n - 1, by omega⟩
  rw [decf, if_neg h]
  congr 1
  have := decf_any (f - (f + 1) / 10) ((f + 1) / 10) ((f + 1) / 10) (Nat.le_refl _)
  rw [show (f + 1) / 10 + (f - (f + 1) / 10) = f from by omega] at this
  exact this
theorem decf_dig : ∀ (f n : Nat), Dig (decf f n)
  | 0, _ => fun _ h => by cases h
  | f + 1, n => by
    rw [decf]
    split
    · intro _ h; cases h
    · refine (decf_dig f (n / 10)).append fun x hx => ?_
      obtain rfl := List.mem_singleton.1 hx
      exact isd_iff.2 (by omega)
theorem dec_dig (n : Nat) : Dig (dec n) := by
  unfold dec
  split
  · intro x hx
    obtain rfl := List.mem_singleton.1 hx
    rfl
  · exact decf_dig _ _
theorem decf_num : ∀ (n : Nat), dnum (decf n n) = n := by
  intro n
  induction n using Nat.strongRecOn with
  | ind n ih =>
    by_cases h : n = 0
    · subst h; rfl
    · rw [dec_ten h, dnum_snoc, ih (n / 10) (by omega)]
      omega
theorem dec_num (n : Nat) : dnum (dec n) = n := by
  unfold dec
  split
  · rename_i h; subst h; rfl
  · exact decf_num n
theorem dec_ne (n : Nat) : dec n ≠ [] := by
  unfold dec
  split
  · simp
  · rename_i h; rw [dec_ten h]; simp
theorem dec_inj {a b : Nat} (h : dec a = dec b) : a = b := by rw [← dec_num a, ← dec_num b, h]
/-- Ten times as much has a nought more. -/
theorem dec_tens {n : Nat} (h : n ≠ 0) : dec (n * 10) = dec n ++ [48] := by
  unfold dec
  rw [if_neg (by omega), if_neg h, dec_ten (by omega), Nat.mul_div_cancel _ (by omega), Nat.mul_mod_left]
theorem dec_head {n : Nat} (h : n ≠ 0) : (dec n).getD 0 0 ≠ 48 := by
  induction n using Nat.strongRecOn with
  | ind n ih =>
    unfold dec
    rw [if_neg h, dec_ten h]
    by_cases h1 : n / 10 = 0
    · rw [h1]
      show 48 + n % 10 ≠ 48
      omega
    · have := ih (n / 10) (by omega) h1
      unfold dec at this
      rw [if_neg h1] at this
      have hl : 0 < (decf (n / 10) (n / 10)).length := by rw [dec_ten h1]; simp
      rw [List.getD_eq_getElem?_getD, List.getElem?_append_left hl, ← List.getD_eq_getElem?_getD]
      exact this
theorem decf_len : ∀ (n k : Nat), n < 10 ^ k → (decf n n).length ≤ k := by
  intro n
  induction n using Nat.strongRecOn with
  | ind n ih =>
    intro k hk
    by_cases h : n = 0
    · subst h; exact Nat.zero_le _
    · cases k with
      | zero => simp at hk; omega
      | succ k =>
        rw [dec_ten h, List.length_append, List.length_singleton]
        have := ih (n / 10) (by omega) k (by rw [Nat.pow_succ] at hk; omega)
        omega
theorem dec_len {n k : Nat} (h : n < 10 ^ k) (hk : 1 ≤ k) : (dec n).length ≤ k := by
  unfold dec
  split
  · exact hk
  · exact decf_len n k h
/-- A natural of k limbs has at most 10 k digits. -/
theorem Bp_ten (k : Nat) : Bp k ≤ 10 ^ (10 * k) := by
  unfold Bp
  rw [Nat.pow_mul]
  exact Nat.pow_le_pow_left (by omega) k
end Go.Proofs.YtmfpnlhpdjabeaaGreatDoor.M

/- Digits in parts of nine: values in a base, pairs, halves; noughts ahead. -/
namespace Go.Proofs.YtmfpnlhpdjabeaaGreatDoor.M

/-- The value of parts in base b, the least one first. -/
def vb (b : Nat) : List Nat → Nat
  | [] => 0
  | x :: r => x + b * vb b r
/-- Of each two parts one. -/
def jn (p : Nat) : List Nat → List Nat
  | [] => []
  | [a] => [a]
  | a :: b :: r => (a + p * b) :: jn p r
theorem jn_vb (p : Nat) : ∀ l, vb (p * p) (jn p l) = vb p l
  | [] => rfl
  | [a] => by simp [jn, vb]
  | a :: b :: r => by
    simp only [jn, vb, jn_vb p r]
    grind
theorem jn_len (p : Nat) : ∀ l, (jn p l).length = (l.length + 1) / 2
  | [] => rfl
  | [a] => by simp [jn]
  | a :: b :: r => by
    simp only [jn, List.length_cons, jn_len p r]
    omega
theorem jn_get (p : Nat) : ∀ (l : List Nat) (i : Nat), (jn p l).getD i 0 = l.getD (2 * i) 0 + p * l.getD (2 * i + 1) 0
  | [], i => by simp [jn]
  | [a], 0 => by simp [jn]
  | [a], i + 1 => by
    rw [show 2 * (i + 1) = 2 * i + 1 + 1 from by omega]
    simp [jn]
  | a :: b :: r, 0 => by simp [jn]
  | a :: b :: r, i + 1 => by
    rw [show 2 * (i + 1) = 2 * i + 1 + 1 from by omega]
    have := jn_get p r i
    simpa [jn] using this
theorem jn_lt {p : Nat} (hp : 0 < p) : ∀ (l : List Nat), (∀ x ∈ l, x < p) → ∀ x ∈ jn p l, x < p * p
  | [], _ => fun x hx => by cases hx
  | [a], h => fun x hx => by
    have := List.mem_singleton.1 hx
    subst this
    have := h x (List.mem_cons_self ..)
    exact Nat.lt_of_lt_of_le this (Nat.le_mul_of_pos_left p hp)
  | a :: b :: r, h => fun x hx => by
    have ha := h a (List.mem_cons_self ..)
    have hb := h b (List.mem_cons_of_mem _ (List.mem_cons_self ..))
    simp only [jn, List.mem_cons] at hx
    rcases hx with rfl | hx
    · have : p * (b + 1) ≤ p * p := Nat.mul_le_mul_left p hb
      rw [Nat.mul_add, Nat.mul_one] at this
      omega
    · exact jn_lt hp r (fun y hy => h y (List.mem_cons_of_mem _ (List.mem_cons_of_mem _ hy))) x hx
/-- Of each part two. -/
def sp (p : Nat) : List Nat → List Nat
  | [] => []
  | a :: r => a % p :: a / p :: sp p r
theorem sp_vb (p : Nat) : ∀ l, vb p (sp p l) = vb (p * p) l
  | [] => rfl
  | a :: r => by
    simp only [sp, vb, sp_vb p r]
    have := Nat.mod_add_div a p
    grind
theorem sp_len (p : Nat) : ∀ l, (sp p l).length = 2 * l.length
  | [] => rfl
  | a :: r => by simp only [sp, List.length_cons, sp_len p r]; omega
theorem sp_append (p : Nat) (b : List Nat) : ∀ a, sp p (a ++ b) = sp p a ++ sp p b
  | [] => rfl
  | x :: a => by simp only [List.cons_append, sp, sp_append p b a]
theorem sp_lt {p : Nat} (hp : 0 < p) : ∀ (l : List Nat), (∀ x ∈ l, x < p * p) → ∀ x ∈ sp p l, x < p
  | [], _ => fun x hx => by cases hx
  | a :: r, h => fun x hx => by
    simp only [sp, List.mem_cons] at hx
    rcases hx with rfl | rfl | hx
    · exact Nat.mod_lt _ hp
    · exact Nat.div_lt_of_lt_mul (h a (List.mem_cons_self ..))
    · exact sp_lt hp r (fun y hy => h y (List.mem_cons_of_mem _ hy)) x hx

/-- 10^9, squared k times. -/
def pw (k : Nat) : Nat := 1000000000 ^ 2 ^ k
theorem pw_zero : pw 0 = 1000000000 := by simp [pw]
theorem pw_succ (k : Nat) : pw (k + 1) = pw k * pw k := by
  unfold pw
  rw [Nat.pow_succ, ← Nat.pow_add]
  congr 1
  omega
theorem pw_pos (k : Nat) : 0 < pw k := Nat.pow_pos (by omega)
theorem pw_bp (k : Nat) : pw k < Bp (2 ^ k) := by
  unfold pw Bp
  exact Nat.pow_lt_pow_left (by omega) (by have := Nat.two_pow_pos k; omega)
theorem le_two (k : Nat) : k ≤ 2 ^ k := Nat.le_of_lt Nat.lt_two_pow_self
/-- All of them, joined one behind the other. -/
def jns : Nat → List Nat → List Nat
  | 0, l => l
  | k + 1, l => jn (pw k) (jns k l)
theorem jns_vb : ∀ (k : Nat) (l : List Nat), vb (pw k) (jns k l) = vb (pw 0) l
  | 0, _ => rfl
  | k + 1, l => by rw [jns, pw_succ, jn_vb, jns_vb k l]
theorem jns_lt : ∀ (k : Nat) {l : List Nat}, (∀ x ∈ l, x < pw 0) → ∀ x ∈ jns k l, x < pw k
  | 0, _, h => h
  | k + 1, l, h => by rw [jns, pw_succ]; exact jn_lt (pw_pos k) _ (jns_lt k h)
theorem jns_len : ∀ (k m : Nat) {l : List Nat}, l.length ≤ 2 ^ (k + m) → (jns k l).length ≤ 2 ^ m
  | 0, m, _, h => by rw [Nat.zero_add] at h; exact h
  | k + 1, m, l, h => by
    have := jns_len k (m + 1) (l := l) (by rw [show k + (m + 1) = k + 1 + m from by omega]; exact h)
    rw [jns, jn_len, Nat.pow_succ] at *
    omega
theorem jns_pos : ∀ (k : Nat) {l : List Nat}, 0 < l.length → 0 < (jns k l).length
  | 0, _, h => h
  | k + 1, l, h => by
    have := jns_pos k h
    rw [jns, jn_len]
    omega
theorem jns_one {k : Nat} {l : List Nat} (h0 : 0 < l.length) (h : l.length ≤ 2 ^ k) : jns k l = [vb (pw 0) l] := by
  have h1 := jns_len k 0 (l := l) h
  have h2 := jns_pos k h0
  have h3 := jns_vb k l
  match hl : jns k l, h1, h2, h3 with
  | [a], _, _, h3 => rw [← h3]; simp [vb]
  | a :: b :: r, h1, _, _ => simp at h1
/-- All of them, split one behind the other, the greatest power first. -/
def sps : Nat → List Nat → List Nat
  | 0, l => l
  | k + 1, l => sps k (sp (pw k) l)
theorem sps_vb : ∀ (k : Nat) (l : List Nat), vb (pw 0) (sps k l) = vb (pw k) l
  | 0, _ => rfl
  | k + 1, l => by rw [sps, sps_vb k, sp_vb, pw_succ]
theorem sps_lt : ∀ (k : Nat) {l : List Nat}, (∀ x ∈ l, x < pw k) → ∀ x ∈ sps k l, x < pw 0
  | 0, _, h => h
  | k + 1, l, h => by rw [sps]; exact sps_lt k (sp_lt (pw_pos k) _ (by rw [← pw_succ]; exact h))
theorem sps_len : ∀ (k : Nat) (l : List Nat), (sps k l).length = 2 ^ k * l.length
  | 0, l => by simp [sps]
  | k + 1, l => by rw [sps, sps_len k, sp_len, Nat.pow_succ, Nat.mul_assoc]

theorem dnum_fold' (t : List Nat) : ∀ a, t.foldl (fun a x => a * 10 + (x - 48)) a = a * 10 ^ t.length + dnum t := by
  induction t with
  | nil => intro a; simp [dnum]
  | cons x t ih =>
    intro a
    unfold dnum
    rw [List.foldl_cons, List.foldl_cons, ih, ih, List.length_cons, Nat.pow_succ]
    grind
theorem dnum_app (s t : List Nat) : dnum (s ++ t) = dnum s * 10 ^ t.length + dnum t := by
  show (s ++ t).foldl _ 0 = _
  rw [List.foldl_append, dnum_fold']
  rfl
/-- The i-th part of nine digits, the last ones first. -/
def cki (l : List Nat) (i : Nat) : Nat := dnum ((l.take (l.length - 9 * i)).drop (l.length - 9 * i - 9))
def ck (l : List Nat) : List Nat := (List.range ((l.length + 8) / 9)).map (cki l)
theorem ck_len (l : List Nat) : (ck l).length = (l.length + 8) / 9 := by simp [ck]
theorem cki_shift {l : List Nat} (i : Nat) : cki l (i + 1) = cki (l.take (l.length - 9)) i := by
  unfold cki
  rw [List.take_take, List.length_take, show min (min (l.length - 9) l.length - 9 * i) (l.length - 9) = l.length - 9 * (i + 1) from by omega, show min (l.length - 9) l.length - 9 * i - 9 = l.length - 9 * (i + 1) - 9 from by omega]
theorem ck_vb : ∀ (n : Nat) (l : List Nat), l.length ≤ n → vb (pw 0) (ck l) = dnum l := by
  intro n
  induction n using Nat.strongRecOn with
  | ind n ih =>
    intro l hl
    by_cases h0 : l.length = 0
    · obtain rfl := List.eq_nil_of_length_eq_zero h0
      rfl
    · have hc : ck l = cki l 0 :: ck (l.take (l.length - 9)) := by
        unfold ck
        rw [List.length_take, show (l.length + 8) / 9 = (min (l.length - 9) l.length + 8) / 9 + 1 from by omega, List.range_succ_eq_map, List.map_cons, List.map_map]
        congr 1
        apply List.map_congr_left
        intro i _
        exact cki_shift i
      rw [hc, vb, ih (n - 1) (by omega) (l.take (l.length - 9)) (by rw [List.length_take]; omega)]
      have hd : cki l 0 = dnum (l.drop (l.length - 9)) := by
        unfold cki
        rw [Nat.mul_zero, Nat.sub_zero, List.take_length]
      have ha := dnum_app (l.take (l.length - 9)) (l.drop (l.length - 9))
      rw [List.take_append_drop] at ha
      rw [hd, ha]
      by_cases h9 : 9 ≤ l.length
      · rw [List.length_drop, show l.length - (l.length - 9) = 9 from by omega, pw_zero, show (10 : Nat) ^ 9 = 1000000000 from rfl]
        omega
      · rw [show l.length - 9 = 0 from by omega]
        simp [dnum]
theorem cki_lt {l : List Nat} (h : Dig l) (i : Nat) : cki l i < pw 0 := by
  rw [pw_zero]
  unfold cki
  have h2 : Dig ((l.take (l.length - 9 * i)).drop (l.length - 9 * i - 9)) := fun x hx => h x (List.mem_of_mem_take (List.mem_of_mem_drop hx))
  refine Nat.lt_of_lt_of_le (dnum_lt _ h2) ?_
  rw [show (1000000000 : Nat) = 10 ^ 9 from rfl]
  exact Nat.pow_le_pow_right (by omega) (by rw [List.length_drop, List.length_take]; omega)
theorem ck_lt {l : List Nat} (h : Dig l) : ∀ x ∈ ck l, x < pw 0 := fun x hx => by
  obtain ⟨i, _, rfl⟩ := List.mem_map.1 hx
  exact cki_lt h i

/-- So many digits of a number, noughts ahead too. -/
def pad : Nat → Nat → List Nat
  | 0, _ => []
  | k + 1, n => pad k (n / 10) ++ [48 + n % 10]
theorem pad_len : ∀ (k n : Nat), (pad k n).length = k
  | 0, _ => rfl
  | k + 1, n => by rw [pad, List.length_append, pad_len k]; rfl
theorem pad_dig : ∀ (k n : Nat), Dig (pad k n)
  | 0, _ => fun _ h => by cases h
  | k + 1, n => (pad_dig k _).append fun x hx => by
    obtain rfl := List.mem_singleton.1 hx
    exact isd_iff.2 (by omega)
theorem pad_num : ∀ (k n : Nat), n < 10 ^ k → dnum (pad k n) = n
  | 0, n, h => by simp at h; subst h; rfl
  | k + 1, n, h => by
    rw [pad, dnum_snoc, pad_num k (n / 10) (by rw [Nat.pow_succ] at h; omega)]
    omega
/-- The digits of parts, the last part's first. -/
def pads : List Nat → List Nat
  | [] => []
  | x :: r => pads r ++ pad 9 x
theorem pads_len : ∀ l, (pads l).length = 9 * l.length
  | [] => rfl
  | x :: r => by rw [pads, List.length_append, pads_len r, pad_len, List.length_cons]; omega
theorem pads_dig : ∀ l, Dig (pads l)
  | [] => fun _ h => by cases h
  | x :: r => (pads_dig r).append (pad_dig 9 x)
theorem pads_num : ∀ (l : List Nat), (∀ x ∈ l, x < pw 0) → dnum (pads l) = vb (pw 0) l
  | [], _ => rfl
  | x :: r, h => by
    have hx := h x (List.mem_cons_self ..)
    rw [pads, dnum_app, pads_num r (fun y hy => h y (List.mem_cons_of_mem _ hy)), pad_len, pad_num 9 x (by rw [pw_zero] at hx; exact hx), vb, pw_zero, show (10 : Nat) ^ 9 = 1000000000 from rfl]
    omega
/-- Without noughts ahead. -/
def trz (l : List Nat) : List Nat := l.dropWhile (· == 48)
theorem trz_num : ∀ l, dnum (trz l) = dnum l
  | [] => rfl
  | x :: l => by
    unfold trz
    rw [List.dropWhile_cons]
    split
    · rename_i h
      have : x = 48 := by simpa using h
      subst this
      have := trz_num l
      unfold trz at this
      rw [this]
      rfl
    · rfl
theorem trz_dig {l : List Nat} (h : Dig l) : Dig (trz l) := fun x hx => h x (List.dropWhile_suffix (· == 48) |>.subset hx)
theorem trz_head {l : List Nat} {x : Nat} {r : List Nat} (h : trz l = x :: r) : x ≠ 48 := by
  induction l with
  | nil => cases h
  | cons y l ih =>
    unfold trz at h
    rw [List.dropWhile_cons] at h
    split at h
    · exact ih h
    · rename_i hy
      obtain ⟨rfl, _⟩ := List.cons.inj h
      simpa using hy
/-- Digits that do not begin with a nought are those of their number. -/
theorem dec_of : ∀ (n : Nat) (l : List Nat), l.length = n → Dig l → (∀ x r, l = x :: r → x ≠ 48) → l = decf (dnum l) (dnum l) := by
  intro n
  induction n with
  | zero =>
    intro l hl _ _
    obtain rfl := List.eq_nil_of_length_eq_zero hl
    rfl
  | succ n ih =>
    intro l hl hd hh
    have hne : l ≠ [] := by intro h; subst h; simp at hl
    have hs : l = l.dropLast ++ [l.getLast hne] := (List.dropLast_concat_getLast hne).symm
    obtain ⟨s, x, rfl⟩ : ∃ s x, l = s ++ [x] := ⟨_, _, hs⟩
    have hx := isd_iff.1 (hd x (by simp))
    have hsd : Dig s := fun y hy => hd y (by simp [hy])
    have hi := ih s (by simpa using hl) hsd (fun y r e => hh y (r ++ [x]) (by rw [e]; rfl))
    have h0 : dnum s * 10 + (x - 48) ≠ 0 := by
      by_cases hs0 : s = []
      · subst hs0
        have := hh x [] rfl
        omega
      · have : dnum s ≠ 0 := by
          intro e
          rw [e] at hi
          exact hs0 hi
        omega
    rw [dnum_snoc, dec_ten h0, show (dnum s * 10 + (x - 48)) / 10 = dnum s from by omega, show 48 + (dnum s * 10 + (x - 48)) % 10 = x from by omega, ← hi]
theorem trz_dec {l : List Nat} (h : Dig l) : trz l = decf (dnum l) (dnum l) := by
  have := dec_of _ (trz l) rfl (trz_dig h) (fun x r e => trz_head e)
  rwa [trz_num] at this
theorem decf_nil {n : Nat} : decf n n = [] ↔ n = 0 := by
  constructor
  · intro h
    by_cases h0 : n = 0
    · exact h0
    · rw [dec_ten h0] at h; simp at h
  · rintro rfl; rfl
theorem dec_of_trz {l : List Nat} (h : Dig l) : dec (dnum l) = if trz l = [] then [48] else trz l := by
  rw [trz_dec h]
  unfold dec
  by_cases h0 : dnum l = 0
  · rw [if_pos h0, if_pos (decf_nil.2 h0)]
  · rw [if_neg h0, if_neg (fun e => h0 (decf_nil.1 e))]
end Go.Proofs.YtmfpnlhpdjabeaaGreatDoor.M
