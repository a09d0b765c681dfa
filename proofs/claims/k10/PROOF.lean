import PyProof.Rows.All
import Wide.All
import OpenK.AllK
import Wide.FinOn
import HandS.ForMost
import HandS.Wide
import HandS.WideBits
import HandS.WideMore
import HandS.Style
import HandS.IsInst
import HandS.SetFor
import HandS.Codes
import PySem.Challenge.RW_askback_k10_whole_folk_more_in_the_begin
set_option Elab.async false
set_option linter.all false
set_option maxRecDepth 100000
set_option maxHeartbeats 4000000
local macro_rules | `(tactic| walk_at "rd") => `(tactic| (repeat (first | refine ⟨_, _, rfl, rfl, ?_⟩ | refine ⟨_, rfl, ?_⟩ | refine ⟨_, _, rfl, ?_⟩ | refine ⟨rfl, ?_⟩)))
/-! numbers by their signs -/
namespace Ab
def digs (b n : Nat) : List Nat := if h : n = 0 ∨ b < 2 then [] else n % b :: digs b (n / b)
termination_by n
decreasing_by exact Nat.div_lt_self (by omega) (by omega)
theorem digs_zero (b : Nat) : digs b 0 = [] := by
  rw [digs, dif_pos (.inl rfl)]
theorem digs_pos {b n : Nat} (hb : 2 ≤ b) (hn : 0 < n) : digs b n = n % b :: digs b (n / b) := by
  rw [digs, dif_neg (by omega)]
/-- the signs, the greatest first -/
def sgn (b n : Nat) : List Nat := (digs b n).reverse
theorem sgn_zero (b : Nat) : sgn b 0 = [] := by rw [sgn, digs_zero]; rfl
theorem sgn_pos {b n : Nat} (hb : 2 ≤ b) (hn : 0 < n) : sgn b n = sgn b (n / b) ++ [n % b] := by
  rw [sgn, digs_pos hb hn, List.reverse_cons]; rfl
def heap (b n : Nat) : Nat := if h : n < b ∨ b < 2 then 0 else n / b + heap b (n / b)
termination_by n
decreasing_by exact Nat.div_lt_self (by omega) (by omega)
theorem heap_small {b n : Nat} (h : n < b) : heap b n = 0 := by
  rw [heap, dif_pos (.inl h)]
theorem heap_step {b n : Nat} (hb : 2 ≤ b) : heap b n = n / b + heap b (n / b) := by
  by_cases h : n < b
  · rw [heap_small h, Nat.div_eq_of_lt h, heap_small (show 0 < b by omega)]
  · rw [heap, dif_neg (by omega)]
def expo (b n : Nat) : Nat := if h : n < b ∨ b < 2 then 0 else expo b (n / b) + 1
termination_by n
decreasing_by exact Nat.div_lt_self (by omega) (by omega)
theorem expo_small {b n : Nat} (h : n < b) : expo b n = 0 := by
  rw [expo, dif_pos (.inl h)]
theorem expo_step {b n : Nat} (hb : 2 ≤ b) (h : b ≤ n) : expo b n = expo b (n / b) + 1 := by
  rw [expo, dif_neg (by omega)]
def lead (b n : Nat) : Nat := if h : n < b ∨ b < 2 then n else lead b (n / b)
termination_by n
decreasing_by exact Nat.div_lt_self (by omega) (by omega)
theorem lead_small {b n : Nat} (h : n < b) : lead b n = n := by
  rw [lead, dif_pos (.inl h)]
theorem lead_step {b n : Nat} (hb : 2 ≤ b) (h : b ≤ n) : lead b n = lead b (n / b) := by
  rw [lead, dif_neg (by omega)]
def nou (b n : Nat) : Nat := if h : n = 0 ∨ n % b ≠ 0 ∨ b < 2 then 0 else nou b (n / b) + 1
termination_by n
decreasing_by exact Nat.div_lt_self (by omega) (by omega)
theorem nou_zero (b : Nat) : nou b 0 = 0 := by
  rw [nou, dif_pos (.inl rfl)]
theorem nou_no {b n : Nat} (h : n % b ≠ 0) : nou b n = 0 := by
  rw [nou, dif_pos (.inr (.inl h))]
theorem nou_step {b n : Nat} (hb : 2 ≤ b) (hn : 0 < n) (h : n % b = 0) : nou b n = nou b (n / b) + 1 := by
  rw [nou, dif_neg (by omega)]
/-- induction along the parts -/
theorem part_ind {b : Nat} (hb : 2 ≤ b) {P : Nat → Prop} (h : ∀ n, (∀ m, 0 < n → m = n / b → P m) → P n) (n : Nat) : P n := by
  induction n using Nat.strongRecOn with
  | ind n ih => exact h n fun m hn e => ih m (by rw [e]; exact Nat.div_lt_self hn (by omega))
theorem div_pos_of {b n : Nat} (hb : 2 ≤ b) (h : b ≤ n) : 0 < n / b := Nat.div_pos h (by omega)
theorem digs_lt {b : Nat} (hb : 2 ≤ b) (n : Nat) : ∀ s ∈ digs b n, s < b := by
  induction n using part_ind hb with
  | h n ih =>
    by_cases hn : n = 0
    · subst hn; rw [digs_zero]; intro s hs; cases hs
    · rw [digs_pos hb (by omega)]
      intro s hs
      rcases List.mem_cons.mp hs with e | e
      · rw [e]; exact Nat.mod_lt _ (by omega)
      · exact ih _ (by omega) rfl s e
theorem sgn_lt {b : Nat} (hb : 2 ≤ b) (n : Nat) : ∀ s ∈ sgn b n, s < b := fun s hs => digs_lt hb n s (List.mem_reverse.mp hs)
theorem digs_len {b : Nat} (hb : 2 ≤ b) (n : Nat) (hn : 0 < n) : (digs b n).length = expo b n + 1 := by
  induction n using part_ind hb with
  | h n ih =>
    rw [digs_pos hb hn, List.length_cons]
    by_cases h : n < b
    · rw [Nat.div_eq_of_lt h, digs_zero, expo_small h]; rfl
    · rw [ih _ hn rfl (div_pos_of hb (by omega)), expo_step (n := n) hb (by omega)]
theorem sgn_len {b : Nat} (hb : 2 ≤ b) (n : Nat) (hn : 0 < n) : (sgn b n).length = expo b n + 1 := by
  rw [sgn, List.length_reverse, digs_len hb n hn]
theorem sgn_head {b : Nat} (hb : 2 ≤ b) (n : Nat) (hn : 0 < n) : (sgn b n)[0]? = some (lead b n) := by
  induction n using part_ind hb with
  | h n ih =>
    rw [sgn_pos hb hn]
    by_cases h : n < b
    · rw [Nat.div_eq_of_lt h, sgn_zero, lead_small h, Nat.mod_eq_of_lt h]; rfl
    · have hp := div_pos_of hb (show b ≤ n by omega)
      rw [List.getElem?_append_left (by rw [sgn_len hb _ hp]; omega), ih _ hn rfl hp, lead_step (n := n) hb (by omega)]
theorem lead_pos {b : Nat} (hb : 2 ≤ b) (n : Nat) (hn : 0 < n) : 0 < lead b n := by
  induction n using part_ind hb with
  | h n ih =>
    by_cases h : n < b
    · rw [lead_small h]; exact hn
    · rw [lead_step hb (by omega)]; exact ih _ hn rfl (div_pos_of hb (by omega))
theorem lead_lt {b : Nat} (hb : 2 ≤ b) (n : Nat) : lead b n < b := by
  induction n using part_ind hb with
  | h n ih =>
    by_cases h : n < b
    · rw [lead_small h]; exact h
    · rw [lead_step hb (by omega)]; exact ih _ (by omega) rfl
/-- the signs put together -/
theorem sgn_sum {b : Nat} (hb : 2 ≤ b) (n : Nat) : (sgn b n).foldl (fun t s => t * b + s) 0 = n := by
  induction n using part_ind hb with
  | h n ih =>
    by_cases hn : n = 0
    · subst hn; rw [sgn_zero]; rfl
    · rw [sgn_pos hb (by omega), List.foldl_append, ih _ (by omega) rfl]
      show n / b * b + n % b = n
      rw [Nat.mul_comm]; exact Nat.div_add_mod n b
theorem more_div {b n s : Nat} (hb : 2 ≤ b) (hs : s < b) : (n * b + s) / b = n := by
  rw [Nat.mul_comm, Nat.mul_add_div (by omega), Nat.div_eq_of_lt hs, Nat.add_zero]
theorem more_mod {b n s : Nat} (hs : s < b) : (n * b + s) % b = s := by
  rw [Nat.mul_comm, Nat.mul_add_mod, Nat.mod_eq_of_lt hs]
theorem more_pos {b n s : Nat} (hb : 2 ≤ b) (hn : 0 < n) : b ≤ n * b + s :=
  Nat.le_trans (Nat.le_mul_of_pos_left b hn) (Nat.le_add_right _ _)
theorem sgn_more {b n s : Nat} (hb : 2 ≤ b) (hn : 0 < n) (hs : s < b) : sgn b (n * b + s) = sgn b n ++ [s] := by
  have h := more_pos (s := s) hb hn
  rw [sgn_pos hb (by omega), more_div hb hs, more_mod hs]
theorem expo_more {b n s : Nat} (hb : 2 ≤ b) (hn : 0 < n) (hs : s < b) : expo b (n * b + s) = expo b n + 1 := by
  rw [expo_step hb (more_pos hb hn), more_div hb hs]
theorem heap_more {b n s : Nat} (hb : 2 ≤ b) (hs : s < b) : heap b (n * b + s) = n + heap b n := by
  rw [heap_step hb, more_div hb hs]
theorem nou_more {b n s : Nat} (hb : 2 ≤ b) (hn : 0 < n) (hs : s < b) : nou b (n * b + s) = if s = 0 then nou b n + 1 else 0 := by
  have h := more_pos (s := s) hb hn
  by_cases e : s = 0
  · rw [if_pos e, nou_step hb (by omega) (by rw [more_mod hs]; exact e), more_div hb hs]
  · rw [if_neg e, nou_no (by rw [more_mod hs]; exact e)]
/-- the noughts are the signs behind, that are 0 -/
theorem nou_lt {b : Nat} (hb : 2 ≤ b) (n : Nat) (hn : 0 < n) : nou b n < (digs b n).length := by
  induction n using part_ind hb with
  | h n ih =>
    rw [digs_pos hb hn, List.length_cons]
    by_cases h : n % b = 0
    · have hbn : b ≤ n := Nat.le_of_not_lt fun z => by rw [Nat.mod_eq_of_lt z] at h; omega
      have := ih _ hn rfl (div_pos_of hb hbn)
      rw [nou_step hb hn h]; omega
    · rw [nou_no h]; omega
theorem nou_at {b : Nat} (hb : 2 ≤ b) (n : Nat) (hn : 0 < n) : ∀ j, j < nou b n → (digs b n)[j]? = some 0 := by
  induction n using part_ind hb with
  | h n ih =>
    intro j hj
    by_cases h : n % b = 0
    · have hbn : b ≤ n := Nat.le_of_not_lt fun z => by rw [Nat.mod_eq_of_lt z] at h; omega
      rw [nou_step hb hn h] at hj
      rw [digs_pos hb hn]
      cases j with
      | zero => rw [h]; rfl
      | succ j =>
        rw [List.getElem?_cons_succ]
        exact ih _ hn rfl (div_pos_of hb hbn) j (by omega)
    · rw [nou_no h] at hj; omega
theorem nou_end {b : Nat} (hb : 2 ≤ b) (n : Nat) (hn : 0 < n) : ∃ s, (digs b n)[nou b n]? = some s ∧ s ≠ 0 := by
  induction n using part_ind hb with
  | h n ih =>
    rw [digs_pos hb hn]
    by_cases h : n % b = 0
    · have hbn : b ≤ n := Nat.le_of_not_lt fun z => by rw [Nat.mod_eq_of_lt z] at h; omega
      rw [nou_step hb hn h, List.getElem?_cons_succ]
      exact ih _ hn rfl (div_pos_of hb hbn)
    · rw [nou_no h]; exact ⟨_, rfl, h⟩
theorem sgn_back {b n j : Nat} (hj : j < (digs b n).length) : (sgn b n)[(digs b n).length - 1 - j]? = (digs b n)[j]? := by
  rw [sgn, List.getElem?_reverse (by omega)]
  congr 1
  omega
theorem digs_bits {b : Nat} (hb : 2 ≤ b) (n : Nat) : ∀ x, n < 2 ^ x → (digs b n).length ≤ x := by
  induction n using part_ind hb with
  | h n ih =>
    intro x hx
    by_cases hn : n = 0
    · subst hn; rw [digs_zero]; exact Nat.zero_le _
    · rw [digs_pos hb (by omega), List.length_cons]
      cases x with
      | zero => rw [Nat.pow_zero] at hx; omega
      | succ x =>
        have h1 : n / b ≤ n / 2 := Nat.div_le_div_left hb (by omega)
        have h2 : n / 2 < 2 ^ x := by rw [Nat.pow_succ] at hx; omega
        have := ih _ (by omega) rfl x (by omega)
        omega
theorem horner_le {b : Nat} (hb : 0 < b) : ∀ (l : List Nat) (t : Nat), t ≤ l.foldl (fun t s => t * b + s) t
  | [], t => Nat.le_refl t
  | s :: r, t => Nat.le_trans (Nat.le_trans (Nat.le_mul_of_pos_right t hb) (Nat.le_add_right _ s)) (horner_le hb r (t * b + s))
theorem horner_take {b : Nat} (hb : 2 ≤ b) (n i : Nat) : ((sgn b n).take i).foldl (fun t s => t * b + s) 0 ≤ n := by
  have e := sgn_sum hb n
  rw [← List.take_append_drop i (sgn b n), List.foldl_append] at e
  have h := horner_le (b := b) (by omega) ((sgn b n).drop i) (((sgn b n).take i).foldl (fun t s => t * b + s) 0)
  omega
theorem small_of {n x : Nat} (h : n ≤ x) (hx : x ≤ 100000 := by decide) : n ≤ 100000 := Nat.le_trans h hx
end Ab

/-! houses: last places, what is said, the rule -/
namespace Ab
/-- sums of the beginning's numbers, each less one -/
def sm (B : List Nat) (d : Nat) : Nat := ((B.take d).map (· - 1)).sum
/-- a beginning of k - 1 numbers from 1 on -/
structure Beg (k : Nat) (B : List Nat) : Prop where
  two : 2 ≤ k
  len : B.length + 1 = k
  pos : ∀ b ∈ B, 1 ≤ b
def rea (B : List Nat) : Nat := sm B B.length
theorem sm_zero (B : List Nat) : sm B 0 = 0 := by simp [sm]
theorem sm_succ {B : List Nat} {d b : Nat} (h : B[d]? = some b) : sm B (d + 1) = sm B d + (b - 1) := by
  unfold sm
  rw [List.take_add_one, h, List.map_append, List.sum_append]
  simp
theorem sm_mono {B : List Nat} {c d : Nat} (h : c ≤ d) : sm B c ≤ sm B d := by
  obtain ⟨e, rfl⟩ := Nat.le.dest h
  clear h
  induction e with
  | zero => exact Nat.le_refl _
  | succ e ih =>
    refine Nat.le_trans ih ?_
    unfold sm
    rw [← Nat.add_assoc, List.take_add_one, List.map_append, List.sum_append]
    exact Nat.le_add_right _ _
theorem sm_rea {B : List Nat} {d : Nat} (h : B.length ≤ d) : sm B d = rea B := by
  unfold rea sm
  rw [List.take_of_length_le h, List.take_length]
theorem sm_le (B : List Nat) (d : Nat) : sm B d ≤ rea B := by
  by_cases h : d ≤ B.length
  · exact sm_mono h
  · rw [sm_rea (by omega)]; exact Nat.le_refl _
/-- the last place of m -/
def las (k : Nat) (B : List Nat) (m : Nat) : Nat := m + heap k m + (expo k m * rea B + sm B (lead k m))
theorem las_small {k : Nat} {B : List Nat} {m : Nat} (h : m < k) : las k B m = m + sm B m := by
  rw [las, heap_small h, expo_small h, lead_small h, Nat.zero_mul]; omega
theorem las_zero {k : Nat} {B : List Nat} (h : 2 ≤ k) : las k B 0 = 0 := by
  rw [las_small (by omega), sm_zero]
theorem las_step {k : Nat} {B : List Nat} {m : Nat} (hk : 2 ≤ k) (h : k ≤ m) : las k B m = m + rea B + las k B (m / k) := by
  rw [las, las, heap_step (n := m) hk, expo_step (n := m) hk h, lead_step (n := m) hk h, Nat.add_mul, Nat.one_mul]; omega
/-- how many times m is said -/
def tim (k : Nat) (B : List Nat) (m : Nat) : Nat := if h : m < k ∨ k < 2 then B.getD (m - 1) 1 else if m % k = 0 then tim k B (m / k) + 1 else 1
termination_by m
decreasing_by exact Nat.div_lt_self (by omega) (by omega)
theorem tim_small {k : Nat} {B : List Nat} {m : Nat} (h : m < k) : tim k B m = B.getD (m - 1) 1 := by
  rw [tim, dif_pos (.inl h)]
theorem tim_one {k : Nat} {B : List Nat} {m : Nat} (hk : 2 ≤ k) (h : k ≤ m) (hm : m % k ≠ 0) : tim k B m = 1 := by
  rw [tim, dif_neg (by omega), if_neg hm]
theorem tim_more {k : Nat} {B : List Nat} {m : Nat} (hk : 2 ≤ k) (h : k ≤ m) (hm : m % k = 0) : tim k B m = tim k B (m / k) + 1 := by
  rw [tim, dif_neg (by omega), if_pos hm]
theorem tim_mul {k : Nat} {B : List Nat} {q : Nat} (hk : 2 ≤ k) (hq : 0 < q) : tim k B (k * q) = tim k B q + 1 := by
  rw [tim_more hk (Nat.le_mul_of_pos_right k hq) (Nat.mul_mod_right k q), Nat.mul_div_cancel_left q (by omega)]
theorem Beg.at {k : Nat} {B : List Nat} (h : Beg k B) {m : Nat} (h1 : 0 < m) (h2 : m < k) : ∃ b, B[m - 1]? = some b ∧ 1 ≤ b ∧ B.getD (m - 1) 1 = b := by
  have hl : m - 1 < B.length := by have := h.len; omega
  refine ⟨B[m - 1], List.getElem?_eq_getElem hl, h.pos _ (List.getElem_mem hl), ?_⟩
  rw [List.getD_eq_getElem?_getD, List.getElem?_eq_getElem hl]; rfl
theorem tim_pos {k : Nat} {B : List Nat} (h : Beg k B) {m : Nat} (hm : 0 < m) : 0 < tim k B m := by
  by_cases h1 : m < k
  · obtain ⟨b, _, hb, e⟩ := h.at hm h1
    rw [tim_small h1, e]; exact hb
  · by_cases h2 : m % k = 0
    · rw [tim_more h.two (by omega) h2]; omega
    · rw [tim_one h.two (by omega) h2]; omega
theorem tim_eq {k : Nat} {B : List Nat} (hk : 2 ≤ k) {m : Nat} (hm : 0 < m) : tim k B m = if nou k m = expo k m then nou k m + B.getD (lead k m - 1) 1 else nou k m + 1 := by
  induction m using part_ind hk with
  | h m ih =>
    by_cases h1 : m < k
    · have e : nou k m = 0 := nou_no (by rw [Nat.mod_eq_of_lt h1]; omega)
      rw [e, expo_small h1, lead_small h1, if_pos rfl, tim_small h1, Nat.zero_add]
    · have hd := div_pos_of hk (show k ≤ m by omega)
      by_cases h2 : m % k = 0
      · have i := ih _ hm rfl hd
        rw [tim_more hk (by omega) h2, i, nou_step (n := m) hk hm h2, expo_step (n := m) hk (by omega), lead_step (n := m) hk (by omega)]
        by_cases h3 : nou k (m / k) = expo k (m / k)
        · rw [if_pos h3, if_pos (by omega)]; omega
        · rw [if_neg h3, if_neg (by omega)]
      · rw [tim_one hk (by omega) h2, nou_no h2, expo_step (n := m) hk (by omega), if_neg (by omega)]
theorem dig_part {k : Nat} (hk : 2 ≤ k) {n j : Nat} (hn : 0 < n) (hj0 : 0 < j) (hj : j < k) : (digs k (n / j)).length = expo k n + (if j ≤ lead k n then 1 else 0) := by
  induction n using part_ind hk with
  | h n ih =>
    by_cases h1 : n < k
    · rw [expo_small h1, lead_small h1]
      by_cases h2 : j ≤ n
      · have h3 : 0 < n / j := Nat.div_pos h2 hj0
        have h4 : n / j < k := Nat.lt_of_le_of_lt (Nat.div_le_self n j) h1
        rw [if_pos h2, digs_pos hk h3, Nat.div_eq_of_lt h4, digs_zero]; rfl
      · rw [if_neg h2, Nat.div_eq_of_lt (by omega), digs_zero]; rfl
    · have hd := div_pos_of hk (show k ≤ n by omega)
      have h3 : 0 < n / j := Nat.div_pos (by omega) hj0
      have i := ih _ hn rfl hd
      rw [digs_pos hk h3, List.length_cons, expo_step (n := n) hk (by omega), lead_step (n := n) hk (by omega), Nat.div_div_eq_div_mul, Nat.mul_comm j k, ← Nat.div_div_eq_div_mul, i]
      omega
theorem div_pred {k m : Nat} (hk : 2 ≤ k) (hm : m % k ≠ 0) : (m - 1) / k = m / k := by
  have e := Nat.div_add_mod m k
  have hl : m % k < k := Nat.mod_lt m (by omega)
  have e2 : m - 1 = k * (m / k) + (m % k - 1) := by omega
  rw [e2, Nat.mul_add_div (by omega), Nat.div_eq_of_lt (show m % k - 1 < k by omega), Nat.add_zero]
theorem div_pred0 {k m : Nat} (hk : 2 ≤ k) (h : 0 < m) (hm : m % k = 0) : (m - 1) / k + 1 = m / k := by
  have e := Nat.div_add_mod m k
  have hq : 0 < m / k := Nat.pos_of_ne_zero fun z => by rw [z, Nat.mul_zero] at e; omega
  obtain ⟨q, hq⟩ : ∃ q, m / k = q + 1 := ⟨m / k - 1, by omega⟩
  rw [hq] at e
  rw [hq]
  have e2 : m - 1 = k * q + (k - 1) := by rw [Nat.mul_add, Nat.mul_one] at e; omega
  rw [e2, Nat.mul_add_div (by omega), Nat.div_eq_of_lt (by omega), Nat.add_zero]
theorem las_tim {k : Nat} {B : List Nat} (h : Beg k B) {m : Nat} (hm : 0 < m) : las k B m = las k B (m - 1) + tim k B m := by
  have hk := h.two
  induction m using part_ind hk with
  | h m ih =>
    by_cases h1 : m < k
    · obtain ⟨b, hb, h1b, e⟩ := h.at hm h1
      rw [las_small h1, las_small (by omega), tim_small h1, e]
      have := sm_succ hb
      rw [show m - 1 + 1 = m by omega] at this
      omega
    · have hd : 0 < m / k := div_pos_of hk (by omega)
      have em := Nat.div_add_mod m k
      by_cases h2 : m % k = 0
      · have e0 := div_pred0 hk hm h2
        have i := ih _ hm rfl hd
        have e1 : m / k - 1 = (m - 1) / k := by omega
        rw [e1] at i
        rw [las_step hk (by omega), tim_more hk (by omega) h2, i]
        by_cases h3 : m - 1 < k
        · have e3 : m = k := by omega
          have e4 : (m - 1) / k = 0 := Nat.div_eq_of_lt h3
          rw [las_small (m := m - 1) h3, e4, las_zero hk, sm_rea (by have := h.len; omega)]
          omega
        · rw [las_step (m := m - 1) hk (by omega)]; omega
      · have hlt : m % k < k := Nat.mod_lt m (by omega)
        have hne : m ≠ k := fun z => h2 (by rw [z]; exact Nat.mod_self k)
        rw [las_step hk (by omega), tim_one hk (by omega) h2, las_step (m := m - 1) hk (by omega), div_pred hk h2]
        omega
theorem las_lt {k : Nat} {B : List Nat} (h : Beg k B) {m : Nat} (hm : 0 < m) : las k B (m - 1) < las k B m := by
  have := las_tim h hm
  have := tim_pos h hm
  omega
theorem las_mono {k : Nat} {B : List Nat} (h : Beg k B) {m n : Nat} (e : m ≤ n) : las k B m ≤ las k B n := by
  obtain ⟨d, rfl⟩ := Nat.le.dest e
  clear e
  induction d with
  | zero => exact Nat.le_refl _
  | succ d ih => exact Nat.le_trans ih (Nat.le_of_lt (las_lt h (m := m + d + 1) (by omega)))
theorem las_ge (k : Nat) (B : List Nat) (m : Nat) : m ≤ las k B m := by
  unfold las; omega
/-- what is said at a place; 1 at 0 -/
def sa (k : Nat) (B : List Nat) : Nat → Nat
  | 0 => 1
  | n + 1 => if n + 1 ≤ las k B (sa k B n) then sa k B n else sa k B n + 1
theorem sa_at {k : Nat} {B : List Nat} (h : Beg k B) : ∀ n, 0 < n → 0 < sa k B n ∧ las k B (sa k B n - 1) < n ∧ n ≤ las k B (sa k B n)
  | 0, hn => absurd hn (by omega)
  | 1, _ => by
    have h1 : sa k B 1 = 1 := by
      show (if 1 ≤ las k B 1 then 1 else 2) = 1
      rw [if_pos (las_ge k B 1)]
    rw [h1]
    have := las_zero (B := B) h.two
    have := las_ge k B 1
    exact ⟨by omega, by show las k B 0 < 1; omega, by omega⟩
  | n + 2, _ => by
    obtain ⟨h1, h2, h3⟩ := sa_at h (n + 1) (by omega)
    show 0 < (if n + 2 ≤ las k B (sa k B (n + 1)) then sa k B (n + 1) else sa k B (n + 1) + 1) ∧ _
    have e : sa k B (n + 2) = (if n + 2 ≤ las k B (sa k B (n + 1)) then sa k B (n + 1) else sa k B (n + 1) + 1) := rfl
    rw [e]
    split
    · exact ⟨h1, by omega, by assumption⟩
    · have := las_lt h (m := sa k B (n + 1) + 1) (by omega)
      rw [Nat.add_sub_cancel] at this
      rw [Nat.add_sub_cancel]
      exact ⟨by omega, by omega, by omega⟩
theorem sa_eq {k : Nat} {B : List Nat} (h : Beg k B) {n m : Nat} (hm : 0 < m) (h1 : las k B (m - 1) < n) (h2 : n ≤ las k B m) : sa k B n = m := by
  obtain ⟨a, b, c⟩ := sa_at h n (by omega)
  rcases Nat.lt_trichotomy (sa k B n) m with z | z | z
  · have := las_mono h (show sa k B n ≤ m - 1 by omega); omega
  · exact z
  · have := las_mono h (show m ≤ sa k B n - 1 by omega); omega
/-- of any whole number -/
def saI (k : Nat) (B : List Nat) (z : Int) : Nat := sa k B z.toNat
theorem saI_nat (k : Nat) (B : List Nat) (n : Nat) : saI k B (n : Int) = sa k B n := by
  unfold saI; rw [Int.toNat_natCast]
theorem saI_neg {k : Nat} {B : List Nat} {z : Int} (h : z ≤ 0) : saI k B z = 1 := by
  unfold saI; rw [Int.toNat_of_nonpos h]; rfl
theorem saI_eq {k : Nat} {B : List Nat} (h : Beg k B) {z : Int} {m : Nat} (hm : 0 < m) (h1 : (las k B (m - 1) : Int) < z) (h2 : z ≤ las k B m) : saI k B z = m := by
  unfold saI
  exact sa_eq h hm (by omega) (by omega)
theorem sa_one {k : Nat} {B : List Nat} (h : Beg k B) {z : Int} (hz : z ≤ 1) : saI k B z = 1 := by
  by_cases h0 : z ≤ 0
  · exact saI_neg h0
  · have := las_zero (B := B) h.two
    have := las_ge k B 1
    exact saI_eq h (by omega) (by show ((las k B 0 : Nat) : Int) < z; omega) (by omega)
/-- what is said where p leads -/
def hh (k : Nat) (B : List Nat) (p : Int) : Nat := saI k B (p + 1 - rea B - saI k B p)
theorem hh_low {k : Nat} {B : List Nat} (h : Beg k B) {p : Int} (hp : p ≤ las k B (k - 1)) : hh k B p = 1 := by
  unfold hh
  by_cases h0 : p ≤ 0
  · have := saI_neg (k := k) (B := B) h0
    exact saI_neg (by omega)
  · refine sa_one h ?_
    have hn : 0 < p.toNat := by omega
    obtain ⟨a, b, c⟩ := sa_at h p.toNat hn
    have hm : sa k B p.toNat < k := Nat.lt_of_not_le fun z => by
      have := las_mono h (show k - 1 ≤ sa k B p.toNat - 1 by have := h.two; omega)
      omega
    rw [las_small hm] at c
    have := sm_le B (sa k B p.toNat)
    unfold saI
    omega
/-- the places that lead, by number and turn -/
theorem lead_at {k : Nat} {B : List Nat} (h : Beg k B) {m : Nat} (hm : k ≤ m) : (las k B (m - 1) : Int) + 1 - rea B - m = las k B ((m - 1) / k) := by
  have hk := h.two
  by_cases h1 : m - 1 < k
  · have e : m = k := by omega
    rw [las_small h1, Nat.div_eq_of_lt h1, las_zero hk, sm_rea (by have := h.len; omega)]
    omega
  · rw [las_step (m := m - 1) hk (by omega)]; omega
theorem hh_at {k : Nat} {B : List Nat} (h : Beg k B) {m : Nat} (hm : k ≤ m) {j : Nat} (hj : j < tim k B m) : hh k B (las k B (m - 1) + 1 + j : Nat) = sa k B (las k B ((m - 1) / k) + 1 + j) := by
  have hk := h.two
  have t := las_tim h (m := m) (by omega)
  have e : saI k B ((las k B (m - 1) + 1 + j : Nat) : Int) = m := saI_eq h (by omega) (by omega) (by omega)
  unfold hh
  rw [e]
  have l := lead_at h hm
  have e2 : ((las k B (m - 1) + 1 + j : Nat) : Int) + 1 - rea B - m = ((las k B ((m - 1) / k) + 1 + j : Nat) : Int) := by omega
  rw [e2, saI_nat]
theorem sa_first {k : Nat} {B : List Nat} (h : Beg k B) (q : Nat) : sa k B (las k B q + 1) = q + 1 := by
  have := las_lt h (m := q + 1) (by omega)
  rw [Nat.add_sub_cancel] at this
  exact sa_eq h (by omega) (by rw [Nat.add_sub_cancel]; omega) (by omega)
/-- one said once at each place between multiples -/
theorem las_between {k : Nat} {B : List Nat} (h : Beg k B) {q : Nat} (hq : 0 < q) : ∀ r, r < k → las k B (k * q + r) = las k B (k * q) + r
  | 0, _ => rfl
  | r + 1, hr => by
    have i := las_between h hq r (by omega)
    have hk := h.two
    have hkq : k ≤ k * q := Nat.le_mul_of_pos_right k hq
    have e : (k * q + (r + 1)) % k = r + 1 := by rw [Nat.mul_add_mod, Nat.mod_eq_of_lt hr]
    rw [las_tim h (m := k * q + (r + 1)) (by omega), tim_one hk (by omega) (by omega)]
    show las k B (k * q + r) + 1 = _
    omega
theorem hh_mid {k : Nat} {B : List Nat} (h : Beg k B) {q : Nat} (hq : 0 < q) {p : Nat} (h1 : las k B (k * q) ≤ p) (h2 : p < las k B (k * (q + 1))) : hh k B p = q + 1 := by
  have hk := h.two
  have hkq : k ≤ k * q := Nat.le_mul_of_pos_right k hq
  have hp : 0 < p := by have := las_ge k B (k * q); omega
  obtain ⟨a, b, c⟩ := sa_at h p hp
  have hms : k * (q + 1) = k * q + k := by rw [Nat.mul_add, Nat.mul_one]
  -- the number there
  have g1 : k * q ≤ sa k B p := Nat.le_of_not_lt fun z => by
    have := las_mono h (show sa k B p ≤ k * q - 1 by omega)
    have := las_lt h (m := k * q) (by omega)
    omega
  have g2 : sa k B p ≤ k * (q + 1) := Nat.le_of_not_lt fun z => by
    have := las_mono h (show k * (q + 1) ≤ sa k B p - 1 by omega)
    omega
  generalize hm : sa k B p = m at a b c g1 g2
  have t := las_tim h (m := m) a
  obtain ⟨j, hj⟩ : ∃ j, p = las k B (m - 1) + 1 + j := ⟨p - (las k B (m - 1) + 1), by omega⟩
  have hjt : j < tim k B m := by omega
  rw [hj, hh_at h (by omega) hjt]
  by_cases e1 : m = k * q
  · -- the last one of k q
    have e2 : p = las k B m := by rw [e1] at c ⊢; omega
    have e3 : (m - 1) / k + 1 = q := by rw [div_pred0 hk a (by rw [e1]; exact Nat.mul_mod_right k q), e1, Nat.mul_div_cancel_left q (by omega)]
    have e4 : tim k B m = tim k B q + 1 := by rw [e1, tim_mul hk hq]
    have t2 := las_tim h (m := q) hq
    have e5 : (m - 1) / k = q - 1 := by omega
    rw [e5, show las k B (q - 1) + 1 + j = las k B q + 1 by omega, sa_first h]
  · by_cases e2 : m = k * (q + 1)
    · -- one of k (q + 1), not the last
      have e3 : (m - 1) / k + 1 = q + 1 := by rw [div_pred0 hk a (by rw [e2]; exact Nat.mul_mod_right k _), e2, Nat.mul_div_cancel_left _ (by omega)]
      have e4 : tim k B m = tim k B (q + 1) + 1 := by rw [e2, tim_mul hk (by omega)]
      have t2 := las_tim h (m := q + 1) (by omega)
      rw [Nat.add_sub_cancel] at t2
      rw [← e2] at h2
      have e5 : (m - 1) / k = q := by omega
      rw [e5]
      exact sa_eq h (by omega) (by rw [Nat.add_sub_cancel]; omega) (by omega)
    · -- between
      have e3 : (m - 1) / k = q := by
        have e4 : m - 1 = k * q + (m - 1 - k * q) := by omega
        rw [e4, Nat.mul_add_div (by omega), Nat.div_eq_of_lt (by omega), Nat.add_zero]
      have e4 : m % k ≠ 0 := by
        have e4 : m = k * q + (m - k * q) := by omega
        rw [e4, Nat.mul_add_mod, Nat.mod_eq_of_lt (by omega)]
        omega
      have e5 : tim k B m = 1 := tim_one hk (by omega) e4
      have e6 : j = 0 := by omega
      rw [e3, e6, Nat.add_zero, sa_first h]
/-- sums of k -/
def sumTo (f : Nat → Nat) : Nat → Nat
  | 0 => 0
  | i + 1 => sumTo f i + f i
theorem sumTo_succ (f : Nat → Nat) (i : Nat) : sumTo f (i + 1) = sumTo f i + f i := rfl
theorem sumTo_two {f : Nat → Nat} {q r : Nat} : ∀ k, (∀ i, i < k → i < r → f i = q + 1) → (∀ i, i < k → r ≤ i → f i = q) → sumTo f k = k * q + min r k
  | 0, _, _ => by show 0 = 0 * q + min r 0; rw [Nat.zero_mul, Nat.min_zero]
  | k + 1, h1, h2 => by
    have i := sumTo_two k (fun i hi => h1 i (by omega)) (fun i hi => h2 i (by omega))
    show sumTo f k + f k = _
    rw [i, Nat.add_mul, Nat.one_mul]
    by_cases e : k < r
    · rw [h1 k (by omega) e]; omega
    · rw [h2 k (by omega) (by omega)]; omega
/-- THE RULE: behind the beginning each says the sum of what those say whom it asks -/
theorem the_rule {k : Nat} {B : List Nat} (h : Beg k B) {n : Nat} (hn : las k B (k - 1) < n) : sumTo (fun i => hh k B ((n : Int) - i - 1)) k = sa k B n := by
  have hk := h.two
  obtain ⟨a, b, c⟩ := sa_at h n (by omega)
  have hm : k ≤ sa k B n := Nat.le_of_not_lt fun z => by
    have := las_mono h (show sa k B n ≤ k - 1 by omega)
    omega
  generalize sa k B n = m at a b c hm
  have em := Nat.div_add_mod m k
  have hr : m % k < k := Nat.mod_lt m (by omega)
  have hq : 0 < m / k := div_pos_of hk hm
  generalize m / k = q at em hq
  generalize m % k = r at em hr
  -- below k q, not below k (q - 1): q
  have low : ∀ p : Int, p < las k B (k * q) → (las k B (k * q - 1) : Int) + 1 - k ≤ p → hh k B p = q := by
    intro p h1 h2
    by_cases e : q = 1
    · subst e
      rw [Nat.mul_one] at h1
      by_cases z : p ≤ las k B (k - 1)
      · exact hh_low h z
      · have t := las_tim h (m := k) (by omega)
        have e1 : tim k B k = tim k B 1 + 1 := by
          have := tim_mul (B := B) hk (q := 1) (by omega)
          rwa [Nat.mul_one] at this
        obtain ⟨j, hj⟩ : ∃ j : Nat, p = ((las k B (k - 1) + 1 + j : Nat) : Int) := ⟨(p - las k B (k - 1) - 1).toNat, by omega⟩
        rw [hj, hh_at h (Nat.le_refl k) (by omega), Nat.div_eq_of_lt (show k - 1 < k by omega), las_zero hk]
        have t1 := las_tim h (m := 1) (by omega)
        rw [show 1 - 1 = 0 from rfl, las_zero hk] at t1
        exact sa_eq h (by omega) (by show las k B 0 < _; rw [las_zero hk]; omega) (by omega)
    · obtain ⟨q', rfl⟩ : ∃ q', q = q' + 1 := ⟨q - 1, by omega⟩
      have hq' : 0 < q' := by omega
      have e1 := las_between h hq' (k - 1) (by omega)
      have e2 : k * (q' + 1) = k * q' + k := by rw [Nat.mul_add, Nat.mul_one]
      have e3 := las_lt h (m := k * (q' + 1)) (by omega)
      rw [show k * (q' + 1) - 1 = k * q' + (k - 1) by omega, e1] at e3 h2
      obtain ⟨p', rfl⟩ : ∃ p' : Nat, p = (p' : Int) := ⟨p.toNat, by omega⟩
      exact hh_mid h hq' (by omega) (by omega)
  have kq : k * q + r = m := em
  have hnext : las k B (k * q) + k ≤ las k B (k * (q + 1)) := by
    have e1 := las_between h hq (k - 1) (by omega)
    have e2 : k * (q + 1) = k * q + k := by rw [Nat.mul_add, Nat.mul_one]
    have e3 := las_lt h (m := k * (q + 1)) (by omega)
    rw [show k * (q + 1) - 1 = k * q + (k - 1) by omega, e1] at e3
    omega
  by_cases hr0 : r = 0
  · subst hr0
    rw [Nat.add_zero] at kq
    have key := sumTo_two (f := fun i => hh k B ((n : Int) - i - 1)) (q := q) (r := 0) k (fun i _ hi => absurd hi (by omega)) (fun i hi _ => low _ (by rw [kq]; omega) (by rw [kq]; omega))
    rw [key]; omega
  · have e1 := las_between h hq r hr
    have e2 := las_between h hq (r - 1) (by omega)
    rw [show k * q + (r - 1) = m - 1 by omega] at e2
    rw [kq] at e1
    have en : n = las k B (k * q) + r := by omega
    have key := sumTo_two (f := fun i => hh k B ((n : Int) - i - 1)) (q := q) (r := r) k (fun i h1 hi => ?_) (fun i h1 hi => low _ (by omega) (by have := las_lt h (m := k * q) (by have := Nat.le_mul_of_pos_right k hq; omega); omega))
    · rw [key]; omega
    · obtain ⟨p, hp⟩ : ∃ p : Nat, (n : Int) - i - 1 = (p : Int) := ⟨n - i - 1, by omega⟩
      show hh k B ((n : Int) - i - 1) = q + 1
      rw [hp]
      exact hh_mid h hq (by omega) (by omega)
end Ab

/-! what is said, found sign by sign -/
namespace Ab
def ones (k : Nat) : Nat → Nat
  | 0 => 1
  | e + 1 => ones k e * k + 1
theorem ones_pos (k : Nat) : ∀ e, 0 < ones k e
  | 0 => by show 0 < 1; omega
  | e + 1 => by show 0 < _ + 1; omega
theorem ones_pow (k : Nat) : ∀ e, ones k (e + 1) = ones k e + k ^ (e + 1)
  | 0 => by show 1 * k + 1 = 1 + k ^ 1; rw [Nat.pow_one]; omega
  | e + 1 => by
    have i := ones_pow k e
    show ones k (e + 1) * k + 1 = ones k (e + 1) + k ^ (e + 2)
    rw [i, Nat.add_mul, show k ^ (e + 2) = k ^ (e + 1) * k from rfl]
    have : ones k e + k ^ (e + 1) = ones k e * k + 1 := i.symm
    omega
theorem ones_div {k : Nat} (hk : 2 ≤ k) (e : Nat) : ones k (e + 1) / k = ones k e := more_div hk (by omega)
theorem ones_mono (k : Nat) (e : Nat) : ones k e ≤ ones k (e + 1) := by rw [ones_pow]; exact Nat.le_add_right _ _
theorem ones_mod {k : Nat} (hk : 2 ≤ k) (e : Nat) : ones k e ≤ 2 * k ^ e := by
  induction e with
  | zero => show 1 ≤ 2 * 1; omega
  | succ e ih =>
    rw [ones_pow, Nat.pow_succ]
    have : k ^ e * 2 ≤ k ^ e * k := Nat.mul_le_mul_left _ hk
    omega
theorem pow_pos' {k : Nat} (hk : 2 ≤ k) (e : Nat) : 0 < k ^ e := Nat.pow_pos (by omega)
theorem ones_two {k : Nat} (hk : 2 ≤ k) : ∀ e, 2 ^ e ≤ ones k e
  | 0 => by show 1 ≤ 1; omega
  | e + 1 => by
    have i := ones_two hk e
    show 2 ^ (e + 1) ≤ ones k e * k + 1
    rw [Nat.pow_succ]
    have := Nat.mul_le_mul i hk
    omega
/-- the last place of a sign with noughts behind it -/
def rnd (k : Nat) (B : List Nat) (e s : Nat) : Nat := s * ones k e + e * rea B + sm B s
theorem las_round {k : Nat} {B : List Nat} (hk : 2 ≤ k) {s : Nat} (h1 : 0 < s) (h2 : s < k) : ∀ e, las k B (s * k ^ e) = rnd k B e s
  | 0 => by
    rw [Nat.pow_zero, Nat.mul_one, las_small h2]
    show _ = s * 1 + 0 * _ + _
    omega
  | e + 1 => by
    have hp := pow_pos' hk e
    have e1 : s * k ^ (e + 1) = s * k ^ e * k := by rw [Nat.pow_succ, Nat.mul_assoc]
    have h3 : k ≤ s * k ^ (e + 1) := by
      rw [e1]
      exact Nat.le_mul_of_pos_left k (Nat.mul_pos h1 hp)
    rw [las_step hk h3, show s * k ^ (e + 1) / k = s * k ^ e by rw [e1]; exact Nat.mul_div_cancel _ (by omega), las_round hk h1 h2 e]
    unfold rnd
    rw [ones_pow, Nat.mul_add, Nat.add_mul, Nat.one_mul]
    omega
theorem rnd_zero (k : Nat) (B : List Nat) (e : Nat) : rnd k B e 0 = e * rea B := by
  unfold rnd; rw [Nat.zero_mul, sm_zero]; omega
theorem las_next {k : Nat} {B : List Nat} (h : Beg k B) {N c : Nat} (hN : 0 < N) (hc : c < k) : ∀ i, las k B ((N * k + c) * k ^ i) = las k B (N * k ^ (i + 1)) + c * ones k i
  | 0 => by
    rw [Nat.pow_zero, Nat.mul_one, Nat.pow_one, Nat.mul_comm N k, las_between h hN c hc]
    show _ = _ + c * 1
    omega
  | i + 1 => by
    have hk := h.two
    have hp := pow_pos' hk i
    have ih := las_next h hN hc i
    have e1 : (N * k + c) * k ^ (i + 1) = (N * k + c) * k ^ i * k := by rw [Nat.pow_succ, Nat.mul_assoc]
    have e2 : N * k ^ (i + 2) = N * k ^ (i + 1) * k := by rw [Nat.pow_succ, Nat.mul_assoc]
    have h1 : k ≤ (N * k + c) * k ^ (i + 1) := by
      rw [e1]
      exact Nat.le_mul_of_pos_left k (Nat.mul_pos (Nat.add_pos_left (Nat.mul_pos hN (by omega)) c) hp)
    have h2 : k ≤ N * k ^ (i + 2) := by
      rw [e2]
      exact Nat.le_mul_of_pos_left k (Nat.mul_pos hN (pow_pos' hk _))
    rw [las_step hk h1, las_step hk h2]
    rw [show (N * k + c) * k ^ (i + 1) / k = (N * k + c) * k ^ i by rw [e1]; exact Nat.mul_div_cancel _ (by omega)]
    rw [show N * k ^ (i + 2) / k = N * k ^ (i + 1) by rw [e2]; exact Nat.mul_div_cancel _ (by omega)]
    rw [ih, ones_pow, Nat.mul_add]
    have e3 : (N * k + c) * k ^ (i + 1) = N * k ^ (i + 2) + c * k ^ (i + 1) := by
      rw [Nat.add_mul, Nat.pow_succ k (i + 1), Nat.mul_comm (k ^ (i + 1)) k, Nat.mul_assoc]
    rw [e3]
    omega
theorem rnd_ones (k : Nat) (B : List Nat) (e : Nat) : ones k e ≤ rnd k B e 1 := by
  unfold rnd; rw [Nat.one_mul]; omega
theorem exp_lt {k : Nat} {B : List Nat} (hk : 2 ≤ k) {e n x : Nat} (h : rnd k B e 1 ≤ n) (hn : n < 2 ^ x) : e < x := by
  have h1 := ones_two hk e
  have h2 := rnd_ones k B e
  exact (Nat.pow_lt_pow_iff_right (by decide : 1 < 2)).mp (Nat.lt_of_le_of_lt (Nat.le_trans h1 (Nat.le_trans h2 h)) hn)
/-- a part of a number said up to p -/
structure Pre (k : Nat) (B : List Nat) (p N i : Nat) : Prop where
  lo : las k B (N * k ^ i) ≤ p
  hi : p < las k B ((N + 1) * k ^ i)
theorem Pre.le {k : Nat} {B : List Nat} {p N i : Nat} (hk : 2 ≤ k) (x : Pre k B p N i) : N ≤ p := by
  have h := las_ge k B (N * k ^ i)
  have h2 := Nat.le_mul_of_pos_right N (pow_pos' hk i)
  have := x.lo
  omega
theorem Pre.next {k : Nat} {B : List Nat} (h : Beg k B) {p N i : Nat} (hN : 0 < N) (x : Pre k B p N (i + 1)) :
    Pre k B p (N * k + min (k - 1) ((p - las k B (N * k ^ (i + 1))) / ones k i)) i ∧
      p - las k B ((N * k + min (k - 1) ((p - las k B (N * k ^ (i + 1))) / ones k i)) * k ^ i) = p - las k B (N * k ^ (i + 1)) - min (k - 1) ((p - las k B (N * k ^ (i + 1))) / ones k i) * ones k i ∧
      min (k - 1) ((p - las k B (N * k ^ (i + 1))) / ones k i) * ones k i ≤ p - las k B (N * k ^ (i + 1)) := by
  have hk := h.two
  have ho := ones_pos k i
  generalize hl : p - las k B (N * k ^ (i + 1)) = left
  have hd := Nat.div_mul_le_self left (ones k i)
  have lo := x.lo
  have hi := x.hi
  generalize hc : min (k - 1) (left / ones k i) = c
  have c1 : c < k := by omega
  have c2 : c * ones k i ≤ left := Nat.le_trans (Nat.mul_le_mul_right _ (by omega)) hd
  have e := las_next h hN c1 i
  refine ⟨⟨by omega, ?_⟩, by omega, c2⟩
  by_cases z : c + 1 < k
  · have e2 := las_next h hN z i
    rw [show N * k + c + 1 = N * k + (c + 1) by omega, e2]
    have hlt : left < (c + 1) * ones k i := by
      have e3 : left / ones k i = c := by omega
      have := Nat.lt_mul_div_succ left ho
      rw [e3, Nat.mul_comm] at this
      exact this
    omega
  · have e3 : c + 1 = k := by omega
    have e4 : (N * k + c + 1) * k ^ i = (N + 1) * k ^ (i + 1) := by
      rw [show N * k + c + 1 = (N + 1) * k by rw [Nat.add_mul, Nat.one_mul]; omega, Nat.pow_succ, Nat.mul_comm (k ^ i) k, Nat.mul_assoc]
    rw [e4]
    exact hi
theorem Pre.end {k : Nat} {B : List Nat} (h : Beg k B) {p N : Nat} (x : Pre k B p N 0) : sa k B (p + 1) = N + 1 := by
  have lo := x.lo
  have hi := x.hi
  rw [Nat.pow_zero, Nat.mul_one] at lo hi
  exact sa_eq h (by omega) (by rw [Nat.add_sub_cancel]; omega) (by omega)
/-- the first exponent and sign -/
theorem Pre.start {k : Nat} {B : List Nat} (h : Beg k B) {p e s : Nat} (h1 : e = 0 ∨ rnd k B e 1 ≤ p) (h2 : p < rnd k B (e + 1) 1) (hs : s < k) (h3 : s = 0 ∨ rnd k B e s ≤ p) (h4 : s = k - 1 ∨ p < rnd k B e (s + 1)) :
    Pre k B p s e ∧ (0 < e → 0 < s) := by
  have hk := h.two
  have h5 : 0 < e → 0 < s := fun he => by
    rcases Nat.eq_zero_or_pos s with z | z
    · subst z
      rcases h1 with q | q
      · omega
      · rcases h4 with r | r
        · omega
        · rw [Nat.zero_add] at r; omega
    · exact z
  refine ⟨⟨?_, ?_⟩, h5⟩
  · rcases Nat.eq_zero_or_pos s with z | z
    · rw [z, Nat.zero_mul, las_zero hk]; exact Nat.zero_le _
    · rw [las_round hk z hs]; rcases h3 with q | q <;> omega
  · by_cases z : s + 1 < k
    · rw [las_round hk (by omega) z]
      rcases h4 with q | q <;> omega
    · have e1 : (s + 1) * k ^ e = 1 * k ^ (e + 1) := by rw [show s + 1 = k by omega, Nat.pow_succ, Nat.one_mul, Nat.mul_comm]
      rw [e1, las_round hk (by omega) (by omega)]
      exact h2
/-- what is said, gone one by one -/
def gonL (k : Nat) (B : List Nat) (n : Nat) : List Nat := (List.range n).map fun i => sa k B (i + 1)
theorem gonL_len (k : Nat) (B : List Nat) (n : Nat) : (gonL k B n).length = n := by
  unfold gonL; rw [List.length_map, List.length_range]
theorem gonL_at {k : Nat} {B : List Nat} {n i : Nat} (h : i < n) : (gonL k B n)[i]? = some (sa k B (i + 1)) := by
  unfold gonL
  rw [List.getElem?_map, List.getElem?_range h]
  rfl
theorem gonL_succ (k : Nat) (B : List Nat) (n : Nat) : gonL k B (n + 1) = gonL k B n ++ [sa k B (n + 1)] := by
  unfold gonL
  rw [List.range_succ, List.map_append]
  rfl
theorem gonL_take {k : Nat} {B : List Nat} {n m : Nat} (h : m ≤ n) : (gonL k B n).take m = gonL k B m := by
  unfold gonL
  rw [← List.map_take, List.take_range, Nat.min_eq_left h]
theorem gonL_more {k : Nat} {B : List Nat} (h : Beg k B) (j : Nat) : ∀ b, b ≤ tim k B (j + 1) → gonL k B (las k B j + b) = gonL k B (las k B j) ++ List.replicate b (j + 1)
  | 0, _ => by rw [Nat.add_zero, List.replicate_zero, List.append_nil]
  | b + 1, hb => by
    have t := las_tim h (m := j + 1) (by omega)
    rw [Nat.add_sub_cancel] at t
    have e : sa k B (las k B j + b + 1) = j + 1 := sa_eq h (by omega) (by rw [Nat.add_sub_cancel]; omega) (by omega)
    rw [← Nat.add_assoc, gonL_succ, gonL_more h j b (by omega), e, List.replicate_succ', List.append_assoc]
theorem gonL_begin {k : Nat} {B : List Nat} (h : Beg k B) {j b : Nat} (hb : B[j]? = some b) : gonL k B (las k B (j + 1)) = gonL k B (las k B j) ++ List.replicate b (j + 1) := by
  have hj : j < B.length := (List.getElem?_eq_some_iff.mp hb).1
  have hl := h.len
  have t := las_tim h (m := j + 1) (by omega)
  rw [Nat.add_sub_cancel] at t
  have e : tim k B (j + 1) = b := by
    rw [tim_small (by omega), Nat.add_sub_cancel, List.getD_eq_getElem?_getD, hb]; rfl
  rw [e] at t
  rw [t]
  exact gonL_more h j b (by omega)
theorem sum_rea : ∀ {B : List Nat}, (∀ b ∈ B, 1 ≤ b) → B.sum = rea B + B.length
  | [], _ => rfl
  | b :: r, h => by
    have i := sum_rea (B := r) fun x hx => h x (List.mem_cons_of_mem _ hx)
    have hb := h b (List.mem_cons_self ..)
    unfold rea sm at i ⊢
    rw [List.take_length] at i ⊢
    rw [List.map_cons, List.sum_cons, List.sum_cons, List.length_cons]
    omega
theorem folk_las {k : Nat} {B : List Nat} (h : Beg k B) : las k B (k - 1) = B.sum := by
  have hk := h.two
  have hl := h.len
  rw [las_small (by omega), sm_rea (by omega), sum_rea h.pos]
  omega
theorem sum_le_of {m : Nat} : ∀ {B : List Nat}, (∀ x ∈ B, x ≤ m) → B.sum ≤ B.length * m
  | [], _ => Nat.zero_le _
  | b :: r, h => by
    have i := sum_le_of (B := r) fun x hx => h x (List.mem_cons_of_mem _ hx)
    have hb := h b (List.mem_cons_self ..)
    rw [List.sum_cons, List.length_cons, Nat.add_mul, Nat.one_mul]
    omega
theorem rea_le {B : List Nat} (h : ∀ x ∈ B, 1 ≤ x) : rea B ≤ B.sum := by
  rw [sum_rea h]; omega
theorem heap_le {b : Nat} (hb : 2 ≤ b) (n : Nat) : heap b n ≤ n := by
  induction n using part_ind hb with
  | h n ih =>
    by_cases h : n < b
    · rw [heap_small h]; omega
    · have i := ih _ (by omega) rfl
      have h2 : n / b ≤ n / 2 := Nat.div_le_div_left hb (by omega)
      rw [heap_step (n := n) hb]
      omega
theorem las_lt_pow {k : Nat} {B : List Nat} (hk : 2 ≤ k) (hr : rea B < 2 ^ 400) {n : Nat} (hn : n < 2 ^ 900) : las k B n < 2 ^ 1000 := by
  have h1 := heap_le hk n
  have h2 := sm_le B (lead k n)
  have h3 : expo k n ≤ 900 := by
    by_cases z : n < k
    · rw [expo_small z]; omega
    · have e1 := digs_len hk n (by omega)
      have e2 := digs_bits hk n 900 hn
      omega
  have h4 : expo k n * rea B ≤ 900 * 2 ^ 400 := Nat.mul_le_mul h3 (by omega)
  have h5 : 2 * 2 ^ 900 + 901 * 2 ^ 400 < 2 ^ 1000 := by decide +kernel
  unfold las
  omega
theorem sa_le {k : Nat} {B : List Nat} (h : Beg k B) {n : Nat} (hn : 0 < n) : 0 < sa k B n ∧ sa k B n ≤ n := by
  obtain ⟨a, b, _⟩ := sa_at h n hn
  have := las_ge k B (sa k B n - 1)
  exact ⟨a, by omega⟩
theorem sa_last {k : Nat} {B : List Nat} (h : Beg k B) {m : Nat} (hm : 0 < m) : sa k B (las k B m) = m :=
  sa_eq h hm (las_lt h hm) (Nat.le_refl _)
theorem las_pos {k : Nat} {B : List Nat} {m : Nat} (hm : 0 < m) : 0 < las k B m := by
  have := las_ge k B m; omega
theorem sa_mono {k : Nat} {B : List Nat} (h : Beg k B) {m n : Nat} (hm : 0 < m) (e : m ≤ n) : sa k B m ≤ sa k B n := by
  obtain ⟨a1, b1, c1⟩ := sa_at h m hm
  obtain ⟨a2, b2, c2⟩ := sa_at h n (by omega)
  refine Nat.le_of_not_lt fun z => ?_
  have := las_mono h (show sa k B n ≤ sa k B m - 1 by omega)
  omega
theorem gon_count {k : Nat} {B : List Nat} (h : Beg k B) {N n : Nat} (hN : 0 < N) (hn : las k B N ≤ n) : (gonL k B n).count N = tim k B N := by
  have t := las_tim h hN
  have e1 := gonL_more h (N - 1) (tim k B N) (by rw [Nat.sub_add_cancel hN]; exact Nat.le_refl _)
  rw [Nat.sub_add_cancel hN, ← t] at e1
  have e2 : gonL k B n = gonL k B (las k B N) ++ (gonL k B n).drop (las k B N) := by
    rw [← gonL_take hn, List.take_append_drop]
  have z1 : (gonL k B (las k B (N - 1))).count N = 0 := by
    refine List.count_eq_zero.mpr fun hm => ?_
    obtain ⟨i, hi, ei⟩ := List.getElem_of_mem hm
    rw [gonL_len] at hi
    have e3 := gonL_at (k := k) (B := B) hi
    rw [List.getElem?_eq_getElem (by rw [gonL_len]; exact hi), ei] at e3
    have e4 := sa_mono h (m := i + 1) (n := las k B (N - 1)) (by omega) (by omega)
    have hN2 : 0 < N - 1 := Nat.pos_of_ne_zero fun q => by rw [q, las_zero h.two] at hi; omega
    rw [sa_last h hN2, ← Option.some.inj e3] at e4
    omega
  have z2 : ((gonL k B n).drop (las k B N)).count N = 0 := by
    refine List.count_eq_zero.mpr fun hm => ?_
    obtain ⟨i, hi, ei⟩ := List.getElem_of_mem hm
    rw [List.length_drop, gonL_len] at hi
    rw [List.getElem_drop] at ei
    have e3 := gonL_at (k := k) (B := B) (show las k B N + i < n by omega)
    rw [List.getElem?_eq_getElem (by rw [gonL_len]; omega), ei] at e3
    have e4 := sa_mono h (m := las k B N + 1) (n := las k B N + i + 1) (by omega) (by omega)
    rw [sa_first h, ← Option.some.inj e3] at e4
    omega
  rw [e2, e1, List.count_append, List.count_append, z1, z2, List.count_replicate_self]
  omega
end Ab

/-! a house with more folk of one number -/
namespace Ab
theorem digs_lt_pow {k : Nat} (hk : 2 ≤ k) (m : Nat) : ∀ t, m < k ^ t → (digs k m).length ≤ t := by
  induction m using part_ind hk with
  | h m ih =>
    intro t ht
    by_cases hm : m = 0
    · subst hm; rw [digs_zero]; exact Nat.zero_le _
    · rw [digs_pos hk (by omega), List.length_cons]
      cases t with
      | zero => rw [Nat.pow_zero] at ht; omega
      | succ t =>
        have h2 : m / k < k ^ t := Nat.div_lt_of_lt_mul (by rw [Nat.pow_succ, Nat.mul_comm] at ht; exact ht)
        have := ih _ (by omega) rfl t h2
        omega
theorem pow_le_digs {k : Nat} (hk : 2 ≤ k) (m : Nat) : ∀ t, k ^ t ≤ m → t < (digs k m).length := by
  induction m using part_ind hk with
  | h m ih =>
    intro t ht
    have hp := pow_pos' hk t
    rw [digs_pos hk (by omega), List.length_cons]
    cases t with
    | zero => omega
    | succ t =>
      have h2 : k ^ t ≤ m / k := (Nat.le_div_iff_mul_le (by omega)).mpr (by rw [Nat.pow_succ] at ht; exact ht)
      have := ih _ (by omega) rfl t h2
      omega
/-- how many of j, j * k, j * k * k .. are at most n -/
theorem comes_len {k : Nat} (hk : 2 ≤ k) {n j t : Nat} (hj : 0 < j) (h1 : ∀ e, e < t → j * k ^ e ≤ n) (h2 : n < j * k ^ t) : (digs k (n / j)).length = t := by
  have h3 : n / j < k ^ t := Nat.div_lt_of_lt_mul h2
  have h4 := digs_lt_pow hk _ t h3
  cases t with
  | zero => omega
  | succ t =>
    have h5 : k ^ t ≤ n / j := (Nat.le_div_iff_mul_le hj).mpr (by have := h1 t (by omega); rw [Nat.mul_comm] at this; exact this)
    have h6 := pow_le_digs hk _ t h5
    omega
theorem sm_set {B : List Nat} {a m : Nat} (ha : a < B.length) (hp : 1 ≤ B[a]) : ∀ d, sm (B.set a (B[a] + m)) d = sm B d + (if a < d then m else 0)
  | 0 => by rw [sm_zero, sm_zero]; rfl
  | d + 1 => by
    have i := sm_set (m := m) ha hp d
    by_cases h : d < B.length
    · have e1 : B[d]? = some B[d] := List.getElem?_eq_getElem h
      by_cases z : a = d
      · subst z
        have e2 : (B.set a (B[a] + m))[a]? = some (B[a] + m) := by rw [List.getElem?_set_self ha]
        rw [sm_succ e2, sm_succ e1, i, if_neg (by omega), if_pos (by omega)]
        omega
      · have e2 : (B.set a (B[a] + m))[d]? = some B[d] := by rw [List.getElem?_set_ne z, e1]
        rw [sm_succ e2, sm_succ e1, i]
        by_cases y : a < d
        · rw [if_pos y, if_pos (by omega)]; omega
        · rw [if_neg y, if_neg (by omega)]; omega
    · rw [sm_rea (d := d + 1) (by rw [List.length_set]; omega), sm_rea (d := d + 1) (by omega)]
      rw [sm_rea (d := d) (by rw [List.length_set]; omega), sm_rea (d := d) (by omega)] at i
      rw [i, if_pos (by omega), if_pos (by omega)]
theorem beg_set {k : Nat} {B : List Nat} (h : Beg k B) {a m : Nat} (ha : a < B.length) : Beg k (B.set a (B[a] + m)) := by
  refine ⟨h.two, by rw [List.length_set]; exact h.len, fun b hb => ?_⟩
  rcases List.mem_or_eq_of_mem_set hb with z | z
  · exact h.pos b z
  · have := h.pos B[a] (List.getElem_mem ha)
    omega
theorem rea_set {B : List Nat} {a m : Nat} (ha : a < B.length) (hp : 1 ≤ B[a]) : rea (B.set a (B[a] + m)) = rea B + m := by
  unfold rea
  rw [List.length_set, sm_set ha hp, if_pos ha]
theorem las_set {k : Nat} {B : List Nat} (h : Beg k B) {a m : Nat} (ha : a < B.length) {n : Nat} (hn : 0 < n) : las k (B.set a (B[a] + m)) n = las k B n + m * (digs k (n / (a + 1))).length := by
  have hp := h.pos B[a] (List.getElem_mem ha)
  have hl := h.len
  unfold las
  rw [rea_set ha hp, sm_set ha hp, dig_part h.two hn (by omega) (by omega), Nat.mul_add, Nat.mul_add, Nat.mul_comm m (expo k n)]
  by_cases z : a < lead k n
  · rw [if_pos z, if_pos (by omega)]; omega
  · rw [if_neg z, if_neg (by omega)]; omega
theorem tim_set_yes {k : Nat} {B : List Nat} (h : Beg k B) {a m : Nat} (ha : a < B.length) : ∀ e, tim k (B.set a (B[a] + m)) ((a + 1) * k ^ e) = tim k B ((a + 1) * k ^ e) + m
  | 0 => by
    have hl := h.len
    rw [Nat.pow_zero, Nat.mul_one, tim_small (by omega), tim_small (by omega), Nat.add_sub_cancel, List.getD_eq_getElem?_getD, List.getD_eq_getElem?_getD, List.getElem?_set_self ha, List.getElem?_eq_getElem ha]
    rfl
  | e + 1 => by
    have i := tim_set_yes h (m := m) ha e
    have hp : 0 < (a + 1) * k ^ e := Nat.mul_pos (by omega) (pow_pos' h.two e)
    have e1 : (a + 1) * k ^ (e + 1) = k * ((a + 1) * k ^ e) := by rw [Nat.pow_succ, ← Nat.mul_assoc, Nat.mul_comm k]
    rw [e1, tim_mul h.two hp, tim_mul h.two hp, i]
    omega
theorem tim_set_no {k : Nat} {B : List Nat} (h : Beg k B) {a m : Nat} (ha : a < B.length) (n : Nat) (hn : 0 < n) (hno : ∀ e, n ≠ (a + 1) * k ^ e) : tim k (B.set a (B[a] + m)) n = tim k B n := by
  have hk := h.two
  induction n using part_ind hk with
  | h n ih =>
    by_cases h1 : n < k
    · have hne : n ≠ a + 1 := by have := hno 0; rw [Nat.pow_zero, Nat.mul_one] at this; exact this
      rw [tim_small h1, tim_small h1, List.getD_eq_getElem?_getD, List.getD_eq_getElem?_getD, List.getElem?_set_ne (by omega)]
    · have hd := div_pos_of hk (show k ≤ n by omega)
      by_cases h2 : n % k = 0
      · have e := Nat.div_add_mod n k
        rw [tim_more hk (by omega) h2, tim_more hk (by omega) h2, ih _ hn rfl hd fun e' z => hno (e' + 1) (by rw [Nat.pow_succ, ← Nat.mul_assoc, ← z, Nat.mul_comm]; omega)]
      · rw [tim_one hk (by omega) h2, tim_one hk (by omega) h2]
end Ab

/-! helpers over the hand layer: a power, heaps but for one place, the defs of a text, the pen -/
namespace Ab
open PySem PySem.Spec PyProof.Rows L2
open C8 (Cal Mak Met pe_c pe_mk pe_mt pe_mt0)
def CPowW (i j : Int) : Prop := 0 ≤ j ∧ (Builtin.Int.intBits i : Int) * j ≤ 2 ^ 27
theorem op_powW {X : Cx} : OpR X (binaryOp .Pow) (rI CPowW fun i j => .int (i ^ j.toNat)) := opI fun _ _ _ _ _ _ _ hc q => pow_int hc.1 hc.2 q
/-- all that was tracked, but what stands at p, is as it was -/
def But (p : Addr) (H H' : Hp) : Prop := ∀ b o, b ≠ p → H b = some o → H' b = some o
theorem But.refl (p : Addr) (H : Hp) : But p H H := fun _ _ _ h => h
theorem But.trans {p : Addr} {H H1 H2 : Hp} (a : But p H H1) (b : But p H1 H2) : But p H H2 := fun c o n h => b c o n (a c o n h)
theorem But.same {p : Addr} {H H' : Hp} (a : Same H H') : But p H H' := fun c o _ h => a c o h
theorem But.upd {p : Addr} {H : Hp} {o : HO} : But p H (upd H p o) := fun b u n h => by rw [upd_ne n]; exact h
theorem same_upd {H : Hp} {p : Addr} {o : HO} (h : H p = none) : Same H (upd H p o) := fun b x e => by
  rw [upd_ne (ne_of_none e h)]
  exact e
theorem But.seq {K : PySem.W.Frag} {p a : Addr} {H H' : Hp} {xs : List V} (e : But p H H') (n : a ≠ p) (h : SqL K H a xs) : SqL K H' a xs := by
  rcases h with (h | ⟨o, h⟩) | h
  · exact .inl (.inl (e _ _ n h))
  · exact .inl (.inr ⟨o, e _ _ n h⟩)
  · exact .inr h
theorem sql {K : PySem.W.Frag} {H : Hp} {a : Addr} {xs : List V} (h : H a = some (.lst xs)) : SqL K H a xs := .inl (.inl h)
/-! ### the defs of a text -/
structure Dn (K : PySem.W.Frag) (mg : Str → Option Value) (x : Str) (st : Stmt) (ps : List Str) : Prop where
  ex : ∃ (f : Addr) (fd : FuncData), Fun K x x st f fd ∧ Binds K fd ps [] ∧ mg x = some (.ref f)
section
variable {P : Program} {w : World} {K : PySem.W.Frag} {mg : Str → Option Value} {base : Heap}
theorem Dn.cal {x : Str} {st : Stmt} {N ps : List Str} {k : Nat} {sp : Sp} (D : Dn K mg x st ps) (S : FnScope N ps (defScope st)) (len : ∀ vs H Q E, sp vs H Q E → vs.length = ps.length)
    (hbody : ∀ (cdv : Value) (f : Addr) (A : Around) (outer : List Env) (s : Shared) (H : Hp) (vs : List V) (Q : VK) (E : XK), Room k (A.deeper (envOfC x (defScope st) s.heap.objs.size f cdv)) → sp vs H Q E →
      ∃ t, PSs (cxOf CX0 P w K mg base N x (defScope st) f cdv A outer s H E).nox (defBody st) t ∧ t { nx := fun _ H' => Q .non H', rt := Q } (start N vs) H) : Cal P w K mg base (k + 1) x sp [] := by
  obtain ⟨f, fd, F, b, g⟩ := D.ex
  exact ⟨f, fd, ps, [], F.ok S len fun cdv A outer s H vs Q E hr h => hbody cdv f A outer s H vs Q E hr h, g, F.kp, b, .nil⟩
end
structure Mn (K : PySem.W.Frag) (C : Addr) (m qual : Str) (st : Stmt) (ps : List Str) : Prop where
  ex : ∃ (f : Addr) (fd : FuncData), Fun K m qual st f fd ∧ Binds K fd ps [] ∧ Meth K C m f
section
variable {P : Program} {w : World} {K : PySem.W.Frag} {mg : Str → Option Value} {base : Heap} {C : Addr} {m qual : Str} {st : Stmt} {N ps : List Str} {k : Nat} {sp : Sp}
theorem Mn.met (D : Mn K C m qual st ps) (c : Cls K C) (S : FnScope N ps (defScope st)) (len : ∀ vs H Q E, sp vs H Q E → vs.length = ps.length)
    (hbody : ∀ (cdv : Value) (f : Addr) (A : Around) (outer : List Env) (s : Shared) (H : Hp) (vs : List V) (Q : VK) (E : XK), Room k (A.deeper (envOfC qual (defScope st) s.heap.objs.size f cdv)) → sp vs H Q E →
      ∃ t, PSs (cxOf CX0 P w K mg base N qual (defScope st) f cdv A outer s H E).nox (defBody st) t ∧ t { nx := fun _ H' => Q .non H', rt := Q } (start N vs) H) : Met P w K mg base (k + 1) C m sp [] := by
  obtain ⟨f, fd, F, b, me⟩ := D.ex
  exact ⟨f, fd, ps, [], c, me, F.ok S len fun cdv A outer s H vs Q E hr h => hbody cdv f A outer s H vs Q E hr h, b, .nil⟩
theorem Mn.mak {x : Str} (D : Mn K C "__init__" qual st ps) (mk : PySem.W.makesIn K C = true) (kp : PySem.W.keepIn K (.ref C) = true) (g : mg x = some (.ref C)) (S : FnScope N ps (defScope st)) (len : ∀ vs H Q E, sp vs H Q E → vs.length = ps.length)
    (hbody : ∀ (cdv : Value) (f : Addr) (A : Around) (outer : List Env) (s : Shared) (H : Hp) (vs : List V) (Q : VK) (E : XK), Room k (A.deeper (envOfC qual (defScope st) s.heap.objs.size f cdv)) → sp vs H Q E →
      ∃ t, PSs (cxOf CX0 P w K mg base N qual (defScope st) f cdv A outer s H E).nox (defBody st) t ∧ t { nx := fun _ H' => Q .non H', rt := Q } (start N vs) H) : Mak P w K mg base (k + 1) x C sp [] := by
  obtain ⟨f, fd, F, b, me⟩ := D.ex
  exact ⟨f, fd, ps, [], ⟨mk, me.at_, me.fn, kp⟩, F.ok S len fun cdv A outer s H vs Q E hr h => hbody cdv f A outer s H vs Q E hr h, g, b, .nil⟩
end
/-! ### tests whose outcome is open -/
theorem itd {c A B : Prop} [Decidable c] (h1 : c → A) (h2 : ¬ c → B) : if decide c = true then A else B := by
  by_cases h : c
  · rw [if_pos (decide_eq_true h)]; exact h1 h
  · rw [if_neg (by rw [decide_eq_false h]; exact Bool.false_ne_true)]; exact h2 h
theorem itn {c A B : Prop} [Decidable c] (h1 : ¬ c → A) (h2 : c → B) : if (!decide c) = true then A else B := by
  by_cases h : c
  · rw [if_neg (by rw [decide_eq_true h]; exact Bool.false_ne_true)]; exact h2 h
  · rw [if_pos (by rw [decide_eq_false h]; rfl)]; exact h1 h
theorem itT {b : Bool} {A B : Prop} (e : b = true) (h : A) : if b = true then A else B := by
  rw [if_pos e]; exact h
theorem itF {b : Bool} {A B : Prop} (e : b = false) (h : B) : if b = true then A else B := by
  rw [if_neg (by rw [e]; exact Bool.false_ne_true)]; exact h
/-! ### numbers from 0 on as values -/
theorem mulW {a b x y : Nat} (ha : a < 2 ^ x) (hb : b < 2 ^ y) (h0 : 0 < x := by decide) (h1 : 0 < y := by decide) (h : x + y ≤ 1000000 := by decide) : CMulW (a : Int) (b : Int) :=
  wide_mul (a := x) (b := y) (by rw [Int.natAbs_natCast]; exact ha) (by rw [Int.natAbs_natCast]; exact hb) h0 h1 h
theorem divW {a : Int} {b y : Nat} (h : 0 < b) (hb : b < 2 ^ y) (h0 : 0 < y := by decide) (h9 : y ≤ 9000 := by decide) : CDivW a (b : Int) :=
  wide_div (b := y) (by omega) (by rw [Int.natAbs_natCast]; exact hb) h0 h9
theorem divP {a b x : Nat} (hb : 0 < b) (ha : a < 2 ^ x) (hx : x ≤ 4000 := by decide) : CDivP (a : Int) (b : Int) := by
  refine divp_ok (by omega) ?_
  have h := PyProof.Rows.intBits_le (k := x) (a := (a : Int)) (by rw [Int.natAbs_natCast]; exact ha)
  omega
/-! ### lists of whole numbers -/
def zs (l : List Nat) : List Int := l.map Int.ofNat
theorem zs_len (l : List Nat) : (zs l).length = l.length := List.length_map _
theorem zs_inj {l m : List Nat} (h : zs l = zs m) : l = m := (List.map_inj_right (fun _ _ e => Int.ofNat.inj e)).mp h
theorem zs_snoc (l : List Nat) (n : Nat) : (zs l).map V.int ++ [V.int (n : Nat)] = (zs (l ++ [n])).map V.int := by
  unfold zs; rw [List.map_append, List.map_append]; rfl
theorem zs_cons (l : List Nat) (n : Nat) : [V.int (n : Nat)] ++ (zs l).map V.int = (zs (n :: l)).map V.int := rfl
theorem zs_rev (l : List Nat) : ((zs l).map V.int).reverse = (zs l.reverse).map V.int := by
  unfold zs; rw [List.map_reverse, List.map_reverse]
theorem zs_at {l : List Nat} {j n : Nat} (h : l[j]? = some n) : ((zs l).map V.int)[j]? = some (V.int (n : Nat)) := by
  unfold zs; rw [List.getElem?_map, List.getElem?_map, h]; rfl
theorem zs_get {l : List Nat} {j : Nat} {x : V} (h : ((zs l).map V.int)[j]? = some x) : ∃ n : Nat, l[j]? = some n ∧ x = .int (n : Nat) := by
  unfold zs at h
  rw [List.getElem?_map, List.getElem?_map] at h
  cases e : l[j]? with
  | none => rw [e] at h; cases h
  | some d => rw [e] at h; exact ⟨d, rfl, (Option.some.inj h).symm⟩
theorem ints_len (l : List Int) : (l.map V.int).length = l.length := List.length_map _
theorem dp_ints {K : PySem.W.Frag} {H : Hp} : ∀ xs : List Int, DpAll K H (xs.map V.int) (xs.map PyData.int)
  | [] => .nil
  | x :: r => .cons (.int x) (dp_ints r)
theorem lay_ints : ∀ xs : List Int, PyData.canLayAll0 (xs.map PyData.int) = true ∧ PyData.depthAll (xs.map PyData.int) = 0
  | [] => ⟨by simp only [List.map_nil, PyData.canLayAll0], by simp only [List.map_nil, PyData.depthAll]⟩
  | x :: r => by
    obtain ⟨h1, h2⟩ := lay_ints r
    refine ⟨?_, ?_⟩
    · simp only [List.map_cons, PyData.canLayAll0, PyData.canLay0, h1, Bool.and_self]
    · simp only [List.map_cons, PyData.depthAll, PyData.depth, h2]; rfl
theorem shaped_ints (xs : List Int) : SeqAt.shaped (.list (xs.map PyData.int)) = true := by
  obtain ⟨h1, h2⟩ := lay_ints xs
  unfold SeqAt.shaped
  rw [Bool.and_eq_true]
  refine ⟨?_, decide_eq_true ?_⟩
  · simp only [PyData.canLay0, h1]
  · simp only [PyData.depth, h2]; omega
theorem eqv_ints : ∀ xs ys : List Int, PyData.eqvAll (xs.map PyData.int) (ys.map PyData.int) = decide (xs = ys)
  | [], [] => by simp [PyData.eqvAll]
  | [], _ :: _ => by simp [PyData.eqvAll]
  | _ :: _, [] => by simp [PyData.eqvAll]
  | x :: r, y :: t => by
    simp only [List.map_cons, PyData.eqvAll, PyData.eqv, eqv_ints r t, List.cons.injEq]
    by_cases e : x = y
    · by_cases f : r = t
      · simp [e, f]
      · simp [e, f]
    · simp [e]
def rEqI (K : PySem.W.Frag) : R2 := fun x y H Q => ∃ (a b : Addr) (xs ys : List Int), x = .ref a ∧ y = .ref b ∧ SqL K H a (xs.map V.int) ∧ SqL K H b (ys.map V.int) ∧ Q (.bl (decide (xs = ys))) H
def rNeI (K : PySem.W.Frag) : R2 := fun x y H Q => ∃ (a b : Addr) (xs ys : List Int), x = .ref a ∧ y = .ref b ∧ SqL K H a (xs.map V.int) ∧ SqL K H b (ys.map V.int) ∧ Q (.bl (!decide (xs = ys))) H
theorem op_eqI {X : Cx} (hu : X.A.units + 64 < cLine) : OpR X (compareOp .Eq) (rEqI X.K) := by
  intro pins s σ H x y v u Q I rx ry h
  obtain ⟨a, b, xs, ys, rfl, rfl, h1, h2, q⟩ := h
  refine op_eqD hu pins s σ H _ _ v u Q I rx ry ⟨_, _, .lst h1 (dp_ints xs), .lst h2 (dp_ints ys), shaped_ints xs, shaped_ints ys, ?_⟩
  rw [show PyData.eqv (.list (xs.map PyData.int)) (.list (ys.map PyData.int)) = decide (xs = ys) by simp only [PyData.eqv, eqv_ints]]
  exact q
theorem op_neI {X : Cx} (hu : X.A.units + 64 < cLine) : OpR X (compareOp .NotEq) (rNeI X.K) := by
  intro pins s σ H x y v u Q I rx ry h
  obtain ⟨a, b, xs, ys, rfl, rfl, h1, h2, q⟩ := h
  refine op_neD hu pins s σ H _ _ v u Q I rx ry ⟨_, _, .lst h1 (dp_ints xs), .lst h2 (dp_ints ys), shaped_ints xs, shaped_ints ys, ?_⟩
  rw [show PyData.eqv (.list (xs.map PyData.int)) (.list (ys.map PyData.int)) = decide (xs = ys) by simp only [PyData.eqv, eqv_ints]]
  exact q
theorem u64 {k : Nat} {A : Around} (hr : Room k A) : A.units + 64 < cLine := by have := hr.un; omega
theorem same_put {H H1 : Hp} {l : Addr} {o : HO} (s : Same H H1) (n : H l = none) : Same H (upd H1 l o) := fun b x e => by
  rw [upd_ne (ne_of_none e n)]
  exact s _ _ e
theorem emodN (l : Int) {m : Nat} (h : 0 < m) : ∃ r : Nat, r < m ∧ l % (m : Int) = (r : Int) := by
  have h1 := Int.emod_nonneg l (show (m : Int) ≠ 0 by omega)
  have h2 := Int.emod_lt_of_pos l (show (0 : Int) < m by omega)
  exact ⟨(l % (m : Int)).toNat, by omega, by omega⟩
theorem lt8000 {m : Nat} (h : m ≤ 2 ^ 64) : m < 2 ^ 8000 := Nat.lt_of_le_of_lt h (by decide +kernel)
theorem pow6 (i : Nat) : (10 ^ 6) ^ i ≤ 2 ^ (20 * i) := by
  rw [Nat.pow_mul]
  exact Nat.pow_le_pow_left (by decide) i
theorem far_lt {y f : Nat} (h : y ≤ (10 ^ 6) ^ (1 + f / 6)) (hf : f ≤ 200 := by decide) : y < 2 ^ 700 :=
  Nat.lt_of_le_of_lt (Nat.le_trans h (pow6 _)) (Nat.pow_lt_pow_right (by decide) (by omega))
/-! ### the pen: a dict of the cells, the place, what is left -/
def pkv (c : Addr) (a : Nat) (l : Int) : List (Key × V) := [(.inr "cells", .ref c), (.inr "at", .int a), (.inr "left", .int l)]
theorem k_ca : ¬ (("cells" : Str) = "at") := by decide +kernel
theorem k_cl : ¬ (("cells" : Str) = "left") := by decide +kernel
theorem k_al : ¬ (("at" : Str) = "left") := by decide +kernel
theorem k_ac : ¬ (("at" : Str) = "cells") := by decide +kernel
theorem k_lc : ¬ (("left" : Str) = "cells") := by decide +kernel
theorem k_la : ¬ (("left" : Str) = "at") := by decide +kernel
theorem val_cells (c : Addr) (a : Nat) (l : Int) : valV (pkv c a l) (.inr "cells") = some (.ref c) := by
  simp [valV, pkv, List.find?]
theorem val_at (c : Addr) (a : Nat) (l : Int) : valV (pkv c a l) (.inr "at") = some (.int a) := by
  simp [valV, pkv, List.find?, k_ca]
theorem val_left (c : Addr) (a : Nat) (l : Int) : valV (pkv c a l) (.inr "left") = some (.int l) := by
  simp [valV, pkv, List.find?, k_cl, k_al]
theorem put_at (c : Addr) (a b : Nat) (l : Int) : putK (pkv c a l) (.inr "at") (.int b) = pkv c b l := by
  simp [putK, pkv, k_ca, k_al, k_ac, k_la]
theorem put_left (c : Addr) (a : Nat) (l m : Int) : putK (pkv c a l) (.inr "left") (.int m) = pkv c a m := by
  simp [putK, pkv, k_cl, k_al, k_lc, k_la]
section
variable {H : Hp} {p c : Addr} {a : Nat} {l : Int}
theorem get_cells (h : H p = some (.dK (pkv c a l))) : DGet H p (.str "cells") (some (.ref c)) := by
  have e := DGet.k (k := .inr "cells") h
  rw [val_cells] at e
  exact e
theorem get_at (h : H p = some (.dK (pkv c a l))) : DGet H p (.str "at") (some (.int a)) := by
  have e := DGet.k (k := .inr "at") h
  rw [val_at] at e
  exact e
theorem get_left (h : H p = some (.dK (pkv c a l))) : DGet H p (.str "left") (some (.int l)) := by
  have e := DGet.k (k := .inr "left") h
  rw [val_left] at e
  exact e
theorem dput_at (h : H p = some (.dK (pkv c a l))) : DPut H p (.str "at") (.int ((a : Int) + 1)) (upd H p (.dK (pkv c (a + 1) l))) := by
  have e := DPut.k (k := .inr "at") (v := .int ((a + 1 : Nat) : Int)) h (small1000 (by show 3 ≤ 1000; omega))
  rw [put_at] at e
  exact e
theorem dput_left (m : Int) (h : H p = some (.dK (pkv c a l))) : DPut H p (.str "left") (.int m) (upd H p (.dK (pkv c a m))) := by
  have e := DPut.k (k := .inr "left") (v := .int m) h (small1000 (by show 3 ≤ 1000; omega))
  rw [put_left] at e
  exact e
end
theorem merge_pen (c : Addr) : mergeK [] [((.inr "cells" : Key), V.ref c), (.inr "at", .int 0), (.inr "left", .int 0)] = pkv c 0 0 := by
  simp [mergeK, putK, pkv, k_ca, k_cl, k_al, k_ac, k_lc, k_la]
structure PenAt (H : Hp) (p c : Addr) (n : Nat) : Prop where
  ex : ∃ (C : List Int) (a : Nat) (l : Int), H p = some (.dK (pkv c a l)) ∧ H c = some (.lst (C.map V.int)) ∧ C.length ≤ 63 ∧ a ≤ n
theorem PenAt.same {H H' : Hp} {p c : Addr} {n : Nat} (h : PenAt H p c n) (s : Same H H') : PenAt H' p c n := by
  obtain ⟨C, a, l, h1, h2, h3, h4⟩ := h.ex
  exact ⟨C, a, l, s _ _ h1, s _ _ h2, h3, h4⟩
theorem PenAt.le {H : Hp} {p c : Addr} {n m : Nat} (h : PenAt H p c n) (e : n ≤ m) : PenAt H p c m := by
  obtain ⟨C, a, l, h1, h2, h3, h4⟩ := h.ex
  exact ⟨C, a, l, h1, h2, h3, Nat.le_trans h4 e⟩
theorem PenAt.ne {H : Hp} {p c q : Addr} {n : Nat} {xs : List V} (h : PenAt H p c n) (e : H q = some (.lst xs)) : q ≠ p := by
  obtain ⟨C, a, l, h1, h2, h3, h4⟩ := h.ex
  exact ne_of e h1 (by intro z; cases z)
theorem PenAt.new {H : Hp} {p c D : Addr} {n : Nat} (h : PenAt H p c n) (e : H D = none) : D ≠ p ∧ D ≠ c := by
  obtain ⟨C, a, l, h1, h2, h3, h4⟩ := h.ex
  exact ⟨(ne_of_none h1 e).symm, (ne_of_none h2 e).symm⟩
theorem PenAt.put {H : Hp} {p c D : Addr} {n : Nat} {o : HO} (h : PenAt H p c n) (e : D ≠ p ∧ D ≠ c) : PenAt (upd H D o) p c n := by
  obtain ⟨C, a, l, h1, h2, h3, h4⟩ := h.ex
  exact ⟨C, a, l, by rw [upd_ne e.1.symm]; exact h1, by rw [upd_ne e.2.symm]; exact h2, h3, h4⟩
theorem But.put {p D : Addr} {H H1 : Hp} {o : HO} (s : But p H H1) (n : H D = none) : But p H (L2.upd H1 D o) := fun b x hb e => by
  rw [upd_ne (ne_of_none e n)]
  exact s _ _ hb e
/-- what a draw promises -/
def spDraw : Sp := fun vs H Q _ => ∃ (p m n c : Nat), vs = [.ref p, .int m] ∧ 0 < m ∧ m < 2 ^ 8000 ∧ PenAt H p c n ∧ n ≤ 1000000 ∧
  ∀ H' (r : Nat), r < m → PenAt H' p c (n + 1) → But p H H' → Q (.int r) H'
def spPen (K : PySem.W.Frag) : Sp := fun vs H Q _ => ∃ (a : Addr) (ns : List Int), vs = [.ref a] ∧ SqL K H a (ns.map V.int) ∧ ns.length ≤ 63 ∧
  ∀ H' p c, PenAt H' p c 0 → Same H H' → H p = none → Q (.ref p) H'
/-- a far number: of at most so many figures and seven -/
def spFar : Sp := fun vs H Q _ => ∃ (p f n c : Nat), vs = [.ref p, .int f] ∧ f ≤ 1000 ∧ PenAt H p c n ∧ n ≤ 900000 ∧
  ∀ H' (r : Nat), 0 < r → r ≤ (10 ^ 6) ^ (1 + f / 6) → PenAt H' p c (n + 2 + f / 6) → But p H H' → Q (.int r) H'
def spLaw (K : PySem.W.Frag) : Sp := fun vs H Q _ => ∃ (a : Addr) (ns : List Int), vs = [.ref a] ∧ SqL K H a (ns.map V.int) ∧ ns.length ≤ 63 ∧ ∀ H', Q (.bl true) H'
end Ab

/-! houses as objects -/
namespace Ab
open PySem PySem.Spec PyProof.Rows L2
open C8 (Cal Mak Met pe_c pe_mk pe_mt pe_mt0)
theorem opt5 {r : List (Option V)} (h : r.length = 5) : ∃ v0 v1 v2 v3 v4 : Option V, r = [v0, v1, v2, v3, v4] := by
  match r, h with
  | [v0, v1, v2, v3, v4], _ => exact ⟨v0, v1, v2, v3, v4, rfl⟩
theorem opt6 {r : List (Option V)} (h : r.length = 6) : ∃ v0 v1 v2 v3 v4 v5 : Option V, r = [v0, v1, v2, v3, v4, v5] := by
  match r, h with
  | [v0, v1, v2, v3, v4, v5], _ => exact ⟨v0, v1, v2, v3, v4, v5, rfl⟩
theorem opt7 {r : List (Option V)} (h : r.length = 7) : ∃ v0 v1 v2 v3 v4 v5 v6 : Option V, r = [v0, v1, v2, v3, v4, v5, v6] := by
  match r, h with
  | [v0, v1, v2, v3, v4, v5, v6], _ => exact ⟨v0, v1, v2, v3, v4, v5, v6, rfl⟩
theorem opt8 {r : List (Option V)} (h : r.length = 8) : ∃ v0 v1 v2 v3 v4 v5 v6 v7 : Option V, r = [v0, v1, v2, v3, v4, v5, v6, v7] := by
  match r, h with
  | [v0, v1, v2, v3, v4, v5, v6, v7], _ => exact ⟨v0, v1, v2, v3, v4, v5, v6, v7, rfl⟩
theorem opt9 {r : List (Option V)} (h : r.length = 9) : ∃ v0 v1 v2 v3 v4 v5 v6 v7 v8 : Option V, r = [v0, v1, v2, v3, v4, v5, v6, v7, v8] := by
  match r, h with
  | [v0, v1, v2, v3, v4, v5, v6, v7, v8], _ => exact ⟨v0, v1, v2, v3, v4, v5, v6, v7, v8, rfl⟩
theorem opt10 {r : List (Option V)} (h : r.length = 10) : ∃ v0 v1 v2 v3 v4 v5 v6 v7 v8 v9 : Option V, r = [v0, v1, v2, v3, v4, v5, v6, v7, v8, v9] := by
  match r, h with
  | [v0, v1, v2, v3, v4, v5, v6, v7, v8, v9], _ => exact ⟨v0, v1, v2, v3, v4, v5, v6, v7, v8, v9, rfl⟩
theorem opt11 {r : List (Option V)} (h : r.length = 11) : ∃ v0 v1 v2 v3 v4 v5 v6 v7 v8 v9 v10 : Option V, r = [v0, v1, v2, v3, v4, v5, v6, v7, v8, v9, v10] := by
  match r, h with
  | [v0, v1, v2, v3, v4, v5, v6, v7, v8, v9, v10], _ => exact ⟨v0, v1, v2, v3, v4, v5, v6, v7, v8, v9, v10, rfl⟩
theorem opt12 {r : List (Option V)} (h : r.length = 12) : ∃ v0 v1 v2 v3 v4 v5 v6 v7 v8 v9 v10 v11 : Option V, r = [v0, v1, v2, v3, v4, v5, v6, v7, v8, v9, v10, v11] := by
  match r, h with
  | [v0, v1, v2, v3, v4, v5, v6, v7, v8, v9, v10, v11], _ => exact ⟨v0, v1, v2, v3, v4, v5, v6, v7, v8, v9, v10, v11, rfl⟩
theorem opt13 {r : List (Option V)} (h : r.length = 13) : ∃ v0 v1 v2 v3 v4 v5 v6 v7 v8 v9 v10 v11 v12 : Option V, r = [v0, v1, v2, v3, v4, v5, v6, v7, v8, v9, v10, v11, v12] := by
  match r, h with
  | [v0, v1, v2, v3, v4, v5, v6, v7, v8, v9, v10, v11, v12], _ => exact ⟨v0, v1, v2, v3, v4, v5, v6, v7, v8, v9, v10, v11, v12, rfl⟩
theorem opt14 {r : List (Option V)} (h : r.length = 14) : ∃ v0 v1 v2 v3 v4 v5 v6 v7 v8 v9 v10 v11 v12 v13 : Option V, r = [v0, v1, v2, v3, v4, v5, v6, v7, v8, v9, v10, v11, v12, v13] := by
  match r, h with
  | [v0, v1, v2, v3, v4, v5, v6, v7, v8, v9, v10, v11, v12, v13], _ => exact ⟨v0, v1, v2, v3, v4, v5, v6, v7, v8, v9, v10, v11, v12, v13, rfl⟩
theorem opt15 {r : List (Option V)} (h : r.length = 15) : ∃ v0 v1 v2 v3 v4 v5 v6 v7 v8 v9 v10 v11 v12 v13 v14 : Option V, r = [v0, v1, v2, v3, v4, v5, v6, v7, v8, v9, v10, v11, v12, v13, v14] := by
  match r, h with
  | [v0, v1, v2, v3, v4, v5, v6, v7, v8, v9, v10, v11, v12, v13, v14], _ => exact ⟨v0, v1, v2, v3, v4, v5, v6, v7, v8, v9, v10, v11, v12, v13, v14, rfl⟩
def rSumT (K : PySem.W.Frag) : List V → Hp → VK → Prop := fun vs H Q => ∃ (a : Addr) (ns : List Int), vs = [V.ref a] ∧ SqT K H a (ns.map V.int) ∧ Q (.int ns.sum) H
theorem cr_sumT {X : Cx} (hc : X.calm = true) : CallR X (.builtin "sum") (rSumT X.K) := by
  intro pins s σ H vs us Q I r h
  obtain ⟨a, ns, rfl, hs, q⟩ := h
  obtain ⟨its, rv, ht, _⟩ := I.tuple hs
  rw [Vals.ref1 r]
  have hi := rv.ints
  obtain ⟨xs, e⟩ := hi.allInts.items
  have hn : numsOf (intItems xs).toList = ns := by rw [← e]; exact hi.numsOf
  rw [nums_intItems] at hn
  rw [e] at ht
  obtain ⟨o, h1, h2, h3⟩ := ht
  refine PySem.W.ktm_sumG (I.ok.hd hc) ⟨o, h1, h2, h3⟩ fun h' tk t' hk => ?_
  rw [preSum_eq, List.take_of_length_le (by simp), hn]
  exact ⟨.int _, H, I.kept hk, ⟨_, rfl⟩, q⟩
theorem f_kb : ¬ (("_k" : Str) = "_beginning") := by decide +kernel
theorem f_ks : ¬ (("_k" : Str) = "_sums") := by decide +kernel
theorem f_bs : ¬ (("_beginning" : Str) = "_sums") := by decide +kernel
theorem len_kb (tb k : Nat) : (putF "_beginning" (V.ref tb) (putF "_k" (V.int k) [])).length = 2 := by
  show (if ("_k" : Str) = "_beginning" then [(("_k" : Str), V.ref tb)] else (("_k" : Str), V.int k) :: putF "_beginning" (V.ref tb) []).length = 2
  rw [if_neg f_kb]
  rfl
def hfs (k : Nat) (tb ls : Addr) : List (Str × V) := putF "_sums" (.ref ls) (putF "_beginning" (.ref tb) (putF "_k" (.int k) []))
theorem hfs_k (k : Nat) (tb ls : Addr) : (hfs k tb ls).lookup ("_k" : Str) = some (.int k) := by
  unfold hfs
  rw [lookup_putF, if_neg f_ks, lookup_putF, if_neg f_kb, lookup_putF, if_pos rfl]
theorem hfs_b (k : Nat) (tb ls : Addr) : (hfs k tb ls).lookup ("_beginning" : Str) = some (.ref tb) := by
  unfold hfs
  rw [lookup_putF, if_neg f_bs, lookup_putF, if_pos rfl]
theorem hfs_s (k : Nat) (tb ls : Addr) : (hfs k tb ls).lookup ("_sums" : Str) = some (.ref ls) := by
  unfold hfs
  rw [lookup_putF, if_pos rfl]
theorem hfs_no (k : Nat) (tb ls : Addr) {m : Str} (h1 : ¬ m = "_k" := by decide +kernel) (h2 : ¬ m = "_beginning" := by decide +kernel) (h3 : ¬ m = "_sums" := by decide +kernel) : (hfs k tb ls).lookup m = none := by
  unfold hfs
  rw [lookup_putF, if_neg h3, lookup_putF, if_neg h2, lookup_putF, if_neg h1]
  rfl
def sumsL (B : List Nat) : List Nat := (List.range (B.length + 1)).map (sm B)
theorem sumsL_at {B : List Nat} {d : Nat} (h : d ≤ B.length) : (sumsL B)[d]? = some (sm B d) := by
  unfold sumsL
  rw [List.getElem?_map, List.getElem?_range (by omega)]
  rfl
theorem sumsL_len (B : List Nat) : (sumsL B).length = B.length + 1 := by
  unfold sumsL; rw [List.length_map, List.length_range]
theorem sumsL_last (B : List Nat) : atI ((zs (sumsL B)).map V.int) (-1) = some (.int (rea B : Nat)) := by
  unfold sumsL zs
  rw [List.range_succ, List.map_append, List.map_append, List.map_append]
  exact atI_last _ _
theorem zs_sum : ∀ l : List Nat, (zs l).sum = ((l.sum : Nat) : Int)
  | [] => rfl
  | x :: r => by
    show (Int.ofNat x :: zs r).sum = _
    rw [List.sum_cons, zs_sum r, List.sum_cons]
    exact (Int.natCast_add x r.sum).symm
theorem zs_repl (n x : Nat) : (List.replicate n [V.int (x : Nat)]).flatten = (zs (List.replicate n x)).map V.int := by
  unfold zs
  induction n with
  | zero => rfl
  | succ n ih => rw [List.replicate_succ, List.replicate_succ, List.flatten_cons, ih]; rfl
theorem zs_app (l m : List Nat) : (zs l).map V.int ++ (zs m).map V.int = (zs (l ++ m)).map V.int := by
  unfold zs; rw [List.map_append, List.map_append]
theorem zs_cut (l : List Nat) (m : Nat) : cutV ((zs l).map V.int) none (some (m : Int)) = (zs (l.take m)).map V.int := by
  unfold cutV
  rw [HT.sIx_none, HT.sIx_nat, List.drop_zero, Nat.sub_zero]
  unfold zs
  rw [List.map_take, List.map_take, List.length_map, List.length_map]
  by_cases h : m ≤ l.length
  · rw [Nat.min_eq_left h]
  · rw [Nat.min_eq_right (by omega), List.take_of_length_le (by rw [List.length_map, List.length_map]; exact Nat.le_refl _), List.take_of_length_le (by rw [List.length_map, List.length_map]; omega)]
theorem zs_count (l : List Nat) (n : Nat) : (zs l).count (n : Int) = l.count n := by
  induction l with
  | nil => rfl
  | cons x r ih =>
    show (Int.ofNat x :: zs r).count (n : Int) = _
    rw [List.count_cons, List.count_cons, ih]
    by_cases h : x = n
    · subst h; simp
    · have h2 : ¬ (Int.ofNat x = (n : Int)) := fun z => h (Int.ofNat.inj z)
      simp [h, h2]
      exact h2
theorem gonL_last (k : Nat) (B : List Nat) (n : Nat) : atI ((zs (gonL k B (n + 1))).map V.int) (-1) = some (.int (sa k B (n + 1) : Nat)) := by
  rw [gonL_succ, ← zs_snoc]
  exact atI_last _ _
theorem flat_zs (l : List Nat) : ((zs l).map V.int).all flatV = true := by
  rw [List.all_eq_true]
  intro x hx
  obtain ⟨y, _, rfl⟩ := List.mem_map.mp hx
  rfl
theorem in_zs (n : Nat) (l : List Nat) : inV (.int (n : Nat)) ((zs l).map V.int) = decide (n ∈ l) := by
  unfold inV
  induction l with
  | nil => rfl
  | cons x r ih =>
    show (eqV (V.int (x : Nat)) (.int (n : Nat)) || ((zs r).map V.int).any fun y => eqV y (.int (n : Nat))) = _
    rw [ih]
    show (((x : Int) == (n : Int)) || decide (n ∈ r)) = _
    by_cases h : n = x
    · subst h; simp
    · have h2 : ¬ ((x : Int) = (n : Int)) := fun z => h (Int.ofNat.inj z).symm
      simp [h, h2]
theorem zs_cut2 (l : List Nat) (a : Nat) (h : a ≤ l.length) : cutV ((zs l).map V.int) (some (a : Int)) none = (zs (l.drop a)).map V.int := by
  unfold cutV
  rw [HT.sIx_none, HT.sIx_nat, ints_len, zs_len, Nat.min_eq_left h]
  unfold zs
  rw [List.map_drop, List.map_drop, List.take_of_length_le (by rw [List.length_drop, List.length_map, List.length_map]; exact Nat.le_refl _)]
theorem cut_sub {xs : List V} {lo hi : Option Int} {x : V} (h : x ∈ cutV xs lo hi) : x ∈ xs := by
  unfold cutV at h
  exact List.mem_of_mem_drop (List.mem_of_mem_take h)
theorem cut_len (xs : List V) (lo hi : Option Int) : (cutV xs lo hi).length ≤ xs.length := by
  unfold cutV
  rw [List.length_take, List.length_drop]
  omega
theorem sub_zs {xs : List V} {l : List Nat} (h : ∀ x ∈ xs, x ∈ (zs l).map V.int) : ∃ m : List Nat, xs = (zs m).map V.int ∧ ∀ y ∈ m, y ∈ l := by
  induction xs with
  | nil => exact ⟨[], rfl, fun y hy => by cases hy⟩
  | cons x r ih =>
    obtain ⟨m, e1, e2⟩ := ih fun y hy => h y (List.mem_cons_of_mem _ hy)
    obtain ⟨z, hz, ez⟩ := List.mem_map.mp (h x (List.mem_cons_self ..))
    obtain ⟨n, hn, en⟩ := List.mem_map.mp hz
    subst en
    refine ⟨n :: m, by rw [← ez, e1]; rfl, fun y hy => ?_⟩
    rcases List.mem_cons.mp hy with q | q
    · rw [q]; exact hn
    · exact e2 y q
structure HouseAt (C : Addr) (H : Hp) (p : Addr) (k : Nat) (B : List Nat) : Prop where
  ex : ∃ dx tb ls, H p = some (.ins C dx (hfs k tb ls)) ∧ H tb = some (.tup ((zs B).map V.int)) ∧ H ls = some (.lst ((zs (sumsL B)).map V.int))
  beg : Beg k B
  top : k ≤ 30
  big : rea B < 2 ^ 400
theorem HouseAt.same {C : Addr} {H H' : Hp} {p k : Addr} {B : List Nat} (h : HouseAt C H p k B) (s : Same H H') : HouseAt C H' p k B := by
  obtain ⟨dx, tb, ls, h1, h2, h3⟩ := h.ex
  exact ⟨⟨dx, tb, ls, s _ _ h1, s _ _ h2, s _ _ h3⟩, h.beg, h.top, h.big⟩
theorem HouseAt.but {C : Addr} {H H' : Hp} {p k q c n : Addr} {B : List Nat} (h : HouseAt C H p k B) (P : PenAt H q c n) (s : But q H H') : HouseAt C H' p k B := by
  obtain ⟨dx, tb, ls, h1, h2, h3⟩ := h.ex
  obtain ⟨C', a, l, e1, _⟩ := P.ex
  exact ⟨⟨dx, tb, ls, s _ _ (ne_of h1 e1 (by intro z; cases z)) h1, s _ _ (ne_of h2 e1 (by intro z; cases z)) h2, s _ _ (ne_of h3 e1 (by intro z; cases z)) h3⟩, h.beg, h.top, h.big⟩
/-! ### what the class's methods promise -/
def spReach (C : Addr) : Sp := fun vs H Q _ => ∃ (p k : Nat) (B : List Nat), vs = [.ref p] ∧ HouseAt C H p k B ∧ Q (.int (rea B : Nat)) H
def spRound (C : Addr) : Sp := fun vs H Q _ => ∃ (p k : Nat) (B : List Nat) (e s o : Nat), vs = [.ref p, .int e, .int s, .int o] ∧ HouseAt C H p k B ∧ s < k ∧ o = ones k e ∧ e ≤ 100000 ∧ o < 2 ^ 100000 ∧ Q (.int (rnd k B e s : Nat)) H
def spFirst (C : Addr) : Sp := fun vs H Q _ => ∃ (p k : Nat) (B : List Nat) (n : Nat), vs = [.ref p, .int n] ∧ HouseAt C H p k B ∧ n < 2 ^ 3000 ∧
  ∀ H' t (e s : Nat), Same H H' → H t = none → H' t = some (.tup [.int e, .int s, .int (ones k e : Nat)]) → e < 3000 → s < k → Pre k B n s e → (0 < e → 0 < s) → Q (.ref t) H'
def spOut (C : Addr) : Sp := fun vs H Q _ => ∃ (p k : Nat) (B : List Nat) (n : Nat), vs = [.ref p, .int n] ∧ HouseAt C H p k B ∧ n < 2 ^ 3000 ∧
  ∀ H' (m : Nat), Same H H' → sa k B (n + 1) = m + 1 → Q (.int m) H'
def spSaid (C : Addr) : Sp := fun vs H Q _ => ∃ (p k : Nat) (B : List Nat) (n : Nat), vs = [.ref p, .int n] ∧ HouseAt C H p k B ∧ 0 < n ∧ n ≤ 2 ^ 3000 ∧
  ∀ H', Same H H' → Q (.int (sa k B n : Nat)) H'
def spFolk (C : Addr) : Sp := fun vs H Q _ => ∃ (p k : Nat) (B : List Nat), vs = [.ref p] ∧ HouseAt C H p k B ∧ Q (.int (las k B (k - 1) : Nat)) H
def spBase (C : Addr) : Sp := fun vs H Q _ => ∃ (p k : Nat) (B : List Nat), vs = [.ref p] ∧ HouseAt C H p k B ∧ Q (.int (k : Nat)) H
def spBegList (C : Addr) : Sp := fun vs H Q _ => ∃ (p k : Nat) (B : List Nat), vs = [.ref p] ∧ HouseAt C H p k B ∧ ∀ H' l, Same H H' → H l = none → H' l = some (.lst ((zs B).map V.int)) → Q (.ref l) H'
def spTimes (C : Addr) : Sp := fun vs H Q _ => ∃ (p k : Nat) (B : List Nat) (n : Nat), vs = [.ref p, .int n] ∧ HouseAt C H p k B ∧ 0 < n ∧ n < 2 ^ 3000 ∧ Q (.int (tim k B n : Nat)) H
def spLast (C : Addr) : Sp := fun vs H Q _ => ∃ (p k : Nat) (B : List Nat) (n : Nat), vs = [.ref p, .int n] ∧ HouseAt C H p k B ∧ n < 2 ^ 3000 ∧ Q (.int (las k B n : Nat)) H
def spFirstP (C : Addr) : Sp := fun vs H Q _ => ∃ (p k : Nat) (B : List Nat) (n : Nat), vs = [.ref p, .int n] ∧ HouseAt C H p k B ∧ 0 < n ∧ n < 2 ^ 3000 ∧ Q (.int (las k B (n - 1) + 1 : Nat)) H
/-- the beginning is handed in as a list -/
def spInit (K : PySem.W.Frag) (C : Addr) : Sp := fun vs H Q _ => ∃ (x k b dx : Nat) (B : List Nat), vs = [.ref x, .int k, .ref b] ∧ H x = some (.ins C dx []) ∧ H b = some (.lst ((zs B).map V.int)) ∧ Beg k B ∧ k ≤ 30 ∧ rea B < 2 ^ 400 ∧
  ∀ H', HouseAt C H' x k B → (∀ a o, H a = some o → a ≠ x → H' a = some o) → Q .non H'
def spGone : Sp := fun vs H Q _ => ∃ (k b n : Nat) (B : List Nat), vs = [.int k, .ref b, .int n] ∧ H b = some (.lst ((zs B).map V.int)) ∧ Beg k B ∧ k ≤ 30 ∧ B.sum ≤ 100000 ∧ n ≤ 100000 ∧
  ∀ H' l, Same H H' → H l = none → H' l = some (.lst ((zs (gonL k B n)).map V.int)) → Q (.ref l) H'
def spIsK : Sp := fun vs H Q _ => ∃ k : Nat, vs = [.int k] ∧ 2 ≤ k ∧ k ≤ 30 ∧ Q (.bl true) H
def spWhole : Sp := fun vs H Q _ => ∃ i : Int, vs = [.int i] ∧ Q (.bl true) H
def spFrom : Sp := fun vs H Q _ => ∃ i l : Int, vs = [.int i, .int l] ∧ Q (.bl (decide (l ≤ i))) H
def spRow : Sp := fun vs H Q _ => ∃ (b : Addr) (xs : List V), vs = [.ref b] ∧ H b = some (.lst xs) ∧ ∀ H', Same H H' → Q (.bl true) H'
def spIsBeg : Sp := fun vs H Q _ => ∃ (k b : Nat) (B : List Nat), vs = [.int k, .ref b] ∧ H b = some (.lst ((zs B).map V.int)) ∧ Beg k B ∧ k ≤ 30 ∧ ∀ H', Same H H' → Q (.bl true) H'
def spSums : Sp := fun vs H Q _ => ∃ (b : Addr) (B : List Nat), vs = [.ref b] ∧ H b = some (.lst ((zs B).map V.int)) ∧ B.length ≤ 30 ∧ (∀ x ∈ B, 1 ≤ x) ∧
  ∀ H' l, Same H H' → H l = none → H' l = some (.lst ((zs (sumsL B)).map V.int)) → Q (.ref l) H'
end Ab

namespace Ab
open PySem PySem.Spec PyProof.Rows L2
open C8 (Cal Mak Met pe_c pe_mk pe_mt pe_mt0)
def topS (i : Nat) : Stmt := PySem.Challenge.pw_askback_k10_whole_folk_more_in_the_begin.main.body.getD i (.Pass ⟨0, 0, 0, 0⟩)
abbrev s_exponent_of : Stmt := topS 8
theorem sc_exponent_of : FnScope ["number", "base", "exponent"] ["number", "base"] (defScope s_exponent_of) := ⟨rfl, rfl, rfl, by decide +kernel, rfl, by decide +kernel, by decide +kernel⟩
abbrev s_first_sign : Stmt := topS 9
theorem sc_first_sign : FnScope ["number", "base"] ["number", "base"] (defScope s_first_sign) := ⟨rfl, rfl, rfl, by decide +kernel, rfl, by decide +kernel, by decide +kernel⟩
abbrev s_heap_of : Stmt := topS 11
theorem sc_heap_of : FnScope ["number", "base", "heap"] ["number", "base"] (defScope s_heap_of) := ⟨rfl, rfl, rfl, by decide +kernel, rfl, by decide +kernel, by decide +kernel⟩
abbrev s_noughts_of : Stmt := topS 10
theorem sc_noughts_of : FnScope ["number", "base", "noughts"] ["number", "base"] (defScope s_noughts_of) := ⟨rfl, rfl, rfl, by decide +kernel, rfl, by decide +kernel, by decide +kernel⟩
abbrev s_is_whole : Stmt := topS 2
theorem sc_is_whole : FnScope ["thing"] ["thing"] (defScope s_is_whole) := ⟨rfl, rfl, rfl, by decide +kernel, rfl, by decide +kernel, by decide +kernel⟩
abbrev s_is_whole_from : Stmt := topS 3
theorem sc_is_whole_from : FnScope ["thing", "least"] ["thing", "least"] (defScope s_is_whole_from) := ⟨rfl, rfl, rfl, by decide +kernel, rfl, by decide +kernel, by decide +kernel⟩
abbrev s_is_row : Stmt := topS 4
theorem sc_is_row : FnScope ["thing"] ["thing"] (defScope s_is_row) := ⟨rfl, rfl, rfl, by decide +kernel, rfl, by decide +kernel, by decide +kernel⟩
abbrev s_is_k : Stmt := topS 14
theorem sc_is_k : FnScope ["thing"] ["thing"] (defScope s_is_k) := ⟨rfl, rfl, rfl, by decide +kernel, rfl, by decide +kernel, by decide +kernel⟩
abbrev s_is_beginning : Stmt := topS 15
theorem sc_is_beginning : FnScope ["k", "thing", "many"] ["k", "thing"] (defScope s_is_beginning) := ⟨rfl, rfl, rfl, by decide +kernel, rfl, by decide +kernel, by decide +kernel⟩
abbrev s_lessened_sums : Stmt := topS 16
theorem sc_lessened_sums : FnScope ["beginning", "sums", "many"] ["beginning"] (defScope s_lessened_sums) := ⟨rfl, rfl, rfl, by decide +kernel, rfl, by decide +kernel, by decide +kernel⟩
abbrev s_House_init : Stmt := inClass (topS 17) 0
theorem sc_House_init : FnScope ["self", "k", "beginning"] ["self", "k", "beginning"] (defScope s_House_init) := ⟨rfl, rfl, rfl, by decide +kernel, rfl, by decide +kernel, by decide +kernel⟩
abbrev s_House_reach : Stmt := inClass (topS 17) 4
theorem sc_House_reach : FnScope ["self"] ["self"] (defScope s_House_reach) := ⟨rfl, rfl, rfl, by decide +kernel, rfl, by decide +kernel, by decide +kernel⟩
abbrev s_House_folk : Stmt := inClass (topS 17) 5
theorem sc_House_folk : FnScope ["self"] ["self"] (defScope s_House_folk) := ⟨rfl, rfl, rfl, by decide +kernel, rfl, by decide +kernel, by decide +kernel⟩
abbrev s_House_times : Stmt := inClass (topS 17) 7
theorem sc_House_times : FnScope ["self", "number", "noughts"] ["self", "number"] (defScope s_House_times) := ⟨rfl, rfl, rfl, by decide +kernel, rfl, by decide +kernel, by decide +kernel⟩
abbrev s_House_last_place : Stmt := inClass (topS 17) 9
theorem sc_House_last_place : FnScope ["self", "number", "exponent", "ahead"] ["self", "number"] (defScope s_House_last_place) := ⟨rfl, rfl, rfl, by decide +kernel, rfl, by decide +kernel, by decide +kernel⟩
abbrev s_pen : Stmt := topS 19
theorem sc_pen : FnScope ["_law_script", "_law_most", "_law_cell"] ["_law_script"] (defScope s_pen) := ⟨rfl, rfl, rfl, by decide +kernel, rfl, by decide +kernel, by decide +kernel⟩
abbrev s_draw : Stmt := topS 20
theorem sc_draw : FnScope ["_law_pen_here", "_law_many", "_law_digit", "_law_at", "_law_cell", "_law_number", "_law_rounds"] ["_law_pen_here", "_law_many"] (defScope s_draw) := ⟨rfl, rfl, rfl, by decide +kernel, rfl, by decide +kernel, by decide +kernel⟩
abbrev s_beginning : Stmt := topS 21
theorem sc_beginning : FnScope ["_law_pen_here", "_law_base", "_law_most", "_law_k"] ["_law_pen_here", "_law_base", "_law_most"] (defScope s_beginning) := ⟨rfl, rfl, rfl, by decide +kernel, rfl, by decide +kernel, by decide +kernel⟩
abbrev s_far : Stmt := topS 22
theorem sc_far : FnScope ["_law_pen_here", "_law_figures", "_law_number", "_law_k"] ["_law_pen_here", "_law_figures"] (defScope s_far) := ⟨rfl, rfl, rfl, by decide +kernel, rfl, by decide +kernel, by decide +kernel⟩
abbrev s_law : Stmt := topS 23
theorem sc_law : FnScope ["_law_script", "_law_pen_here", "_law_turn", "_law_base", "_law_begun", "_law_at", "_law_more", "_law_house", "_law_other", "_law_near", "_law_power", "_law_k", "_law_number", "_law_comes", "_law_spot", "_law_often"] ["_law_script"] (defScope s_law) := ⟨rfl, rfl, rfl, by decide +kernel, rfl, by decide +kernel, by decide +kernel⟩
structure Txt (K : PySem.W.Frag) (mg : Str → Option Value) (C_House : Addr) : Prop where
  b_abs : mg "abs" = none
  b_all : mg "all" = none
  b_bool : mg "bool" = none
  b_int : mg "int" = none
  b_isinstance : mg "isinstance" = none
  b_len : mg "len" = none
  b_list : mg "list" = none
  b_min : mg "min" = none
  b_range : mg "range" = none
  b_sum : mg "sum" = none
  b_tuple : mg "tuple" = none
  g_GREATEST_K : ∃ t, mg "GREATEST_K" = some (.int 30 t)
  d_exponent_of : Dn K mg "exponent_of" s_exponent_of ["number", "base"]
  d_first_sign : Dn K mg "first_sign" s_first_sign ["number", "base"]
  d_heap_of : Dn K mg "heap_of" s_heap_of ["number", "base"]
  d_noughts_of : Dn K mg "noughts_of" s_noughts_of ["number", "base"]
  d_is_whole : Dn K mg "is_whole" s_is_whole ["thing"]
  d_is_whole_from : Dn K mg "is_whole_from" s_is_whole_from ["thing", "least"]
  d_is_row : Dn K mg "is_row" s_is_row ["thing"]
  d_is_k : Dn K mg "is_k" s_is_k ["thing"]
  d_is_beginning : Dn K mg "is_beginning" s_is_beginning ["k", "thing"]
  d_lessened_sums : Dn K mg "lessened_sums" s_lessened_sums ["beginning"]
  d_pen : Dn K mg "_law_pen" s_pen ["_law_script"]
  d_draw : Dn K mg "_law_draw" s_draw ["_law_pen_here", "_law_many"]
  d_beginning : Dn K mg "_law_beginning" s_beginning ["_law_pen_here", "_law_base", "_law_most"]
  d_far : Dn K mg "_law_far" s_far ["_law_pen_here", "_law_figures"]
  cl_House : Cls K C_House
  mk_House : PySem.W.makesIn K C_House = true
  kp_House : PySem.W.keepIn K (.ref C_House) = true
  g_House : mg "House" = some (.ref C_House)
  na_House_beginning : NoAttr K C_House "_beginning"
  na_House_k : NoAttr K C_House "_k"
  na_House_sums : NoAttr K C_House "_sums"
  d_House_init : Mn K C_House "__init__" "House.__init__" s_House_init ["self", "k", "beginning"]
  d_House_reach : Mn K C_House "reach" "House.reach" s_House_reach ["self"]
  d_House_folk : Mn K C_House "folk" "House.folk" s_House_folk ["self"]
  d_House_times : Mn K C_House "times" "House.times" s_House_times ["self", "number"]
  d_House_last_place : Mn K C_House "last_place" "House.last_place" s_House_last_place ["self", "number"]
def spNum2 (g : Nat → Nat → Nat) : Sp := fun vs H Q _ => ∃ n b : Nat, vs = [.int n, .int b] ∧ 2 ≤ b ∧ b ≤ 30 ∧ Q (.int (g b n : Nat)) H
def spSigns : Sp := fun vs H Q _ => ∃ n b : Nat, vs = [.int n, .int b] ∧ 2 ≤ b ∧ b ≤ 30 ∧ n < 2 ^ 3000 ∧ ∀ H' p, Same H H' → H p = none → H' p = some (.lst ((zs (sgn b n)).map V.int)) → Q (.ref p) H'
def spBegun : Sp := fun vs H Q _ => ∃ (p b m n c : Nat), vs = [.ref p, .int b, .int m] ∧ 2 ≤ b ∧ b ≤ 30 ∧ 0 < m ∧ m < 2 ^ 390 ∧ PenAt H p c n ∧ n ≤ 900000 ∧
  ∀ H' l (B : List Nat), PenAt H' p c (n + 3 * b) → But p H H' → H l = none → H' l = some (.lst ((zs B).map V.int)) → Beg b B → (∀ x ∈ B, x ≤ m + 3) → Q (.ref l) H'
end Ab

namespace Ab
open PySem PySem.Spec PyProof.Rows L2
open C8 (Cal Mak Met pe_c pe_mk pe_mt pe_mt0)
section
variable {P : Program} {w : World} {K : PySem.W.Frag} {mg : Str → Option Value} {base : Heap} {C_House : Addr}
theorem ok_is_whole (T : Txt K mg C_House) : Cal P w K mg base 1 "is_whole" spWhole [] := by
  refine T.d_is_whole.cal sc_is_whole (fun vs H Q E h => ?_) (fun cdv f A outer s H vs Q E hr h => ?_)
  · obtain ⟨i, rfl, _⟩ := h
    rfl
  · obtain ⟨i, rfl, q⟩ := h
    refine ⟨_, (pss_one (ps_ret (pe_and (pe_callB call_isi (by rfl) T.b_isinstance (by decide +kernel) (pa_cons (pv 0) (pa_cons (pe_bltn (v := V.ty "int") (u := Value.type "int") (by rfl) T.b_int (by decide +kernel) rfl) pa_nil))) (pe_one (pe_not (pe_callB call_isi (by rfl) T.b_isinstance (by decide +kernel) (pa_cons (pv 0) (pa_cons (pe_bltn (v := V.ty "bool") (u := Value.type "bool") (by rfl) T.b_bool (by decide +kernel) rfl) pa_nil)))))))), ?_⟩
    walk_at "rd"
    refine ⟨_, _, _, _, true, rfl, .ty _, .base (.int i), kit_ty (by decide +kernel), ?_⟩
    walk_at "rd"
    refine ⟨_, _, _, _, false, rfl, .ty _, .base (.int i), kit_ty (by decide +kernel), ?_⟩
    walk_at "rd"
    exact q
theorem ok_is_whole_from (T : Txt K mg C_House) : Cal P w K mg base 2 "is_whole_from" spFrom [] := by
  have c_is_whole : Cal P w K mg base 1 "is_whole" spWhole [] := ok_is_whole T
  refine T.d_is_whole_from.cal sc_is_whole_from (fun vs H Q E h => ?_) (fun cdv f A outer s H vs Q E hr h => ?_)
  · obtain ⟨i, l, rfl, _⟩ := h
    rfl
  · obtain ⟨i, l, rfl, q⟩ := h
    refine ⟨_, (pss_one (ps_ret (pe_and (pe_c c_is_whole hr (by decide) rfl (pa_cons (pv 0) pa_nil)) (pe_one (pe_cmpR op_ge (pv 0) (pv 1) (nomark _)))))), ?_⟩
    walk_at "rd"
    exact q
theorem ok_is_k (T : Txt K mg C_House) : Cal P w K mg base 2 "is_k" spIsK [] := by
  have c_is_whole : Cal P w K mg base 1 "is_whole" spWhole [] := ok_is_whole T
  obtain ⟨t0, h_GREATEST_K⟩ := T.g_GREATEST_K
  refine T.d_is_k.cal sc_is_k (fun vs H Q E h => ?_) (fun cdv f A outer s H vs Q E hr h => ?_)
  · obtain ⟨k, rfl, _⟩ := h
    rfl
  · obtain ⟨k, rfl, h1, h2, q⟩ := h
    refine ⟨_, (pss_one (ps_ret (pe_and (pe_c c_is_whole hr (by decide) rfl (pa_cons (pv 0) pa_nil)) (pe_one (pe_chain op_le op_le pe_int (pv 0) (pe_glob (v := V.int 30) rfl h_GREATEST_K ⟨_, rfl⟩) rfl))))), ?_⟩
    walk_at "rd"
    refine itd (fun _ => ?_) (fun c => absurd (show (2 : Int) ≤ (k : Int) by omega) c)
    walk_at "rd"
    show Q (V.bl (decide ((k : Int) ≤ 30))) H
    rw [decide_eq_true (show (k : Int) ≤ 30 by omega)]
    exact q
theorem ok_is_row (T : Txt K mg C_House) : Cal P w K mg base 1 "is_row" spRow [] := by
  refine T.d_is_row.cal sc_is_row (fun vs H Q E h => ?_) (fun cdv f A outer s H vs Q E hr h => ?_)
  · obtain ⟨b, xs, rfl, _⟩ := h
    rfl
  · obtain ⟨b, xs, rfl, hb, q⟩ := h
    refine ⟨_, (pss_one (ps_ret (pe_callB call_isiT (by rfl) T.b_isinstance (by decide +kernel) (pa_cons (pv 0) (pa_cons (pe_tup (pa_cons (pe_bltn (v := V.ty "list") (u := Value.type "list") (by rfl) T.b_list (by decide +kernel) rfl) (pa_cons (pe_bltn (v := V.ty "tuple") (u := Value.type "tuple") (by rfl) T.b_tuple (by decide +kernel) rfl) pa_nil))) pa_nil))))), ?_⟩
    walk_at "rd"
    refine ⟨show 2 ≤ sizeLine by decide, fun t nt => ?_⟩
    have s1 := same_upd (o := .tup [.ty "list", .ty "tuple"]) nt
    walk_at "rd"
    refine ⟨_, t, _, _, _, true, rfl, upd_same, .cons (.ty _) (.cons (.ty _) .nil), .base (.lst (s1 _ _ hb)), kitAny_cons (b := true) (kit_ty (by decide +kernel)) (fun z => by cases z) (fun _ => rfl), ?_⟩
    exact q _ s1
theorem ok_is_beginning (T : Txt K mg C_House) : Cal P w K mg base 3 "is_beginning" spIsBeg [] := by
  have c_is_row : Cal P w K mg base 1 "is_row" spRow [] := ok_is_row T
  have c_is_whole_from : Cal P w K mg base 2 "is_whole_from" spFrom [] := ok_is_whole_from T
  refine T.d_is_beginning.cal sc_is_beginning (fun vs H Q E h => ?_) (fun cdv f A outer s H vs Q E hr h => ?_)
  · obtain ⟨k, b, B, rfl, _⟩ := h
    rfl
  · obtain ⟨k, b, B, rfl, hb, hB, hk, q⟩ := h
    refine ⟨_, (pss_cons (ps_if (PW.pt (pw_or (pt_not (pt_val (pe_c c_is_row hr (by decide) rfl (pa_cons (pv 1) pa_nil)))) (pw_or1 (pt_cmpR op_ne (pe_callB call_len_seq (by rfl) T.b_len (by decide +kernel) (pa_cons (pv 1) pa_nil)) (pe_op op_sub (pv 0) pe_int) (nomark _)))))
        (pss_one (ps_ret pe_bl))
        pss_nil)
      (pss_one (ps_ret (pe_callB (cr_all rfl) (by rfl) T.b_all (by decide +kernel) (pa_cons (pe_lc (own := [("many", 2)]) (g := gName 2) (tt := tYes) rfl sc_is_beginning.nd (pi_list (pv 1)) (blkOk_by (own := [("many", 2)]) (N := ["k", "thing", "many"]) (sc := defScope s_is_beginning) (by decide +kernel)) (fun _ _ _ _ _ => pg_name (i := 2) sc_is_beginning.nd rfl (Or.inl rfl)) (fun _ _ _ _ _ => pts_nil) (fun _ _ _ _ _ => (pe_c c_is_whole_from hr (by decide) rfl (pa_cons (pv 2) (pa_cons pe_int pa_nil))))) pa_nil))))), ?_⟩
    walk_at "rd"
    refine ⟨b, _, rfl, hb, fun H1 s1 => ?_⟩
    have hb1 := s1 _ _ hb
    have hl := hB.len
    walk_at "rd"
    refine ⟨b, _, rfl, .inl (sql hb1), ?_⟩
    walk_at "rd"
    refine itn (fun c => absurd (congrArg V.int (by rw [ints_len, zs_len]; omega)) c) (fun _ => ?_)
    walk_at "rd"
    refine ⟨⟨_, sql hb1⟩, fun D nD => ?_⟩
    have nbD : b ≠ D := ne_of_none hb1 nD
    refine lc_list (K := K) (a := b) (xs := (zs B).map V.int) (fun i H3 => H3 D = some (.lst ((List.replicate i true).map V.bl)) ∧ H3 b = some (.lst ((zs B).map V.int)) ∧ Same H1 H3)
      ⟨upd_same, by rw [upd_ne nbD]; exact hb1, same_upd nD⟩ (fun i H3 hi h3 => sql h3.2.1) (fun i x H3 hx h3 => ?_) (fun H3 h3 => ?_)
    · obtain ⟨d1, d2, d3⟩ := h3
      obtain ⟨d, hd, rfl⟩ := zs_get hx
      have hd1 := hB.pos d (List.mem_of_getElem? hd)
      have hiB : i < B.length := (List.getElem?_eq_some_iff.mp hd).1
      walk_at "rd"
      refine ⟨_, d1, by rw [List.length_map, List.length_replicate]; exact small1000 (by omega), ?_, by rw [upd_ne nbD]; exact d2, same_put d3 nD⟩
      rw [upd_same, decide_eq_true (show (1 : Int) ≤ (d : Int) by omega), List.replicate_succ', List.map_append]
      rfl
    · obtain ⟨d1, d2, d3⟩ := h3
      walk_at "rd"
      refine ⟨D, _, rfl, sql d1, ?_⟩
      rw [show (List.replicate ((zs B).map V.int).length true).all id = true by rw [List.all_eq_true]; intro x hx; rw [List.eq_of_mem_replicate hx]; rfl]
      exact q H3 (s1.trans d3)
theorem ok_lessened (T : Txt K mg C_House) : Cal P w K mg base 1 "lessened_sums" spSums [] := by
  refine T.d_lessened_sums.cal sc_lessened_sums (fun vs H Q E h => ?_) (fun cdv f A outer s H vs Q E hr h => ?_)
  · obtain ⟨b, B, rfl, _⟩ := h
    rfl
  · obtain ⟨b, B, rfl, hb, hl, hp, q⟩ := h
    refine ⟨_, (pss_cons (ps_set (i := 1) sc_lessened_sums.nd rfl (.inl rfl) (pe_lst (pa_cons pe_int pa_nil)))
      (pss_cons (ps_for PassesOwn.never rfl (pi_list (pv 0)) (pg_name (i := 2) sc_lessened_sums.nd rfl (.inl rfl))
        (pss_one (ps_expr (pe_bm PySem.F.plainAttrs_list PySem.F.slot_list_append PySem.F.type_list_append mt_append (pv 1) (pa_cons (pe_op op_sub (pe_op op_add (pe_ix ix_list (pv 1) (pe_un un_neg pe_int) (fun _ _ => rfl)) (pv 2)) pe_int) pa_nil)))))
      (pss_one (ps_ret (pv 1))))), ?_⟩
    refine ⟨show 1 ≤ sizeLine by decide, fun l nl => ?_⟩
    have nbl : b ≠ l := ne_of_none hb nl
    walk_at "rd"
    refine ⟨⟨_, sql (same_upd nl _ _ hb)⟩, for_list (K := K) (a := b) (xs := (zs B).map V.int) (fun i σ H3 => ∃ v : Option V, σ = [some (.ref b), some (.ref l), v] ∧ H3 l = some (.lst ((zs ((List.range (i + 1)).map (sm B))).map V.int)) ∧ Same H H3)
      ⟨_, rfl, upd_same, same_upd nl⟩ (fun i σ H3 _ h3 => ?_) (fun i x σ H3 hx h3 => ?_) (fun σ H3 h3 => ?_)⟩
    · obtain ⟨v, rfl, e1, e2⟩ := h3
      exact sql (e2 _ _ hb)
    · obtain ⟨v, rfl, e1, e2⟩ := h3
      obtain ⟨d, hd, rfl⟩ := zs_get hx
      have hd1 := hp d (List.mem_of_getElem? hd)
      have hiB : i < B.length := (List.getElem?_eq_some_iff.mp hd).1
      walk_at "rd"
      refine ⟨.inl ⟨rfl, _, sql e1⟩, ?_⟩
      walk_at "rd"
      refine ⟨l, _, _, .int (sm B i : Nat), rfl, rfl, sql e1, ?_, ?_⟩
      · rw [List.range_succ, List.map_append]
        unfold zs
        rw [List.map_append, List.map_append]
        exact atI_last _ _
      walk_at "rd"
      refine ⟨_, _, _, rfl, rfl, e1, by rw [ints_len, zs_len, List.length_map, List.length_range]; exact small1000 (by omega), ?_⟩
      refine ⟨_, rfl, ?_, same_put e2 nl⟩
      rw [upd_same]
      show some (HO.lst (_ ++ [V.int (((sm B i : Nat) : Int) + (d : Int) - 1)])) = _
      rw [show ((sm B i : Nat) : Int) + (d : Int) - 1 = ((sm B (i + 1) : Nat) : Int) by rw [sm_succ hd]; omega, zs_snoc, List.range_succ (n := i + 1), List.map_append]
      rfl
    · obtain ⟨v, rfl, e1, e2⟩ := h3
      rw [ints_len, zs_len] at e1
      walk_at "rd"
      exact q H3 l e2 nl e1
theorem ok_House (T : Txt K mg C_House) : Mak P w K mg base 4 "House" C_House (spInit K C_House) [] := by
  have c_is_k : Cal P w K mg base 2 "is_k" spIsK [] := ok_is_k T
  have c_is_beginning : Cal P w K mg base 3 "is_beginning" spIsBeg [] := ok_is_beginning T
  have c_lessened_sums : Cal P w K mg base 1 "lessened_sums" spSums [] := ok_lessened T
  refine T.d_House_init.mak T.mk_House T.kp_House T.g_House sc_House_init (fun vs H Q E h => ?_) (fun cdv f A outer s H vs Q E hr h => ?_)
  · obtain ⟨x, k, b, dx, B, rfl, _⟩ := h
    rfl
  · obtain ⟨x, k, b, dx, B, rfl, hx, hb, hB, hk, hbig, q⟩ := h
    have h2 := hB.two
    have nbx : b ≠ x := ne_of hb hx (by intro z; cases z)
    refine ⟨_, (pss_cons (ps_if (pt_not (pt_val (pe_c c_is_k hr (by decide) rfl (pa_cons (pv 1) pa_nil))))
        (pss_one ps_never)
        pss_nil)
      (pss_cons (ps_if (pt_not (pt_val (pe_c c_is_beginning hr (by decide) rfl (pa_cons (pv 1) (pa_cons (pv 2) pa_nil)))))
        (pss_one ps_never)
        pss_nil)
      (pss_cons (ps_fld (pv 0) (pv 1) rfl)
      (pss_cons (ps_fld (pv 0) (pe_callTy call_tuple_of (by rfl) T.b_tuple (by decide +kernel) (pa_cons (pv 2) pa_nil)) rfl)
      (pss_one (ps_fld (pv 0) (pe_c c_lessened_sums hr (by decide) rfl (pa_cons (pv 2) pa_nil)) rfl)))))), ?_⟩
    walk_at "rd"
    refine ⟨h2, hk, ?_⟩
    walk_at "rd"
    refine ⟨k, b, B, rfl, hb, hB, hk, fun H1 s1 => ?_⟩
    walk_at "rd"
    have hx1 := s1 _ _ hx
    refine ⟨x, C_House, dx, _, rfl, hx1, T.cl_House, T.na_House_k, by decide, ?_⟩
    walk_at "rd"
    have hb1 : upd H1 x (.ins C_House dx (putF "_k" (.int k) [])) b = some (.lst ((zs B).map V.int)) := by rw [upd_ne nbx]; exact s1 _ _ hb
    refine ⟨b, _, rfl, .inl ⟨sql hb1, fun tb ntb => ?_⟩⟩
    have nxt : x ≠ tb := ne_of_none upd_same ntb
    walk_at "rd"
    refine ⟨x, C_House, dx, _, rfl, by rw [upd_ne nxt]; exact upd_same, T.cl_House, T.na_House_beginning, by show 1 < 1000; decide, ?_⟩
    have s2 := same_upd (o := .tup ((zs B).map V.int)) ntb
    walk_at "rd"
    have hb2 : ∀ o, upd (upd (upd H1 x (.ins C_House dx (putF "_k" (.int k) []))) tb (.tup ((zs B).map V.int))) x o b = some (.lst ((zs B).map V.int)) := fun o => by rw [upd_ne nbx]; exact s2 _ _ hb1
    refine ⟨b, B, rfl, hb2 _, by have := hB.len; omega, hB.pos, fun H3 ls s3 nls hls => ?_⟩
    have hx3 := s3 x _ upd_same
    have ht3 := s3 tb _ (by rw [upd_ne nxt.symm]; exact upd_same)
    have nlx : ls ≠ x := fun z => by rw [z] at hls; rw [hls] at hx3; cases hx3
    walk_at "rd"
    refine ⟨x, C_House, dx, _, rfl, hx3, T.cl_House, T.na_House_sums, by rw [show (putF "_beginning" (V.ref tb) (putF "_k" (V.int k) [])).length = 2 from len_kb tb k]; decide, ?_⟩
    refine q _ ⟨⟨dx, tb, ls, upd_same, by rw [upd_ne nxt.symm]; exact ht3, by rw [upd_ne nlx]; exact hls⟩, hB, hk, hbig⟩ (fun a o ha nax => ?_)
    rw [upd_ne nax]
    refine s3 _ _ ?_
    rw [upd_ne nax]
    refine s2 _ _ ?_
    rw [upd_ne nax]
    exact s1 _ _ ha
end
end Ab

namespace Ab
open PySem PySem.Spec PyProof.Rows L2
open C8 (Cal Mak Met pe_c pe_mk pe_mt pe_mt0)
section
variable {P : Program} {w : World} {K : PySem.W.Frag} {mg : Str → Option Value} {base : Heap} {C_House : Addr}
theorem ok_expo (T : Txt K mg C_House) : Cal P w K mg base 1 "exponent_of" (spNum2 expo) [] := by
  refine T.d_exponent_of.cal sc_exponent_of (fun vs H Q E h => ?_) (fun cdv f A outer s H vs Q E hr h => ?_)
  · obtain ⟨n, b, rfl, _⟩ := h
    rfl
  · obtain ⟨n, b, rfl, h2, h30, q⟩ := h
    refine ⟨_, (pss_cons (ps_set (i := 2) sc_exponent_of.nd rfl (.inl rfl) pe_int)
      (pss_cons (ps_while PassesOwn.never (pt_cmpR op_ge (pv 0) (pv 1) (nomark _))
        (pss_cons (ps_set (i := 0) sc_exponent_of.nd rfl (.inl rfl) (pe_op op_fdivW (pv 0) (pv 1)))
        (pss_one (ps_aug (i := 2) sc_exponent_of.nd rfl (.inl rfl) pe_int ip_add))))
      (pss_one (ps_ret (pv 2))))), ?_⟩
    refine ⟨fun m σ H1 => ∃ x e : Nat, σ = [some (.int x), some (.int b), some (.int e)] ∧ m = x ∧ e + expo b x = expo b n ∧ H1 = H, ⟨n, n, 0, rfl, rfl, by omega, rfl⟩, fun m σ H1 hw => ?_⟩
    obtain ⟨x, e, rfl, rfl, he, rfl⟩ := hw
    walk_at "rd"
    refine itd (fun c => ?_) (fun c => ?_)
    · have hc : b ≤ m := by omega
      rw [expo_step h2 hc] at he
      refine ⟨_, fun _ _ h => h, ?_⟩
      walk_at "rd"
      refine ⟨divW (y := 5) (by omega) (by omega), ?_⟩
      walk_at "rd"
      exact ⟨m / b, Nat.div_lt_self (by omega) (by omega), m / b, e + 1, rfl, rfl, by omega, rfl⟩
    · rw [expo_small (by omega)] at he
      walk_at "rd"
      rw [show e = expo b n by omega]
      exact q
theorem ok_first (T : Txt K mg C_House) : Cal P w K mg base 1 "first_sign" (spNum2 lead) [] := by
  refine T.d_first_sign.cal sc_first_sign (fun vs H Q E h => ?_) (fun cdv f A outer s H vs Q E hr h => ?_)
  · obtain ⟨n, b, rfl, _⟩ := h
    rfl
  · obtain ⟨n, b, rfl, h2, h30, q⟩ := h
    refine ⟨_, (pss_cons (ps_while PassesOwn.never (pt_cmpR op_ge (pv 0) (pv 1) (nomark _))
        (pss_one (ps_set (i := 0) sc_first_sign.nd rfl (.inl rfl) (pe_op op_fdivW (pv 0) (pv 1)))))
      (pss_one (ps_ret (pv 0)))), ?_⟩
    refine ⟨fun m σ H1 => ∃ x : Nat, σ = [some (.int x), some (.int b)] ∧ m = x ∧ lead b x = lead b n ∧ H1 = H, ⟨n, n, rfl, rfl, rfl, rfl⟩, fun m σ H1 hw => ?_⟩
    obtain ⟨x, rfl, rfl, he, rfl⟩ := hw
    walk_at "rd"
    refine itd (fun c => ?_) (fun c => ?_)
    · have hc : b ≤ m := by omega
      rw [lead_step h2 hc] at he
      refine ⟨_, fun _ _ h => h, ?_⟩
      walk_at "rd"
      refine ⟨divW (y := 5) (by omega) (by omega), ?_⟩
      exact ⟨m / b, Nat.div_lt_self (by omega) (by omega), m / b, rfl, rfl, he, rfl⟩
    · rw [lead_small (by omega)] at he
      walk_at "rd"
      rw [he]
      exact q
theorem ok_heap (T : Txt K mg C_House) : Cal P w K mg base 1 "heap_of" (spNum2 heap) [] := by
  refine T.d_heap_of.cal sc_heap_of (fun vs H Q E h => ?_) (fun cdv f A outer s H vs Q E hr h => ?_)
  · obtain ⟨n, b, rfl, _⟩ := h
    rfl
  · obtain ⟨n, b, rfl, h2, h30, q⟩ := h
    refine ⟨_, (pss_cons (ps_set (i := 2) sc_heap_of.nd rfl (.inl rfl) pe_int)
      (pss_cons (ps_while PassesOwn.never (pt_cmpR op_ge (pv 0) (pv 1) (nomark _))
        (pss_cons (ps_set (i := 0) sc_heap_of.nd rfl (.inl rfl) (pe_op op_fdivW (pv 0) (pv 1)))
        (pss_one (ps_aug (i := 2) sc_heap_of.nd rfl (.inl rfl) (pv 0) ip_add))))
      (pss_one (ps_ret (pv 2))))), ?_⟩
    refine ⟨fun m σ H1 => ∃ x e : Nat, σ = [some (.int x), some (.int b), some (.int e)] ∧ m = x ∧ e + heap b x = heap b n ∧ H1 = H, ⟨n, n, 0, rfl, rfl, by omega, rfl⟩, fun m σ H1 hw => ?_⟩
    obtain ⟨x, e, rfl, rfl, he, rfl⟩ := hw
    walk_at "rd"
    refine itd (fun c => ?_) (fun c => ?_)
    · rw [heap_step h2] at he
      refine ⟨_, fun _ _ h => h, ?_⟩
      walk_at "rd"
      refine ⟨divW (y := 5) (by omega) (by omega), ?_⟩
      walk_at "rd"
      exact ⟨m / b, Nat.div_lt_self (by omega) (by omega), m / b, e + m / b, rfl, rfl, by omega, rfl⟩
    · rw [heap_small (by omega)] at he
      walk_at "rd"
      rw [show e = heap b n by omega]
      exact q
theorem ok_noughts (T : Txt K mg C_House) : Cal P w K mg base 1 "noughts_of" (spNum2 nou) [] := by
  refine T.d_noughts_of.cal sc_noughts_of (fun vs H Q E h => ?_) (fun cdv f A outer s H vs Q E hr h => ?_)
  · obtain ⟨n, b, rfl, _⟩ := h
    rfl
  · obtain ⟨n, b, rfl, h2, h30, q⟩ := h
    refine ⟨_, (pss_cons (ps_set (i := 2) sc_noughts_of.nd rfl (.inl rfl) pe_int)
      (pss_cons (ps_while PassesOwn.never (PW.pt (pw_and (pt_cmpR op_gt (pv 0) pe_int (nomark _)) (pw_and1 (pt_cmpR op_eq (pe_op op_mod (pv 0) (pv 1)) pe_int (nomark _)))))
        (pss_cons (ps_set (i := 0) sc_noughts_of.nd rfl (.inl rfl) (pe_op op_fdivW (pv 0) (pv 1)))
        (pss_one (ps_aug (i := 2) sc_noughts_of.nd rfl (.inl rfl) pe_int ip_add))))
      (pss_one (ps_ret (pv 2))))), ?_⟩
    refine ⟨fun m σ H1 => ∃ x e : Nat, σ = [some (.int x), some (.int b), some (.int e)] ∧ m = x ∧ e + nou b x = nou b n ∧ H1 = H, ⟨n, n, 0, rfl, rfl, by omega, rfl⟩, fun m σ H1 hw => ?_⟩
    obtain ⟨x, e, rfl, rfl, he, rfl⟩ := hw
    have done : nou b m = 0 → Q (.int (e : Nat)) H1 := fun z => by
      rw [show e = nou b n by omega]
      exact q
    walk_at "rd"
    refine itd (fun c => ?_) (fun c => ?_)
    · walk_at "rd"
      refine ⟨by show (0 : Int) < (b : Int); omega, rfl, ?_⟩
      walk_at "rd"
      refine itd (fun c2 => ?_) (fun c2 => ?_)
      · have c3 : m % b = 0 := Int.ofNat.inj (V.int.inj c2)
        rw [nou_step h2 (by omega) c3] at he
        refine ⟨_, fun _ _ h => h, ?_⟩
        walk_at "rd"
        refine ⟨divW (y := 5) (by omega) (by omega), ?_⟩
        walk_at "rd"
        exact ⟨m / b, Nat.div_lt_self (by omega) (by omega), m / b, e + 1, rfl, rfl, by omega, rfl⟩
      · walk_at "rd"
        exact done (nou_no fun z => c2 (congrArg (fun x : Nat => V.int x) z))
    · have z : m = 0 := by omega
      walk_at "rd"
      exact done (by rw [z]; exact nou_zero b)
theorem ok_reach (T : Txt K mg C_House) : Met P w K mg base 1 C_House "reach" (spReach C_House) [] := by
  refine T.d_House_reach.met T.cl_House sc_House_reach (fun vs H Q E h => ?_) (fun cdv f A outer s H vs Q E hr h => ?_)
  · obtain ⟨p, k, B, rfl, _⟩ := h
    rfl
  · obtain ⟨p, k, B, rfl, hH, q⟩ := h
    obtain ⟨dx, tb, ls, h1, h2, h3⟩ := hH.ex
    refine ⟨_, (pss_one (ps_ret (pe_ix ix_list (pe_fld (pv 0) rfl) (pe_un un_neg pe_int) (fun _ _ => rfl)))), ?_⟩
    walk_at "rd"
    refine ⟨p, C_House, dx, _, _, rfl, h1, T.cl_House, T.na_House_sums, hfs_s _ _ _, ?_⟩
    walk_at "rd"
    refine ⟨ls, _, _, _, rfl, rfl, sql h3, sumsL_last B, ?_⟩
    exact q
theorem ok_folk (T : Txt K mg C_House) : Met P w K mg base 1 C_House "folk" (spFolk C_House) [] := by
  refine T.d_House_folk.met T.cl_House sc_House_folk (fun vs H Q E h => ?_) (fun cdv f A outer s H vs Q E hr h => ?_)
  · obtain ⟨p, k, B, rfl, _⟩ := h
    rfl
  · obtain ⟨p, k, B, rfl, hH, q⟩ := h
    obtain ⟨dx, tb, ls, h1, h2, h3⟩ := hH.ex
    refine ⟨_, (pss_one (ps_ret (pe_callB (cr_sumT rfl) (by rfl) T.b_sum (by decide +kernel) (pa_cons (pe_fld (pv 0) rfl) pa_nil)))), ?_⟩
    walk_at "rd"
    refine ⟨p, C_House, dx, _, _, rfl, h1, T.cl_House, T.na_House_beginning, hfs_b _ _ _, ?_⟩
    walk_at "rd"
    refine ⟨tb, zs B, rfl, .inl (.inl h2), ?_⟩
    rw [zs_sum, ← folk_las hH.beg]
    exact q
theorem ok_last (T : Txt K mg C_House) : Met P w K mg base 2 C_House "last_place" (spLast C_House) [] := by
  have m_reach : Met P w K mg base 1 C_House "reach" (spReach C_House) [] := ok_reach T
  have c_exponent_of : Cal P w K mg base 1 "exponent_of" (spNum2 expo) [] := ok_expo T
  have c_first_sign : Cal P w K mg base 1 "first_sign" (spNum2 lead) [] := ok_first T
  have c_heap_of : Cal P w K mg base 1 "heap_of" (spNum2 heap) [] := ok_heap T
  refine T.d_House_last_place.met T.cl_House sc_House_last_place (fun vs H Q E h => ?_) (fun cdv f A outer s H vs Q E hr h => ?_)
  · obtain ⟨p, k, B, n, rfl, _⟩ := h
    rfl
  · obtain ⟨p, k, B, n, rfl, hH, hn, q⟩ := h
    obtain ⟨dx, tb, ls, h1, h2, h3⟩ := hH.ex
    have hk := hH.top
    have hk2 := hH.beg.two
    have hl := hH.beg.len
    have hexp : expo k n < 2 ^ 20 := by
      by_cases z : n < k
      · rw [expo_small z]; decide
      · have e1 := digs_len hk2 n (by omega)
        have e2 := digs_bits hk2 n 3000 hn
        omega
    have hlead := lead_lt hk2 n
    refine ⟨_, (pss_cons (ps_set (i := 2) sc_House_last_place.nd rfl (.inl rfl) (pe_c c_exponent_of hr (by decide) rfl (pa_cons (pv 1) (pa_cons (pe_fld (pv 0) rfl) pa_nil))))
      (pss_cons (ps_set (i := 3) sc_House_last_place.nd rfl (.inl rfl) (pe_op op_add (pe_op op_mulW (pv 2) (pe_mt0 m_reach hr (by decide) (pv 0))) (pe_ix ix_list (pe_fld (pv 0) rfl) (pe_c c_first_sign hr (by decide) rfl (pa_cons (pv 1) (pa_cons (pe_fld (pv 0) rfl) pa_nil))) (fun _ _ => rfl))))
      (pss_one (ps_ret (pe_op op_add (pe_op op_add (pv 1) (pe_c c_heap_of hr (by decide) rfl (pa_cons (pv 1) (pa_cons (pe_fld (pv 0) rfl) pa_nil)))) (pv 3)))))), ?_⟩
    walk_at "rd"
    refine ⟨p, C_House, dx, _, _, rfl, h1, T.cl_House, T.na_House_k, hfs_k _ _ _, ?_⟩
    walk_at "rd"
    refine ⟨hk2, hk, ?_⟩
    walk_at "rd"
    refine ⟨p, dx, _, rfl, h1, hfs_no _ _ _, ?_⟩
    refine ⟨p, k, B, rfl, hH, ?_⟩
    walk_at "rd"
    refine ⟨mulW (x := 20) (y := 400) hexp hH.big, ?_⟩
    walk_at "rd"
    refine ⟨p, C_House, dx, _, _, rfl, h1, T.cl_House, T.na_House_sums, hfs_s _ _ _, ?_⟩
    walk_at "rd"
    refine ⟨p, C_House, dx, _, _, rfl, h1, T.cl_House, T.na_House_k, hfs_k _ _ _, ?_⟩
    walk_at "rd"
    refine ⟨hk2, hk, ?_⟩
    refine ⟨ls, _, _, _, rfl, rfl, sql h3, at_of (j := lead k n) rfl (zs_at (sumsL_at (by omega))), ?_⟩
    walk_at "rd"
    refine ⟨p, C_House, dx, _, _, rfl, h1, T.cl_House, T.na_House_k, hfs_k _ _ _, ?_⟩
    walk_at "rd"
    refine ⟨hk2, hk, ?_⟩
    walk_at "rd"
    exact q
theorem ok_times (T : Txt K mg C_House) : Met P w K mg base 2 C_House "times" (spTimes C_House) [] := by
  have c_exponent_of : Cal P w K mg base 1 "exponent_of" (spNum2 expo) [] := ok_expo T
  have c_first_sign : Cal P w K mg base 1 "first_sign" (spNum2 lead) [] := ok_first T
  have c_noughts_of : Cal P w K mg base 1 "noughts_of" (spNum2 nou) [] := ok_noughts T
  refine T.d_House_times.met T.cl_House sc_House_times (fun vs H Q E h => ?_) (fun cdv f A outer s H vs Q E hr h => ?_)
  · obtain ⟨p, k, B, n, rfl, _⟩ := h
    rfl
  · obtain ⟨p, k, B, n, rfl, hH, hn0, hn, q⟩ := h
    obtain ⟨dx, tb, ls, h1, h2, h3⟩ := hH.ex
    have hk := hH.top
    have hk2 := hH.beg.two
    have hlead := lead_lt hk2 n
    have hlp := lead_pos hk2 n hn0
    have ht := tim_eq (B := B) hk2 hn0
    obtain ⟨b, hb1, _, hb3⟩ := hH.beg.at hlp hlead
    refine ⟨_, (pss_cons (ps_set (i := 2) sc_House_times.nd rfl (.inl rfl) (pe_c c_noughts_of hr (by decide) rfl (pa_cons (pv 1) (pa_cons (pe_fld (pv 0) rfl) pa_nil))))
      (pss_cons (ps_if (pt_cmpR op_eq (pv 2) (pe_c c_exponent_of hr (by decide) rfl (pa_cons (pv 1) (pa_cons (pe_fld (pv 0) rfl) pa_nil))) (nomark _))
        (pss_one (ps_ret (pe_op op_add (pv 2) (pe_ix ix_tup (pe_fld (pv 0) rfl) (pe_op op_sub (pe_c c_first_sign hr (by decide) rfl (pa_cons (pv 1) (pa_cons (pe_fld (pv 0) rfl) pa_nil))) pe_int) (fun _ _ => rfl)))))
        pss_nil)
      (pss_one (ps_ret (pe_op op_add (pv 2) pe_int))))), ?_⟩
    walk_at "rd"
    refine ⟨p, C_House, dx, _, _, rfl, h1, T.cl_House, T.na_House_k, hfs_k _ _ _, ?_⟩
    walk_at "rd"
    refine ⟨hk2, hk, ?_⟩
    walk_at "rd"
    refine ⟨p, C_House, dx, _, _, rfl, h1, T.cl_House, T.na_House_k, hfs_k _ _ _, ?_⟩
    walk_at "rd"
    refine ⟨hk2, hk, ?_⟩
    walk_at "rd"
    refine itd (fun c => ?_) (fun c => ?_)
    · have c2 : nou k n = expo k n := Int.ofNat.inj (V.int.inj c)
      rw [if_pos c2, hb3] at ht
      rw [ht] at q
      walk_at "rd"
      refine ⟨p, C_House, dx, _, _, rfl, h1, T.cl_House, T.na_House_beginning, hfs_b _ _ _, ?_⟩
      walk_at "rd"
      refine ⟨p, C_House, dx, _, _, rfl, h1, T.cl_House, T.na_House_k, hfs_k _ _ _, ?_⟩
      walk_at "rd"
      refine ⟨hk2, hk, ?_⟩
      walk_at "rd"
      refine ⟨tb, _, _, _, rfl, rfl, .inl (.inl h2), at_of (j := lead k n - 1) (by omega) (zs_at hb1), ?_⟩
      walk_at "rd"
      exact q
    · have c2 : ¬ nou k n = expo k n := fun z => c (congrArg (fun x : Nat => V.int x) z)
      rw [if_neg c2] at ht
      rw [ht] at q
      walk_at "rd"
      exact q
theorem ok_draw (T : Txt K mg C_House) : Cal P w K mg base 1 "_law_draw" spDraw [] := by
  refine T.d_draw.cal sc_draw (fun vs H Q E h => ?_) (fun cdv f A outer s H vs Q E hr h => ?_)
  · obtain ⟨p, m, n, c, rfl, _⟩ := h
    rfl
  · obtain ⟨p, m, n, c, rfl, h0, hm, hP, hn, q⟩ := h
    obtain ⟨C, a, l, h1, h2, h3, h4⟩ := hP.ex
    have hpos : (0 : Int) < m := by omega
    have ncp : c ≠ p := hP.ne h2
    refine ⟨_, (pss_cons (ps_if (pt_cmpR op_gt (pe_dget (hu_of hr) (pv 0) pe_str (fun _ _ => rfl)) pe_int (nomark _))
        (pss_cons (ps_set (i := 2) sc_draw.nd rfl (.inl rfl) (pe_op op_mod (pe_dget (hu_of hr) (pv 0) pe_str (fun _ _ => rfl)) (pv 1)))
        (pss_cons (ps_dput (hu_of hr) (pv 0) pe_str (pe_op op_fdivW (pe_dget (hu_of hr) (pv 0) pe_str (fun _ _ => rfl)) (pv 1)) rfl)
        (pss_one (ps_ret (pv 2)))))
        pss_nil)
      (pss_cons (ps_set (i := 3) sc_draw.nd rfl (.inl rfl) (pe_dget (hu_of hr) (pv 0) pe_str (fun _ _ => rfl)))
      (pss_cons (ps_dput (hu_of hr) (pv 0) pe_str (pe_op op_add (pv 3) pe_int) rfl)
      (pss_cons (ps_set (i := 4) sc_draw.nd rfl (.inl rfl) (pe_op op_add (pe_op op_mulW (pv 3) (pv 3)) pe_int))
      (C8.pss_cut (ps_if (pt_cmpR (op_neI (u64 hr)) (pe_dget (hu_of hr) (pv 0) pe_str (fun _ _ => rfl)) (pe_lst pa_nil) (nomark _))
        (pss_one (ps_set (i := 4) sc_draw.nd rfl (.inl rfl) (pe_ix ix_list (pe_dget (hu_of hr) (pv 0) pe_str (fun _ _ => rfl)) (pe_op op_mod (pv 3) (pe_callB call_len_seq (by rfl) T.b_len (by decide +kernel) (pa_cons (pe_dget (hu_of hr) (pv 0) pe_str (fun _ _ => rfl)) pa_nil))) (fun _ _ => rfl))))
        pss_nil)
      (C8.pss_cut (ps_if (PW.pt (pw_and (pt_cmpR op_lt (pv 3) (pe_callB call_len_seq (by rfl) T.b_len (by decide +kernel) (pa_cons (pe_dget (hu_of hr) (pv 0) pe_str (fun _ _ => rfl)) pa_nil)) (nomark _)) (pw_and1 (pt_cmpR op_ge (pv 4) (pe_op op_powW pe_int pe_int) (nomark _)))))
        (pss_cons (ps_dput (hu_of hr) (pv 0) pe_str (pe_op op_fdivW (pv 4) (pv 1)) rfl)
        (pss_one (ps_ret (pe_op op_mod (pv 4) (pv 1)))))
        pss_nil)
      (pss_cons (ps_set (i := 5) sc_draw.nd rfl (.inl rfl) (pe_op op_mod (pe_op op_mulW (pe_op op_add (pe_op op_add (pe_op op_mod (pv 4) pe_int) (pe_op op_mulW pe_int (pv 3))) pe_int) pe_int) pe_int))
      (pss_cons (ps_for PassesOwn.never rfl (pi_range1 rfl T.b_range (pa_cons pe_int pa_nil)) (pg_name (i := 6) sc_draw.nd rfl (.inl rfl))
        (pss_cons (ps_set (i := 5) sc_draw.nd rfl (.inl rfl) (pe_op op_add (pe_op op_add (pe_op op_add (pe_op op_mulW (pv 5) (pv 5)) (pe_op op_mulW pe_int (pv 5))) (pv 3)) (pv 6)))
        (pss_one (ps_set (i := 5) sc_draw.nd rfl (.inl rfl) (pe_op op_mod (pv 5) pe_int)))))
      (pss_one (ps_ret (pe_op op_mod (pe_op op_fdivW (pv 5) pe_int) (pv 1)))))))))))), ?_⟩
    -- what is left of a great cell
    refine ⟨_, rfl, p, _, rfl, get_left h1, ?_⟩
    walk_at "rd"
    refine itd (fun c0 => ?_) (fun c0 => ?_)
    · refine ⟨_, rfl, p, _, rfl, get_left h1, ?_⟩
      walk_at "rd"
      refine ⟨hpos, ?_⟩
      refine ⟨_, rfl, p, _, rfl, get_left h1, ?_⟩
      walk_at "rd"
      refine ⟨divW (y := 8000) h0 hm, ?_⟩
      walk_at "rd"
      refine ⟨p, _, rfl, dput_left _ h1, ?_⟩
      walk_at "rd"
      obtain ⟨r, hr1, hr2⟩ := emodN l h0
      have e := q _ r hr1 ⟨C, a, l / (m : Int), upd_same, by rw [upd_ne ncp]; exact h2, h3, Nat.le_succ_of_le h4⟩ But.upd
      rw [← hr2] at e
      exact e
    · -- the next place
      refine ⟨_, rfl, p, _, rfl, get_at h1, ?_⟩
      walk_at "rd"
      refine ⟨p, _, rfl, dput_at h1, ?_⟩
      have g1 : ∀ x, upd H p x p = some x := fun x => upd_same
      have g2 : ∀ x, upd H p x c = some (.lst (C.map V.int)) := fun x => by rw [upd_ne ncp]; exact h2
      have ha : a < 2 ^ 20 := by omega
      walk_at "rd"
      refine ⟨mulW (x := 20) (y := 20) ha ha, ?_⟩
      walk_at "rd"
      -- a cell, where there are any
      have hcut : ∃ (W : L2.St → Hp → Prop), W = fun σ H1 => ∃ z : Int, σ = [some (.ref p), some (.int m), none, some (.int a), some (.int z), none, none] ∧ H1 p = some (.dK (pkv c (a + 1) l)) ∧ H1 c = some (.lst (C.map V.int)) ∧ But p H H1 := ⟨_, rfl⟩
      obtain ⟨W, hW⟩ := hcut
      refine ⟨W, ?_, ?_⟩
      · refine ⟨_, rfl, p, _, rfl, get_cells (g1 _), ?_⟩
        refine ⟨Nat.zero_le _, fun e ne => ?_⟩
        have nep : p ≠ e := ne_of_none (g1 _) ne
        have nec : c ≠ e := ne_of_none (g2 _) ne
        have b1 : But p H (upd (upd H p (.dK (pkv c (a + 1) l))) e (.lst [])) := But.trans But.upd (But.same (same_upd ne))
        refine ⟨c, e, C, [], rfl, rfl, sql (by rw [upd_ne nec]; exact g2 _), sql upd_same, ?_⟩
        walk_at "rd"
        refine itn (fun c1 => ?_) (fun c1 => ?_)
        · refine ⟨_, rfl, p, _, rfl, get_cells (by rw [upd_ne nep]; exact g1 _), ?_⟩
          walk_at "rd"
          refine ⟨p, _, rfl, get_cells (by rw [upd_ne nep]; exact g1 _), ?_⟩
          refine ⟨c, _, rfl, .inl (sql (by rw [upd_ne nec]; exact g2 _)), ?_⟩
          have hpos2 : 0 < C.length := List.length_pos_iff.mpr c1
          walk_at "rd"
          refine ⟨by rw [ints_len]; show (0 : Int) < (C.length : Int); omega, ?_⟩
          have hlt : a % C.length < C.length := Nat.mod_lt a hpos2
          refine ⟨c, _, _, _, rfl, rfl, sql (by rw [upd_ne nec]; exact g2 _), at_of (j := a % C.length) (by rw [ints_len]; rfl) (by rw [List.getElem?_map, List.getElem?_eq_getElem hlt]; rfl), ?_⟩
          rw [hW]
          exact ⟨_, rfl, by rw [upd_ne nep]; exact g1 _, by rw [upd_ne nec]; exact g2 _, b1⟩
        · rw [hW]
          exact ⟨_, rfl, by rw [upd_ne nep]; exact g1 _, by rw [upd_ne nec]; exact g2 _, b1⟩
      · intro σ1 H1 w1
        rw [hW] at w1
        obtain ⟨z, rfl, k1, k2, b1⟩ := w1
        refine ⟨fun σ H2 => σ = [some (.ref p), some (.int m), none, some (.int a), some (.int z), none, none] ∧ H2 = H1, ?_, ?_⟩
        · walk_at "rd"
          refine ⟨p, _, rfl, get_cells k1, ?_⟩
          refine ⟨c, _, rfl, .inl (sql k2), ?_⟩
          walk_at "rd"
          refine itd (fun c1 => ?_) (fun c1 => ?_)
          · walk_at "rd"
            refine ⟨⟨by decide, by decide +kernel⟩, ?_⟩
            walk_at "rd"
            refine itd (fun c2 => ?_) (fun c2 => ?_)
            · walk_at "rd"
              refine ⟨divW (y := 8000) h0 hm, ?_⟩
              walk_at "rd"
              refine ⟨p, _, rfl, dput_left _ k1, ?_⟩
              walk_at "rd"
              refine ⟨hpos, ?_⟩
              obtain ⟨r, hr1, hr2⟩ := emodN z h0
              have e := q _ r hr1 ⟨C, a + 1, z / (m : Int), upd_same, by rw [upd_ne ncp]; exact k2, h3, Nat.succ_le_succ h4⟩ (b1.trans But.upd)
              rw [← hr2] at e
              exact e
            · exact ⟨rfl, rfl⟩
          · exact ⟨rfl, rfl⟩
        · rintro σ2 H2 ⟨rfl, rfl⟩
          walk_at "rd"
          refine ⟨by show (0 : Int) < 4294967311; decide, ?_⟩
          walk_at "rd"
          refine ⟨mulW (a := 65539) (x := 17) (y := 20) (by decide) ha, ?_⟩
          walk_at "rd"
          have z0 := Int.emod_nonneg z (show (4294967311 : Int) ≠ 0 by decide)
          have z1 := Int.emod_lt_of_pos z (show (0 : Int) < 4294967311 by decide)
          generalize z % 4294967311 = y at z0 z1
          refine ⟨wide_mul (a := 40) (b := 17) (by omega) (by decide) (by decide) (by decide) (by decide), ?_⟩
          walk_at "rd"
          refine ⟨by show (0 : Int) < 4294967311; decide, ?_⟩
          have y0 := Int.emod_nonneg ((y + 65539 * (a : Int) + 17) * 48271) (show (4294967311 : Int) ≠ 0 by decide)
          have y1 := Int.emod_lt_of_pos ((y + 65539 * (a : Int) + 17) * 48271) (show (0 : Int) < 4294967311 by decide)
          refine ⟨3, rfl, by decide, by decide, for_range (n := 3) (fun i σ H3 => ∃ (x : Int) (v : Option V), σ = [some (.ref p), some (.int m), none, some (.int a), some (.int z), some (.int x), v] ∧ 0 ≤ x ∧ x < 4294967311 ∧ H3 = H2)
            ⟨_, _, rfl, y0, y1, rfl⟩ (fun i σ H3 hi hP => ?_) (fun σ H3 hP => ?_)⟩
          · obtain ⟨x, v, rfl, x0, x1, rfl⟩ := hP
            walk_at "rd"
            refine ⟨wide_mul (a := 33) (b := 33) (by omega) (by omega) (by decide) (by decide) (by decide), ?_⟩
            walk_at "rd"
            refine ⟨wide_mul (a := 20) (b := 33) (by decide) (by omega) (by decide) (by decide) (by decide), ?_⟩
            walk_at "rd"
            refine ⟨by show (0 : Int) < 4294967311; decide, ?_⟩
            exact ⟨_, _, rfl, Int.emod_nonneg _ (by decide), Int.emod_lt_of_pos _ (by decide), rfl⟩
          · obtain ⟨x, v, rfl, x0, x1, rfl⟩ := hP
            walk_at "rd"
            refine ⟨divW (b := 32) (y := 6) (by decide) (by decide), ?_⟩
            walk_at "rd"
            refine ⟨hpos, ?_⟩
            obtain ⟨r, hr1, hr2⟩ := emodN (x / 32) h0
            have e := q _ r hr1 ⟨C, a + 1, l, k1, k2, h3, Nat.succ_le_succ h4⟩ b1
            rw [← hr2] at e
            exact e
theorem ok_pen (T : Txt K mg C_House) : Cal P w K mg base 1 "_law_pen" (spPen K) [] := by
  refine T.d_pen.cal sc_pen (fun vs H Q E h => ?_) (fun cdv f A outer s H vs Q E hr h => ?_)
  · obtain ⟨a, ns, rfl, _⟩ := h
    rfl
  · obtain ⟨a, ns, rfl, hS, hlen, q⟩ := h
    refine ⟨_, (pss_cons (ps_set (i := 1) sc_pen.nd rfl (.inr rfl) (pe_op op_powW (pe_op op_powW pe_int pe_int) pe_int))
      (pss_one (ps_ret (pe_disp (pps_cons pe_str (pe_lc (own := [("_law_cell", 2)]) (g := gName 2) (tt := tYes) rfl sc_pen.nd (pi_list (pe_slice sl_list (pv 0) po_none (po_some pe_int))) (blkOk_by (own := [("_law_cell", 2)]) (N := ["_law_script", "_law_most", "_law_cell"]) (sc := defScope s_pen) (by decide +kernel)) (fun _ _ _ _ _ => pg_name (i := 2) sc_pen.nd rfl (Or.inl rfl)) (fun _ _ _ _ _ => pts_nil) (fun _ _ _ _ _ => (pe_ifExp (pt_cmpR op_ge (pe_callB call_abs (by rfl) T.b_abs (by decide +kernel) (pa_cons (pv 2) pa_nil)) (pe_op op_powW pe_int pe_int) (nomark _)) (pe_op op_mod (pe_callB call_abs (by rfl) T.b_abs (by decide +kernel) (pa_cons (pv 2) pa_nil)) (pv 1)) (pv 2)))) (pps_cons pe_str pe_int (pps_cons pe_str pe_int pps_nil))) (by rfl) (by rfl) (fun z => by cases z) (by decide))))), ?_⟩
    walk_at "rd"
    refine ⟨⟨by decide, by decide +kernel⟩, ?_⟩
    walk_at "rd"
    refine ⟨⟨by decide, by decide +kernel⟩, ?_⟩
    have hm : (0 : Int) < ((10 : Int) ^ (60 : Int).toNat) ^ (60 : Int).toNat := by decide +kernel
    refine fun p np => ?_
    have s1 := same_upd (o := .dK []) np
    walk_at "rd"
    refine ⟨a, _, rfl, s1.seq hS, fun l nl => ?_⟩
    have s2 := same_upd (o := .lst (cutV (ns.map V.int) none (some 63))) nl
    have npl : p ≠ l := ne_of_none upd_same nl
    walk_at "rd"
    refine ⟨⟨_, sql upd_same⟩, fun D nD => ?_⟩
    have nlD : l ≠ D := ne_of_none upd_same nD
    have npD : p ≠ D := ne_of_none (by rw [upd_ne npl]; exact upd_same) nD
    have eP : ∀ o, upd (upd (upd H p (.dK [])) l (.lst (cutV (ns.map V.int) none (some 63)))) D o p = some (.dK []) := fun o => by rw [upd_ne npD, upd_ne npl]; exact upd_same
    have s3 : ∀ o, Same H (upd (upd (upd H p (.dK [])) l (.lst (cutV (ns.map V.int) none (some 63)))) D o) := fun o => (s1.trans s2).trans (same_upd nD)
    have nHD : H D = none := (s1.trans s2).free nD
    have hz : ∀ i x, (cutV (ns.map V.int) none (some 63))[i]? = some x → i < 63 ∧ ∃ z, x = V.int z := by
      intro i x hx
      unfold cutV at hx
      rw [List.getElem?_take] at hx
      split at hx
      · rename_i hi
        rw [List.getElem?_drop, List.getElem?_map] at hx
        cases e : ns[HT.sIx (ns.map V.int).length 0 none + i]? with
        | none => rw [e] at hx; cases hx
        | some z =>
          rw [e] at hx
          have := (List.getElem?_eq_some_iff.mp e).1
          exact ⟨by omega, z, (Option.some.inj hx).symm⟩
      · cases hx
    have hN : (cutV (ns.map V.int) none (some 63)).length ≤ 63 := by
      unfold cutV
      rw [List.length_take, List.length_drop, ints_len]
      omega
    generalize cutV (ns.map V.int) none (some 63) = cs at hz hN nD eP s3 ⊢
    clear s2
    refine lc_list (K := K) (a := l) (xs := cs) (fun i H3 => ∃ C : List Int, H3 D = some (.lst (C.map V.int)) ∧ C.length = i ∧ H3 p = some (.dK []) ∧ H3 l = some (.lst cs) ∧ Same H H3)
      ⟨[], upd_same, rfl, eP _, by rw [upd_ne nlD]; exact upd_same, s3 _⟩ (fun i H3 hi h3 => ?_) (fun i x H3 hx h3 => ?_) (fun H3 h3 => ?_)
    · obtain ⟨C, _, _, _, h3, _⟩ := h3
      exact sql h3
    · obtain ⟨C, d1, d2, d3, d4, d5⟩ := h3
      obtain ⟨hi, z, rfl⟩ := hz i x hx
      walk_at "rd"
      refine ⟨⟨by decide, by decide +kernel⟩, ?_⟩
      walk_at "rd"
      refine itd (fun _ => ?_) (fun _ => ?_)
      · walk_at "rd"
        refine ⟨hm, ?_⟩
        exact ⟨_, d1, by rw [ints_len]; exact small1000 (by omega), C ++ [_], by rw [upd_same, List.map_append]; rfl, by rw [List.length_append, d2]; rfl, by rw [upd_ne npD]; exact d3, by rw [upd_ne nlD]; exact d4, same_put d5 nHD⟩
      · walk_at "rd"
        exact ⟨_, d1, by rw [ints_len]; exact small1000 (by omega), C ++ [_], by rw [upd_same, List.map_append]; rfl, by rw [List.length_append, d2]; rfl, by rw [upd_ne npD]; exact d3, by rw [upd_ne nlD]; exact d4, same_put d5 nHD⟩
    · obtain ⟨C, d1, d2, d3, d4, d5⟩ := h3
      refine ⟨d3, [(.inr "cells", .ref D), (.inr "at", .int 0), (.inr "left", .int 0)], rfl, Nat.le_add_left 3 12, ?_⟩
      rw [merge_pen]
      exact q _ p D ⟨C, 0, 0, upd_same, by rw [upd_ne npD.symm]; exact d1, by omega, Nat.le_refl _⟩ (same_put d5 np) np
theorem ok_begun (T : Txt K mg C_House) : Cal P w K mg base 2 "_law_beginning" spBegun [] := by
  have c_draw : Cal P w K mg base 1 "_law_draw" spDraw [] := ok_draw T
  refine T.d_beginning.cal sc_beginning (fun vs H Q E h => ?_) (fun cdv f A outer s H vs Q E hr h => ?_)
  · obtain ⟨p, b, m, n, c, rfl, _⟩ := h
    rfl
  · obtain ⟨p, b, m, n, c, rfl, hb2, hb30, hm0, hm, hP, hn, q⟩ := h
    refine ⟨_, (pss_one (ps_ret (pe_lc (own := [("_law_k", 3)]) (g := gName 3) (tt := tYes) rfl sc_beginning.nd (pi_range1 rfl T.b_range (pa_cons (pe_op op_sub (pv 1) pe_int) pa_nil)) (blkOk_by (own := [("_law_k", 3)]) (N := ["_law_pen_here", "_law_base", "_law_most", "_law_k"]) (sc := defScope s_beginning) (by decide +kernel)) (fun _ _ _ _ _ => pg_name (i := 3) sc_beginning.nd rfl (Or.inl rfl)) (fun _ _ _ _ _ => pts_nil) (fun _ _ _ _ _ => (pe_op op_add pe_int (pe_ix (r := rIxL K) ix_list (pe_lst (pa_cons pe_int (pa_cons (pe_c c_draw hr (by decide) rfl (pa_cons (pv 0) (pa_cons pe_int pa_nil))) (pa_cons (pe_c c_draw hr (by decide) rfl (pa_cons (pv 0) (pa_cons (pv 2) pa_nil))) pa_nil)))) (pe_c c_draw hr (by decide) rfl (pa_cons (pv 0) (pa_cons pe_int pa_nil))) (fun _ _ => rfl))))))), ?_⟩
    walk_at "rd"
    refine ⟨by omega, by omega, fun D nD => ?_⟩
    have hD := hP.new nD
    have npD := hD.1
    refine lc_range (lo := 0) (n := ((b : Int) - 1).toNat) (fun i H3 => ∃ B : List Nat, H3 D = some (.lst ((zs B).map V.int)) ∧ B.length = i ∧ (∀ x ∈ B, 1 ≤ x ∧ x ≤ m + 3) ∧ PenAt H3 p c (n + 3 * i) ∧ But p H H3)
      ⟨[], upd_same, rfl, fun x hx => by (cases hx), hP.same (same_upd nD), But.same (same_upd nD)⟩ (fun i H3 hi h3 => ?_) (fun H3 h3 => ?_)
    · obtain ⟨B, d1, d2, d3, P3, b3⟩ := h3
      walk_at "rd"
      refine ⟨p, 3, _, c, rfl, by decide, lt8000 (by decide), P3, by omega, fun H4 r1 hr1 P4 b4 => ?_⟩
      walk_at "rd"
      refine ⟨p, m, _, c, rfl, hm0, Nat.lt_trans hm (Nat.pow_lt_pow_right (by decide) (by decide)), P4, by omega, fun H5 r2 hr2 P5 b5 => ?_⟩
      refine ⟨show 3 ≤ sizeLine by decide, fun l nl => ?_⟩
      have s5 := same_upd (o := .lst [.int 0, .int (r1 : Nat), .int (r2 : Nat)]) nl
      have P6 := P5.same s5
      walk_at "rd"
      refine ⟨p, 3, _, c, rfl, by decide, lt8000 (by decide), P6, by omega, fun H7 r3 hr3 P7 b7 => ?_⟩
      obtain ⟨N, hN, hat⟩ : ∃ N : Nat, N < m + 3 ∧ ([V.int 0, .int (r1 : Nat), .int (r2 : Nat)] : List V)[r3]? = some (.int (N : Nat)) := by
        match r3, hr3 with
        | 0, _ => exact ⟨0, by omega, rfl⟩
        | 1, _ => exact ⟨r1, by omega, rfl⟩
        | 2, _ => exact ⟨r2, by omega, rfl⟩
      have nlp : l ≠ p := P6.ne upd_same
      refine ⟨l, _, _, _, rfl, rfl, sql (b7 _ _ nlp upd_same), at_of (j := r3) rfl hat, ?_⟩
      walk_at "rd"
      have b8 : But p H3 H7 := ((b4.trans b5).trans (But.same s5)).trans b7
      refine ⟨_, b8 _ _ npD d1, by rw [ints_len, zs_len]; exact small1000 (by omega), B ++ [1 + N], ?_, by rw [List.length_append, d2]; rfl, ?_, ?_, ?_⟩
      · rw [upd_same]
        exact congrArg (fun x => some (HO.lst x)) (zs_snoc B (1 + N))
      · intro x hx
        rcases List.mem_append.mp hx with z | z
        · exact d3 x z
        · rw [List.mem_singleton.mp z]; omega
      · exact (P7.put hD).le (by omega)
      · exact (b3.trans b8).put nD
    · obtain ⟨B, d1, d2, d3, P3, b3⟩ := h3
      refine q H3 D B (P3.le (by omega)) b3 nD d1 ⟨hb2, by omega, fun x hx => (d3 x hx).1⟩ (fun x hx => (d3 x hx).2)
theorem ok_far (T : Txt K mg C_House) : Cal P w K mg base 2 "_law_far" spFar [] := by
  have c_draw : Cal P w K mg base 1 "_law_draw" spDraw [] := ok_draw T
  refine T.d_far.cal sc_far (fun vs H Q E h => ?_) (fun cdv f A outer s H vs Q E hr h => ?_)
  · obtain ⟨p, m, n, c, rfl, _⟩ := h
    rfl
  · obtain ⟨p, fg, n, c, rfl, hf, hP, hn, q⟩ := h
    refine ⟨_, (pss_cons (ps_set (i := 2) sc_far.nd rfl (.inl rfl) pe_int)
      (pss_cons (ps_for PassesOwn.never rfl (pi_range1 rfl T.b_range (pa_cons (pe_op op_add (pe_c c_draw hr (by decide) rfl (pa_cons (pv 0) (pa_cons (pe_op op_add pe_int (pe_op op_fdivW (pv 1) pe_int)) pa_nil))) pe_int) pa_nil)) (pg_name (i := 3) sc_far.nd rfl (.inl rfl))
        (pss_one (ps_set (i := 2) sc_far.nd rfl (.inl rfl) (pe_op op_add (pe_op op_mulW (pv 2) (pe_op op_powW pe_int pe_int)) (pe_c c_draw hr (by decide) rfl (pa_cons (pv 0) (pa_cons (pe_op op_powW pe_int pe_int) pa_nil)))))))
      (pss_one (ps_ret (pe_op op_add (pv 2) pe_int))))), ?_⟩
    walk_at "rd"
    refine ⟨divW (b := 6) (y := 3) (by decide) (by decide), ?_⟩
    walk_at "rd"
    refine ⟨p, 1 + fg / 6, n, c, rfl, by omega, lt8000 (by omega), hP, by omega, fun H1 r hr1 P1 b1 => ?_⟩
    walk_at "rd"
    refine ⟨by omega, by omega, for_range (n := ((r : Int) + 1).toNat) (fun i σ H3 => ∃ (x : Nat) (v : Option V), σ = [some (.ref p), some (.int fg), some (.int x), v] ∧ x < (10 ^ 6) ^ i ∧ PenAt H3 p c (n + 1 + i) ∧ But p H H3)
      ⟨0, _, rfl, by decide, P1, b1⟩ (fun i σ H3 hi hP3 => ?_) (fun σ H3 hP3 => ?_)⟩
    · obtain ⟨x, v, rfl, hx, P3, b3⟩ := hP3
      have hx2 : x < 2 ^ 3400 := Nat.lt_of_lt_of_le hx (Nat.le_trans (pow6 i) (Nat.pow_le_pow_right (by decide) (by omega)))
      walk_at "rd"
      refine ⟨⟨by decide, by decide +kernel⟩, ?_⟩
      walk_at "rd"
      refine ⟨mulW (b := 1000000) (x := 3400) (y := 20) hx2 (by decide), ?_⟩
      walk_at "rd"
      refine ⟨⟨by decide, by decide +kernel⟩, ?_⟩
      walk_at "rd"
      refine ⟨p, 1000000, n + 1 + i, c, rfl, by decide, lt8000 (by decide), P3, by omega, fun H4 d hd P4 b4 => ?_⟩
      refine ⟨_, _, rfl, rfl, ?_⟩
      refine ⟨x * 1000000 + d, _, rfl, ?_, P4, b3.trans b4⟩
      rw [Nat.pow_succ]
      have : x + 1 ≤ (10 ^ 6) ^ i := hx
      have := Nat.mul_le_mul_right (10 ^ 6) this
      omega
    · obtain ⟨x, v, rfl, hx, P3, b3⟩ := hP3
      walk_at "rd"
      refine q H3 (x + 1) (by omega) (Nat.le_trans hx (Nat.pow_le_pow_right (by decide) (by omega))) (P3.le (by omega)) b3
end
end Ab

namespace Ab
open PySem PySem.Spec PyProof.Rows L2
open C8 (Cal Mak Met pe_c pe_mk pe_mt pe_mt0)
section
variable {P : Program} {w : World} {K : PySem.W.Frag} {mg : Str → Option Value} {base : Heap} {C_House : Addr}
theorem ok_law (T : Txt K mg C_House) {f : Addr} {fd : FuncData} (F : Fun K "law" "law" s_law f fd) : FnOk P w K mg base CX0 7 f fd ["_law_script"] (spLaw K) := by
  have c_pen : Cal P w K mg base 1 "_law_pen" (spPen K) [] := ok_pen T
  have c_draw : Cal P w K mg base 1 "_law_draw" spDraw [] := ok_draw T
  have c_beginning : Cal P w K mg base 2 "_law_beginning" spBegun [] := ok_begun T
  have m_House : Mak P w K mg base 4 "House" C_House (spInit K C_House) [] := ok_House T
  have c_far : Cal P w K mg base 2 "_law_far" spFar [] := ok_far T
  have m_times : Met P w K mg base 2 C_House "times" (spTimes C_House) [] := ok_times T
  have m_last_place : Met P w K mg base 2 C_House "last_place" (spLast C_House) [] := ok_last T
  have m_reach : Met P w K mg base 1 C_House "reach" (spReach C_House) [] := ok_reach T
  have m_folk : Met P w K mg base 1 C_House "folk" (spFolk C_House) [] := ok_folk T
  refine F.ok sc_law (fun vs H Q E h => ?_) (fun cdv A outer s H vs Q E hr h => ?_)
  · obtain ⟨a, ns, rfl, _⟩ := h
    rfl
  · obtain ⟨a, ns, rfl, hS, hlen, q⟩ := h
    refine ⟨_, (pss_cons (ps_set (i := 1) sc_law.nd rfl (.inr rfl) (pe_c c_pen hr (by decide) rfl (pa_cons (pv 0) pa_nil)))
      (pss_cons (ps_for PassesOwn.never rfl (pi_range1 rfl T.b_range (pa_cons (pe_op op_add pe_int (pe_callB (call_min2 rfl) (by rfl) T.b_min (by decide +kernel) (pa_cons pe_int (pa_cons (pe_op op_fdivW (pe_callB call_len_seq (by rfl) T.b_len (by decide +kernel) (pa_cons (pv 0) pa_nil)) pe_int) pa_nil)))) pa_nil)) (pg_name (i := 2) sc_law.nd rfl (.inl rfl))
        (pss_cons (ps_set (i := 3) sc_law.nd rfl (.inl rfl) (pe_ix ix_list (pe_lst (pa_cons (pe_op op_add pe_int (pe_c c_draw hr (by decide) rfl (pa_cons (pv 1) (pa_cons pe_int pa_nil)))) (pa_cons (pe_op op_add pe_int (pe_c c_draw hr (by decide) rfl (pa_cons (pv 1) (pa_cons pe_int pa_nil)))) pa_nil))) (pe_c c_draw hr (by decide) rfl (pa_cons (pv 1) (pa_cons pe_int pa_nil))) (fun _ _ => rfl)))
        (pss_cons (ps_set (i := 4) sc_law.nd rfl (.inl rfl) (pe_c c_beginning hr (by decide) rfl (pa_cons (pv 1) (pa_cons (pv 3) (pa_cons pe_int pa_nil)))))
        (pss_cons (ps_par (i := 5) (j := 6) rfl sc_law.nd rfl rfl (by decide) rfl rfl (pa_cons (pe_c c_draw hr (by decide) rfl (pa_cons (pv 1) (pa_cons (pe_op op_sub (pv 3) pe_int) pa_nil))) (pa_cons (pe_op op_add pe_int (pe_ix ix_list (pe_lst (pa_cons (pe_c c_draw hr (by decide) rfl (pa_cons (pv 1) (pa_cons pe_int pa_nil))) (pa_cons (pe_c c_draw hr (by decide) rfl (pa_cons (pv 1) (pa_cons (pe_op op_powW pe_int pe_int) pa_nil))) pa_nil))) (pe_c c_draw hr (by decide) rfl (pa_cons (pv 1) (pa_cons pe_int pa_nil))) (fun _ _ => rfl))) pa_nil)) rfl)
        (pss_cons (ps_set (i := 7) sc_law.nd rfl (.inl rfl) (pe_mk m_House hr (by decide) rfl (pa_cons (pv 3) (pa_cons (pv 4) pa_nil))))
        (pss_cons (ps_set (i := 8) sc_law.nd rfl (.inl rfl) (pe_mk m_House hr (by decide) rfl (pa_cons (pv 3) (pa_cons (pe_op op_cat (pe_op op_cat (pe_slice sl_list (pv 4) po_none (po_some (pv 5))) (pe_lst (pa_cons (pe_op op_add (pe_ix ix_list (pv 4) (pv 5) (fun _ _ => rfl)) (pv 6)) pa_nil))) (pe_slice sl_list (pv 4) (po_some (pe_op op_add (pv 5) pe_int)) po_none)) pa_nil))))
        (pss_cons (ps_if (PW.pt (pw_or (pt_cmpR op_ne (pe_mt0 m_reach hr (by decide) (pv 8)) (pe_op op_add (pe_mt0 m_reach hr (by decide) (pv 7)) (pv 6)) (nomark _)) (pw_or1 (pt_cmpR op_ne (pe_mt0 m_folk hr (by decide) (pv 8)) (pe_op op_add (pe_mt0 m_folk hr (by decide) (pv 7)) (pv 6)) (nomark _)))))
          (pss_one (ps_ret pe_bl))
          pss_nil)
        (pss_cons (ps_par (i := 9) (j := 10) rfl sc_law.nd rfl rfl (by decide) rfl rfl (pa_cons (pe_lst pa_nil) (pa_cons (pe_op op_add (pv 5) pe_int) pa_nil)) rfl)
        (pss_cons (ps_for PassesOwn.never rfl (pi_range1 rfl T.b_range (pa_cons (pe_c c_draw hr (by decide) rfl (pa_cons (pv 1) (pa_cons pe_int pa_nil))) pa_nil)) (pg_name (i := 11) sc_law.nd rfl (.inl rfl))
          (pss_cons (ps_set (i := 10) sc_law.nd rfl (.inl rfl) (pe_op op_mulW (pv 10) (pv 3)))
          (pss_one (ps_set (i := 9) sc_law.nd rfl (.inl rfl) (pe_op op_cat (pv 9) (pe_lst (pa_cons (pe_op op_sub (pv 10) pe_int) (pa_cons (pv 10) (pa_cons (pe_op op_add (pv 10) pe_int) pa_nil)))))))))
        (pss_one (ps_for PassesOwn.never rfl (pi_list (pe_op op_cat (pe_op op_cat (pe_lc (own := [("_law_k", 11)]) (g := gName 11) (tt := tYes) rfl sc_law.nd (pi_range1 rfl T.b_range (pa_cons pe_int pa_nil)) (blkOk_by (own := [("_law_k", 11)]) (N := ["_law_script", "_law_pen_here", "_law_turn", "_law_base", "_law_begun", "_law_at", "_law_more", "_law_house", "_law_other", "_law_near", "_law_power", "_law_k", "_law_number", "_law_comes", "_law_spot", "_law_often"]) (sc := defScope s_law) (by decide +kernel)) (fun _ _ _ _ _ => pg_name (i := 11) sc_law.nd rfl (Or.inl rfl)) (fun _ _ _ _ _ => pts_nil) (fun _ _ _ _ _ => (pe_c c_far hr (by decide) rfl (pa_cons (pv 1) (pa_cons pe_int pa_nil))))) (pe_slice sl_list (pv 9) (po_some (pe_un un_neg pe_int)) po_none)) (pe_lst (pa_cons (pe_op op_add (pv 5) pe_int) (pa_cons (pv 3) pa_nil))))) (pg_name (i := 12) sc_law.nd rfl (.inl rfl))
          (pss_cons (ps_par (i := 13) (j := 14) rfl sc_law.nd rfl rfl (by decide) rfl rfl (pa_cons (pe_lst pa_nil) (pa_cons (pe_op op_add (pv 5) pe_int) pa_nil)) rfl)
          (pss_cons (ps_while PassesOwn.never (pt_cmpR op_le (pv 14) (pv 12) (nomark _))
            (pss_one (ps_par (i := 13) (j := 14) rfl sc_law.nd rfl rfl (by decide) rfl rfl (pa_cons (pe_op op_cat (pv 13) (pe_lst (pa_cons (pv 14) pa_nil))) (pa_cons (pe_op op_mulW (pv 14) (pv 3)) pa_nil)) rfl)))
          (pss_cons (ps_set (i := 15) sc_law.nd rfl (.inl rfl) (pe_op op_add (pe_mt m_times hr (by decide) (pv 7) (pa_cons (pv 12) pa_nil)) (pe_op op_mulW (pv 6) (pe_callTy call_int1 (by rfl) T.b_int (by decide +kernel) (pa_cons (pe_cmpR op_in_seq (pv 12) (pv 13) (by with_unfolding_all rfl)) pa_nil)))))
          (pss_cons (ps_if (pt_cmpR op_ne (pe_mt m_times hr (by decide) (pv 8) (pa_cons (pv 12) pa_nil)) (pv 15) (nomark _))
            (pss_one (ps_ret pe_bl))
            pss_nil)
          (pss_one (ps_if (pt_cmpR op_ne (pe_mt m_last_place hr (by decide) (pv 8) (pa_cons (pv 12) pa_nil)) (pe_op op_add (pe_mt m_last_place hr (by decide) (pv 7) (pa_cons (pv 12) pa_nil)) (pe_op op_mulW (pv 6) (pe_callB call_len_seq (by rfl) T.b_len (by decide +kernel) (pa_cons (pv 13) pa_nil)))) (nomark _))
            (pss_one (ps_ret pe_bl))
            pss_nil)))))))))))))))))
      (pss_one (ps_ret pe_bl)))), ?_⟩
    walk_at "rd"
    refine ⟨a, ns, rfl, hS, hlen, fun H1 p c P1 s1 np => ?_⟩
    walk_at "rd"
    refine ⟨a, _, rfl, .inl (s1.seq hS), ?_⟩
    walk_at "rd"
    refine ⟨divW (b := 3) (y := 2) (by decide) (by decide), ?_⟩
    walk_at "rd"
    rw [ints_len]
    refine ⟨by split <;> omega, by split <;> omega, for_range (n := (1 + (if ((ns.length : Int) / 3) < 2 then ((ns.length : Int) / 3) else 2)).toNat)
      (fun i σ H3 => ∃ r : List (Option V), r.length = 14 ∧ σ = some (.ref a) :: some (.ref p) :: r ∧ PenAt H3 p c (10000 * i))
      ⟨_, rfl, rfl, P1⟩ (fun i σ H3 hi hP3 => ?_) (fun σ H3 hP3 => ?_)⟩
    rotate_left
    · obtain ⟨_, _, rfl, P3⟩ := hP3
      walk_at "rd"
      exact q _
    have hi20 : i < 3 := by
      split at hi <;> omega
    obtain ⟨r0, hr0, rfl, P3⟩ := hP3
    obtain ⟨v2, v3, v4, v5, v6, v7, v8, v9, v10, v11, v12, v13, v14, v15, rfl⟩ := opt14 hr0
    clear hr0
    walk_at "rd"
    refine ⟨p, 5, _, c, rfl, by decide, lt8000 (by decide), P3, by omega, fun H4 d1 hd1 P4 b4 => ?_⟩
    walk_at "rd"
    refine ⟨p, 29, _, c, rfl, by decide, lt8000 (by decide), P4, by omega, fun H5 d2 hd2 P5 b5 => ?_⟩
    walk_at "rd"
    refine ⟨show 2 ≤ sizeLine by decide, fun l nl => ?_⟩
    have P6 := P5.same (same_upd (o := .lst [V.int (2 + d1 : Nat), .int (2 + d2 : Nat)]) nl)
    walk_at "rd"
    refine ⟨p, 2, _, c, rfl, by decide, lt8000 (by decide), P6, by omega, fun H7 r7 hr7 P7 b7 => ?_⟩
    obtain ⟨k, hk2, hk30, hat⟩ : ∃ k : Nat, 2 ≤ k ∧ k ≤ 30 ∧ ([V.int (2 + d1 : Nat), .int (2 + d2 : Nat)] : List V)[r7]? = some (.int (k : Nat)) := by
      match r7, hr7 with
      | 0, _ => exact ⟨2 + d1, by omega, by omega, rfl⟩
      | 1, _ => exact ⟨2 + d2, by omega, by omega, rfl⟩
    refine ⟨l, _, _, _, rfl, rfl, sql (b7 _ _ (P6.ne upd_same) upd_same), at_of (j := r7) rfl hat, ?_⟩
    clear hat
    walk_at "rd"
    refine ⟨p, k, 9, _, c, rfl, hk2, hk30, by decide, by decide, P7, by omega, fun H10 b B P10 b10 nb hb hB hBm => ?_⟩
    have hBl := hB.len
    have big : ∀ {n : Nat}, n < 2 ^ 900 → n < 2 ^ 3000 := fun h => Nat.lt_of_lt_of_le h (Nat.pow_le_pow_right (by decide) (by decide))
    walk_at "rd"
    refine ⟨p, k - 1, _, c, by show [V.ref p, V.int ((k : Int) - 1)] = _; rw [show (k : Int) - 1 = ((k - 1 : Nat) : Int) by omega], by omega, lt8000 (by omega), P10, by omega, fun H11 at' hat P11 b11 => ?_⟩
    walk_at "rd"
    refine ⟨p, 5, _, c, rfl, by decide, lt8000 (by decide), P11, by omega, fun H12 r12 hr12 P12 b12 => ?_⟩
    walk_at "rd"
    refine ⟨⟨by decide, by decide +kernel⟩, ?_⟩
    walk_at "rd"
    refine ⟨p, 10 ^ 9, _, c, rfl, by decide, lt8000 (by decide), P12, by omega, fun H13 r13 hr13 P13 b13 => ?_⟩
    refine ⟨show 2 ≤ sizeLine by decide, fun l14 nl14 => ?_⟩
    have P14 := P13.same (same_upd (o := .lst [V.int (r12 : Nat), .int (r13 : Nat)]) nl14)
    walk_at "rd"
    refine ⟨p, 2, _, c, rfl, by decide, lt8000 (by decide), P14, by omega, fun H15 r15 hr15 P15 b15 => ?_⟩
    obtain ⟨mo, hmo, hat2⟩ : ∃ mo : Nat, mo < 10 ^ 9 ∧ ([V.int (r12 : Nat), .int (r13 : Nat)] : List V)[r15]? = some (.int (mo : Nat)) := by
      match r15, hr15 with
      | 0, _ => exact ⟨r12, by omega, rfl⟩
      | 1, _ => exact ⟨r13, hr13, rfl⟩
    refine ⟨l14, _, _, _, rfl, rfl, sql (b15 _ _ (P14.ne upd_same) upd_same), at_of (j := r15) rfl hat2, ?_⟩
    clear hat2
    have hbp : b ≠ p := P10.ne hb
    have hb15 := b15 _ _ hbp (same_upd nl14 _ _ (b13 _ _ hbp (b12 _ _ hbp (b11 _ _ hbp hb))))
    have P15b := P15.le (show _ ≤ 10000 * i + 300 by omega)
    have hsum : B.sum ≤ 100000 := by
      have h1 := sum_le_of hBm
      have h2 : B.length * (9 + 3) ≤ 30 * 12 := Nat.mul_le_mul (by omega) (by decide)
      omega
    have hbig : rea B < 2 ^ 400 := Nat.lt_of_le_of_lt (Nat.le_trans (rea_le hB.pos) hsum) (by decide)
    have haB : at' < B.length := by omega
    have hpB := hB.pos B[at'] (List.getElem_mem haB)
    have hB2 := beg_set (m := 1 + mo) hB haB
    have hrea2 := rea_set (m := 1 + mo) haB hpB
    have hbig2 : rea (B.set at' (B[at'] + (1 + mo))) < 2 ^ 400 := by
      rw [hrea2]
      have h1 := rea_le hB.pos
      exact Nat.lt_of_le_of_lt (show rea B + (1 + mo) ≤ 10 ^ 10 by omega) (by decide +kernel)
    walk_at "rd"
    refine fun x dx nx ndx nex => ⟨x, k, b, dx, B, rfl, upd_same, ?_, hB, hk30, hbig, fun H16 hH fr => ⟨rfl, ?_⟩⟩
    · rw [upd_ne (ne_of_none hb15 nx), upd_ne (ne_of_none hb15 ndx)]; exact hb15
    have s16 : Same H15 H16 := Same.made nx ndx fr
    have hb16 := s16 _ _ hb15
    have P16 := P15b.same s16
    clear fr nx ndx nex
    walk_at "rd"
    refine ⟨b, _, rfl, sql hb16, fun t1 nt1 => ?_⟩
    have q1 := same_upd (o := .lst (cutV ((zs B).map V.int) none (some (at' : Int)))) nt1
    walk_at "rd"
    refine ⟨b, _, _, _, rfl, rfl, sql (q1 _ _ hb16), at_of (j := at') rfl (zs_at (List.getElem?_eq_getElem haB)), ?_⟩
    walk_at "rd"
    refine ⟨show 1 ≤ sizeLine by decide, fun t2 nt2 => ?_⟩
    have q2 := same_upd (o := .lst ((zs [B[at'] + (1 + mo)]).map V.int)) nt2
    have szB : ∀ n, n ≤ 200 → n ≤ sizeLine := fun n h => Nat.le_of_lt (small1000 (by omega))
    refine ⟨t1, t2, _, (zs [B[at'] + (1 + mo)]).map V.int, rfl, rfl, q2 _ _ upd_same, upd_same, by rw [zs_cut, ints_len, ints_len, zs_len, zs_len, List.length_take]; exact szB _ (by show _ + 1 ≤ 200; omega), fun t3 nt3 => ?_⟩
    have q3 := same_upd (o := .lst (cutV ((zs B).map V.int) none (some (at' : Int)) ++ (zs [B[at'] + (1 + mo)]).map V.int)) nt3
    walk_at "rd"
    refine ⟨b, _, rfl, sql (q3 _ _ (q2 _ _ (q1 _ _ hb16))), fun t4 nt4 => ?_⟩
    have q4 := same_upd (o := .lst (cutV ((zs B).map V.int) (some ((at' : Int) + 1)) none)) nt4
    have ed : cutV ((zs B).map V.int) (some ((at' : Int) + 1)) none = (zs (B.drop (at' + 1))).map V.int := zs_cut2 B (at' + 1) (by omega)
    refine ⟨t3, t4, _, _, rfl, rfl, q4 _ _ upd_same, upd_same, by rw [ed, zs_cut, List.length_append, ints_len, ints_len, ints_len, zs_len, zs_len, zs_len, List.length_take, List.length_drop]; exact szB _ (by show _ + 1 + _ ≤ 200; omega), fun t5 nt5 => ?_⟩
    have q5 := same_upd (o := .lst (cutV ((zs B).map V.int) none (some (at' : Int)) ++ (zs [B[at'] + (1 + mo)]).map V.int ++ cutV ((zs B).map V.int) (some ((at' : Int) + 1)) none)) nt5
    have eset : cutV ((zs B).map V.int) none (some (at' : Int)) ++ (zs [B[at'] + (1 + mo)]).map V.int ++ cutV ((zs B).map V.int) (some ((at' : Int) + 1)) none = (zs (B.set at' (B[at'] + (1 + mo)))).map V.int := by
      rw [ed, zs_cut, zs_app, zs_app, List.set_eq_take_append_cons_drop, if_pos haB, List.append_assoc]
      rfl
    have sQ := (((q1.trans q2).trans q3).trans q4).trans q5
    walk_at "rd"
    refine fun y dy ny ndy ney => ⟨y, k, t5, dy, B.set at' (B[at'] + (1 + mo)), rfl, upd_same, ?_, hB2, hk30, hbig2, fun H18 hH2 fr => ⟨rfl, ?_⟩⟩
    · rw [upd_ne (ne_of_none upd_same ny), upd_ne (ne_of_none upd_same ndy), ← eset]; exact upd_same
    have s18 := sQ.trans (Same.made ny ndy fr)
    have hH18 := hH.same s18
    have P18 := P16.same s18
    clear fr ny ndy ney sQ q1 q2 q3 q4 q5
    obtain ⟨hdx, htb, hls, g1, g2, g3⟩ := hH18.ex
    obtain ⟨odx, otb, ols, o1, o2, o3⟩ := hH2.ex
    generalize hB2e : B.set at' (B[at'] + (1 + mo)) = B2 at *
    walk_at "rd"
    have hf2 : las k B2 (k - 1) = las k B (k - 1) + (1 + mo) := by
      have h1 := hB2.len
      rw [las_small (by omega), las_small (by omega), sm_rea (by omega), sm_rea (by omega), hrea2]
      omega
    refine ⟨y, odx, _, rfl, o1, hfs_no _ _ _, ?_⟩
    refine ⟨y, k, B2, rfl, hH2, ?_⟩
    walk_at "rd"
    refine ⟨x, hdx, _, rfl, g1, hfs_no _ _ _, ?_⟩
    refine ⟨x, k, B, rfl, hH18, ?_⟩
    walk_at "rd"
    refine itn (fun c => absurd (congrArg V.int (show ((rea B2 : Nat) : Int) = ((rea B : Nat) : Int) + (1 + (mo : Int)) by omega)) c) (fun _ => ?_)
    walk_at "rd"
    refine ⟨y, odx, _, rfl, o1, hfs_no _ _ _, ?_⟩
    refine ⟨y, k, B2, rfl, hH2, ?_⟩
    walk_at "rd"
    refine ⟨x, hdx, _, rfl, g1, hfs_no _ _ _, ?_⟩
    refine ⟨x, k, B, rfl, hH18, ?_⟩
    walk_at "rd"
    refine itn (fun c => absurd (congrArg V.int (show ((las k B2 (k - 1) : Nat) : Int) = ((las k B (k - 1) : Nat) : Int) + (1 + (mo : Int)) by omega)) c) (fun _ => ?_)
    -- numbers near
    walk_at "rd"
    refine ⟨Nat.zero_le _, fun l20 nl20 => ?_⟩
    have P20 := P18.same (same_upd (o := .lst []) nl20)
    have s20 := same_upd (o := .lst []) nl20
    walk_at "rd"
    refine ⟨p, 30, _, c, rfl, by decide, lt8000 (by decide), P20, by omega, fun H21 r21 hr21 P21 b21 => ?_⟩
    have hHx := (hH18.same s20).but P20 b21
    have hHy := (hH2.same s20).but P20 b21
    have el20 := b21 _ _ (P20.ne upd_same) (upd_same (H := H18) (a := l20) (o := .lst []))
    walk_at "rd"
    refine ⟨by omega, by omega, for_range (n := (r21 : Int).toNat) (fun j σ H => ∃ (M Pw : Nat) (L : List Nat) (w11 : Option V), σ = [some (.ref a), some (.ref p), some (.int (0 + (i : Int))), some (.int k), some (.ref b), some (.int (at' : Nat)), some (.int (1 + mo : Nat)), some (.ref x), some (.ref y), some (.ref M), some (.int (Pw : Nat)), w11, v12, v13, v14, v15] ∧ H M = some (.lst ((zs L).map V.int)) ∧ L.length = 3 * j ∧ (∀ y ∈ L, 0 < y ∧ y < 2 ^ 700) ∧ 0 < Pw ∧ Pw < 2 ^ (5 * j + 5) ∧ Same H21 H)
      ⟨l20, at' + 1, [], _, rfl, el20, rfl, fun y hy => by (cases hy), by omega, by omega, Same.refl _⟩ (fun j σ H hj h => ?_) (fun σ H22 h => ?_)⟩
    · obtain ⟨M, Pw, L, w11, rfl, eM, lL, hL, hp0, hpw, sH⟩ := h
      have hpk : Pw * k < 2 ^ (5 * (j + 1) + 5) := by
        rw [show 5 * (j + 1) + 5 = (5 * j + 5) + 5 by omega, Nat.pow_add]
        exact Nat.mul_lt_mul'' hpw (by omega)
      have hpk2 : 2 ≤ Pw * k := Nat.le_trans hk2 (Nat.le_mul_of_pos_left k hp0)
      have hpk7 : Pw * k + 1 < 2 ^ 700 := by
        have h1 : Pw * k < 2 ^ 200 := Nat.lt_of_lt_of_le hpk (Nat.pow_le_pow_right (by decide) (by omega))
        have h2 : 2 ^ 200 + 1 < 2 ^ 700 := by decide +kernel
        omega
      walk_at "rd"
      refine ⟨mulW (x := 5 * j + 5) (y := 5) hpw (by omega) (by omega) (by decide) (by omega), ?_⟩
      walk_at "rd"
      refine ⟨show 3 ≤ sizeLine by decide, fun t nt => ?_⟩
      have e3 : ([V.int ((Pw : Int) * (k : Int) - 1), V.int ((Pw : Int) * (k : Int)), V.int ((Pw : Int) * (k : Int) + 1)] : List V) = (zs [Pw * k - 1, Pw * k, Pw * k + 1]).map V.int := by
        have e4 : ((Pw : Int) * (k : Int)) = ((Pw * k : Nat) : Int) := rfl
        rw [e4, show ((Pw * k : Nat) : Int) - 1 = ((Pw * k - 1 : Nat) : Int) by omega]
        rfl
      have s4 := same_upd (o := .lst [V.int ((Pw : Int) * (k : Int) - 1), V.int ((Pw : Int) * (k : Int)), V.int ((Pw : Int) * (k : Int) + 1)]) nt
      refine ⟨M, t, _, _, rfl, rfl, s4 _ _ eM, upd_same, ?_, fun u nu => ?_⟩
      · show _ + 3 ≤ sizeLine
        rw [ints_len, zs_len, lL]
        exact Nat.le_of_lt (small1000 (by omega))
      · refine ⟨u, Pw * k, L ++ [Pw * k - 1, Pw * k, Pw * k + 1], _, rfl, ?_, by rw [List.length_append, lL]; show 3 * j + 3 = _; omega, ?_, by omega, hpk, (sH.trans s4).trans (same_upd nu)⟩
        · rw [upd_same]
          show some (HO.lst (_ ++ [V.int ((Pw : Int) * (k : Int) - 1), V.int ((Pw : Int) * (k : Int)), V.int ((Pw : Int) * (k : Int) + 1)])) = _
          rw [e3, zs_app]
        · intro z hz
          simp only [List.mem_append, List.mem_cons, List.not_mem_nil, or_false] at hz
          rcases hz with q | q | q | q
          · exact hL z q
          · subst q; exact ⟨by omega, by omega⟩
          · subst q; exact ⟨by omega, by omega⟩
          · subst q; exact ⟨by omega, by omega⟩
    obtain ⟨M, Pw, L, w11, rfl, eM, lL, hL, hp0, hpw, s22⟩ := h
    have P22 := (P21.same s22).le (show _ ≤ 10000 * i + 400 by omega)
    have hMp := P22.ne eM
    walk_at "rd"
    refine ⟨by decide, by decide, fun D23 nD23 => ?_⟩
    have hD23 := P22.new nD23
    refine lc_range (lo := 0) (n := 3) (fun j H => ∃ L : List Nat, H D23 = some (.lst ((zs L).map V.int)) ∧ L.length = j ∧ (∀ y ∈ L, 0 < y ∧ y < 2 ^ 700) ∧ PenAt H p c ((10000 * i + 400) + 100 * j) ∧ But p H22 H)
      ⟨[], upd_same, rfl, fun y hy => by (cases hy), P22.put hD23, But.same (same_upd nD23)⟩ (fun j H hj h => ?_) (fun H23 h => ?_)
    · obtain ⟨L, d1, d2, d3, P, b⟩ := h
      walk_at "rd"
      refine ⟨p, 60, _, c, rfl, by decide, P, by omega, fun H' y hy0 hy P' b' => ?_⟩
      refine ⟨_, b' _ _ hD23.1 d1, by rw [ints_len, zs_len]; exact small1000 (by omega), L ++ [y], by rw [upd_same]; exact congrArg (fun z => some (HO.lst z)) (zs_snoc L y), by rw [List.length_append, d2]; rfl, fun z hz => ?_, (P'.put hD23).le (by omega), (b.trans b').put nD23⟩
      rcases List.mem_append.mp hz with q1 | q1
      · exact d3 z q1
      · rw [List.mem_singleton.mp q1]
        exact ⟨hy0, far_lt hy⟩
    obtain ⟨L23, eL23, lL23, hL23, P23, b23⟩ := h
    walk_at "rd"
    have hHx3 := (hHx.same s22).but P22 b23
    have hHy3 := (hHy.same s22).but P22 b23
    have eM3 := b23 _ _ hMp eM
    refine ⟨M, _, rfl, sql eM3, fun t1 nt1 => ?_⟩
    obtain ⟨L2, eL2, hL2⟩ := sub_zs (xs := cutV ((zs L).map V.int) (some (-9)) none) (l := L) (fun x hx => cut_sub hx)
    have lL2 : L2.length ≤ 90 := by
      have h1 := cut_len ((zs L).map V.int) (some (-9)) none
      rw [eL2, ints_len, ints_len, zs_len, zs_len, lL] at h1
      omega
    have szN : ∀ n, n ≤ 200 → n ≤ sizeLine := fun n h => Nat.le_of_lt (small1000 (by omega))
    rw [eL2]
    have q1 := same_upd (o := .lst ((zs L2).map V.int)) nt1
    refine ⟨D23, t1, _, _, rfl, rfl, q1 _ _ eL23, upd_same, by rw [ints_len, ints_len, zs_len, zs_len, lL23]; exact szN _ (by omega), fun t2 nt2 => ?_⟩
    have q2 := same_upd (o := .lst ((zs L23).map V.int ++ (zs L2).map V.int)) nt2
    walk_at "rd"
    refine ⟨show 2 ≤ sizeLine by decide, fun t3 nt3 => ?_⟩
    have q3 := same_upd (o := .lst ((zs [at' + 1, k]).map V.int)) nt3
    refine ⟨t2, t3, _, (zs [at' + 1, k]).map V.int, rfl, rfl, q3 _ _ upd_same, upd_same, by rw [List.length_append, ints_len, ints_len, ints_len, zs_len, zs_len, zs_len, lL23]; exact szN _ (by show 3 + L2.length + 2 ≤ 200; omega), fun R nR => ?_⟩
    have s30 := ((q1.trans q2).trans q3).trans (same_upd (o := .lst (((zs L23).map V.int ++ (zs L2).map V.int) ++ (zs [at' + 1, k]).map V.int)) nR)
    have eNs : ((zs L23).map V.int ++ (zs L2).map V.int) ++ (zs [at' + 1, k]).map V.int = (zs (L23 ++ L2 ++ [at' + 1, k])).map V.int := by
      rw [zs_app, zs_app]
    have hNs : ∀ z ∈ L23 ++ L2 ++ [at' + 1, k], 0 < z ∧ z < 2 ^ 700 := by
      have h20 : ∀ z, z ≤ 1000 → z < 2 ^ 700 := fun z h => Nat.lt_of_le_of_lt h (by decide +kernel)
      intro z hz
      simp only [List.mem_append, List.mem_cons, List.not_mem_nil, or_false] at hz
      rcases hz with (q | q) | q | q
      · exact hL23 z q
      · exact hL z (hL2 z q)
      · subst q; exact ⟨by omega, h20 _ (by omega)⟩
      · subst q; exact ⟨by omega, h20 _ (by omega)⟩
    have P23b := P23.le (show _ ≤ 10000 * i + 800 by omega)
    refine ⟨R, rfl, ⟨_, sql upd_same⟩, ?_⟩
    rw [eNs] at s30 ⊢
    generalize L23 ++ L2 ++ [at' + 1, k] = Ns at hNs s30 ⊢
    clear eNs q1 q2 q3
    refine for_list (K := K) (a := R) (xs := (zs Ns).map V.int) (fun j σ H => ∃ w12 w13 w14 w15 : Option V, σ = [some (.ref a), some (.ref p), some (.int (0 + (i : Int))), some (.int k), some (.ref b), some (.int (at' : Nat)), some (.int (1 + mo : Nat)), some (.ref x), some (.ref y), some (.ref M), some (.int (Pw : Nat)), w11, w12, w13, w14, w15] ∧ Same H23 H ∧ H R = some (.lst ((zs Ns).map V.int)))
      ⟨_, _, _, _, rfl, s30, upd_same⟩ (fun j σ H _ h => ?_) (fun j z σ H hz h => ?_) (fun σ H h => ?_)
    · obtain ⟨w12, w13, w14, w15, rfl, sH, eR⟩ := h
      exact sql eR
    · obtain ⟨w12, w13, w14, w15, rfl, sH, eR⟩ := h
      obtain ⟨N, hN, rfl⟩ := zs_get hz
      obtain ⟨hN0, hN7⟩ := hNs N (List.mem_of_getElem? hN)
      have hN9 : N < 2 ^ 900 := Nat.lt_trans hN7 (Nat.pow_lt_pow_right (by decide) (by decide))
      walk_at "rd"
      refine ⟨Nat.zero_le _, fun l0 nl0 => ?_⟩
      walk_at "rd"
      refine ⟨fun m σ H' => ∃ (e l : Nat), σ = [some (.ref a), some (.ref p), some (.int (0 + (i : Int))), some (.int k), some (.ref b), some (.int (at' : Nat)), some (.int (1 + mo : Nat)), some (.ref x), some (.ref y), some (.ref M), some (.int (Pw : Nat)), w11, some (.int (N : Nat)), some (.ref l), some (.int ((at' + 1) * k ^ e : Nat)), w15] ∧ H' l = some (.lst ((zs ((List.range e).map fun e => (at' + 1) * k ^ e)).map V.int)) ∧ (∀ e', e' < e → (at' + 1) * k ^ e' ≤ N) ∧ m = N + 1 - (at' + 1) * k ^ e ∧ Same H H',
        ⟨_, 0, l0, by rw [Nat.pow_zero, Nat.mul_one]; rfl, upd_same, fun e' h => by omega, rfl, same_upd nl0⟩, fun m σ H' hw => ?_⟩
      obtain ⟨e, l, rfl, el, he, rfl, sH'⟩ := hw
      have hpe : 0 < (at' + 1) * k ^ e := Nat.mul_pos (by omega) (pow_pos' hk2 e)
      have he7 : e ≤ 700 := by
        cases e with
        | zero => omega
        | succ e =>
          have h1 := he e (by omega)
          have h2 : k ^ e ≤ N := Nat.le_trans (Nat.le_mul_of_pos_left _ (by omega)) h1
          have h3 : 2 ^ e ≤ k ^ e := Nat.pow_le_pow_left hk2 e
          have h4 := (Nat.pow_lt_pow_iff_right (by decide : 1 < 2)).mp (Nat.lt_of_le_of_lt (Nat.le_trans h3 h2) hN7)
          omega
      have lel : ((List.range e).map fun e => (at' + 1) * k ^ e).length = e := by rw [List.length_map, List.length_range]
      walk_at "rd"
      refine itd (fun c1 => ?_) (fun c1 => ?_)
      · have hle : (at' + 1) * k ^ e ≤ N := by omega
        have hnext : (at' + 1) * k ^ (e + 1) = (at' + 1) * k ^ e * k := by rw [Nat.pow_succ, Nat.mul_assoc]
        have hgrow : (at' + 1) * k ^ e + 1 ≤ (at' + 1) * k ^ e * k := Nat.le_trans (show _ ≤ (at' + 1) * k ^ e * 2 by omega) (Nat.mul_le_mul_left _ hk2)
        refine ⟨_, fun _ _ h => h, ?_⟩
        walk_at "rd"
        refine ⟨show 1 ≤ sizeLine by decide, fun t nt => ?_⟩
        have s4 := same_upd (o := .lst [V.int ((at' + 1) * k ^ e : Nat)]) nt
        refine ⟨l, t, _, _, rfl, rfl, s4 _ _ el, upd_same, by rw [ints_len, zs_len, lel]; exact Nat.le_of_lt (small1000 (by show e + 1 ≤ 1000; omega)), fun u nu => ?_⟩
        walk_at "rd"
        refine ⟨mulW (x := 700) (y := 5) (Nat.lt_of_le_of_lt hle hN7) (by omega), ?_⟩
        walk_at "rd"
        refine ⟨N + 1 - (at' + 1) * k ^ (e + 1), by omega, e + 1, u, by rw [hnext]; rfl, ?_, ?_, rfl, (sH'.trans s4).trans (same_upd nu)⟩
        · rw [upd_same, zs_snoc, List.range_succ, List.map_append]
          rfl
        · intro e' h
          by_cases q : e' = e
          · rw [q]; exact hle
          · exact he e' (by omega)
      · have hgt : N < (at' + 1) * k ^ e := by omega
        have hlenc := comes_len hk2 (show 0 < at' + 1 by omega) he hgt
        have hHx4 := (hHx3.same sH).same sH'
        have hHy4 := (hHy3.same sH).same sH'
        obtain ⟨jdx, jtb, jls, j1, j2, j3⟩ := hHx4.ex
        obtain ⟨ldx, ltb, lls, l1, l2, l3⟩ := hHy4.ex
        have hin := in_zs N ((List.range e).map fun e => (at' + 1) * k ^ e)
        have htim : tim k B2 N = tim k B N + (1 + mo) * (if N ∈ ((List.range e).map fun e => (at' + 1) * k ^ e) then 1 else 0) := by
          by_cases q : N ∈ ((List.range e).map fun e => (at' + 1) * k ^ e)
          · rw [if_pos q, Nat.mul_one]
            obtain ⟨e', _, e2⟩ := List.mem_map.mp q
            have h3 := tim_set_yes (m := 1 + mo) hB haB e'
            rw [hB2e, show (at' + 1) * k ^ e' = N from e2] at h3
            exact h3
          · rw [if_neg q, Nat.mul_zero, Nat.add_zero]
            have h3 := tim_set_no (m := 1 + mo) hB haB N hN0 (fun e' z => q ?_)
            · rw [hB2e] at h3
              exact h3
            · refine List.mem_map.mpr ⟨e', List.mem_range.mpr ?_, z.symm⟩
              refine Nat.lt_of_not_le fun y => ?_
              have h4 : k ^ e ≤ k ^ e' := Nat.pow_le_pow_right (by omega) y
              have h5 := Nat.mul_le_mul_left (at' + 1) h4
              omega
        have hlas : las k B2 N = las k B N + (1 + mo) * e := by
          have h3 := las_set (m := 1 + mo) hB haB hN0
          rw [hB2e, hlenc] at h3
          exact h3
        walk_at "rd"
        refine ⟨x, jdx, _, rfl, j1, hfs_no _ _ _, ?_⟩
        walk_at "rd"
        refine ⟨x, k, B, N, rfl, hHx4, hN0, big hN9, ?_⟩
        walk_at "rd"
        refine ⟨l, _, rfl, .inl (sql el), rfl, flat_zs _, ?_⟩
        rw [hin]
        refine .inr ⟨_, rfl, ?_⟩
        generalize hd : decide (N ∈ ((List.range e).map fun e => (at' + 1) * k ^ e)) = d at *
        have hd2 : (if d = true then (1 : Int) else 0) = (((if N ∈ ((List.range e).map fun e => (at' + 1) * k ^ e) then 1 else 0) : Nat) : Int) := by
          by_cases q : N ∈ ((List.range e).map fun e => (at' + 1) * k ^ e)
          · rw [← hd, decide_eq_true q, if_pos rfl, if_pos q]; rfl
          · rw [← hd, decide_eq_false q, if_neg Bool.false_ne_true, if_neg q]; rfl
        obtain ⟨z, hz0⟩ : ∃ z : Nat, z = (if N ∈ ((List.range e).map fun e => (at' + 1) * k ^ e) then 1 else 0) := ⟨_, rfl⟩
        have hz1 : z < 2 ^ 1 := by
          rw [hz0]
          split <;> decide
        rw [← hz0] at htim hd2
        have hd3 : (if (if false = true then !d else d) = true then (1 : Int) else 0) = ((z : Nat) : Int) := hd2
        rw [hd3]
        have hmo2 : 1 + mo < 2 ^ 40 := Nat.lt_of_le_of_lt (show 1 + mo ≤ 10 ^ 9 by omega) (by decide)
        refine ⟨_, _, rfl, rfl, mulW (x := 40) (y := 1) hmo2 hz1, ?_⟩
        walk_at "rd"
        refine ⟨y, ldx, _, rfl, l1, hfs_no _ _ _, ?_⟩
        walk_at "rd"
        refine ⟨y, k, B2, N, rfl, hHy4, hN0, big hN9, ?_⟩
        walk_at "rd"
        refine itn (fun c => absurd (congrArg V.int (show ((tim k B2 N : Nat) : Int) = ((tim k B N : Nat) : Int) + ((1 + mo : Nat) : Int) * ((z : Nat) : Int) by rw [htim]; rfl)) c) (fun _ => ?_)
        walk_at "rd"
        refine ⟨y, ldx, _, rfl, l1, hfs_no _ _ _, ?_⟩
        walk_at "rd"
        refine ⟨y, k, B2, N, rfl, hHy4, big hN9, ?_⟩
        walk_at "rd"
        refine ⟨x, jdx, _, rfl, j1, hfs_no _ _ _, ?_⟩
        walk_at "rd"
        refine ⟨x, k, B, N, rfl, hHx4, big hN9, ?_⟩
        walk_at "rd"
        refine ⟨l, _, rfl, .inl (sql el), ?_⟩
        rw [ints_len, zs_len, lel]
        walk_at "rd"
        refine ⟨mulW (x := 40) (y := 10) hmo2 (by omega), ?_⟩
        walk_at "rd"
        refine itn (fun c => absurd (congrArg V.int (show ((las k B2 N : Nat) : Int) = ((las k B N : Nat) : Int) + ((1 + mo : Nat) : Int) * ((e : Nat) : Int) by rw [hlas]; rfl)) c) (fun _ => ?_)
        exact ⟨_, _, _, _, rfl, sH.trans sH', sH' _ _ eR⟩
    · obtain ⟨w12, w13, w14, w15, rfl, sH, eR⟩ := h
      exact ⟨[_, _, _, _, _, _, _, _, _, _, _, _, _, _], rfl, rfl, (P23b.same sH).le (by omega)⟩
end
end Ab

namespace Ab
open PySem PySem.Spec PyProof.Rows L2
open C8 (Cal Mak Met pe_c pe_mk pe_mt pe_mt0)
theorem all_mk {l : PySem.W.OpenLaw} {w : World} {K : PySem.W.Frag} {h : Heap} {mg : Str → Option Value} {fa : Addr} (X : K.In h) (G : h.Ns mainGlobals mg) (hfa : mg "law" = some (.ref fa))
    {C_House : Addr} (aC_House : PySem.W.nsIn K mainGlobals "House" = some (some (.ref C_House))) (pg_House : PySem.W.plainGet K C_House Str.empty = true) (hd_House : PySem.W.hasDictIn K C_House = true) (po_House : PySem.W.plainOver K C_House = true)
    (sa_House : PySem.W.findIn K (.ref C_House) "__setattr__" = some (some (.builtin "object.__setattr__"))) (mk_House : PySem.W.makesIn K C_House = true) (kc_House : PySem.W.keepIn K (.ref C_House) = true)
    (na_House_beginning : PySem.W.findIn K (.ref C_House) "_beginning" = some none)
    (na_House_k : PySem.W.findIn K (.ref C_House) "_k" = some none)
    (na_House_sums : PySem.W.findIn K (.ref C_House) "_sums" = some none)
    {f0 : Addr} {od0 an0 : Option Addr} {sl0 : Array (Option Value)} {oc0 kV0 dc0 pm0 cd0 ct0 : Value}
    (a0 : PySem.W.nsIn K mainGlobals "exponent_of" = some (some (.ref f0)))
    (l0 : K.lookup f0 = some ⟨oc0, od0, .func (PySem.W.fnOf "exponent_of" "exponent_of" (defArgs s_exponent_of) (defBody s_exponent_of) (defScope s_exponent_of) .none kV0 dc0 pm0 an0 cd0 ct0), sl0⟩) (c0 : PySem.W.codeIn K cd0 "exponent_of" = true) (k0 : PySem.W.keepIn K (.ref f0) = true)
    {f1 : Addr} {od1 an1 : Option Addr} {sl1 : Array (Option Value)} {oc1 kV1 dc1 pm1 cd1 ct1 : Value}
    (a1 : PySem.W.nsIn K mainGlobals "first_sign" = some (some (.ref f1)))
    (l1 : K.lookup f1 = some ⟨oc1, od1, .func (PySem.W.fnOf "first_sign" "first_sign" (defArgs s_first_sign) (defBody s_first_sign) (defScope s_first_sign) .none kV1 dc1 pm1 an1 cd1 ct1), sl1⟩) (c1 : PySem.W.codeIn K cd1 "first_sign" = true) (k1 : PySem.W.keepIn K (.ref f1) = true)
    {f2 : Addr} {od2 an2 : Option Addr} {sl2 : Array (Option Value)} {oc2 kV2 dc2 pm2 cd2 ct2 : Value}
    (a2 : PySem.W.nsIn K mainGlobals "heap_of" = some (some (.ref f2)))
    (l2 : K.lookup f2 = some ⟨oc2, od2, .func (PySem.W.fnOf "heap_of" "heap_of" (defArgs s_heap_of) (defBody s_heap_of) (defScope s_heap_of) .none kV2 dc2 pm2 an2 cd2 ct2), sl2⟩) (c2 : PySem.W.codeIn K cd2 "heap_of" = true) (k2 : PySem.W.keepIn K (.ref f2) = true)
    {f3 : Addr} {od3 an3 : Option Addr} {sl3 : Array (Option Value)} {oc3 kV3 dc3 pm3 cd3 ct3 : Value}
    (a3 : PySem.W.nsIn K mainGlobals "noughts_of" = some (some (.ref f3)))
    (l3 : K.lookup f3 = some ⟨oc3, od3, .func (PySem.W.fnOf "noughts_of" "noughts_of" (defArgs s_noughts_of) (defBody s_noughts_of) (defScope s_noughts_of) .none kV3 dc3 pm3 an3 cd3 ct3), sl3⟩) (c3 : PySem.W.codeIn K cd3 "noughts_of" = true) (k3 : PySem.W.keepIn K (.ref f3) = true)
    {f4 : Addr} {od4 an4 : Option Addr} {sl4 : Array (Option Value)} {oc4 kV4 dc4 pm4 cd4 ct4 : Value}
    (a4 : PySem.W.nsIn K mainGlobals "is_whole" = some (some (.ref f4)))
    (l4 : K.lookup f4 = some ⟨oc4, od4, .func (PySem.W.fnOf "is_whole" "is_whole" (defArgs s_is_whole) (defBody s_is_whole) (defScope s_is_whole) .none kV4 dc4 pm4 an4 cd4 ct4), sl4⟩) (c4 : PySem.W.codeIn K cd4 "is_whole" = true) (k4 : PySem.W.keepIn K (.ref f4) = true)
    {f5 : Addr} {od5 an5 : Option Addr} {sl5 : Array (Option Value)} {oc5 kV5 dc5 pm5 cd5 ct5 : Value}
    (a5 : PySem.W.nsIn K mainGlobals "is_whole_from" = some (some (.ref f5)))
    (l5 : K.lookup f5 = some ⟨oc5, od5, .func (PySem.W.fnOf "is_whole_from" "is_whole_from" (defArgs s_is_whole_from) (defBody s_is_whole_from) (defScope s_is_whole_from) .none kV5 dc5 pm5 an5 cd5 ct5), sl5⟩) (c5 : PySem.W.codeIn K cd5 "is_whole_from" = true) (k5 : PySem.W.keepIn K (.ref f5) = true)
    {f6 : Addr} {od6 an6 : Option Addr} {sl6 : Array (Option Value)} {oc6 kV6 dc6 pm6 cd6 ct6 : Value}
    (a6 : PySem.W.nsIn K mainGlobals "is_row" = some (some (.ref f6)))
    (l6 : K.lookup f6 = some ⟨oc6, od6, .func (PySem.W.fnOf "is_row" "is_row" (defArgs s_is_row) (defBody s_is_row) (defScope s_is_row) .none kV6 dc6 pm6 an6 cd6 ct6), sl6⟩) (c6 : PySem.W.codeIn K cd6 "is_row" = true) (k6 : PySem.W.keepIn K (.ref f6) = true)
    {f7 : Addr} {od7 an7 : Option Addr} {sl7 : Array (Option Value)} {oc7 kV7 dc7 pm7 cd7 ct7 : Value}
    (a7 : PySem.W.nsIn K mainGlobals "is_k" = some (some (.ref f7)))
    (l7 : K.lookup f7 = some ⟨oc7, od7, .func (PySem.W.fnOf "is_k" "is_k" (defArgs s_is_k) (defBody s_is_k) (defScope s_is_k) .none kV7 dc7 pm7 an7 cd7 ct7), sl7⟩) (c7 : PySem.W.codeIn K cd7 "is_k" = true) (k7 : PySem.W.keepIn K (.ref f7) = true)
    {f8 : Addr} {od8 an8 : Option Addr} {sl8 : Array (Option Value)} {oc8 kV8 dc8 pm8 cd8 ct8 : Value}
    (a8 : PySem.W.nsIn K mainGlobals "is_beginning" = some (some (.ref f8)))
    (l8 : K.lookup f8 = some ⟨oc8, od8, .func (PySem.W.fnOf "is_beginning" "is_beginning" (defArgs s_is_beginning) (defBody s_is_beginning) (defScope s_is_beginning) .none kV8 dc8 pm8 an8 cd8 ct8), sl8⟩) (c8 : PySem.W.codeIn K cd8 "is_beginning" = true) (k8 : PySem.W.keepIn K (.ref f8) = true)
    {f9 : Addr} {od9 an9 : Option Addr} {sl9 : Array (Option Value)} {oc9 kV9 dc9 pm9 cd9 ct9 : Value}
    (a9 : PySem.W.nsIn K mainGlobals "lessened_sums" = some (some (.ref f9)))
    (l9 : K.lookup f9 = some ⟨oc9, od9, .func (PySem.W.fnOf "lessened_sums" "lessened_sums" (defArgs s_lessened_sums) (defBody s_lessened_sums) (defScope s_lessened_sums) .none kV9 dc9 pm9 an9 cd9 ct9), sl9⟩) (c9 : PySem.W.codeIn K cd9 "lessened_sums" = true) (k9 : PySem.W.keepIn K (.ref f9) = true)
    {f10 : Addr} {od10 an10 : Option Addr} {sl10 : Array (Option Value)} {oc10 kV10 dc10 pm10 cd10 ct10 : Value}
    (a10 : PySem.W.nsIn K mainGlobals "_law_pen" = some (some (.ref f10)))
    (l10 : K.lookup f10 = some ⟨oc10, od10, .func (PySem.W.fnOf "_law_pen" "_law_pen" (defArgs s_pen) (defBody s_pen) (defScope s_pen) .none kV10 dc10 pm10 an10 cd10 ct10), sl10⟩) (c10 : PySem.W.codeIn K cd10 "_law_pen" = true) (k10 : PySem.W.keepIn K (.ref f10) = true)
    {f11 : Addr} {od11 an11 : Option Addr} {sl11 : Array (Option Value)} {oc11 kV11 dc11 pm11 cd11 ct11 : Value}
    (a11 : PySem.W.nsIn K mainGlobals "_law_draw" = some (some (.ref f11)))
    (l11 : K.lookup f11 = some ⟨oc11, od11, .func (PySem.W.fnOf "_law_draw" "_law_draw" (defArgs s_draw) (defBody s_draw) (defScope s_draw) .none kV11 dc11 pm11 an11 cd11 ct11), sl11⟩) (c11 : PySem.W.codeIn K cd11 "_law_draw" = true) (k11 : PySem.W.keepIn K (.ref f11) = true)
    {f12 : Addr} {od12 an12 : Option Addr} {sl12 : Array (Option Value)} {oc12 kV12 dc12 pm12 cd12 ct12 : Value}
    (a12 : PySem.W.nsIn K mainGlobals "_law_beginning" = some (some (.ref f12)))
    (l12 : K.lookup f12 = some ⟨oc12, od12, .func (PySem.W.fnOf "_law_beginning" "_law_beginning" (defArgs s_beginning) (defBody s_beginning) (defScope s_beginning) .none kV12 dc12 pm12 an12 cd12 ct12), sl12⟩) (c12 : PySem.W.codeIn K cd12 "_law_beginning" = true) (k12 : PySem.W.keepIn K (.ref f12) = true)
    {f13 : Addr} {od13 an13 : Option Addr} {sl13 : Array (Option Value)} {oc13 kV13 dc13 pm13 cd13 ct13 : Value}
    (a13 : PySem.W.nsIn K mainGlobals "_law_far" = some (some (.ref f13)))
    (l13 : K.lookup f13 = some ⟨oc13, od13, .func (PySem.W.fnOf "_law_far" "_law_far" (defArgs s_far) (defBody s_far) (defScope s_far) .none kV13 dc13 pm13 an13 cd13 ct13), sl13⟩) (c13 : PySem.W.codeIn K cd13 "_law_far" = true) (k13 : PySem.W.keepIn K (.ref f13) = true)
    {f14 : Addr} {od14 an14 : Option Addr} {sl14 : Array (Option Value)} {oc14 kV14 dc14 pm14 cd14 ct14 : Value}
    (a14 : PySem.W.nsIn K mainGlobals "law" = some (some (.ref f14)))
    (l14 : K.lookup f14 = some ⟨oc14, od14, .func (PySem.W.fnOf "law" "law" (defArgs s_law) (defBody s_law) (defScope s_law) .none kV14 dc14 pm14 an14 cd14 ct14), sl14⟩) (c14 : PySem.W.codeIn K cd14 "law" = true) (k14 : PySem.W.keepIn K (.ref f14) = true)
    {f15 : Addr} {od15 an15 : Option Addr} {sl15 : Array (Option Value)} {oc15 kV15 dc15 pm15 cd15 ct15 : Value}
    (a15 : PySem.W.findIn K (.ref C_House) "__init__" = some (some (.ref f15))) (i15 : PySem.W.isFn K (.ref f15) = true)
    (l15 : K.lookup f15 = some ⟨oc15, od15, .func (PySem.W.fnOf "__init__" "House.__init__" (defArgs s_House_init) (defBody s_House_init) (defScope s_House_init) .none kV15 dc15 pm15 an15 cd15 ct15), sl15⟩) (c15 : PySem.W.codeIn K cd15 "House.__init__" = true) (k15 : PySem.W.keepIn K (.ref f15) = true)
    {f16 : Addr} {od16 an16 : Option Addr} {sl16 : Array (Option Value)} {oc16 kV16 dc16 pm16 cd16 ct16 : Value}
    (a16 : PySem.W.findIn K (.ref C_House) "reach" = some (some (.ref f16))) (i16 : PySem.W.isFn K (.ref f16) = true)
    (l16 : K.lookup f16 = some ⟨oc16, od16, .func (PySem.W.fnOf "reach" "House.reach" (defArgs s_House_reach) (defBody s_House_reach) (defScope s_House_reach) .none kV16 dc16 pm16 an16 cd16 ct16), sl16⟩) (c16 : PySem.W.codeIn K cd16 "House.reach" = true) (k16 : PySem.W.keepIn K (.ref f16) = true)
    {f17 : Addr} {od17 an17 : Option Addr} {sl17 : Array (Option Value)} {oc17 kV17 dc17 pm17 cd17 ct17 : Value}
    (a17 : PySem.W.findIn K (.ref C_House) "folk" = some (some (.ref f17))) (i17 : PySem.W.isFn K (.ref f17) = true)
    (l17 : K.lookup f17 = some ⟨oc17, od17, .func (PySem.W.fnOf "folk" "House.folk" (defArgs s_House_folk) (defBody s_House_folk) (defScope s_House_folk) .none kV17 dc17 pm17 an17 cd17 ct17), sl17⟩) (c17 : PySem.W.codeIn K cd17 "House.folk" = true) (k17 : PySem.W.keepIn K (.ref f17) = true)
    {f18 : Addr} {od18 an18 : Option Addr} {sl18 : Array (Option Value)} {oc18 kV18 dc18 pm18 cd18 ct18 : Value}
    (a18 : PySem.W.findIn K (.ref C_House) "times" = some (some (.ref f18))) (i18 : PySem.W.isFn K (.ref f18) = true)
    (l18 : K.lookup f18 = some ⟨oc18, od18, .func (PySem.W.fnOf "times" "House.times" (defArgs s_House_times) (defBody s_House_times) (defScope s_House_times) .none kV18 dc18 pm18 an18 cd18 ct18), sl18⟩) (c18 : PySem.W.codeIn K cd18 "House.times" = true) (k18 : PySem.W.keepIn K (.ref f18) = true)
    {f19 : Addr} {od19 an19 : Option Addr} {sl19 : Array (Option Value)} {oc19 kV19 dc19 pm19 cd19 ct19 : Value}
    (a19 : PySem.W.findIn K (.ref C_House) "last_place" = some (some (.ref f19))) (i19 : PySem.W.isFn K (.ref f19) = true)
    (l19 : K.lookup f19 = some ⟨oc19, od19, .func (PySem.W.fnOf "last_place" "House.last_place" (defArgs s_House_last_place) (defBody s_House_last_place) (defScope s_House_last_place) .none kV19 dc19 pm19 an19 cd19 ct19), sl19⟩) (c19 : PySem.W.codeIn K cd19 "House.last_place" = true) (k19 : PySem.W.keepIn K (.ref f19) = true)
    (z0 : PySem.W.nsIn K mainGlobals "abs" = some none)
    (z1 : PySem.W.nsIn K mainGlobals "all" = some none)
    (z2 : PySem.W.nsIn K mainGlobals "bool" = some none)
    (z3 : PySem.W.nsIn K mainGlobals "int" = some none)
    (z4 : PySem.W.nsIn K mainGlobals "isinstance" = some none)
    (z5 : PySem.W.nsIn K mainGlobals "len" = some none)
    (z6 : PySem.W.nsIn K mainGlobals "list" = some none)
    (z7 : PySem.W.nsIn K mainGlobals "min" = some none)
    (z8 : PySem.W.nsIn K mainGlobals "range" = some none)
    (z9 : PySem.W.nsIn K mainGlobals "sum" = some none)
    (z10 : PySem.W.nsIn K mainGlobals "tuple" = some none)
    {t_GREATEST_K : Tok} (n_GREATEST_K : PySem.W.nsIn K mainGlobals "GREATEST_K" = some (some (.int 30 t_GREATEST_K)))
    : ∃ fd : FuncData, (∀ (s : Shared) (v : Value), BindsTo s fd ⟨[v], []⟩ [("_law_script", v)]) ∧ ∀ base : Heap, K.In base → base.Ns mainGlobals mg → FnOk l.prog w K mg base CX0 7 fa fd ["_law_script"] (spLaw K) := by
  have e := hfa.symm.trans (PySem.W.mg_of X G a14)
  cases e
  have F0 := fun_mk (st := s_exponent_of) l0 c0 k0
  have F1 := fun_mk (st := s_first_sign) l1 c1 k1
  have F2 := fun_mk (st := s_heap_of) l2 c2 k2
  have F3 := fun_mk (st := s_noughts_of) l3 c3 k3
  have F4 := fun_mk (st := s_is_whole) l4 c4 k4
  have F5 := fun_mk (st := s_is_whole_from) l5 c5 k5
  have F6 := fun_mk (st := s_is_row) l6 c6 k6
  have F7 := fun_mk (st := s_is_k) l7 c7 k7
  have F8 := fun_mk (st := s_is_beginning) l8 c8 k8
  have F9 := fun_mk (st := s_lessened_sums) l9 c9 k9
  have F10 := fun_mk (st := s_pen) l10 c10 k10
  have F11 := fun_mk (st := s_draw) l11 c11 k11
  have F12 := fun_mk (st := s_beginning) l12 c12 k12
  have F13 := fun_mk (st := s_far) l13 c13 k13
  have F14 := fun_mk (st := s_law) l14 c14 k14
  have F15 := fun_mk (st := s_House_init) l15 c15 k15
  have F16 := fun_mk (st := s_House_reach) l16 c16 k16
  have F17 := fun_mk (st := s_House_folk) l17 c17 k17
  have F18 := fun_mk (st := s_House_times) l18 c18 k18
  have F19 := fun_mk (st := s_House_last_place) l19 c19 k19
  have b0 := F0.binds (ps := ["number", "base"]) fun _ _ _ _ _ _ us hl => match us, hl with | [_, _], _ => rfl
  have b1 := F1.binds (ps := ["number", "base"]) fun _ _ _ _ _ _ us hl => match us, hl with | [_, _], _ => rfl
  have b2 := F2.binds (ps := ["number", "base"]) fun _ _ _ _ _ _ us hl => match us, hl with | [_, _], _ => rfl
  have b3 := F3.binds (ps := ["number", "base"]) fun _ _ _ _ _ _ us hl => match us, hl with | [_, _], _ => rfl
  have b4 := F4.binds (ps := ["thing"]) fun _ _ _ _ _ _ us hl => match us, hl with | [_], _ => rfl
  have b5 := F5.binds (ps := ["thing", "least"]) fun _ _ _ _ _ _ us hl => match us, hl with | [_, _], _ => rfl
  have b6 := F6.binds (ps := ["thing"]) fun _ _ _ _ _ _ us hl => match us, hl with | [_], _ => rfl
  have b7 := F7.binds (ps := ["thing"]) fun _ _ _ _ _ _ us hl => match us, hl with | [_], _ => rfl
  have b8 := F8.binds (ps := ["k", "thing"]) fun _ _ _ _ _ _ us hl => match us, hl with | [_, _], _ => rfl
  have b9 := F9.binds (ps := ["beginning"]) fun _ _ _ _ _ _ us hl => match us, hl with | [_], _ => rfl
  have b10 := F10.binds (ps := ["_law_script"]) fun _ _ _ _ _ _ us hl => match us, hl with | [_], _ => rfl
  have b11 := F11.binds (ps := ["_law_pen_here", "_law_many"]) fun _ _ _ _ _ _ us hl => match us, hl with | [_, _], _ => rfl
  have b12 := F12.binds (ps := ["_law_pen_here", "_law_base", "_law_most"]) fun _ _ _ _ _ _ us hl => match us, hl with | [_, _, _], _ => rfl
  have b13 := F13.binds (ps := ["_law_pen_here", "_law_figures"]) fun _ _ _ _ _ _ us hl => match us, hl with | [_, _], _ => rfl
  have b15 := F15.binds (ps := ["self", "k", "beginning"]) fun _ _ _ _ _ _ us hl => match us, hl with | [_, _, _], _ => rfl
  have b16 := F16.binds (ps := ["self"]) fun _ _ _ _ _ _ us hl => match us, hl with | [_], _ => rfl
  have b17 := F17.binds (ps := ["self"]) fun _ _ _ _ _ _ us hl => match us, hl with | [_], _ => rfl
  have b18 := F18.binds (ps := ["self", "number"]) fun _ _ _ _ _ _ us hl => match us, hl with | [_, _], _ => rfl
  have b19 := F19.binds (ps := ["self", "number"]) fun _ _ _ _ _ _ us hl => match us, hl with | [_, _], _ => rfl
  have T : Txt K mg C_House := ⟨PySem.W.mg_none_of X G z0,
    PySem.W.mg_none_of X G z1,
    PySem.W.mg_none_of X G z2,
    PySem.W.mg_none_of X G z3,
    PySem.W.mg_none_of X G z4,
    PySem.W.mg_none_of X G z5,
    PySem.W.mg_none_of X G z6,
    PySem.W.mg_none_of X G z7,
    PySem.W.mg_none_of X G z8,
    PySem.W.mg_none_of X G z9,
    PySem.W.mg_none_of X G z10,
    ⟨_, PySem.W.mg_of X G n_GREATEST_K⟩,
    ⟨_, _, F0, b0, PySem.W.mg_of X G a0⟩,
    ⟨_, _, F1, b1, PySem.W.mg_of X G a1⟩,
    ⟨_, _, F2, b2, PySem.W.mg_of X G a2⟩,
    ⟨_, _, F3, b3, PySem.W.mg_of X G a3⟩,
    ⟨_, _, F4, b4, PySem.W.mg_of X G a4⟩,
    ⟨_, _, F5, b5, PySem.W.mg_of X G a5⟩,
    ⟨_, _, F6, b6, PySem.W.mg_of X G a6⟩,
    ⟨_, _, F7, b7, PySem.W.mg_of X G a7⟩,
    ⟨_, _, F8, b8, PySem.W.mg_of X G a8⟩,
    ⟨_, _, F9, b9, PySem.W.mg_of X G a9⟩,
    ⟨_, _, F10, b10, PySem.W.mg_of X G a10⟩,
    ⟨_, _, F11, b11, PySem.W.mg_of X G a11⟩,
    ⟨_, _, F12, b12, PySem.W.mg_of X G a12⟩,
    ⟨_, _, F13, b13, PySem.W.mg_of X G a13⟩,
    ⟨pg_House, hd_House, po_House, sa_House⟩,
    mk_House,
    kc_House,
    PySem.W.mg_of X G aC_House,
    na_House_beginning,
    na_House_k,
    na_House_sums,
    ⟨_, _, F15, b15, ⟨a15, i15, k15⟩⟩,
    ⟨_, _, F16, b16, ⟨a16, i16, k16⟩⟩,
    ⟨_, _, F17, b17, ⟨a17, i17, k17⟩⟩,
    ⟨_, _, F18, b18, ⟨a18, i18, k18⟩⟩,
    ⟨_, _, F19, b19, ⟨a19, i19, k19⟩⟩⟩
  exact ⟨PySem.W.fnOf "law" "law" (defArgs s_law) (defBody s_law) (defScope s_law) .none kV14 dc14 pm14 an14 cd14 ct14, fun s v => .of_eq rfl, fun base _ _ => ok_law T F14⟩
end Ab
open PySem PySem.W PyProof.Rows
set_option maxRecDepth 100000 in
set_option maxHeartbeats 0 in
theorem PySem.Challenge.cw_askback_k10_whole_folk_more_in_the_begin_holds : PySem.Challenge.rw_askback_k10_whole_folk_more_in_the_begin.Holds := by
  w_on; o_law; k_head; (case hw => w_witness2)
  k_fill
  refine L2.walk_of (l := PySem.Challenge.rw_askback_k10_whole_folk_more_in_the_begin) (n := 63) (k := 7) (x := "_law_script") (CX := fun _ => L2.CX0) (sp := fun w => Ab.spLaw _) rfl (by decide) rfl ⟨rfl, by decide, by decide⟩ (fun w h Y => PySem.W.kIn_of Y) ?F (fun _ _ a ns hl _ hS => ⟨a, ns, rfl, hS, hl, fun _ => rfl⟩) (fun _ _ _ _ _ h => h)
  case F =>
    intro w mg fa h KX G hmg
    refine' Ab.all_mk KX G hmg ?aC_House ?pg_House ?hd_House ?po_House ?sa_House ?mk_House ?kc_House ?na_House_beginning ?na_House_k ?na_House_sums ?a0 ?l0 ?c0 ?k0 ?a1 ?l1 ?c1 ?k1 ?a2 ?l2 ?c2 ?k2 ?a3 ?l3 ?c3 ?k3 ?a4 ?l4 ?c4 ?k4 ?a5 ?l5 ?c5 ?k5 ?a6 ?l6 ?c6 ?k6 ?a7 ?l7 ?c7 ?k7 ?a8 ?l8 ?c8 ?k8 ?a9 ?l9 ?c9 ?k9 ?a10 ?l10 ?c10 ?k10 ?a11 ?l11 ?c11 ?k11 ?a12 ?l12 ?c12 ?k12 ?a13 ?l13 ?c13 ?k13 ?a14 ?l14 ?c14 ?k14 ?a15 ?i15 ?l15 ?c15 ?k15 ?a16 ?i16 ?l16 ?c16 ?k16 ?a17 ?i17 ?l17 ?c17 ?k17 ?a18 ?i18 ?l18 ?c18 ?k18 ?a19 ?i19 ?l19 ?c19 ?k19 ?z0 ?z1 ?z2 ?z3 ?z4 ?z5 ?z6 ?z7 ?z8 ?z9 ?z10 ?n_GREATEST_K
    (case aC_House => k_is)
    (case pg_House => k_is)
    (case hd_House => k_is)
    (case po_House => k_is)
    (case sa_House => k_is)
    (case mk_House => k_is)
    (case kc_House => k_is)
    (case na_House_beginning => k_is)
    (case na_House_k => k_is)
    (case na_House_sums => k_is)
    (case a0 => k_is)
    (case l0 => k_is)
    (case c0 => k_is)
    (case k0 => k_is)
    (case a1 => k_is)
    (case l1 => k_is)
    (case c1 => k_is)
    (case k1 => k_is)
    (case a2 => k_is)
    (case l2 => k_is)
    (case c2 => k_is)
    (case k2 => k_is)
    (case a3 => k_is)
    (case l3 => k_is)
    (case c3 => k_is)
    (case k3 => k_is)
    (case a4 => k_is)
    (case l4 => k_is)
    (case c4 => k_is)
    (case k4 => k_is)
    (case a5 => k_is)
    (case l5 => k_is)
    (case c5 => k_is)
    (case k5 => k_is)
    (case a6 => k_is)
    (case l6 => k_is)
    (case c6 => k_is)
    (case k6 => k_is)
    (case a7 => k_is)
    (case l7 => k_is)
    (case c7 => k_is)
    (case k7 => k_is)
    (case a8 => k_is)
    (case l8 => k_is)
    (case c8 => k_is)
    (case k8 => k_is)
    (case a9 => k_is)
    (case l9 => k_is)
    (case c9 => k_is)
    (case k9 => k_is)
    (case a10 => k_is)
    (case l10 => k_is)
    (case c10 => k_is)
    (case k10 => k_is)
    (case a11 => k_is)
    (case l11 => k_is)
    (case c11 => k_is)
    (case k11 => k_is)
    (case a12 => k_is)
    (case l12 => k_is)
    (case c12 => k_is)
    (case k12 => k_is)
    (case a13 => k_is)
    (case l13 => k_is)
    (case c13 => k_is)
    (case k13 => k_is)
    (case a14 => k_is)
    (case l14 => k_is)
    (case c14 => k_is)
    (case k14 => k_is)
    (case a15 => k_is)
    (case i15 => k_is)
    (case l15 => k_is)
    (case c15 => k_is)
    (case k15 => k_is)
    (case a16 => k_is)
    (case i16 => k_is)
    (case l16 => k_is)
    (case c16 => k_is)
    (case k16 => k_is)
    (case a17 => k_is)
    (case i17 => k_is)
    (case l17 => k_is)
    (case c17 => k_is)
    (case k17 => k_is)
    (case a18 => k_is)
    (case i18 => k_is)
    (case l18 => k_is)
    (case c18 => k_is)
    (case k18 => k_is)
    (case a19 => k_is)
    (case i19 => k_is)
    (case l19 => k_is)
    (case c19 => k_is)
    (case k19 => k_is)
    (case z0 => k_is)
    (case z1 => k_is)
    (case z2 => k_is)
    (case z3 => k_is)
    (case z4 => k_is)
    (case z5 => k_is)
    (case z6 => k_is)
    (case z7 => k_is)
    (case z8 => k_is)
    (case z9 => k_is)
    (case z10 => k_is)
    (case n_GREATEST_K => k_is)
