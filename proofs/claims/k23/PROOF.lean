import PyProof.Rows.All
import Wide.All
import OpenK.AllK
import Wide.FinOn
import HandS.ForMost
import HandS.Wide
import HandS.WideBits
import HandS.WideMore
import HandS.Style
import HandS.IsInst
import HandS.SetFor
import HandS.Codes
import HandS.MakeKwOnly
import PySem.Challenge.RW_askback_k23_whole_far_chains_walked
set_option Elab.async false
set_option linter.all false
set_option maxRecDepth 100000
set_option maxHeartbeats 4000000
/-! numbers by their signs -/
namespace Ab
def digs (b n : Nat) : List Nat := if h : n = 0 ∨ b < 2 then [] else n % b :: digs b (n / b)
termination_by n
decreasing_by exact Nat.div_lt_self (by omega) (by omega)
theorem digs_zero (b : Nat) : digs b 0 = [] := by
  rw [digs, dif_pos (.inl rfl)]
theorem digs_pos {b n : Nat} (hb : 2 ≤ b) (hn : 0 < n) : digs b n = n % b :: digs b (n / b) := by
  rw [digs, dif_neg (by omega)]
/-- the signs, the greatest first -/
def sgn (b n : Nat) : List Nat := (digs b n).reverse
theorem sgn_zero (b : Nat) : sgn b 0 = [] := by rw [sgn, digs_zero]; rfl
theorem sgn_pos {b n : Nat} (hb : 2 ≤ b) (hn : 0 < n) : sgn b n = sgn b (n / b) ++ [n % b] := by
  rw [sgn, digs_pos hb hn, List.reverse_cons]; rfl
def heap (b n : Nat) : Nat := if h : n < b ∨ b < 2 then 0 else n / b + heap b (n / b)
termination_by n
decreasing_by exact Nat.div_lt_self (by omega) (by omega)
theorem heap_small {b n : Nat} (h : n < b) : heap b n = 0 := by
  rw [heap, dif_pos (.inl h)]
theorem heap_step {b n : Nat} (hb : 2 ≤ b) : heap b n = n / b + heap b (n / b) := by
  by_cases h : n < b
  · rw [heap_small h, Nat.div_eq_of_lt h, heap_small (show 0 < b by omega)]
  · rw [heap, dif_neg (by omega)]
def expo (b n : Nat) : Nat := if h : n < b ∨ b < 2 then 0 else expo b (n / b) + 1
termination_by n
decreasing_by exact Nat.div_lt_self (by omega) (by omega)
theorem expo_small {b n : Nat} (h : n < b) : expo b n = 0 := by
  rw [expo, dif_pos (.inl h)]
theorem expo_step {b n : Nat} (hb : 2 ≤ b) (h : b ≤ n) : expo b n = expo b (n / b) + 1 := by
  rw [expo, dif_neg (by omega)]
def lead (b n : Nat) : Nat := if h : n < b ∨ b < 2 then n else lead b (n / b)
termination_by n
decreasing_by exact Nat.div_lt_self (by omega) (by omega)
theorem lead_small {b n : Nat} (h : n < b) : lead b n = n := by
  rw [lead, dif_pos (.inl h)]
theorem lead_step {b n : Nat} (hb : 2 ≤ b) (h : b ≤ n) : lead b n = lead b (n / b) := by
  rw [lead, dif_neg (by omega)]
def nou (b n : Nat) : Nat := if h : n = 0 ∨ n % b ≠ 0 ∨ b < 2 then 0 else nou b (n / b) + 1
termination_by n
decreasing_by exact Nat.div_lt_self (by omega) (by omega)
theorem nou_zero (b : Nat) : nou b 0 = 0 := by
  rw [nou, dif_pos (.inl rfl)]
theorem nou_no {b n : Nat} (h : n % b ≠ 0) : nou b n = 0 := by
  rw [nou, dif_pos (.inr (.inl h))]
theorem nou_step {b n : Nat} (hb : 2 ≤ b) (hn : 0 < n) (h : n % b = 0) : nou b n = nou b (n / b) + 1 := by
  rw [nou, dif_neg (by omega)]
/-- induction along the parts -/
theorem part_ind {b : Nat} (hb : 2 ≤ b) {P : Nat → Prop} (h : ∀ n, (∀ m, 0 < n → m = n / b → P m) → P n) (n : Nat) : P n := by
  induction n using Nat.strongRecOn with
  | ind n ih => exact h n fun m hn e => ih m (by rw [e]; exact Nat.div_lt_self hn (by omega))
theorem div_pos_of {b n : Nat} (hb : 2 ≤ b) (h : b ≤ n) : 0 < n / b := Nat.div_pos h (by omega)
theorem digs_lt {b : Nat} (hb : 2 ≤ b) (n : Nat) : ∀ s ∈ digs b n, s < b := by
  induction n using part_ind hb with
  | h n ih =>
    by_cases hn : n = 0
    · subst hn; rw [digs_zero]; intro s hs; cases hs
    · rw [digs_pos hb (by omega)]
      intro s hs
      rcases List.mem_cons.mp hs with e | e
      · rw [e]; exact Nat.mod_lt _ (by omega)
      · exact ih _ (by omega) rfl s e
theorem sgn_lt {b : Nat} (hb : 2 ≤ b) (n : Nat) : ∀ s ∈ sgn b n, s < b := fun s hs => digs_lt hb n s (List.mem_reverse.mp hs)
theorem digs_len {b : Nat} (hb : 2 ≤ b) (n : Nat) (hn : 0 < n) : (digs b n).length = expo b n + 1 := by
  induction n using part_ind hb with
  | h n ih =>
    rw [digs_pos hb hn, List.length_cons]
    by_cases h : n < b
    · rw [Nat.div_eq_of_lt h, digs_zero, expo_small h]; rfl
    · rw [ih _ hn rfl (div_pos_of hb (by omega)), expo_step (n := n) hb (by omega)]
theorem sgn_len {b : Nat} (hb : 2 ≤ b) (n : Nat) (hn : 0 < n) : (sgn b n).length = expo b n + 1 := by
  rw [sgn, List.length_reverse, digs_len hb n hn]
theorem sgn_head {b : Nat} (hb : 2 ≤ b) (n : Nat) (hn : 0 < n) : (sgn b n)[0]? = some (lead b n) := by
  induction n using part_ind hb with
  | h n ih =>
    rw [sgn_pos hb hn]
    by_cases h : n < b
    · rw [Nat.div_eq_of_lt h, sgn_zero, lead_small h, Nat.mod_eq_of_lt h]; rfl
    · have hp := div_pos_of hb (show b ≤ n by omega)
      rw [List.getElem?_append_left (by rw [sgn_len hb _ hp]; omega), ih _ hn rfl hp, lead_step (n := n) hb (by omega)]
theorem lead_pos {b : Nat} (hb : 2 ≤ b) (n : Nat) (hn : 0 < n) : 0 < lead b n := by
  induction n using part_ind hb with
  | h n ih =>
    by_cases h : n < b
    · rw [lead_small h]; exact hn
    · rw [lead_step hb (by omega)]; exact ih _ hn rfl (div_pos_of hb (by omega))
theorem lead_lt {b : Nat} (hb : 2 ≤ b) (n : Nat) : lead b n < b := by
  induction n using part_ind hb with
  | h n ih =>
    by_cases h : n < b
    · rw [lead_small h]; exact h
    · rw [lead_step hb (by omega)]; exact ih _ (by omega) rfl
/-- the signs put together -/
theorem sgn_sum {b : Nat} (hb : 2 ≤ b) (n : Nat) : (sgn b n).foldl (fun t s => t * b + s) 0 = n := by
  induction n using part_ind hb with
  | h n ih =>
    by_cases hn : n = 0
    · subst hn; rw [sgn_zero]; rfl
    · rw [sgn_pos hb (by omega), List.foldl_append, ih _ (by omega) rfl]
      show n / b * b + n % b = n
      rw [Nat.mul_comm]; exact Nat.div_add_mod n b
theorem more_div {b n s : Nat} (hb : 2 ≤ b) (hs : s < b) : (n * b + s) / b = n := by
  rw [Nat.mul_comm, Nat.mul_add_div (by omega), Nat.div_eq_of_lt hs, Nat.add_zero]
theorem more_mod {b n s : Nat} (hs : s < b) : (n * b + s) % b = s := by
  rw [Nat.mul_comm, Nat.mul_add_mod, Nat.mod_eq_of_lt hs]
theorem more_pos {b n s : Nat} (hb : 2 ≤ b) (hn : 0 < n) : b ≤ n * b + s :=
  Nat.le_trans (Nat.le_mul_of_pos_left b hn) (Nat.le_add_right _ _)
theorem sgn_more {b n s : Nat} (hb : 2 ≤ b) (hn : 0 < n) (hs : s < b) : sgn b (n * b + s) = sgn b n ++ [s] := by
  have h := more_pos (s := s) hb hn
  rw [sgn_pos hb (by omega), more_div hb hs, more_mod hs]
theorem expo_more {b n s : Nat} (hb : 2 ≤ b) (hn : 0 < n) (hs : s < b) : expo b (n * b + s) = expo b n + 1 := by
  rw [expo_step hb (more_pos hb hn), more_div hb hs]
theorem heap_more {b n s : Nat} (hb : 2 ≤ b) (hs : s < b) : heap b (n * b + s) = n + heap b n := by
  rw [heap_step hb, more_div hb hs]
theorem nou_more {b n s : Nat} (hb : 2 ≤ b) (hn : 0 < n) (hs : s < b) : nou b (n * b + s) = if s = 0 then nou b n + 1 else 0 := by
  have h := more_pos (s := s) hb hn
  by_cases e : s = 0
  · rw [if_pos e, nou_step hb (by omega) (by rw [more_mod hs]; exact e), more_div hb hs]
  · rw [if_neg e, nou_no (by rw [more_mod hs]; exact e)]
/-- the noughts are the signs behind, that are 0 -/
theorem nou_lt {b : Nat} (hb : 2 ≤ b) (n : Nat) (hn : 0 < n) : nou b n < (digs b n).length := by
  induction n using part_ind hb with
  | h n ih =>
    rw [digs_pos hb hn, List.length_cons]
    by_cases h : n % b = 0
    · have hbn : b ≤ n := Nat.le_of_not_lt fun z => by rw [Nat.mod_eq_of_lt z] at h; omega
      have := ih _ hn rfl (div_pos_of hb hbn)
      rw [nou_step hb hn h]; omega
    · rw [nou_no h]; omega
theorem nou_at {b : Nat} (hb : 2 ≤ b) (n : Nat) (hn : 0 < n) : ∀ j, j < nou b n → (digs b n)[j]? = some 0 := by
  induction n using part_ind hb with
  | h n ih =>
    intro j hj
    by_cases h : n % b = 0
    · have hbn : b ≤ n := Nat.le_of_not_lt fun z => by rw [Nat.mod_eq_of_lt z] at h; omega
      rw [nou_step hb hn h] at hj
      rw [digs_pos hb hn]
      cases j with
      | zero => rw [h]; rfl
      | succ j =>
        rw [List.getElem?_cons_succ]
        exact ih _ hn rfl (div_pos_of hb hbn) j (by omega)
    · rw [nou_no h] at hj; omega
theorem nou_end {b : Nat} (hb : 2 ≤ b) (n : Nat) (hn : 0 < n) : ∃ s, (digs b n)[nou b n]? = some s ∧ s ≠ 0 := by
  induction n using part_ind hb with
  | h n ih =>
    rw [digs_pos hb hn]
    by_cases h : n % b = 0
    · have hbn : b ≤ n := Nat.le_of_not_lt fun z => by rw [Nat.mod_eq_of_lt z] at h; omega
      rw [nou_step hb hn h, List.getElem?_cons_succ]
      exact ih _ hn rfl (div_pos_of hb hbn)
    · rw [nou_no h]; exact ⟨_, rfl, h⟩
theorem sgn_back {b n j : Nat} (hj : j < (digs b n).length) : (sgn b n)[(digs b n).length - 1 - j]? = (digs b n)[j]? := by
  rw [sgn, List.getElem?_reverse (by omega)]
  congr 1
  omega
theorem digs_bits {b : Nat} (hb : 2 ≤ b) (n : Nat) : ∀ x, n < 2 ^ x → (digs b n).length ≤ x := by
  induction n using part_ind hb with
  | h n ih =>
    intro x hx
    by_cases hn : n = 0
    · subst hn; rw [digs_zero]; exact Nat.zero_le _
    · rw [digs_pos hb (by omega), List.length_cons]
      cases x with
      | zero => rw [Nat.pow_zero] at hx; omega
      | succ x =>
        have h1 : n / b ≤ n / 2 := Nat.div_le_div_left hb (by omega)
        have h2 : n / 2 < 2 ^ x := by rw [Nat.pow_succ] at hx; omega
        have := ih _ (by omega) rfl x (by omega)
        omega
theorem horner_le {b : Nat} (hb : 0 < b) : ∀ (l : List Nat) (t : Nat), t ≤ l.foldl (fun t s => t * b + s) t
  | [], t => Nat.le_refl t
  | s :: r, t => Nat.le_trans (Nat.le_trans (Nat.le_mul_of_pos_right t hb) (Nat.le_add_right _ s)) (horner_le hb r (t * b + s))
theorem horner_take {b : Nat} (hb : 2 ≤ b) (n i : Nat) : ((sgn b n).take i).foldl (fun t s => t * b + s) 0 ≤ n := by
  have e := sgn_sum hb n
  rw [← List.take_append_drop i (sgn b n), List.foldl_append] at e
  have h := horner_le (b := b) (by omega) ((sgn b n).drop i) (((sgn b n).take i).foldl (fun t s => t * b + s) 0)
  omega
theorem small_of {n x : Nat} (h : n ≤ x) (hx : x ≤ 100000 := by decide) : n ≤ 100000 := Nat.le_trans h hx
end Ab

/-! houses: last places, what is said, the rule -/
namespace Ab
/-- sums of the beginning's numbers, each less one -/
def sm (B : List Nat) (d : Nat) : Nat := ((B.take d).map (· - 1)).sum
/-- a beginning of k - 1 numbers from 1 on -/
structure Beg (k : Nat) (B : List Nat) : Prop where
  two : 2 ≤ k
  len : B.length + 1 = k
  pos : ∀ b ∈ B, 1 ≤ b
def rea (B : List Nat) : Nat := sm B B.length
theorem sm_zero (B : List Nat) : sm B 0 = 0 := by simp [sm]
theorem sm_succ {B : List Nat} {d b : Nat} (h : B[d]? = some b) : sm B (d + 1) = sm B d + (b - 1) := by
  unfold sm
  rw [List.take_add_one, h, List.map_append, List.sum_append]
  simp
theorem sm_mono {B : List Nat} {c d : Nat} (h : c ≤ d) : sm B c ≤ sm B d := by
  obtain ⟨e, rfl⟩ := Nat.le.dest h
  clear h
  induction e with
  | zero => exact Nat.le_refl _
  | succ e ih =>
    refine Nat.le_trans ih ?_
    unfold sm
    rw [← Nat.add_assoc, List.take_add_one, List.map_append, List.sum_append]
    exact Nat.le_add_right _ _
theorem sm_rea {B : List Nat} {d : Nat} (h : B.length ≤ d) : sm B d = rea B := by
  unfold rea sm
  rw [List.take_of_length_le h, List.take_length]
theorem sm_le (B : List Nat) (d : Nat) : sm B d ≤ rea B := by
  by_cases h : d ≤ B.length
  · exact sm_mono h
  · rw [sm_rea (by omega)]; exact Nat.le_refl _
/-- the last place of m -/
def las (k : Nat) (B : List Nat) (m : Nat) : Nat := m + heap k m + (expo k m * rea B + sm B (lead k m))
theorem las_small {k : Nat} {B : List Nat} {m : Nat} (h : m < k) : las k B m = m + sm B m := by
  rw [las, heap_small h, expo_small h, lead_small h, Nat.zero_mul]; omega
theorem las_zero {k : Nat} {B : List Nat} (h : 2 ≤ k) : las k B 0 = 0 := by
  rw [las_small (by omega), sm_zero]
theorem las_step {k : Nat} {B : List Nat} {m : Nat} (hk : 2 ≤ k) (h : k ≤ m) : las k B m = m + rea B + las k B (m / k) := by
  rw [las, las, heap_step (n := m) hk, expo_step (n := m) hk h, lead_step (n := m) hk h, Nat.add_mul, Nat.one_mul]; omega
/-- how many times m is said -/
def tim (k : Nat) (B : List Nat) (m : Nat) : Nat := if h : m < k ∨ k < 2 then B.getD (m - 1) 1 else if m % k = 0 then tim k B (m / k) + 1 else 1
termination_by m
decreasing_by exact Nat.div_lt_self (by omega) (by omega)
theorem tim_small {k : Nat} {B : List Nat} {m : Nat} (h : m < k) : tim k B m = B.getD (m - 1) 1 := by
  rw [tim, dif_pos (.inl h)]
theorem tim_one {k : Nat} {B : List Nat} {m : Nat} (hk : 2 ≤ k) (h : k ≤ m) (hm : m % k ≠ 0) : tim k B m = 1 := by
  rw [tim, dif_neg (by omega), if_neg hm]
theorem tim_more {k : Nat} {B : List Nat} {m : Nat} (hk : 2 ≤ k) (h : k ≤ m) (hm : m % k = 0) : tim k B m = tim k B (m / k) + 1 := by
  rw [tim, dif_neg (by omega), if_pos hm]
theorem tim_mul {k : Nat} {B : List Nat} {q : Nat} (hk : 2 ≤ k) (hq : 0 < q) : tim k B (k * q) = tim k B q + 1 := by
  rw [tim_more hk (Nat.le_mul_of_pos_right k hq) (Nat.mul_mod_right k q), Nat.mul_div_cancel_left q (by omega)]
theorem Beg.at {k : Nat} {B : List Nat} (h : Beg k B) {m : Nat} (h1 : 0 < m) (h2 : m < k) : ∃ b, B[m - 1]? = some b ∧ 1 ≤ b ∧ B.getD (m - 1) 1 = b := by
  have hl : m - 1 < B.length := by have := h.len; omega
  refine ⟨B[m - 1], List.getElem?_eq_getElem hl, h.pos _ (List.getElem_mem hl), ?_⟩
  rw [List.getD_eq_getElem?_getD, List.getElem?_eq_getElem hl]; rfl
theorem tim_pos {k : Nat} {B : List Nat} (h : Beg k B) {m : Nat} (hm : 0 < m) : 0 < tim k B m := by
  by_cases h1 : m < k
  · obtain ⟨b, _, hb, e⟩ := h.at hm h1
    rw [tim_small h1, e]; exact hb
  · by_cases h2 : m % k = 0
    · rw [tim_more h.two (by omega) h2]; omega
    · rw [tim_one h.two (by omega) h2]; omega
theorem tim_eq {k : Nat} {B : List Nat} (hk : 2 ≤ k) {m : Nat} (hm : 0 < m) : tim k B m = if nou k m = expo k m then nou k m + B.getD (lead k m - 1) 1 else nou k m + 1 := by
  induction m using part_ind hk with
  | h m ih =>
    by_cases h1 : m < k
    · have e : nou k m = 0 := nou_no (by rw [Nat.mod_eq_of_lt h1]; omega)
      rw [e, expo_small h1, lead_small h1, if_pos rfl, tim_small h1, Nat.zero_add]
    · have hd := div_pos_of hk (show k ≤ m by omega)
      by_cases h2 : m % k = 0
      · have i := ih _ hm rfl hd
        rw [tim_more hk (by omega) h2, i, nou_step (n := m) hk hm h2, expo_step (n := m) hk (by omega), lead_step (n := m) hk (by omega)]
        by_cases h3 : nou k (m / k) = expo k (m / k)
        · rw [if_pos h3, if_pos (by omega)]; omega
        · rw [if_neg h3, if_neg (by omega)]
      · rw [tim_one hk (by omega) h2, nou_no h2, expo_step (n := m) hk (by omega), if_neg (by omega)]
theorem dig_part {k : Nat} (hk : 2 ≤ k) {n j : Nat} (hn : 0 < n) (hj0 : 0 < j) (hj : j < k) : (digs k (n / j)).length = expo k n + (if j ≤ lead k n then 1 else 0) := by
  induction n using part_ind hk with
  | h n ih =>
    by_cases h1 : n < k
    · rw [expo_small h1, lead_small h1]
      by_cases h2 : j ≤ n
      · have h3 : 0 < n / j := Nat.div_pos h2 hj0
        have h4 : n / j < k := Nat.lt_of_le_of_lt (Nat.div_le_self n j) h1
        rw [if_pos h2, digs_pos hk h3, Nat.div_eq_of_lt h4, digs_zero]; rfl
      · rw [if_neg h2, Nat.div_eq_of_lt (by omega), digs_zero]; rfl
    · have hd := div_pos_of hk (show k ≤ n by omega)
      have h3 : 0 < n / j := Nat.div_pos (by omega) hj0
      have i := ih _ hn rfl hd
      rw [digs_pos hk h3, List.length_cons, expo_step (n := n) hk (by omega), lead_step (n := n) hk (by omega), Nat.div_div_eq_div_mul, Nat.mul_comm j k, ← Nat.div_div_eq_div_mul, i]
      omega
theorem div_pred {k m : Nat} (hk : 2 ≤ k) (hm : m % k ≠ 0) : (m - 1) / k = m / k := by
  have e := Nat.div_add_mod m k
  have hl : m % k < k := Nat.mod_lt m (by omega)
  have e2 : m - 1 = k * (m / k) + (m % k - 1) := by omega
  rw [e2, Nat.mul_add_div (by omega), Nat.div_eq_of_lt (show m % k - 1 < k by omega), Nat.add_zero]
theorem div_pred0 {k m : Nat} (hk : 2 ≤ k) (h : 0 < m) (hm : m % k = 0) : (m - 1) / k + 1 = m / k := by
  have e := Nat.div_add_mod m k
  have hq : 0 < m / k := Nat.pos_of_ne_zero fun z => by rw [z, Nat.mul_zero] at e; omega
  obtain ⟨q, hq⟩ : ∃ q, m / k = q + 1 := ⟨m / k - 1, by omega⟩
  rw [hq] at e
  rw [hq]
  have e2 : m - 1 = k * q + (k - 1) := by rw [Nat.mul_add, Nat.mul_one] at e; omega
  rw [e2, Nat.mul_add_div (by omega), Nat.div_eq_of_lt (by omega), Nat.add_zero]
theorem las_tim {k : Nat} {B : List Nat} (h : Beg k B) {m : Nat} (hm : 0 < m) : las k B m = las k B (m - 1) + tim k B m := by
  have hk := h.two
  induction m using part_ind hk with
  | h m ih =>
    by_cases h1 : m < k
    · obtain ⟨b, hb, h1b, e⟩ := h.at hm h1
      rw [las_small h1, las_small (by omega), tim_small h1, e]
      have := sm_succ hb
      rw [show m - 1 + 1 = m by omega] at this
      omega
    · have hd : 0 < m / k := div_pos_of hk (by omega)
      have em := Nat.div_add_mod m k
      by_cases h2 : m % k = 0
      · have e0 := div_pred0 hk hm h2
        have i := ih _ hm rfl hd
        have e1 : m / k - 1 = (m - 1) / k := by omega
        rw [e1] at i
        rw [las_step hk (by omega), tim_more hk (by omega) h2, i]
        by_cases h3 : m - 1 < k
        · have e3 : m = k := by omega
          have e4 : (m - 1) / k = 0 := Nat.div_eq_of_lt h3
          rw [las_small (m := m - 1) h3, e4, las_zero hk, sm_rea (by have := h.len; omega)]
          omega
        · rw [las_step (m := m - 1) hk (by omega)]; omega
      · have hlt : m % k < k := Nat.mod_lt m (by omega)
        have hne : m ≠ k := fun z => h2 (by rw [z]; exact Nat.mod_self k)
        rw [las_step hk (by omega), tim_one hk (by omega) h2, las_step (m := m - 1) hk (by omega), div_pred hk h2]
        omega
theorem las_lt {k : Nat} {B : List Nat} (h : Beg k B) {m : Nat} (hm : 0 < m) : las k B (m - 1) < las k B m := by
  have := las_tim h hm
  have := tim_pos h hm
  omega
theorem las_mono {k : Nat} {B : List Nat} (h : Beg k B) {m n : Nat} (e : m ≤ n) : las k B m ≤ las k B n := by
  obtain ⟨d, rfl⟩ := Nat.le.dest e
  clear e
  induction d with
  | zero => exact Nat.le_refl _
  | succ d ih => exact Nat.le_trans ih (Nat.le_of_lt (las_lt h (m := m + d + 1) (by omega)))
theorem las_ge (k : Nat) (B : List Nat) (m : Nat) : m ≤ las k B m := by
  unfold las; omega
/-- what is said at a place; 1 at 0 -/
def sa (k : Nat) (B : List Nat) : Nat → Nat
  | 0 => 1
  | n + 1 => if n + 1 ≤ las k B (sa k B n) then sa k B n else sa k B n + 1
theorem sa_at {k : Nat} {B : List Nat} (h : Beg k B) : ∀ n, 0 < n → 0 < sa k B n ∧ las k B (sa k B n - 1) < n ∧ n ≤ las k B (sa k B n)
  | 0, hn => absurd hn (by omega)
  | 1, _ => by
    have h1 : sa k B 1 = 1 := by
      show (if 1 ≤ las k B 1 then 1 else 2) = 1
      rw [if_pos (las_ge k B 1)]
    rw [h1]
    have := las_zero (B := B) h.two
    have := las_ge k B 1
    exact ⟨by omega, by show las k B 0 < 1; omega, by omega⟩
  | n + 2, _ => by
    obtain ⟨h1, h2, h3⟩ := sa_at h (n + 1) (by omega)
    show 0 < (if n + 2 ≤ las k B (sa k B (n + 1)) then sa k B (n + 1) else sa k B (n + 1) + 1) ∧ _
    have e : sa k B (n + 2) = (if n + 2 ≤ las k B (sa k B (n + 1)) then sa k B (n + 1) else sa k B (n + 1) + 1) := rfl
    rw [e]
    split
    · exact ⟨h1, by omega, by assumption⟩
    · have := las_lt h (m := sa k B (n + 1) + 1) (by omega)
      rw [Nat.add_sub_cancel] at this
      rw [Nat.add_sub_cancel]
      exact ⟨by omega, by omega, by omega⟩
theorem sa_eq {k : Nat} {B : List Nat} (h : Beg k B) {n m : Nat} (hm : 0 < m) (h1 : las k B (m - 1) < n) (h2 : n ≤ las k B m) : sa k B n = m := by
  obtain ⟨a, b, c⟩ := sa_at h n (by omega)
  rcases Nat.lt_trichotomy (sa k B n) m with z | z | z
  · have := las_mono h (show sa k B n ≤ m - 1 by omega); omega
  · exact z
  · have := las_mono h (show m ≤ sa k B n - 1 by omega); omega
/-- of any whole number -/
def saI (k : Nat) (B : List Nat) (z : Int) : Nat := sa k B z.toNat
theorem saI_nat (k : Nat) (B : List Nat) (n : Nat) : saI k B (n : Int) = sa k B n := by
  unfold saI; rw [Int.toNat_natCast]
theorem saI_neg {k : Nat} {B : List Nat} {z : Int} (h : z ≤ 0) : saI k B z = 1 := by
  unfold saI; rw [Int.toNat_of_nonpos h]; rfl
theorem saI_eq {k : Nat} {B : List Nat} (h : Beg k B) {z : Int} {m : Nat} (hm : 0 < m) (h1 : (las k B (m - 1) : Int) < z) (h2 : z ≤ las k B m) : saI k B z = m := by
  unfold saI
  exact sa_eq h hm (by omega) (by omega)
theorem sa_one {k : Nat} {B : List Nat} (h : Beg k B) {z : Int} (hz : z ≤ 1) : saI k B z = 1 := by
  by_cases h0 : z ≤ 0
  · exact saI_neg h0
  · have := las_zero (B := B) h.two
    have := las_ge k B 1
    exact saI_eq h (by omega) (by show ((las k B 0 : Nat) : Int) < z; omega) (by omega)
/-- what is said where p leads -/
def hh (k : Nat) (B : List Nat) (p : Int) : Nat := saI k B (p + 1 - rea B - saI k B p)
theorem hh_low {k : Nat} {B : List Nat} (h : Beg k B) {p : Int} (hp : p ≤ las k B (k - 1)) : hh k B p = 1 := by
  unfold hh
  by_cases h0 : p ≤ 0
  · have := saI_neg (k := k) (B := B) h0
    exact saI_neg (by omega)
  · refine sa_one h ?_
    have hn : 0 < p.toNat := by omega
    obtain ⟨a, b, c⟩ := sa_at h p.toNat hn
    have hm : sa k B p.toNat < k := Nat.lt_of_not_le fun z => by
      have := las_mono h (show k - 1 ≤ sa k B p.toNat - 1 by have := h.two; omega)
      omega
    rw [las_small hm] at c
    have := sm_le B (sa k B p.toNat)
    unfold saI
    omega
/-- the places that lead, by number and turn -/
theorem lead_at {k : Nat} {B : List Nat} (h : Beg k B) {m : Nat} (hm : k ≤ m) : (las k B (m - 1) : Int) + 1 - rea B - m = las k B ((m - 1) / k) := by
  have hk := h.two
  by_cases h1 : m - 1 < k
  · have e : m = k := by omega
    rw [las_small h1, Nat.div_eq_of_lt h1, las_zero hk, sm_rea (by have := h.len; omega)]
    omega
  · rw [las_step (m := m - 1) hk (by omega)]; omega
theorem hh_at {k : Nat} {B : List Nat} (h : Beg k B) {m : Nat} (hm : k ≤ m) {j : Nat} (hj : j < tim k B m) : hh k B (las k B (m - 1) + 1 + j : Nat) = sa k B (las k B ((m - 1) / k) + 1 + j) := by
  have hk := h.two
  have t := las_tim h (m := m) (by omega)
  have e : saI k B ((las k B (m - 1) + 1 + j : Nat) : Int) = m := saI_eq h (by omega) (by omega) (by omega)
  unfold hh
  rw [e]
  have l := lead_at h hm
  have e2 : ((las k B (m - 1) + 1 + j : Nat) : Int) + 1 - rea B - m = ((las k B ((m - 1) / k) + 1 + j : Nat) : Int) := by omega
  rw [e2, saI_nat]
theorem sa_first {k : Nat} {B : List Nat} (h : Beg k B) (q : Nat) : sa k B (las k B q + 1) = q + 1 := by
  have := las_lt h (m := q + 1) (by omega)
  rw [Nat.add_sub_cancel] at this
  exact sa_eq h (by omega) (by rw [Nat.add_sub_cancel]; omega) (by omega)
/-- one said once at each place between multiples -/
theorem las_between {k : Nat} {B : List Nat} (h : Beg k B) {q : Nat} (hq : 0 < q) : ∀ r, r < k → las k B (k * q + r) = las k B (k * q) + r
  | 0, _ => rfl
  | r + 1, hr => by
    have i := las_between h hq r (by omega)
    have hk := h.two
    have hkq : k ≤ k * q := Nat.le_mul_of_pos_right k hq
    have e : (k * q + (r + 1)) % k = r + 1 := by rw [Nat.mul_add_mod, Nat.mod_eq_of_lt hr]
    rw [las_tim h (m := k * q + (r + 1)) (by omega), tim_one hk (by omega) (by omega)]
    show las k B (k * q + r) + 1 = _
    omega
theorem hh_mid {k : Nat} {B : List Nat} (h : Beg k B) {q : Nat} (hq : 0 < q) {p : Nat} (h1 : las k B (k * q) ≤ p) (h2 : p < las k B (k * (q + 1))) : hh k B p = q + 1 := by
  have hk := h.two
  have hkq : k ≤ k * q := Nat.le_mul_of_pos_right k hq
  have hp : 0 < p := by have := las_ge k B (k * q); omega
  obtain ⟨a, b, c⟩ := sa_at h p hp
  have hms : k * (q + 1) = k * q + k := by rw [Nat.mul_add, Nat.mul_one]
  -- the number there
  have g1 : k * q ≤ sa k B p := Nat.le_of_not_lt fun z => by
    have := las_mono h (show sa k B p ≤ k * q - 1 by omega)
    have := las_lt h (m := k * q) (by omega)
    omega
  have g2 : sa k B p ≤ k * (q + 1) := Nat.le_of_not_lt fun z => by
    have := las_mono h (show k * (q + 1) ≤ sa k B p - 1 by omega)
    omega
  generalize hm : sa k B p = m at a b c g1 g2
  have t := las_tim h (m := m) a
  obtain ⟨j, hj⟩ : ∃ j, p = las k B (m - 1) + 1 + j := ⟨p - (las k B (m - 1) + 1), by omega⟩
  have hjt : j < tim k B m := by omega
  rw [hj, hh_at h (by omega) hjt]
  by_cases e1 : m = k * q
  · -- the last one of k q
    have e2 : p = las k B m := by rw [e1] at c ⊢; omega
    have e3 : (m - 1) / k + 1 = q := by rw [div_pred0 hk a (by rw [e1]; exact Nat.mul_mod_right k q), e1, Nat.mul_div_cancel_left q (by omega)]
    have e4 : tim k B m = tim k B q + 1 := by rw [e1, tim_mul hk hq]
    have t2 := las_tim h (m := q) hq
    have e5 : (m - 1) / k = q - 1 := by omega
    rw [e5, show las k B (q - 1) + 1 + j = las k B q + 1 by omega, sa_first h]
  · by_cases e2 : m = k * (q + 1)
    · -- one of k (q + 1), not the last
      have e3 : (m - 1) / k + 1 = q + 1 := by rw [div_pred0 hk a (by rw [e2]; exact Nat.mul_mod_right k _), e2, Nat.mul_div_cancel_left _ (by omega)]
      have e4 : tim k B m = tim k B (q + 1) + 1 := by rw [e2, tim_mul hk (by omega)]
      have t2 := las_tim h (m := q + 1) (by omega)
      rw [Nat.add_sub_cancel] at t2
      rw [← e2] at h2
      have e5 : (m - 1) / k = q := by omega
      rw [e5]
      exact sa_eq h (by omega) (by rw [Nat.add_sub_cancel]; omega) (by omega)
    · -- between
      have e3 : (m - 1) / k = q := by
        have e4 : m - 1 = k * q + (m - 1 - k * q) := by omega
        rw [e4, Nat.mul_add_div (by omega), Nat.div_eq_of_lt (by omega), Nat.add_zero]
      have e4 : m % k ≠ 0 := by
        have e4 : m = k * q + (m - k * q) := by omega
        rw [e4, Nat.mul_add_mod, Nat.mod_eq_of_lt (by omega)]
        omega
      have e5 : tim k B m = 1 := tim_one hk (by omega) e4
      have e6 : j = 0 := by omega
      rw [e3, e6, Nat.add_zero, sa_first h]
/-- sums of k -/
def sumTo (f : Nat → Nat) : Nat → Nat
  | 0 => 0
  | i + 1 => sumTo f i + f i
theorem sumTo_succ (f : Nat → Nat) (i : Nat) : sumTo f (i + 1) = sumTo f i + f i := rfl
theorem sumTo_two {f : Nat → Nat} {q r : Nat} : ∀ k, (∀ i, i < k → i < r → f i = q + 1) → (∀ i, i < k → r ≤ i → f i = q) → sumTo f k = k * q + min r k
  | 0, _, _ => by show 0 = 0 * q + min r 0; rw [Nat.zero_mul, Nat.min_zero]
  | k + 1, h1, h2 => by
    have i := sumTo_two k (fun i hi => h1 i (by omega)) (fun i hi => h2 i (by omega))
    show sumTo f k + f k = _
    rw [i, Nat.add_mul, Nat.one_mul]
    by_cases e : k < r
    · rw [h1 k (by omega) e]; omega
    · rw [h2 k (by omega) (by omega)]; omega
/-- THE RULE: behind the beginning each says the sum of what those say whom it asks -/
theorem the_rule {k : Nat} {B : List Nat} (h : Beg k B) {n : Nat} (hn : las k B (k - 1) < n) : sumTo (fun i => hh k B ((n : Int) - i - 1)) k = sa k B n := by
  have hk := h.two
  obtain ⟨a, b, c⟩ := sa_at h n (by omega)
  have hm : k ≤ sa k B n := Nat.le_of_not_lt fun z => by
    have := las_mono h (show sa k B n ≤ k - 1 by omega)
    omega
  generalize sa k B n = m at a b c hm
  have em := Nat.div_add_mod m k
  have hr : m % k < k := Nat.mod_lt m (by omega)
  have hq : 0 < m / k := div_pos_of hk hm
  generalize m / k = q at em hq
  generalize m % k = r at em hr
  -- below k q, not below k (q - 1): q
  have low : ∀ p : Int, p < las k B (k * q) → (las k B (k * q - 1) : Int) + 1 - k ≤ p → hh k B p = q := by
    intro p h1 h2
    by_cases e : q = 1
    · subst e
      rw [Nat.mul_one] at h1
      by_cases z : p ≤ las k B (k - 1)
      · exact hh_low h z
      · have t := las_tim h (m := k) (by omega)
        have e1 : tim k B k = tim k B 1 + 1 := by
          have := tim_mul (B := B) hk (q := 1) (by omega)
          rwa [Nat.mul_one] at this
        obtain ⟨j, hj⟩ : ∃ j : Nat, p = ((las k B (k - 1) + 1 + j : Nat) : Int) := ⟨(p - las k B (k - 1) - 1).toNat, by omega⟩
        rw [hj, hh_at h (Nat.le_refl k) (by omega), Nat.div_eq_of_lt (show k - 1 < k by omega), las_zero hk]
        have t1 := las_tim h (m := 1) (by omega)
        rw [show 1 - 1 = 0 from rfl, las_zero hk] at t1
        exact sa_eq h (by omega) (by show las k B 0 < _; rw [las_zero hk]; omega) (by omega)
    · obtain ⟨q', rfl⟩ : ∃ q', q = q' + 1 := ⟨q - 1, by omega⟩
      have hq' : 0 < q' := by omega
      have e1 := las_between h hq' (k - 1) (by omega)
      have e2 : k * (q' + 1) = k * q' + k := by rw [Nat.mul_add, Nat.mul_one]
      have e3 := las_lt h (m := k * (q' + 1)) (by omega)
      rw [show k * (q' + 1) - 1 = k * q' + (k - 1) by omega, e1] at e3 h2
      obtain ⟨p', rfl⟩ : ∃ p' : Nat, p = (p' : Int) := ⟨p.toNat, by omega⟩
      exact hh_mid h hq' (by omega) (by omega)
  have kq : k * q + r = m := em
  have hnext : las k B (k * q) + k ≤ las k B (k * (q + 1)) := by
    have e1 := las_between h hq (k - 1) (by omega)
    have e2 : k * (q + 1) = k * q + k := by rw [Nat.mul_add, Nat.mul_one]
    have e3 := las_lt h (m := k * (q + 1)) (by omega)
    rw [show k * (q + 1) - 1 = k * q + (k - 1) by omega, e1] at e3
    omega
  by_cases hr0 : r = 0
  · subst hr0
    rw [Nat.add_zero] at kq
    have key := sumTo_two (f := fun i => hh k B ((n : Int) - i - 1)) (q := q) (r := 0) k (fun i _ hi => absurd hi (by omega)) (fun i hi _ => low _ (by rw [kq]; omega) (by rw [kq]; omega))
    rw [key]; omega
  · have e1 := las_between h hq r hr
    have e2 := las_between h hq (r - 1) (by omega)
    rw [show k * q + (r - 1) = m - 1 by omega] at e2
    rw [kq] at e1
    have en : n = las k B (k * q) + r := by omega
    have key := sumTo_two (f := fun i => hh k B ((n : Int) - i - 1)) (q := q) (r := r) k (fun i h1 hi => ?_) (fun i h1 hi => low _ (by omega) (by have := las_lt h (m := k * q) (by have := Nat.le_mul_of_pos_right k hq; omega); omega))
    · rw [key]; omega
    · obtain ⟨p, hp⟩ : ∃ p : Nat, (n : Int) - i - 1 = (p : Int) := ⟨n - i - 1, by omega⟩
      show hh k B ((n : Int) - i - 1) = q + 1
      rw [hp]
      exact hh_mid h hq (by omega) (by omega)
end Ab

/-! what is said, found sign by sign -/
namespace Ab
def ones (k : Nat) : Nat → Nat
  | 0 => 1
  | e + 1 => ones k e * k + 1
theorem ones_pos (k : Nat) : ∀ e, 0 < ones k e
  | 0 => by show 0 < 1; omega
  | e + 1 => by show 0 < _ + 1; omega
theorem ones_pow (k : Nat) : ∀ e, ones k (e + 1) = ones k e + k ^ (e + 1)
  | 0 => by show 1 * k + 1 = 1 + k ^ 1; rw [Nat.pow_one]; omega
  | e + 1 => by
    have i := ones_pow k e
    show ones k (e + 1) * k + 1 = ones k (e + 1) + k ^ (e + 2)
    rw [i, Nat.add_mul, show k ^ (e + 2) = k ^ (e + 1) * k from rfl]
    have : ones k e + k ^ (e + 1) = ones k e * k + 1 := i.symm
    omega
theorem ones_div {k : Nat} (hk : 2 ≤ k) (e : Nat) : ones k (e + 1) / k = ones k e := more_div hk (by omega)
theorem ones_mono (k : Nat) (e : Nat) : ones k e ≤ ones k (e + 1) := by rw [ones_pow]; exact Nat.le_add_right _ _
theorem ones_mod {k : Nat} (hk : 2 ≤ k) (e : Nat) : ones k e ≤ 2 * k ^ e := by
  induction e with
  | zero => show 1 ≤ 2 * 1; omega
  | succ e ih =>
    rw [ones_pow, Nat.pow_succ]
    have : k ^ e * 2 ≤ k ^ e * k := Nat.mul_le_mul_left _ hk
    omega
theorem pow_pos' {k : Nat} (hk : 2 ≤ k) (e : Nat) : 0 < k ^ e := Nat.pow_pos (by omega)
theorem ones_two {k : Nat} (hk : 2 ≤ k) : ∀ e, 2 ^ e ≤ ones k e
  | 0 => by show 1 ≤ 1; omega
  | e + 1 => by
    have i := ones_two hk e
    show 2 ^ (e + 1) ≤ ones k e * k + 1
    rw [Nat.pow_succ]
    have := Nat.mul_le_mul i hk
    omega
/-- the last place of a sign with noughts behind it -/
def rnd (k : Nat) (B : List Nat) (e s : Nat) : Nat := s * ones k e + e * rea B + sm B s
theorem las_round {k : Nat} {B : List Nat} (hk : 2 ≤ k) {s : Nat} (h1 : 0 < s) (h2 : s < k) : ∀ e, las k B (s * k ^ e) = rnd k B e s
  | 0 => by
    rw [Nat.pow_zero, Nat.mul_one, las_small h2]
    show _ = s * 1 + 0 * _ + _
    omega
  | e + 1 => by
    have hp := pow_pos' hk e
    have e1 : s * k ^ (e + 1) = s * k ^ e * k := by rw [Nat.pow_succ, Nat.mul_assoc]
    have h3 : k ≤ s * k ^ (e + 1) := by
      rw [e1]
      exact Nat.le_mul_of_pos_left k (Nat.mul_pos h1 hp)
    rw [las_step hk h3, show s * k ^ (e + 1) / k = s * k ^ e by rw [e1]; exact Nat.mul_div_cancel _ (by omega), las_round hk h1 h2 e]
    unfold rnd
    rw [ones_pow, Nat.mul_add, Nat.add_mul, Nat.one_mul]
    omega
theorem rnd_zero (k : Nat) (B : List Nat) (e : Nat) : rnd k B e 0 = e * rea B := by
  unfold rnd; rw [Nat.zero_mul, sm_zero]; omega
theorem las_next {k : Nat} {B : List Nat} (h : Beg k B) {N c : Nat} (hN : 0 < N) (hc : c < k) : ∀ i, las k B ((N * k + c) * k ^ i) = las k B (N * k ^ (i + 1)) + c * ones k i
  | 0 => by
    rw [Nat.pow_zero, Nat.mul_one, Nat.pow_one, Nat.mul_comm N k, las_between h hN c hc]
    show _ = _ + c * 1
    omega
  | i + 1 => by
    have hk := h.two
    have hp := pow_pos' hk i
    have ih := las_next h hN hc i
    have e1 : (N * k + c) * k ^ (i + 1) = (N * k + c) * k ^ i * k := by rw [Nat.pow_succ, Nat.mul_assoc]
    have e2 : N * k ^ (i + 2) = N * k ^ (i + 1) * k := by rw [Nat.pow_succ, Nat.mul_assoc]
    have h1 : k ≤ (N * k + c) * k ^ (i + 1) := by
      rw [e1]
      exact Nat.le_mul_of_pos_left k (Nat.mul_pos (Nat.add_pos_left (Nat.mul_pos hN (by omega)) c) hp)
    have h2 : k ≤ N * k ^ (i + 2) := by
      rw [e2]
      exact Nat.le_mul_of_pos_left k (Nat.mul_pos hN (pow_pos' hk _))
    rw [las_step hk h1, las_step hk h2]
    rw [show (N * k + c) * k ^ (i + 1) / k = (N * k + c) * k ^ i by rw [e1]; exact Nat.mul_div_cancel _ (by omega)]
    rw [show N * k ^ (i + 2) / k = N * k ^ (i + 1) by rw [e2]; exact Nat.mul_div_cancel _ (by omega)]
    rw [ih, ones_pow, Nat.mul_add]
    have e3 : (N * k + c) * k ^ (i + 1) = N * k ^ (i + 2) + c * k ^ (i + 1) := by
      rw [Nat.add_mul, Nat.pow_succ k (i + 1), Nat.mul_comm (k ^ (i + 1)) k, Nat.mul_assoc]
    rw [e3]
    omega
theorem rnd_ones (k : Nat) (B : List Nat) (e : Nat) : ones k e ≤ rnd k B e 1 := by
  unfold rnd; rw [Nat.one_mul]; omega
theorem exp_lt {k : Nat} {B : List Nat} (hk : 2 ≤ k) {e n x : Nat} (h : rnd k B e 1 ≤ n) (hn : n < 2 ^ x) : e < x := by
  have h1 := ones_two hk e
  have h2 := rnd_ones k B e
  exact (Nat.pow_lt_pow_iff_right (by decide : 1 < 2)).mp (Nat.lt_of_le_of_lt (Nat.le_trans h1 (Nat.le_trans h2 h)) hn)
/-- a part of a number said up to p -/
structure Pre (k : Nat) (B : List Nat) (p N i : Nat) : Prop where
  lo : las k B (N * k ^ i) ≤ p
  hi : p < las k B ((N + 1) * k ^ i)
theorem Pre.le {k : Nat} {B : List Nat} {p N i : Nat} (hk : 2 ≤ k) (x : Pre k B p N i) : N ≤ p := by
  have h := las_ge k B (N * k ^ i)
  have h2 := Nat.le_mul_of_pos_right N (pow_pos' hk i)
  have := x.lo
  omega
theorem Pre.next {k : Nat} {B : List Nat} (h : Beg k B) {p N i : Nat} (hN : 0 < N) (x : Pre k B p N (i + 1)) :
    Pre k B p (N * k + min (k - 1) ((p - las k B (N * k ^ (i + 1))) / ones k i)) i ∧
      p - las k B ((N * k + min (k - 1) ((p - las k B (N * k ^ (i + 1))) / ones k i)) * k ^ i) = p - las k B (N * k ^ (i + 1)) - min (k - 1) ((p - las k B (N * k ^ (i + 1))) / ones k i) * ones k i ∧
      min (k - 1) ((p - las k B (N * k ^ (i + 1))) / ones k i) * ones k i ≤ p - las k B (N * k ^ (i + 1)) := by
  have hk := h.two
  have ho := ones_pos k i
  generalize hl : p - las k B (N * k ^ (i + 1)) = left
  have hd := Nat.div_mul_le_self left (ones k i)
  have lo := x.lo
  have hi := x.hi
  generalize hc : min (k - 1) (left / ones k i) = c
  have c1 : c < k := by omega
  have c2 : c * ones k i ≤ left := Nat.le_trans (Nat.mul_le_mul_right _ (by omega)) hd
  have e := las_next h hN c1 i
  refine ⟨⟨by omega, ?_⟩, by omega, c2⟩
  by_cases z : c + 1 < k
  · have e2 := las_next h hN z i
    rw [show N * k + c + 1 = N * k + (c + 1) by omega, e2]
    have hlt : left < (c + 1) * ones k i := by
      have e3 : left / ones k i = c := by omega
      have := Nat.lt_mul_div_succ left ho
      rw [e3, Nat.mul_comm] at this
      exact this
    omega
  · have e3 : c + 1 = k := by omega
    have e4 : (N * k + c + 1) * k ^ i = (N + 1) * k ^ (i + 1) := by
      rw [show N * k + c + 1 = (N + 1) * k by rw [Nat.add_mul, Nat.one_mul]; omega, Nat.pow_succ, Nat.mul_comm (k ^ i) k, Nat.mul_assoc]
    rw [e4]
    exact hi
theorem Pre.end {k : Nat} {B : List Nat} (h : Beg k B) {p N : Nat} (x : Pre k B p N 0) : sa k B (p + 1) = N + 1 := by
  have lo := x.lo
  have hi := x.hi
  rw [Nat.pow_zero, Nat.mul_one] at lo hi
  exact sa_eq h (by omega) (by rw [Nat.add_sub_cancel]; omega) (by omega)
/-- the first exponent and sign -/
theorem Pre.start {k : Nat} {B : List Nat} (h : Beg k B) {p e s : Nat} (h1 : e = 0 ∨ rnd k B e 1 ≤ p) (h2 : p < rnd k B (e + 1) 1) (hs : s < k) (h3 : s = 0 ∨ rnd k B e s ≤ p) (h4 : s = k - 1 ∨ p < rnd k B e (s + 1)) :
    Pre k B p s e ∧ (0 < e → 0 < s) := by
  have hk := h.two
  have h5 : 0 < e → 0 < s := fun he => by
    rcases Nat.eq_zero_or_pos s with z | z
    · subst z
      rcases h1 with q | q
      · omega
      · rcases h4 with r | r
        · omega
        · rw [Nat.zero_add] at r; omega
    · exact z
  refine ⟨⟨?_, ?_⟩, h5⟩
  · rcases Nat.eq_zero_or_pos s with z | z
    · rw [z, Nat.zero_mul, las_zero hk]; exact Nat.zero_le _
    · rw [las_round hk z hs]; rcases h3 with q | q <;> omega
  · by_cases z : s + 1 < k
    · rw [las_round hk (by omega) z]
      rcases h4 with q | q <;> omega
    · have e1 : (s + 1) * k ^ e = 1 * k ^ (e + 1) := by rw [show s + 1 = k by omega, Nat.pow_succ, Nat.one_mul, Nat.mul_comm]
      rw [e1, las_round hk (by omega) (by omega)]
      exact h2
/-- what is said, gone one by one -/
def gonL (k : Nat) (B : List Nat) (n : Nat) : List Nat := (List.range n).map fun i => sa k B (i + 1)
theorem gonL_len (k : Nat) (B : List Nat) (n : Nat) : (gonL k B n).length = n := by
  unfold gonL; rw [List.length_map, List.length_range]
theorem gonL_at {k : Nat} {B : List Nat} {n i : Nat} (h : i < n) : (gonL k B n)[i]? = some (sa k B (i + 1)) := by
  unfold gonL
  rw [List.getElem?_map, List.getElem?_range h]
  rfl
theorem gonL_succ (k : Nat) (B : List Nat) (n : Nat) : gonL k B (n + 1) = gonL k B n ++ [sa k B (n + 1)] := by
  unfold gonL
  rw [List.range_succ, List.map_append]
  rfl
theorem gonL_take {k : Nat} {B : List Nat} {n m : Nat} (h : m ≤ n) : (gonL k B n).take m = gonL k B m := by
  unfold gonL
  rw [← List.map_take, List.take_range, Nat.min_eq_left h]
theorem gonL_more {k : Nat} {B : List Nat} (h : Beg k B) (j : Nat) : ∀ b, b ≤ tim k B (j + 1) → gonL k B (las k B j + b) = gonL k B (las k B j) ++ List.replicate b (j + 1)
  | 0, _ => by rw [Nat.add_zero, List.replicate_zero, List.append_nil]
  | b + 1, hb => by
    have t := las_tim h (m := j + 1) (by omega)
    rw [Nat.add_sub_cancel] at t
    have e : sa k B (las k B j + b + 1) = j + 1 := sa_eq h (by omega) (by rw [Nat.add_sub_cancel]; omega) (by omega)
    rw [← Nat.add_assoc, gonL_succ, gonL_more h j b (by omega), e, List.replicate_succ', List.append_assoc]
theorem gonL_begin {k : Nat} {B : List Nat} (h : Beg k B) {j b : Nat} (hb : B[j]? = some b) : gonL k B (las k B (j + 1)) = gonL k B (las k B j) ++ List.replicate b (j + 1) := by
  have hj : j < B.length := (List.getElem?_eq_some_iff.mp hb).1
  have hl := h.len
  have t := las_tim h (m := j + 1) (by omega)
  rw [Nat.add_sub_cancel] at t
  have e : tim k B (j + 1) = b := by
    rw [tim_small (by omega), Nat.add_sub_cancel, List.getD_eq_getElem?_getD, hb]; rfl
  rw [e] at t
  rw [t]
  exact gonL_more h j b (by omega)
theorem sum_rea : ∀ {B : List Nat}, (∀ b ∈ B, 1 ≤ b) → B.sum = rea B + B.length
  | [], _ => rfl
  | b :: r, h => by
    have i := sum_rea (B := r) fun x hx => h x (List.mem_cons_of_mem _ hx)
    have hb := h b (List.mem_cons_self ..)
    unfold rea sm at i ⊢
    rw [List.take_length] at i ⊢
    rw [List.map_cons, List.sum_cons, List.sum_cons, List.length_cons]
    omega
theorem folk_las {k : Nat} {B : List Nat} (h : Beg k B) : las k B (k - 1) = B.sum := by
  have hk := h.two
  have hl := h.len
  rw [las_small (by omega), sm_rea (by omega), sum_rea h.pos]
  omega
theorem sum_le_of {m : Nat} : ∀ {B : List Nat}, (∀ x ∈ B, x ≤ m) → B.sum ≤ B.length * m
  | [], _ => Nat.zero_le _
  | b :: r, h => by
    have i := sum_le_of (B := r) fun x hx => h x (List.mem_cons_of_mem _ hx)
    have hb := h b (List.mem_cons_self ..)
    rw [List.sum_cons, List.length_cons, Nat.add_mul, Nat.one_mul]
    omega
theorem rea_le {B : List Nat} (h : ∀ x ∈ B, 1 ≤ x) : rea B ≤ B.sum := by
  rw [sum_rea h]; omega
theorem heap_le {b : Nat} (hb : 2 ≤ b) (n : Nat) : heap b n ≤ n := by
  induction n using part_ind hb with
  | h n ih =>
    by_cases h : n < b
    · rw [heap_small h]; omega
    · have i := ih _ (by omega) rfl
      have h2 : n / b ≤ n / 2 := Nat.div_le_div_left hb (by omega)
      rw [heap_step (n := n) hb]
      omega
theorem las_lt_pow {k : Nat} {B : List Nat} (hk : 2 ≤ k) (hr : rea B < 2 ^ 400) {n : Nat} (hn : n < 2 ^ 900) : las k B n < 2 ^ 1000 := by
  have h1 := heap_le hk n
  have h2 := sm_le B (lead k n)
  have h3 : expo k n ≤ 900 := by
    by_cases z : n < k
    · rw [expo_small z]; omega
    · have e1 := digs_len hk n (by omega)
      have e2 := digs_bits hk n 900 hn
      omega
  have h4 : expo k n * rea B ≤ 900 * 2 ^ 400 := Nat.mul_le_mul h3 (by omega)
  have h5 : 2 * 2 ^ 900 + 901 * 2 ^ 400 < 2 ^ 1000 := by decide +kernel
  unfold las
  omega
theorem sa_le {k : Nat} {B : List Nat} (h : Beg k B) {n : Nat} (hn : 0 < n) : 0 < sa k B n ∧ sa k B n ≤ n := by
  obtain ⟨a, b, _⟩ := sa_at h n hn
  have := las_ge k B (sa k B n - 1)
  exact ⟨a, by omega⟩
theorem sa_last {k : Nat} {B : List Nat} (h : Beg k B) {m : Nat} (hm : 0 < m) : sa k B (las k B m) = m :=
  sa_eq h hm (las_lt h hm) (Nat.le_refl _)
theorem las_pos {k : Nat} {B : List Nat} {m : Nat} (hm : 0 < m) : 0 < las k B m := by
  have := las_ge k B m; omega
theorem sa_mono {k : Nat} {B : List Nat} (h : Beg k B) {m n : Nat} (hm : 0 < m) (e : m ≤ n) : sa k B m ≤ sa k B n := by
  obtain ⟨a1, b1, c1⟩ := sa_at h m hm
  obtain ⟨a2, b2, c2⟩ := sa_at h n (by omega)
  refine Nat.le_of_not_lt fun z => ?_
  have := las_mono h (show sa k B n ≤ sa k B m - 1 by omega)
  omega
theorem gon_count {k : Nat} {B : List Nat} (h : Beg k B) {N n : Nat} (hN : 0 < N) (hn : las k B N ≤ n) : (gonL k B n).count N = tim k B N := by
  have t := las_tim h hN
  have e1 := gonL_more h (N - 1) (tim k B N) (by rw [Nat.sub_add_cancel hN]; exact Nat.le_refl _)
  rw [Nat.sub_add_cancel hN, ← t] at e1
  have e2 : gonL k B n = gonL k B (las k B N) ++ (gonL k B n).drop (las k B N) := by
    rw [← gonL_take hn, List.take_append_drop]
  have z1 : (gonL k B (las k B (N - 1))).count N = 0 := by
    refine List.count_eq_zero.mpr fun hm => ?_
    obtain ⟨i, hi, ei⟩ := List.getElem_of_mem hm
    rw [gonL_len] at hi
    have e3 := gonL_at (k := k) (B := B) hi
    rw [List.getElem?_eq_getElem (by rw [gonL_len]; exact hi), ei] at e3
    have e4 := sa_mono h (m := i + 1) (n := las k B (N - 1)) (by omega) (by omega)
    have hN2 : 0 < N - 1 := Nat.pos_of_ne_zero fun q => by rw [q, las_zero h.two] at hi; omega
    rw [sa_last h hN2, ← Option.some.inj e3] at e4
    omega
  have z2 : ((gonL k B n).drop (las k B N)).count N = 0 := by
    refine List.count_eq_zero.mpr fun hm => ?_
    obtain ⟨i, hi, ei⟩ := List.getElem_of_mem hm
    rw [List.length_drop, gonL_len] at hi
    rw [List.getElem_drop] at ei
    have e3 := gonL_at (k := k) (B := B) (show las k B N + i < n by omega)
    rw [List.getElem?_eq_getElem (by rw [gonL_len]; omega), ei] at e3
    have e4 := sa_mono h (m := las k B N + 1) (n := las k B N + i + 1) (by omega) (by omega)
    rw [sa_first h, ← Option.some.inj e3] at e4
    omega
  rw [e2, e1, List.count_append, List.count_append, z1, z2, List.count_replicate_self]
  omega
end Ab

/-! helpers over the hand layer: a power, heaps but for one place, the defs of a text, the pen -/
namespace Ab
open PySem PySem.Spec PyProof.Rows L2
open C8 (Cal Mak Met pe_c pe_mk pe_mt pe_mt0)
def CPowW (i j : Int) : Prop := 0 ≤ j ∧ (Builtin.Int.intBits i : Int) * j ≤ 2 ^ 27
theorem op_powW {X : Cx} : OpR X (binaryOp .Pow) (rI CPowW fun i j => .int (i ^ j.toNat)) := opI fun _ _ _ _ _ _ _ hc q => pow_int hc.1 hc.2 q
/-- all that was tracked, but what stands at p, is as it was -/
def But (p : Addr) (H H' : Hp) : Prop := ∀ b o, b ≠ p → H b = some o → H' b = some o
theorem But.refl (p : Addr) (H : Hp) : But p H H := fun _ _ _ h => h
theorem But.trans {p : Addr} {H H1 H2 : Hp} (a : But p H H1) (b : But p H1 H2) : But p H H2 := fun c o n h => b c o n (a c o n h)
theorem But.same {p : Addr} {H H' : Hp} (a : Same H H') : But p H H' := fun c o _ h => a c o h
theorem But.upd {p : Addr} {H : Hp} {o : HO} : But p H (upd H p o) := fun b u n h => by rw [upd_ne n]; exact h
theorem same_upd {H : Hp} {p : Addr} {o : HO} (h : H p = none) : Same H (upd H p o) := fun b x e => by
  rw [upd_ne (ne_of_none e h)]
  exact e
theorem But.seq {K : PySem.W.Frag} {p a : Addr} {H H' : Hp} {xs : List V} (e : But p H H') (n : a ≠ p) (h : SqL K H a xs) : SqL K H' a xs := by
  rcases h with (h | ⟨o, h⟩) | h
  · exact .inl (.inl (e _ _ n h))
  · exact .inl (.inr ⟨o, e _ _ n h⟩)
  · exact .inr h
theorem sql {K : PySem.W.Frag} {H : Hp} {a : Addr} {xs : List V} (h : H a = some (.lst xs)) : SqL K H a xs := .inl (.inl h)
/-! ### the defs of a text -/
structure Dn (K : PySem.W.Frag) (mg : Str → Option Value) (x : Str) (st : Stmt) (ps : List Str) : Prop where
  ex : ∃ (f : Addr) (fd : FuncData), Fun K x x st f fd ∧ Binds K fd ps [] ∧ mg x = some (.ref f)
section
variable {P : Program} {w : World} {K : PySem.W.Frag} {mg : Str → Option Value} {base : Heap}
theorem Dn.cal {x : Str} {st : Stmt} {N ps : List Str} {k : Nat} {sp : Sp} (D : Dn K mg x st ps) (S : FnScope N ps (defScope st)) (len : ∀ vs H Q E, sp vs H Q E → vs.length = ps.length)
    (hbody : ∀ (cdv : Value) (f : Addr) (A : Around) (outer : List Env) (s : Shared) (H : Hp) (vs : List V) (Q : VK) (E : XK), Room k (A.deeper (envOfC x (defScope st) s.heap.objs.size f cdv)) → sp vs H Q E →
      ∃ t, PSs (cxOf CX0 P w K mg base N x (defScope st) f cdv A outer s H E).nox (defBody st) t ∧ t { nx := fun _ H' => Q .non H', rt := Q } (start N vs) H) : Cal P w K mg base (k + 1) x sp [] := by
  obtain ⟨f, fd, F, b, g⟩ := D.ex
  exact ⟨f, fd, ps, [], F.ok S len fun cdv A outer s H vs Q E hr h => hbody cdv f A outer s H vs Q E hr h, g, F.kp, b, .nil⟩
end
structure Mn (K : PySem.W.Frag) (C : Addr) (m qual : Str) (st : Stmt) (ps : List Str) : Prop where
  ex : ∃ (f : Addr) (fd : FuncData), Fun K m qual st f fd ∧ Binds K fd ps [] ∧ Meth K C m f
section
variable {P : Program} {w : World} {K : PySem.W.Frag} {mg : Str → Option Value} {base : Heap} {C : Addr} {m qual : Str} {st : Stmt} {N ps : List Str} {k : Nat} {sp : Sp}
theorem Mn.met (D : Mn K C m qual st ps) (c : Cls K C) (S : FnScope N ps (defScope st)) (len : ∀ vs H Q E, sp vs H Q E → vs.length = ps.length)
    (hbody : ∀ (cdv : Value) (f : Addr) (A : Around) (outer : List Env) (s : Shared) (H : Hp) (vs : List V) (Q : VK) (E : XK), Room k (A.deeper (envOfC qual (defScope st) s.heap.objs.size f cdv)) → sp vs H Q E →
      ∃ t, PSs (cxOf CX0 P w K mg base N qual (defScope st) f cdv A outer s H E).nox (defBody st) t ∧ t { nx := fun _ H' => Q .non H', rt := Q } (start N vs) H) : Met P w K mg base (k + 1) C m sp [] := by
  obtain ⟨f, fd, F, b, me⟩ := D.ex
  exact ⟨f, fd, ps, [], c, me, F.ok S len fun cdv A outer s H vs Q E hr h => hbody cdv f A outer s H vs Q E hr h, b, .nil⟩
theorem Mn.mak {x : Str} (D : Mn K C "__init__" qual st ps) (mk : PySem.W.makesIn K C = true) (kp : PySem.W.keepIn K (.ref C) = true) (g : mg x = some (.ref C)) (S : FnScope N ps (defScope st)) (len : ∀ vs H Q E, sp vs H Q E → vs.length = ps.length)
    (hbody : ∀ (cdv : Value) (f : Addr) (A : Around) (outer : List Env) (s : Shared) (H : Hp) (vs : List V) (Q : VK) (E : XK), Room k (A.deeper (envOfC qual (defScope st) s.heap.objs.size f cdv)) → sp vs H Q E →
      ∃ t, PSs (cxOf CX0 P w K mg base N qual (defScope st) f cdv A outer s H E).nox (defBody st) t ∧ t { nx := fun _ H' => Q .non H', rt := Q } (start N vs) H) : Mak P w K mg base (k + 1) x C sp [] := by
  obtain ⟨f, fd, F, b, me⟩ := D.ex
  exact ⟨f, fd, ps, [], ⟨mk, me.at_, me.fn, kp⟩, F.ok S len fun cdv A outer s H vs Q E hr h => hbody cdv f A outer s H vs Q E hr h, g, b, .nil⟩
end
/-! ### tests whose outcome is open -/
theorem itd {c A B : Prop} [Decidable c] (h1 : c → A) (h2 : ¬ c → B) : if decide c = true then A else B := by
  by_cases h : c
  · rw [if_pos (decide_eq_true h)]; exact h1 h
  · rw [if_neg (by rw [decide_eq_false h]; exact Bool.false_ne_true)]; exact h2 h
theorem itn {c A B : Prop} [Decidable c] (h1 : ¬ c → A) (h2 : c → B) : if (!decide c) = true then A else B := by
  by_cases h : c
  · rw [if_neg (by rw [decide_eq_true h]; exact Bool.false_ne_true)]; exact h2 h
  · rw [if_pos (by rw [decide_eq_false h]; rfl)]; exact h1 h
theorem itT {b : Bool} {A B : Prop} (e : b = true) (h : A) : if b = true then A else B := by
  rw [if_pos e]; exact h
theorem itF {b : Bool} {A B : Prop} (e : b = false) (h : B) : if b = true then A else B := by
  rw [if_neg (by rw [e]; exact Bool.false_ne_true)]; exact h
/-! ### numbers from 0 on as values -/
theorem mulW {a b x y : Nat} (ha : a < 2 ^ x) (hb : b < 2 ^ y) (h0 : 0 < x := by decide) (h1 : 0 < y := by decide) (h : x + y ≤ 1000000 := by decide) : CMulW (a : Int) (b : Int) :=
  wide_mul (a := x) (b := y) (by rw [Int.natAbs_natCast]; exact ha) (by rw [Int.natAbs_natCast]; exact hb) h0 h1 h
theorem divW {a : Int} {b y : Nat} (h : 0 < b) (hb : b < 2 ^ y) (h0 : 0 < y := by decide) (h9 : y ≤ 9000 := by decide) : CDivW a (b : Int) :=
  wide_div (b := y) (by omega) (by rw [Int.natAbs_natCast]; exact hb) h0 h9
theorem divP {a b x : Nat} (hb : 0 < b) (ha : a < 2 ^ x) (hx : x ≤ 4000 := by decide) : CDivP (a : Int) (b : Int) := by
  refine divp_ok (by omega) ?_
  have h := PyProof.Rows.intBits_le (k := x) (a := (a : Int)) (by rw [Int.natAbs_natCast]; exact ha)
  omega
/-! ### lists of whole numbers -/
def zs (l : List Nat) : List Int := l.map Int.ofNat
theorem zs_len (l : List Nat) : (zs l).length = l.length := List.length_map _
theorem zs_inj {l m : List Nat} (h : zs l = zs m) : l = m := (List.map_inj_right (fun _ _ e => Int.ofNat.inj e)).mp h
theorem zs_snoc (l : List Nat) (n : Nat) : (zs l).map V.int ++ [V.int (n : Nat)] = (zs (l ++ [n])).map V.int := by
  unfold zs; rw [List.map_append, List.map_append]; rfl
theorem zs_cons (l : List Nat) (n : Nat) : [V.int (n : Nat)] ++ (zs l).map V.int = (zs (n :: l)).map V.int := rfl
theorem zs_rev (l : List Nat) : ((zs l).map V.int).reverse = (zs l.reverse).map V.int := by
  unfold zs; rw [List.map_reverse, List.map_reverse]
theorem zs_at {l : List Nat} {j n : Nat} (h : l[j]? = some n) : ((zs l).map V.int)[j]? = some (V.int (n : Nat)) := by
  unfold zs; rw [List.getElem?_map, List.getElem?_map, h]; rfl
theorem zs_get {l : List Nat} {j : Nat} {x : V} (h : ((zs l).map V.int)[j]? = some x) : ∃ n : Nat, l[j]? = some n ∧ x = .int (n : Nat) := by
  unfold zs at h
  rw [List.getElem?_map, List.getElem?_map] at h
  cases e : l[j]? with
  | none => rw [e] at h; cases h
  | some d => rw [e] at h; exact ⟨d, rfl, (Option.some.inj h).symm⟩
theorem ints_len (l : List Int) : (l.map V.int).length = l.length := List.length_map _
theorem dp_ints {K : PySem.W.Frag} {H : Hp} : ∀ xs : List Int, DpAll K H (xs.map V.int) (xs.map PyData.int)
  | [] => .nil
  | x :: r => .cons (.int x) (dp_ints r)
theorem lay_ints : ∀ xs : List Int, PyData.canLayAll0 (xs.map PyData.int) = true ∧ PyData.depthAll (xs.map PyData.int) = 0
  | [] => ⟨by simp only [List.map_nil, PyData.canLayAll0], by simp only [List.map_nil, PyData.depthAll]⟩
  | x :: r => by
    obtain ⟨h1, h2⟩ := lay_ints r
    refine ⟨?_, ?_⟩
    · simp only [List.map_cons, PyData.canLayAll0, PyData.canLay0, h1, Bool.and_self]
    · simp only [List.map_cons, PyData.depthAll, PyData.depth, h2]; rfl
theorem shaped_ints (xs : List Int) : SeqAt.shaped (.list (xs.map PyData.int)) = true := by
  obtain ⟨h1, h2⟩ := lay_ints xs
  unfold SeqAt.shaped
  rw [Bool.and_eq_true]
  refine ⟨?_, decide_eq_true ?_⟩
  · simp only [PyData.canLay0, h1]
  · simp only [PyData.depth, h2]; omega
theorem eqv_ints : ∀ xs ys : List Int, PyData.eqvAll (xs.map PyData.int) (ys.map PyData.int) = decide (xs = ys)
  | [], [] => by simp [PyData.eqvAll]
  | [], _ :: _ => by simp [PyData.eqvAll]
  | _ :: _, [] => by simp [PyData.eqvAll]
  | x :: r, y :: t => by
    simp only [List.map_cons, PyData.eqvAll, PyData.eqv, eqv_ints r t, List.cons.injEq]
    by_cases e : x = y
    · by_cases f : r = t
      · simp [e, f]
      · simp [e, f]
    · simp [e]
def rEqI (K : PySem.W.Frag) : R2 := fun x y H Q => ∃ (a b : Addr) (xs ys : List Int), x = .ref a ∧ y = .ref b ∧ SqL K H a (xs.map V.int) ∧ SqL K H b (ys.map V.int) ∧ Q (.bl (decide (xs = ys))) H
def rNeI (K : PySem.W.Frag) : R2 := fun x y H Q => ∃ (a b : Addr) (xs ys : List Int), x = .ref a ∧ y = .ref b ∧ SqL K H a (xs.map V.int) ∧ SqL K H b (ys.map V.int) ∧ Q (.bl (!decide (xs = ys))) H
theorem op_eqI {X : Cx} (hu : X.A.units + 64 < cLine) : OpR X (compareOp .Eq) (rEqI X.K) := by
  intro pins s σ H x y v u Q I rx ry h
  obtain ⟨a, b, xs, ys, rfl, rfl, h1, h2, q⟩ := h
  refine op_eqD hu pins s σ H _ _ v u Q I rx ry ⟨_, _, .lst h1 (dp_ints xs), .lst h2 (dp_ints ys), shaped_ints xs, shaped_ints ys, ?_⟩
  rw [show PyData.eqv (.list (xs.map PyData.int)) (.list (ys.map PyData.int)) = decide (xs = ys) by simp only [PyData.eqv, eqv_ints]]
  exact q
theorem op_neI {X : Cx} (hu : X.A.units + 64 < cLine) : OpR X (compareOp .NotEq) (rNeI X.K) := by
  intro pins s σ H x y v u Q I rx ry h
  obtain ⟨a, b, xs, ys, rfl, rfl, h1, h2, q⟩ := h
  refine op_neD hu pins s σ H _ _ v u Q I rx ry ⟨_, _, .lst h1 (dp_ints xs), .lst h2 (dp_ints ys), shaped_ints xs, shaped_ints ys, ?_⟩
  rw [show PyData.eqv (.list (xs.map PyData.int)) (.list (ys.map PyData.int)) = decide (xs = ys) by simp only [PyData.eqv, eqv_ints]]
  exact q
theorem u64 {k : Nat} {A : Around} (hr : Room k A) : A.units + 64 < cLine := by have := hr.un; omega
theorem same_put {H H1 : Hp} {l : Addr} {o : HO} (s : Same H H1) (n : H l = none) : Same H (upd H1 l o) := fun b x e => by
  rw [upd_ne (ne_of_none e n)]
  exact s _ _ e
theorem emodN (l : Int) {m : Nat} (h : 0 < m) : ∃ r : Nat, r < m ∧ l % (m : Int) = (r : Int) := by
  have h1 := Int.emod_nonneg l (show (m : Int) ≠ 0 by omega)
  have h2 := Int.emod_lt_of_pos l (show (0 : Int) < m by omega)
  exact ⟨(l % (m : Int)).toNat, by omega, by omega⟩
theorem lt8000 {m : Nat} (h : m ≤ 2 ^ 64) : m < 2 ^ 8000 := Nat.lt_of_le_of_lt h (by decide +kernel)
theorem pow6 (i : Nat) : (10 ^ 6) ^ i ≤ 2 ^ (20 * i) := by
  rw [Nat.pow_mul]
  exact Nat.pow_le_pow_left (by decide) i
theorem far_lt {y f : Nat} (h : y ≤ (10 ^ 6) ^ (1 + f / 6)) (hf : f ≤ 200 := by decide) : y < 2 ^ 700 :=
  Nat.lt_of_le_of_lt (Nat.le_trans h (pow6 _)) (Nat.pow_lt_pow_right (by decide) (by omega))
/-! ### the pen: a dict of the cells, the place, what is left -/
def pkv (c : Addr) (a : Nat) (l : Int) : List (Key × V) := [(.inr "cells", .ref c), (.inr "at", .int a), (.inr "left", .int l)]
theorem k_ca : ¬ (("cells" : Str) = "at") := by decide +kernel
theorem k_cl : ¬ (("cells" : Str) = "left") := by decide +kernel
theorem k_al : ¬ (("at" : Str) = "left") := by decide +kernel
theorem k_ac : ¬ (("at" : Str) = "cells") := by decide +kernel
theorem k_lc : ¬ (("left" : Str) = "cells") := by decide +kernel
theorem k_la : ¬ (("left" : Str) = "at") := by decide +kernel
theorem val_cells (c : Addr) (a : Nat) (l : Int) : valV (pkv c a l) (.inr "cells") = some (.ref c) := by
  simp [valV, pkv, List.find?]
theorem val_at (c : Addr) (a : Nat) (l : Int) : valV (pkv c a l) (.inr "at") = some (.int a) := by
  simp [valV, pkv, List.find?, k_ca]
theorem val_left (c : Addr) (a : Nat) (l : Int) : valV (pkv c a l) (.inr "left") = some (.int l) := by
  simp [valV, pkv, List.find?, k_cl, k_al]
theorem put_at (c : Addr) (a b : Nat) (l : Int) : putK (pkv c a l) (.inr "at") (.int b) = pkv c b l := by
  simp [putK, pkv, k_ca, k_al, k_ac, k_la]
theorem put_left (c : Addr) (a : Nat) (l m : Int) : putK (pkv c a l) (.inr "left") (.int m) = pkv c a m := by
  simp [putK, pkv, k_cl, k_al, k_lc, k_la]
section
variable {H : Hp} {p c : Addr} {a : Nat} {l : Int}
theorem get_cells (h : H p = some (.dK (pkv c a l))) : DGet H p (.str "cells") (some (.ref c)) := by
  have e := DGet.k (k := .inr "cells") h
  rw [val_cells] at e
  exact e
theorem get_at (h : H p = some (.dK (pkv c a l))) : DGet H p (.str "at") (some (.int a)) := by
  have e := DGet.k (k := .inr "at") h
  rw [val_at] at e
  exact e
theorem get_left (h : H p = some (.dK (pkv c a l))) : DGet H p (.str "left") (some (.int l)) := by
  have e := DGet.k (k := .inr "left") h
  rw [val_left] at e
  exact e
theorem dput_at (h : H p = some (.dK (pkv c a l))) : DPut H p (.str "at") (.int ((a : Int) + 1)) (upd H p (.dK (pkv c (a + 1) l))) := by
  have e := DPut.k (k := .inr "at") (v := .int ((a + 1 : Nat) : Int)) h (small1000 (by show 3 ≤ 1000; omega))
  rw [put_at] at e
  exact e
theorem dput_left (m : Int) (h : H p = some (.dK (pkv c a l))) : DPut H p (.str "left") (.int m) (upd H p (.dK (pkv c a m))) := by
  have e := DPut.k (k := .inr "left") (v := .int m) h (small1000 (by show 3 ≤ 1000; omega))
  rw [put_left] at e
  exact e
end
theorem merge_pen (c : Addr) : mergeK [] [((.inr "cells" : Key), V.ref c), (.inr "at", .int 0), (.inr "left", .int 0)] = pkv c 0 0 := by
  simp [mergeK, putK, pkv, k_ca, k_cl, k_al, k_ac, k_lc, k_la]
structure PenAt (H : Hp) (p c : Addr) (n : Nat) : Prop where
  ex : ∃ (C : List Int) (a : Nat) (l : Int), H p = some (.dK (pkv c a l)) ∧ H c = some (.lst (C.map V.int)) ∧ C.length ≤ 63 ∧ a ≤ n
theorem PenAt.same {H H' : Hp} {p c : Addr} {n : Nat} (h : PenAt H p c n) (s : Same H H') : PenAt H' p c n := by
  obtain ⟨C, a, l, h1, h2, h3, h4⟩ := h.ex
  exact ⟨C, a, l, s _ _ h1, s _ _ h2, h3, h4⟩
theorem PenAt.le {H : Hp} {p c : Addr} {n m : Nat} (h : PenAt H p c n) (e : n ≤ m) : PenAt H p c m := by
  obtain ⟨C, a, l, h1, h2, h3, h4⟩ := h.ex
  exact ⟨C, a, l, h1, h2, h3, Nat.le_trans h4 e⟩
theorem PenAt.ne {H : Hp} {p c q : Addr} {n : Nat} {xs : List V} (h : PenAt H p c n) (e : H q = some (.lst xs)) : q ≠ p := by
  obtain ⟨C, a, l, h1, h2, h3, h4⟩ := h.ex
  exact ne_of e h1 (by intro z; cases z)
theorem PenAt.new {H : Hp} {p c D : Addr} {n : Nat} (h : PenAt H p c n) (e : H D = none) : D ≠ p ∧ D ≠ c := by
  obtain ⟨C, a, l, h1, h2, h3, h4⟩ := h.ex
  exact ⟨(ne_of_none h1 e).symm, (ne_of_none h2 e).symm⟩
theorem PenAt.put {H : Hp} {p c D : Addr} {n : Nat} {o : HO} (h : PenAt H p c n) (e : D ≠ p ∧ D ≠ c) : PenAt (upd H D o) p c n := by
  obtain ⟨C, a, l, h1, h2, h3, h4⟩ := h.ex
  exact ⟨C, a, l, by rw [upd_ne e.1.symm]; exact h1, by rw [upd_ne e.2.symm]; exact h2, h3, h4⟩
theorem But.put {p D : Addr} {H H1 : Hp} {o : HO} (s : But p H H1) (n : H D = none) : But p H (L2.upd H1 D o) := fun b x hb e => by
  rw [upd_ne (ne_of_none e n)]
  exact s _ _ hb e
/-- what a draw promises -/
def spDraw : Sp := fun vs H Q _ => ∃ (p m n c : Nat), vs = [.ref p, .int m] ∧ 0 < m ∧ m < 2 ^ 8000 ∧ PenAt H p c n ∧ n ≤ 1000000 ∧
  ∀ H' (r : Nat), r < m → PenAt H' p c (n + 1) → But p H H' → Q (.int r) H'
def spPen (K : PySem.W.Frag) : Sp := fun vs H Q _ => ∃ (a : Addr) (ns : List Int), vs = [.ref a] ∧ SqL K H a (ns.map V.int) ∧ ns.length ≤ 63 ∧
  ∀ H' p c, PenAt H' p c 0 → Same H H' → H p = none → Q (.ref p) H'
/-- a far number: of at most so many figures and seven -/
def spFar : Sp := fun vs H Q _ => ∃ (p f n c : Nat), vs = [.ref p, .int f] ∧ f ≤ 1000 ∧ PenAt H p c n ∧ n ≤ 900000 ∧
  ∀ H' (r : Nat), 0 < r → r ≤ (10 ^ 6) ^ (1 + f / 6) → PenAt H' p c (n + 2 + f / 6) → But p H H' → Q (.int r) H'
def spLaw (K : PySem.W.Frag) : Sp := fun vs H Q _ => ∃ (a : Addr) (ns : List Int), vs = [.ref a] ∧ SqL K H a (ns.map V.int) ∧ ns.length ≤ 63 ∧ ∀ H', Q (.bl true) H'
end Ab

/-! houses as objects -/
namespace Ab
open PySem PySem.Spec PyProof.Rows L2
open C8 (Cal Mak Met pe_c pe_mk pe_mt pe_mt0)
theorem opt5 {r : List (Option V)} (h : r.length = 5) : ∃ v0 v1 v2 v3 v4 : Option V, r = [v0, v1, v2, v3, v4] := by
  match r, h with
  | [v0, v1, v2, v3, v4], _ => exact ⟨v0, v1, v2, v3, v4, rfl⟩
theorem opt6 {r : List (Option V)} (h : r.length = 6) : ∃ v0 v1 v2 v3 v4 v5 : Option V, r = [v0, v1, v2, v3, v4, v5] := by
  match r, h with
  | [v0, v1, v2, v3, v4, v5], _ => exact ⟨v0, v1, v2, v3, v4, v5, rfl⟩
theorem opt7 {r : List (Option V)} (h : r.length = 7) : ∃ v0 v1 v2 v3 v4 v5 v6 : Option V, r = [v0, v1, v2, v3, v4, v5, v6] := by
  match r, h with
  | [v0, v1, v2, v3, v4, v5, v6], _ => exact ⟨v0, v1, v2, v3, v4, v5, v6, rfl⟩
theorem opt8 {r : List (Option V)} (h : r.length = 8) : ∃ v0 v1 v2 v3 v4 v5 v6 v7 : Option V, r = [v0, v1, v2, v3, v4, v5, v6, v7] := by
  match r, h with
  | [v0, v1, v2, v3, v4, v5, v6, v7], _ => exact ⟨v0, v1, v2, v3, v4, v5, v6, v7, rfl⟩
theorem opt9 {r : List (Option V)} (h : r.length = 9) : ∃ v0 v1 v2 v3 v4 v5 v6 v7 v8 : Option V, r = [v0, v1, v2, v3, v4, v5, v6, v7, v8] := by
  match r, h with
  | [v0, v1, v2, v3, v4, v5, v6, v7, v8], _ => exact ⟨v0, v1, v2, v3, v4, v5, v6, v7, v8, rfl⟩
theorem opt10 {r : List (Option V)} (h : r.length = 10) : ∃ v0 v1 v2 v3 v4 v5 v6 v7 v8 v9 : Option V, r = [v0, v1, v2, v3, v4, v5, v6, v7, v8, v9] := by
  match r, h with
  | [v0, v1, v2, v3, v4, v5, v6, v7, v8, v9], _ => exact ⟨v0, v1, v2, v3, v4, v5, v6, v7, v8, v9, rfl⟩
theorem opt11 {r : List (Option V)} (h : r.length = 11) : ∃ v0 v1 v2 v3 v4 v5 v6 v7 v8 v9 v10 : Option V, r = [v0, v1, v2, v3, v4, v5, v6, v7, v8, v9, v10] := by
  match r, h with
  | [v0, v1, v2, v3, v4, v5, v6, v7, v8, v9, v10], _ => exact ⟨v0, v1, v2, v3, v4, v5, v6, v7, v8, v9, v10, rfl⟩
theorem opt12 {r : List (Option V)} (h : r.length = 12) : ∃ v0 v1 v2 v3 v4 v5 v6 v7 v8 v9 v10 v11 : Option V, r = [v0, v1, v2, v3, v4, v5, v6, v7, v8, v9, v10, v11] := by
  match r, h with
  | [v0, v1, v2, v3, v4, v5, v6, v7, v8, v9, v10, v11], _ => exact ⟨v0, v1, v2, v3, v4, v5, v6, v7, v8, v9, v10, v11, rfl⟩
theorem opt13 {r : List (Option V)} (h : r.length = 13) : ∃ v0 v1 v2 v3 v4 v5 v6 v7 v8 v9 v10 v11 v12 : Option V, r = [v0, v1, v2, v3, v4, v5, v6, v7, v8, v9, v10, v11, v12] := by
  match r, h with
  | [v0, v1, v2, v3, v4, v5, v6, v7, v8, v9, v10, v11, v12], _ => exact ⟨v0, v1, v2, v3, v4, v5, v6, v7, v8, v9, v10, v11, v12, rfl⟩
theorem opt14 {r : List (Option V)} (h : r.length = 14) : ∃ v0 v1 v2 v3 v4 v5 v6 v7 v8 v9 v10 v11 v12 v13 : Option V, r = [v0, v1, v2, v3, v4, v5, v6, v7, v8, v9, v10, v11, v12, v13] := by
  match r, h with
  | [v0, v1, v2, v3, v4, v5, v6, v7, v8, v9, v10, v11, v12, v13], _ => exact ⟨v0, v1, v2, v3, v4, v5, v6, v7, v8, v9, v10, v11, v12, v13, rfl⟩
theorem opt15 {r : List (Option V)} (h : r.length = 15) : ∃ v0 v1 v2 v3 v4 v5 v6 v7 v8 v9 v10 v11 v12 v13 v14 : Option V, r = [v0, v1, v2, v3, v4, v5, v6, v7, v8, v9, v10, v11, v12, v13, v14] := by
  match r, h with
  | [v0, v1, v2, v3, v4, v5, v6, v7, v8, v9, v10, v11, v12, v13, v14], _ => exact ⟨v0, v1, v2, v3, v4, v5, v6, v7, v8, v9, v10, v11, v12, v13, v14, rfl⟩
def rSumT (K : PySem.W.Frag) : List V → Hp → VK → Prop := fun vs H Q => ∃ (a : Addr) (ns : List Int), vs = [V.ref a] ∧ SqT K H a (ns.map V.int) ∧ Q (.int ns.sum) H
theorem cr_sumT {X : Cx} (hc : X.calm = true) : CallR X (.builtin "sum") (rSumT X.K) := by
  intro pins s σ H vs us Q I r h
  obtain ⟨a, ns, rfl, hs, q⟩ := h
  obtain ⟨its, rv, ht, _⟩ := I.tuple hs
  rw [Vals.ref1 r]
  have hi := rv.ints
  obtain ⟨xs, e⟩ := hi.allInts.items
  have hn : numsOf (intItems xs).toList = ns := by rw [← e]; exact hi.numsOf
  rw [nums_intItems] at hn
  rw [e] at ht
  obtain ⟨o, h1, h2, h3⟩ := ht
  refine PySem.W.ktm_sumG (I.ok.hd hc) ⟨o, h1, h2, h3⟩ fun h' tk t' hk => ?_
  rw [preSum_eq, List.take_of_length_le (by simp), hn]
  exact ⟨.int _, H, I.kept hk, ⟨_, rfl⟩, q⟩
theorem f_kb : ¬ (("_k" : Str) = "_beginning") := by decide +kernel
theorem f_ks : ¬ (("_k" : Str) = "_sums") := by decide +kernel
theorem f_bs : ¬ (("_beginning" : Str) = "_sums") := by decide +kernel
theorem len_kb (tb k : Nat) : (putF "_beginning" (V.ref tb) (putF "_k" (V.int k) [])).length = 2 := by
  show (if ("_k" : Str) = "_beginning" then [(("_k" : Str), V.ref tb)] else (("_k" : Str), V.int k) :: putF "_beginning" (V.ref tb) []).length = 2
  rw [if_neg f_kb]
  rfl
def hfs (k : Nat) (tb ls : Addr) : List (Str × V) := putF "_sums" (.ref ls) (putF "_beginning" (.ref tb) (putF "_k" (.int k) []))
theorem hfs_k (k : Nat) (tb ls : Addr) : (hfs k tb ls).lookup ("_k" : Str) = some (.int k) := by
  unfold hfs
  rw [lookup_putF, if_neg f_ks, lookup_putF, if_neg f_kb, lookup_putF, if_pos rfl]
theorem hfs_b (k : Nat) (tb ls : Addr) : (hfs k tb ls).lookup ("_beginning" : Str) = some (.ref tb) := by
  unfold hfs
  rw [lookup_putF, if_neg f_bs, lookup_putF, if_pos rfl]
theorem hfs_s (k : Nat) (tb ls : Addr) : (hfs k tb ls).lookup ("_sums" : Str) = some (.ref ls) := by
  unfold hfs
  rw [lookup_putF, if_pos rfl]
theorem hfs_no (k : Nat) (tb ls : Addr) {m : Str} (h1 : ¬ m = "_k" := by decide +kernel) (h2 : ¬ m = "_beginning" := by decide +kernel) (h3 : ¬ m = "_sums" := by decide +kernel) : (hfs k tb ls).lookup m = none := by
  unfold hfs
  rw [lookup_putF, if_neg h3, lookup_putF, if_neg h2, lookup_putF, if_neg h1]
  rfl
def sumsL (B : List Nat) : List Nat := (List.range (B.length + 1)).map (sm B)
theorem sumsL_at {B : List Nat} {d : Nat} (h : d ≤ B.length) : (sumsL B)[d]? = some (sm B d) := by
  unfold sumsL
  rw [List.getElem?_map, List.getElem?_range (by omega)]
  rfl
theorem sumsL_len (B : List Nat) : (sumsL B).length = B.length + 1 := by
  unfold sumsL; rw [List.length_map, List.length_range]
theorem sumsL_last (B : List Nat) : atI ((zs (sumsL B)).map V.int) (-1) = some (.int (rea B : Nat)) := by
  unfold sumsL zs
  rw [List.range_succ, List.map_append, List.map_append, List.map_append]
  exact atI_last _ _
theorem zs_sum : ∀ l : List Nat, (zs l).sum = ((l.sum : Nat) : Int)
  | [] => rfl
  | x :: r => by
    show (Int.ofNat x :: zs r).sum = _
    rw [List.sum_cons, zs_sum r, List.sum_cons]
    exact (Int.natCast_add x r.sum).symm
theorem zs_repl (n x : Nat) : (List.replicate n [V.int (x : Nat)]).flatten = (zs (List.replicate n x)).map V.int := by
  unfold zs
  induction n with
  | zero => rfl
  | succ n ih => rw [List.replicate_succ, List.replicate_succ, List.flatten_cons, ih]; rfl
theorem zs_app (l m : List Nat) : (zs l).map V.int ++ (zs m).map V.int = (zs (l ++ m)).map V.int := by
  unfold zs; rw [List.map_append, List.map_append]
theorem zs_cut (l : List Nat) (m : Nat) : cutV ((zs l).map V.int) none (some (m : Int)) = (zs (l.take m)).map V.int := by
  unfold cutV
  rw [HT.sIx_none, HT.sIx_nat, List.drop_zero, Nat.sub_zero]
  unfold zs
  rw [List.map_take, List.map_take, List.length_map, List.length_map]
  by_cases h : m ≤ l.length
  · rw [Nat.min_eq_left h]
  · rw [Nat.min_eq_right (by omega), List.take_of_length_le (by rw [List.length_map, List.length_map]; exact Nat.le_refl _), List.take_of_length_le (by rw [List.length_map, List.length_map]; omega)]
theorem zs_count (l : List Nat) (n : Nat) : (zs l).count (n : Int) = l.count n := by
  induction l with
  | nil => rfl
  | cons x r ih =>
    show (Int.ofNat x :: zs r).count (n : Int) = _
    rw [List.count_cons, List.count_cons, ih]
    by_cases h : x = n
    · subst h; simp
    · have h2 : ¬ (Int.ofNat x = (n : Int)) := fun z => h (Int.ofNat.inj z)
      simp [h, h2]
      exact h2
theorem gonL_last (k : Nat) (B : List Nat) (n : Nat) : atI ((zs (gonL k B (n + 1))).map V.int) (-1) = some (.int (sa k B (n + 1) : Nat)) := by
  rw [gonL_succ, ← zs_snoc]
  exact atI_last _ _
theorem flat_zs (l : List Nat) : ((zs l).map V.int).all flatV = true := by
  rw [List.all_eq_true]
  intro x hx
  obtain ⟨y, _, rfl⟩ := List.mem_map.mp hx
  rfl
theorem in_zs (n : Nat) (l : List Nat) : inV (.int (n : Nat)) ((zs l).map V.int) = decide (n ∈ l) := by
  unfold inV
  induction l with
  | nil => rfl
  | cons x r ih =>
    show (eqV (V.int (x : Nat)) (.int (n : Nat)) || ((zs r).map V.int).any fun y => eqV y (.int (n : Nat))) = _
    rw [ih]
    show (((x : Int) == (n : Int)) || decide (n ∈ r)) = _
    by_cases h : n = x
    · subst h; simp
    · have h2 : ¬ ((x : Int) = (n : Int)) := fun z => h (Int.ofNat.inj z).symm
      simp [h, h2]
theorem zs_cut2 (l : List Nat) (a : Nat) (h : a ≤ l.length) : cutV ((zs l).map V.int) (some (a : Int)) none = (zs (l.drop a)).map V.int := by
  unfold cutV
  rw [HT.sIx_none, HT.sIx_nat, ints_len, zs_len, Nat.min_eq_left h]
  unfold zs
  rw [List.map_drop, List.map_drop, List.take_of_length_le (by rw [List.length_drop, List.length_map, List.length_map]; exact Nat.le_refl _)]
theorem cut_sub {xs : List V} {lo hi : Option Int} {x : V} (h : x ∈ cutV xs lo hi) : x ∈ xs := by
  unfold cutV at h
  exact List.mem_of_mem_drop (List.mem_of_mem_take h)
theorem cut_len (xs : List V) (lo hi : Option Int) : (cutV xs lo hi).length ≤ xs.length := by
  unfold cutV
  rw [List.length_take, List.length_drop]
  omega
theorem sub_zs {xs : List V} {l : List Nat} (h : ∀ x ∈ xs, x ∈ (zs l).map V.int) : ∃ m : List Nat, xs = (zs m).map V.int ∧ ∀ y ∈ m, y ∈ l := by
  induction xs with
  | nil => exact ⟨[], rfl, fun y hy => by cases hy⟩
  | cons x r ih =>
    obtain ⟨m, e1, e2⟩ := ih fun y hy => h y (List.mem_cons_of_mem _ hy)
    obtain ⟨z, hz, ez⟩ := List.mem_map.mp (h x (List.mem_cons_self ..))
    obtain ⟨n, hn, en⟩ := List.mem_map.mp hz
    subst en
    refine ⟨n :: m, by rw [← ez, e1]; rfl, fun y hy => ?_⟩
    rcases List.mem_cons.mp hy with q | q
    · rw [q]; exact hn
    · exact e2 y q
structure HouseAt (C : Addr) (H : Hp) (p : Addr) (k : Nat) (B : List Nat) : Prop where
  ex : ∃ dx tb ls, H p = some (.ins C dx (hfs k tb ls)) ∧ H tb = some (.tup ((zs B).map V.int)) ∧ H ls = some (.lst ((zs (sumsL B)).map V.int))
  beg : Beg k B
  top : k ≤ 30
  big : rea B < 2 ^ 400
theorem HouseAt.same {C : Addr} {H H' : Hp} {p k : Addr} {B : List Nat} (h : HouseAt C H p k B) (s : Same H H') : HouseAt C H' p k B := by
  obtain ⟨dx, tb, ls, h1, h2, h3⟩ := h.ex
  exact ⟨⟨dx, tb, ls, s _ _ h1, s _ _ h2, s _ _ h3⟩, h.beg, h.top, h.big⟩
theorem HouseAt.but {C : Addr} {H H' : Hp} {p k q c n : Addr} {B : List Nat} (h : HouseAt C H p k B) (P : PenAt H q c n) (s : But q H H') : HouseAt C H' p k B := by
  obtain ⟨dx, tb, ls, h1, h2, h3⟩ := h.ex
  obtain ⟨C', a, l, e1, _⟩ := P.ex
  exact ⟨⟨dx, tb, ls, s _ _ (ne_of h1 e1 (by intro z; cases z)) h1, s _ _ (ne_of h2 e1 (by intro z; cases z)) h2, s _ _ (ne_of h3 e1 (by intro z; cases z)) h3⟩, h.beg, h.top, h.big⟩
/-! ### what the class's methods promise -/
def spReach (C : Addr) : Sp := fun vs H Q _ => ∃ (p k : Nat) (B : List Nat), vs = [.ref p] ∧ HouseAt C H p k B ∧ Q (.int (rea B : Nat)) H
def spRound (C : Addr) : Sp := fun vs H Q _ => ∃ (p k : Nat) (B : List Nat) (e s o : Nat), vs = [.ref p, .int e, .int s, .int o] ∧ HouseAt C H p k B ∧ s < k ∧ o = ones k e ∧ e ≤ 100000 ∧ o < 2 ^ 100000 ∧ Q (.int (rnd k B e s : Nat)) H
def spFirst (C : Addr) : Sp := fun vs H Q _ => ∃ (p k : Nat) (B : List Nat) (n : Nat), vs = [.ref p, .int n] ∧ HouseAt C H p k B ∧ n < 2 ^ 3000 ∧
  ∀ H' t (e s : Nat), Same H H' → H t = none → H' t = some (.tup [.int e, .int s, .int (ones k e : Nat)]) → e < 3000 → s < k → Pre k B n s e → (0 < e → 0 < s) → Q (.ref t) H'
def spOut (C : Addr) : Sp := fun vs H Q _ => ∃ (p k : Nat) (B : List Nat) (n : Nat), vs = [.ref p, .int n] ∧ HouseAt C H p k B ∧ n < 2 ^ 3000 ∧
  ∀ H' (m : Nat), Same H H' → sa k B (n + 1) = m + 1 → Q (.int m) H'
def spSaid (C : Addr) : Sp := fun vs H Q _ => ∃ (p k : Nat) (B : List Nat) (n : Nat), vs = [.ref p, .int n] ∧ HouseAt C H p k B ∧ 0 < n ∧ n ≤ 2 ^ 3000 ∧
  ∀ H', Same H H' → Q (.int (sa k B n : Nat)) H'
def spFolk (C : Addr) : Sp := fun vs H Q _ => ∃ (p k : Nat) (B : List Nat), vs = [.ref p] ∧ HouseAt C H p k B ∧ Q (.int (las k B (k - 1) : Nat)) H
def spBase (C : Addr) : Sp := fun vs H Q _ => ∃ (p k : Nat) (B : List Nat), vs = [.ref p] ∧ HouseAt C H p k B ∧ Q (.int (k : Nat)) H
def spBegList (C : Addr) : Sp := fun vs H Q _ => ∃ (p k : Nat) (B : List Nat), vs = [.ref p] ∧ HouseAt C H p k B ∧ ∀ H' l, Same H H' → H l = none → H' l = some (.lst ((zs B).map V.int)) → Q (.ref l) H'
def spTimes (C : Addr) : Sp := fun vs H Q _ => ∃ (p k : Nat) (B : List Nat) (n : Nat), vs = [.ref p, .int n] ∧ HouseAt C H p k B ∧ 0 < n ∧ n < 2 ^ 3000 ∧ Q (.int (tim k B n : Nat)) H
def spLast (C : Addr) : Sp := fun vs H Q _ => ∃ (p k : Nat) (B : List Nat) (n : Nat), vs = [.ref p, .int n] ∧ HouseAt C H p k B ∧ n < 2 ^ 3000 ∧ Q (.int (las k B n : Nat)) H
def spFirstP (C : Addr) : Sp := fun vs H Q _ => ∃ (p k : Nat) (B : List Nat) (n : Nat), vs = [.ref p, .int n] ∧ HouseAt C H p k B ∧ 0 < n ∧ n < 2 ^ 3000 ∧ Q (.int (las k B (n - 1) + 1 : Nat)) H
/-- the beginning is handed in as a list -/
def spInit (K : PySem.W.Frag) (C : Addr) : Sp := fun vs H Q _ => ∃ (x k b dx : Nat) (B : List Nat), vs = [.ref x, .int k, .ref b] ∧ H x = some (.ins C dx []) ∧ H b = some (.lst ((zs B).map V.int)) ∧ Beg k B ∧ k ≤ 30 ∧ rea B < 2 ^ 400 ∧
  ∀ H', HouseAt C H' x k B → (∀ a o, H a = some o → a ≠ x → H' a = some o) → Q .non H'
def spGone : Sp := fun vs H Q _ => ∃ (k b n : Nat) (B : List Nat), vs = [.int k, .ref b, .int n] ∧ H b = some (.lst ((zs B).map V.int)) ∧ Beg k B ∧ k ≤ 30 ∧ B.sum ≤ 100000 ∧ n ≤ 100000 ∧
  ∀ H' l, Same H H' → H l = none → H' l = some (.lst ((zs (gonL k B n)).map V.int)) → Q (.ref l) H'
def spIsK : Sp := fun vs H Q _ => ∃ k : Nat, vs = [.int k] ∧ 2 ≤ k ∧ k ≤ 30 ∧ Q (.bl true) H
def spWhole : Sp := fun vs H Q _ => ∃ i : Int, vs = [.int i] ∧ Q (.bl true) H
def spFrom : Sp := fun vs H Q _ => ∃ i l : Int, vs = [.int i, .int l] ∧ Q (.bl (decide (l ≤ i))) H
def spRow : Sp := fun vs H Q _ => ∃ (b : Addr) (xs : List V), vs = [.ref b] ∧ H b = some (.lst xs) ∧ ∀ H', Same H H' → Q (.bl true) H'
def spIsBeg : Sp := fun vs H Q _ => ∃ (k b : Nat) (B : List Nat), vs = [.int k, .ref b] ∧ H b = some (.lst ((zs B).map V.int)) ∧ Beg k B ∧ k ≤ 30 ∧ ∀ H', Same H H' → Q (.bl true) H'
def spSums : Sp := fun vs H Q _ => ∃ (b : Addr) (B : List Nat), vs = [.ref b] ∧ H b = some (.lst ((zs B).map V.int)) ∧ B.length ≤ 30 ∧ (∀ x ∈ B, 1 ≤ x) ∧
  ∀ H' l, Same H H' → H l = none → H' l = some (.lst ((zs (sumsL B)).map V.int)) → Q (.ref l) H'
end Ab

/-! going on from heap to heap: what was known stays known; rules with two ways; calls by names alone -/
namespace Ab
open PySem PySem.Spec PyProof.Rows L2
open C8 (Cal Mak Met pe_c pe_mk pe_mt pe_mt0)
theorem Same.at_ {H H' : Hp} {a : Addr} {o : HO} (s : Same H H') (h : H a = some o) : H' a = some o := s _ _ h
def isDK : HO → Bool
  | .dK _ => true
  | _ => false
theorem But.at_ {H H' : Hp} {p c n : Nat} {a : Addr} {o : HO} (b : But p H H') (P : PenAt H p c n) (h : H a = some o) (hk : isDK o = false) : H' a = some o := by
  obtain ⟨C, i, l, e1, _⟩ := P.ex
  refine b _ _ (fun z => ?_) h
  subst z
  rw [h] at e1
  cases Option.some.inj e1
  cases hk
theorem But.to {H0 H H' : Hp} {p : Addr} (b : But p H0 H) (s : Same H H') : But p H0 H' := b.trans (But.same s)
theorem house_s {C : Addr} {H H' : Hp} {p k : Addr} {B : List Nat} (s : Same H H') (h : HouseAt C H p k B) : HouseAt C H' p k B := h.same s
theorem house_b {C : Addr} {H H' : Hp} {p k q c n : Addr} {B : List Nat} (s : But q H H') (P : PenAt H q c n) (h : HouseAt C H p k B) : HouseAt C H' p k B := h.but P s
theorem pen_s {H H' : Hp} {p c n : Nat} (s : Same H H') (h : PenAt H p c n) : PenAt H' p c n := h.same s
theorem same_t {H0 H H' : Hp} (s : Same H H') (h : Same H0 H) : Same H0 H' := h.trans s
theorem but_t {p : Addr} {H0 H H' : Hp} (s : But p H H') (h : But p H0 H) : But p H0 H' := h.trans s
theorem but_s {p : Addr} {H0 H H' : Hp} (s : Same H H') (h : But p H0 H) : But p H0 H' := h.to s
theorem but_of {p : Addr} {H0 H' : Hp} (s : Same H0 H') : But p H0 H' := But.same s
/-- a fact that omega is not to see -/
structure Hid (p : Prop) : Prop where
  out : p
theorem itd' {b : Bool} {A B : Prop} (h1 : b = true → A) (h2 : b = false → B) : if b = true then A else B := by
  cases b
  · exact h2 rfl
  · exact h1 rfl
theorem num_at {f : V → Hp → Prop} {i j : Int} {H : Hp} (e : i = j) (h : f (.int j) H) : f (.int i) H := by
  rw [e]; exact h
theorem hold {A G : Prop} (h : A) (k : A → G) : G := k h
section
variable {H H2 H0 : Hp} {p l a : Addr} {o o2 : HO}
theorem heap_s (hu : upd H p o = H2) (np : H p = none) : Same H H2 := hu ▸ same_upd np
theorem heap_e (hu : upd H p o = H2) : H2 p = some o := hu ▸ upd_same
theorem heap_o (hu : upd H l o = H2) (ha : H a = some o2) (ne : a ≠ l) : H2 a = some o2 := by rw [← hu, upd_ne ne]; exact ha
theorem heap_ss (hu : upd H l o = H2) (s : Same H0 H) (nl : H0 l = none) : Same H0 H2 := hu ▸ same_put s nl
theorem heap_b (hu : upd H l o = H2) (b : But p H0 H) (nl : H0 l = none) : But p H0 H2 := hu ▸ b.put nl
theorem heap_P {c n m : Nat} (hu : upd H l o = H2) (P : PenAt H p c n) (P0 : PenAt H0 p c m) (nl : H0 l = none) : PenAt H2 p c n := hu ▸ P.put (P0.new nl)
end
theorem ne_new {H : Hp} {a l : Addr} {o : HO} (h : H a = some o) (nl : H l = none) : a ≠ l := ne_of_none h nl
/-! ### a promise that is kept shut -/
structure Cut (sp : Sp) (vs : List V) (H : Hp) (Q : VK) (E : XK) : Prop where
  h : sp vs H Q E
def cut (sp : Sp) : Sp := fun vs H Q E => Cut sp vs H Q E
section
variable {P : Program} {w : World} {K : PySem.W.Frag} {mg : Str → Option Value} {base : Heap} {k : Nat} {x m : Str} {C : Addr} {sp sp' : Sp} {dvs : List V}
theorem fnok_wk {CX : CXT} {f : Addr} {fd : FuncData} {ps : List Str} (F : FnOk P w K mg base CX k f fd ps sp) (m : ∀ vs H Q E, sp' vs H Q E → sp vs H Q E) : FnOk P w K mg base CX k f fd ps sp' :=
  ⟨fun vs H Q E h => F.len vs H Q E (m _ _ _ _ h), fun A outer s H args us vs Q E hr e b r h => F.run A outer s H args us vs Q E hr e b r (m _ _ _ _ h)⟩
theorem cal_wk (c : Cal P w K mg base k x sp dvs) (m : ∀ vs H Q E, sp' vs H Q E → sp vs H Q E) : Cal P w K mg base k x sp' dvs := by
  obtain ⟨f, fd, ps, ds, F, r⟩ := c.ex
  exact ⟨f, fd, ps, ds, fnok_wk F m, r⟩
theorem cut_cal (c : Cal P w K mg base k x sp dvs) : Cal P w K mg base k x (cut sp) dvs := cal_wk c fun _ _ _ _ h => h.h
theorem cut_met (c : Met P w K mg base k C m sp dvs) : Met P w K mg base k C m (cut sp) dvs := by
  obtain ⟨f, fd, ps, ds, h1, h2, F, r⟩ := c.ex
  exact ⟨f, fd, ps, ds, h1, h2, fnok_wk F fun _ _ _ _ h => h.h, r⟩
theorem cut_mak (c : Mak P w K mg base k x C sp dvs) : Mak P w K mg base k x C (cut sp) dvs := by
  obtain ⟨f, fd, ps, ds, h1, F, r⟩ := c.ex
  exact ⟨f, fd, ps, ds, h1, fnok_wk F fun _ _ _ _ h => h.h, r⟩
end
/-! ### what is promised of the draws, as one uses it -/
theorem use_draw {H : Hp} {p c n : Nat} {i : Int} {Q : VK} {E : XK} (P : PenAt H p c n) (h0 : 0 < i) (h1 : i ≤ 2 ^ 64) (hn : n ≤ 1000000)
    (k : ∀ H' (r : Nat), (r : Int) < i → PenAt H' p c (n + 1) → But p H H' → Q (.int r) H') : Cut spDraw [.ref p, .int i] H Q E := by
  refine ⟨p, i.toNat, n, c, by rw [show ((i.toNat : Nat) : Int) = i by omega], by omega, lt8000 (by omega), P, hn, fun H' r hr P' b => k H' r (by omega) P' b⟩
theorem use_whole {H : Hp} {i : Int} {Q : VK} {E : XK} (k : Q (.bl true) H) : Cut spWhole [.int i] H Q E := ⟨i, rfl, k⟩
/-! ### two rules for one piece -/
theorem PE.or {X : Cx} {e : Expr} {t1 t2 : TE} (h1 : PE X e t1) (h2 : PE X e t2) : PE X e (fun σ H Q => t1 σ H Q ∨ t2 σ H Q) :=
  ⟨fun pins s σ H Q I q => q.elim (h1.run pins s σ H Q I) (h2.run pins s σ H Q I)⟩
/-! ### a list or a tuple -/
def sqO (tu : Bool) (xs : List V) : HO := bif tu then .tup xs else .lst xs
def SqQ (K : PySem.W.Frag) (tu : Bool) (H : Hp) (a : Addr) (xs : List V) : Prop := match tu with
  | true => SqT K H a xs
  | false => SqL K H a xs
section
variable {K : PySem.W.Frag} {tu : Bool} {H : Hp} {a : Addr} {xs : List V}
theorem sqq (h : H a = some (sqO tu xs)) : SqQ K tu H a xs := by
  cases tu
  · exact sql h
  · exact .inl (.inl h)
theorem SqQ.lt (h : SqQ K tu H a xs) : SqL K H a xs ∨ SqT K H a xs := by
  cases tu
  · exact .inl h
  · exact .inr h
theorem sqq_of (h : SqL K H a xs ∨ SqT K H a xs) : ∃ tu, SqQ K tu H a xs := h.elim (fun h => ⟨false, h⟩) (fun h => ⟨true, h⟩)
def Itq (K : PySem.W.Frag) (a : Addr) (tu : Bool) : It := match tu with
  | true => Itt K a
  | false => Itl K a
def iSeq (K : PySem.W.Frag) (te : TE) : TI := fun σ H R => te σ H fun x H1 => ∃ (a : Addr) (tu : Bool), x = .ref a ∧ (∃ xs, SqQ K tu H1 a xs) ∧ R (Itq K a tu) H1
theorem PI.or {X : Cx} {tg e : Expr} {t1 t2 : TI} (h1 : PI X tg e t1) (h2 : PI X tg e t2) : PI X tg e (fun σ H R => t1 σ H R ∨ t2 σ H R) :=
  ⟨fun pins s σ H R I q => q.elim (h1.run pins s σ H R I) (h2.run pins s σ H R I)⟩
/-- what stands in a place is a list or a tuple, where the place's value is read by a slot -/
theorem pi_seq {X : Cx} {tg e : Expr} {i : Nat} (he : PE X e (tVar i)) : PI X tg e (iSeq X.K (tVar i)) := by
  constructor
  intro pins s σ H R I q
  obtain ⟨x, hx, a, tu, rfl, hs, r⟩ := q
  cases tu
  · exact (pi_list he).run pins s σ H R I ⟨.ref a, hx, a, rfl, hs, r⟩
  · exact (pi_tup he).run pins s σ H R I ⟨.ref a, hx, a, rfl, hs, r⟩
theorem for_seq {g : TG} {tb : TS} {D : Ends} {σ : L2.St} (Pv : Nat → L2.St → Hp → Prop) (h0 : Pv 0 σ H) (hl : ∀ i σ H, i ≤ xs.length → Pv i σ H → SqQ K tu H a xs)
    (hs : ∀ i x σ H, xs[i]? = some x → Pv i σ H → g x σ H fun σ2 H2 => tb { D with nx := Pv (i + 1), ct := Pv (i + 1), bk := D.nx } σ2 H2) (hd : ∀ σ H, Pv xs.length σ H → D.nx σ H) :
    ∃ W : Nat → Nat → L2.St → Hp → Prop, (∃ m, W 0 m σ H) ∧ ∀ i m σ H, W i m σ H →
      ((Itq K a tu).stop i H ∧ D.nx σ H) ∨ ((Itq K a tu).go i H ∧ ∃ N : L2.St → Hp → Prop, (∀ σ' H', N σ' H' → ∃ m', m' < m ∧ W (i + 1) m' σ' H') ∧ ∀ x H', (Itq K a tu).yld i H x H' → g x σ H' fun σ2 H2 => tb { D with nx := N, ct := N, bk := D.nx } σ2 H2) := by
  cases tu
  · exact for_list Pv h0 hl hs hd
  · exact for_tup Pv h0 hl hs hd
theorem lc_seq {g : TG} {tt : TT} {te : TE} {vs : List Nat} {σ : L2.St} {H1 : Hp} {D : Addr} {Qd : Hp → Prop} (Pv : Nat → Hp → Prop) (h0 : Pv 0 (upd H1 D (.lst []))) (hl : ∀ i H, i ≤ xs.length → Pv i H → SqQ K tu H a xs)
    (hs : ∀ i x H, xs[i]? = some x → Pv i H → g x (wipe σ vs) H fun σ2 H2 => wipe σ2 vs = wipe σ vs ∧ tt σ2 H2 fun b H3 =>
      if b = true then te σ2 H3 fun y H4 => ∃ acc, H4 D = some (.lst acc) ∧ acc.length < sizeLine ∧ Pv (i + 1) (upd H4 D (.lst (acc ++ [y]))) else Pv (i + 1) H3) (hd : ∀ H, Pv xs.length H → Qd H) :
    ∃ W : Nat → Nat → Hp → Prop, (∃ m, W 0 m (upd H1 D (.lst []))) ∧ ∀ i m H, W i m H →
      ((Itq K a tu).stop i H ∧ Qd H) ∨ ((Itq K a tu).go i H ∧ ∃ Nx : Hp → Prop, (∀ H', Nx H' → ∃ m', m' < m ∧ W (i + 1) m' H') ∧ ∀ x H', (Itq K a tu).yld i H x H' → g x (wipe σ vs) H' fun σ2 H2 => wipe σ2 vs = wipe σ vs ∧ tt σ2 H2 fun b H3 =>
        if b = true then te σ2 H3 fun y H4 => ∃ acc, H4 D = some (.lst acc) ∧ acc.length < sizeLine ∧ Nx (upd H4 D (.lst (acc ++ [y]))) else Nx H3) := by
  cases tu
  · exact lc_list Pv h0 hl hs hd
  · exact lc_tup Pv h0 hl hs hd
end
theorem CallR.wk {X : Cx} {f : Value} {r r' : List V → Hp → VK → Prop} (h : CallR X f r) (m : ∀ vs H Q, r' vs H Q → r vs H Q) : CallR X f r' :=
  fun pins s σ H vs us Q I rv q => h pins s σ H vs us Q I rv (m vs H Q q)
def rLen (K : PySem.W.Frag) : List V → Hp → VK → Prop := fun xs H Q => ∃ (p : Addr) (ys : List V), xs = [.ref p] ∧ (SqL K H p ys ∨ SqT K H p ys) ∧ Q (.int ys.length) H
theorem call_len2 {X : Cx} : CallR X (.builtin "len") (rLen X.K) := CallR.wk call_len_seq fun vs H Q h => h
def rTup2 : List V → Hp → VK → Prop := fun vs H Q => ∃ (p : Addr) (tu : Bool) (ys : List V), vs = [.ref p] ∧ H p = some (sqO tu ys) ∧ ∀ H' t, Same H H' → H' t = some (.tup ys) → Q (.ref t) H'
theorem call_tup2 {X : Cx} : CallR X (.type "tuple") rTup2 := CallR.wk call_tuple_of fun vs H Q ⟨p, tu, ys, e, h, q⟩ => by
  refine ⟨p, ys, e, ?_⟩
  cases tu
  · exact .inl ⟨sql h, fun l nl => q _ l (same_upd nl) upd_same⟩
  · exact .inr ⟨.inl (.inl h), q H p (Same.refl H) h⟩
def rList2 (K : PySem.W.Frag) : List V → Hp → VK → Prop := fun vs H Q => ∃ (p : Addr) (tu : Bool) (ys : List V), vs = [.ref p] ∧ SqQ K tu H p ys ∧ ∀ H' t, Same H H' → H t = none → H' t = some (.lst ys) → Q (.ref t) H'
theorem call_list2 {X : Cx} : CallR X (.type "list") (rList2 X.K) := CallR.wk call_list_of fun vs H Q ⟨p, tu, ys, e, h, q⟩ => ⟨p, ys, e, h.lt, fun l nl => q _ l (same_upd nl) nl upd_same⟩
/-- over a list from its end, which the body leaves as it is -/
theorem for_rev {K : PySem.W.Frag} {a : Addr} {xs : List V} {g : TG} {tb : TS} {D : Ends} {σ : L2.St} {H : Hp} (Pv : Nat → L2.St → Hp → Prop) (h0 : Pv 0 σ H) (hl : ∀ i σ H, i ≤ xs.length → Pv i σ H → SqL K H a xs)
    (hs : ∀ i x σ H, i < xs.length → xs[xs.length - 1 - i]? = some x → Pv i σ H → g x σ H fun σ2 H2 => tb { D with nx := Pv (i + 1), ct := Pv (i + 1), bk := D.nx } σ2 H2) (hd : ∀ σ H, Pv xs.length σ H → D.nx σ H) :
    ∃ W : Nat → Nat → L2.St → Hp → Prop, (∃ m, W 0 m σ H) ∧ ∀ i m σ H, W i m σ H →
      ((Itv K a xs.length).stop i H ∧ D.nx σ H) ∨ ((Itv K a xs.length).go i H ∧ ∃ N : L2.St → Hp → Prop, (∀ σ' H', N σ' H' → ∃ m', m' < m ∧ W (i + 1) m' σ' H') ∧ ∀ x H', (Itv K a xs.length).yld i H x H' → g x σ H' fun σ2 H2 => tb { D with nx := N, ct := N, bk := D.nx } σ2 H2) := by
  refine ⟨fun i m σ H => m = xs.length - i ∧ i ≤ xs.length ∧ Pv i σ H, ⟨xs.length, by simp, Nat.zero_le _, h0⟩, fun i m σ H w => ?_⟩
  obtain ⟨rfl, hi, pv⟩ := w
  have hq := hl i σ H hi pv
  by_cases lt : i < xs.length
  · have hx : xs[xs.length - 1 - i]? = some xs[xs.length - 1 - i] := List.getElem?_eq_getElem (by omega)
    refine .inr ⟨⟨lt, xs, _, hq, hx⟩, Pv (i + 1), fun σ' H' p' => ⟨xs.length - (i + 1), by omega, rfl, lt, p'⟩, fun x H' y => ?_⟩
    obtain ⟨e, y⟩ := y
    subst e
    exact hs i x σ _ lt (y xs hq) pv
  · have e : i = xs.length := by omega
    subst e
    exact .inl ⟨Nat.le_refl _, hd σ H pv⟩
/-! ### what is promised where a list or a tuple is handed in -/
def spRow2 : Sp := fun vs H Q _ => ∃ (b : Addr) (tu : Bool) (xs : List V), vs = [.ref b] ∧ H b = some (sqO tu xs) ∧ ∀ H', Same H H' → Q (.bl true) H'
def spIsBeg2 : Sp := fun vs H Q _ => ∃ (k b : Nat) (tu : Bool) (B : List Nat), vs = [.int k, .ref b] ∧ H b = some (sqO tu ((zs B).map V.int)) ∧ Beg k B ∧ k ≤ 30 ∧ ∀ H', Same H H' → Q (.bl true) H'
def spSums2 : Sp := fun vs H Q _ => ∃ (b : Addr) (tu : Bool) (B : List Nat), vs = [.ref b] ∧ H b = some (sqO tu ((zs B).map V.int)) ∧ B.length ≤ 30 ∧ (∀ x ∈ B, 1 ≤ x) ∧
  ∀ H' l, Same H H' → H l = none → H' l = some (.lst ((zs (sumsL B)).map V.int)) → Q (.ref l) H'
def spInit2 (C : Addr) : Sp := fun vs H Q _ => ∃ (x k b dx : Nat) (tu : Bool) (B : List Nat), vs = [.ref x, .int k, .ref b] ∧ H x = some (.ins C dx []) ∧ H b = some (sqO tu ((zs B).map V.int)) ∧ Beg k B ∧ k ≤ 30 ∧ rea B < 2 ^ 400 ∧
  ∀ H', HouseAt C H' x k B → (∀ a o, H a = some o → a ≠ x → H' a = some o) → Q .non H'
/-! ### sizes -/
theorem szn {n : Nat} (h : n ≤ 1000000) : n ≤ sizeLine := Nat.le_trans h (by decide)
theorem szl {n : Nat} (h : n ≤ 1000000) : n < sizeLine := Nat.lt_of_le_of_lt h (by decide)
theorem mulS {a b : Int} (h1 : -(2 ^ 64) < a) (h2 : a < 2 ^ 64) (h3 : -(2 ^ 64) < b) (h4 : b < 2 ^ 64) : CMulW a b :=
  wide_mul (a := 64) (b := 64) (by omega) (by omega) (by decide) (by decide) (by decide)
theorem divS {a b : Int} (h0 : 0 < b) (h4 : b < 2 ^ 64) : CDivW a b :=
  wide_div (b := 64) h0 (by omega) (by decide) (by decide)
/-! ### calls by names alone -/
def tCallN (n : Nat) (sp : Sp) (gV : List V → List V → List V) (E : XK) (tk : TA) : TE := fun σ H Q => tk σ H fun zs H2 => zs.length = n ∧ sp (gV [] zs) H2 Q E
def perm {α : Type} (d : α) (js : List Nat) (ws : List α) : List α := js.map fun j => ws.getD j d
theorem vals_at : ∀ {zs : List V} {ws : List Value} (j : Nat), Vals zs ws → RelV (zs.getD j .non) (ws.getD j .none)
  | [], [], j, .nil => by simp only [List.getD_nil]; rfl
  | _ :: _, _ :: _, 0, .cons h _ => h
  | _ :: _, _ :: _, j + 1, .cons _ r => by simp only [List.getD_cons_succ]; exact vals_at j r
theorem vals_perm {zs : List V} {ws : List Value} (r : Vals zs ws) : ∀ js : List Nat, Vals (perm V.non js zs) (perm Value.none js ws)
  | [] => .nil
  | j :: js => .cons (vals_at j r) (vals_perm r js)
/-- how a def's names are bound that is called by names alone: the j-th parameter is the js[j]-th keyword -/
structure Kwn (K : PySem.W.Frag) (fd : FuncData) (ps ks : List Str) (js : List Nat) : Prop where
  to : ∀ (s : Shared) (ws : List Value), ws.length = ks.length → BindsTo s fd ⟨[], ks.zip ws⟩ (ps.zip (perm .none js ws))
  len : js.length = ps.length
structure CalN (P : Program) (w : World) (K : PySem.W.Frag) (mg : Str → Option Value) (base : Heap) (k : Nat) (x : Str) (sp : Sp) (ks : List Str) (js : List Nat) : Prop where
  ex : ∃ (f : Addr) (fd : FuncData) (ps : List Str), FnOk P w K mg base CX0 k f fd ps sp ∧ mg x = some (.ref f) ∧ PySem.W.keepIn K (.ref f) = true ∧ Kwn K fd ps ks js
section
variable {X : Cx} {k j : Nat} {f C : Addr} {fd : FuncData} {ps ks : List Str} {sp : Sp} {E : XK} {x m : Str} {p pos : Pos} {kws : List Keyword} {tk : TA} {js : List Nat}
theorem pe_cN (c : CalN X.prog X.w X.K X.mg X.base k x sp ks js) (hr : Room j X.A) (hk : k ≤ j) (hg : Gl X x) (hkw : PK X kws tk)
    (hall : (backToKw pos (keywordEach kws X.env)).all (·.1.isSome) = true := by rfl) (hks : (backToKw pos (keywordEach kws X.env)).filterMap (·.1) = ks := by rfl)
    (hdb : (x == ("__debug__" : Str)) = false := by decide) (hpl : ((backTo pos (starEach [] X.env)).any (·.1) || (backToKw pos (keywordEach kws X.env)).any (·.1.isNone)) = false := by rfl) :
    PE X (.Call (.Name x p) [] kws pos) (tCallN ks.length sp (fun _ zs => perm .non js zs) C8.E0 tk) := by
  obtain ⟨f, fd, ps, F, hm, kp, b⟩ := c.ex
  constructor
  intro pins s σ H Q I h
  apply wpAny_Call_Name_kw (ld_glob I hg hm ?_ hdb)
  apply PySem.W.callWith_KW0 (h₀ := X.base) I.ok.mod.kin kp hall ?_ hpl
  refine thn (hkw.run pos pins s σ H _ I h) fun ws s2 => ?_
  rintro ⟨zs, H2, I2, rz, l1, q⟩
  refine ⟨I2.kIn, ?_⟩
  rw [hks]
  have lw : ws.length = ks.length := by rw [← rz.length]; exact l1
  have ra := vals_perm rz js
  refine wpAny_call (codeAny_mono (F.run X.A X.stack s2 H2 ⟨[], ks.zip ws⟩ (perm .none js ws) (perm .non js zs) Q C8.E0 (hr.mono hk) I2.env0 (b.to s2 ws lw) ra q) fun r s' hq => ?_)
  match r, hq with
  | .error e, hq => exact (hq : False).elim
  | .ok (.ret u), hq => exact I2.after hq
end
structure MakN (P : Program) (w : World) (K : PySem.W.Frag) (mg : Str → Option Value) (base : Heap) (k : Nat) (x : Str) (C : Addr) (sp : Sp) (ks : List Str) (js : List Nat) : Prop where
  ex : ∃ (f : Addr) (fd : FuncData) (ps : List Str), Mk K C f ∧ FnOk P w K mg base CX0 k f fd ps sp ∧ mg x = some (.ref C) ∧ KBn K fd ps 1 ks (fun us ws => us ++ perm .none js ws) (fun vs zs => vs ++ perm .non js zs)
theorem pe_mkN {X : Cx} {k j : Nat} {C : Addr} {ks : List Str} {sp : Sp} {x : Str} {p pos : Pos} {kws : List Keyword} {tk : TA} {js : List Nat} (c : MakN X.prog X.w X.K X.mg X.base k x C sp ks js) (hr : Room j X.A) (hk : k + 1 ≤ j) (hg : Gl X x) (hkw : PK X kws tk)
    (hall : (backToKw pos (keywordEach kws X.env)).all (·.1.isSome) = true := by rfl) (hks : (backToKw pos (keywordEach kws X.env)).filterMap (·.1) = ks := by rfl)
    (hdb : (x == ("__debug__" : Str)) = false := by decide) (hpl : ((backTo pos (starEach [] X.env)).any (·.1) || (backToKw pos (keywordEach kws X.env)).any (·.1.isNone)) = false := by rfl) :
    PE X (.Call (.Name x p) [] kws pos) (tMakeK C 0 ks.length sp (fun vs zs => vs ++ perm .non js zs) C8.E0 tNil tk) := by
  obtain ⟨f, fd, ps, M, F, hm, b⟩ := c.ex
  exact pe_makeK0 M F (hr.mono hk) hg hm b pass0 hkw hall hks hdb hpl
theorem kwn_of {K : PySem.W.Frag} {x qual : Str} {st : Stmt} {f : Addr} {fd : FuncData} (F : Fun K x qual st f fd) {ps ks : List Str} {js : List Nat} (hl : js.length = ps.length)
    (h : ∀ (kV doc pm : Value) (an : Option Addr) (cdv ct : Value) (ws : List Value), ws.length = ks.length → bindArgs (PySem.W.fnOf x qual (defArgs st) (defBody st) (defScope st) .none kV doc pm an cdv ct) ⟨[], ks.zip ws⟩ = pure (ps.zip (perm .none js ws))) : Kwn K fd ps ks js := by
  obtain ⟨oc, od, kV, doc, pm, an, cdv, ct, osl, rfl, lk, hcd⟩ := F.ex
  exact ⟨fun s ws hw => .of_eq (h kV doc pm an cdv ct ws hw), hl⟩
theorem kbn_of {K : PySem.W.Frag} {x qual : Str} {st : Stmt} {f : Addr} {fd : FuncData} (F : Fun K x qual st f fd) {ps ks : List Str} {js : List Nat}
    (h : ∀ (kV doc pm : Value) (an : Option Addr) (cdv ct u : Value) (ws : List Value), ws.length = ks.length → bindArgs (PySem.W.fnOf x qual (defArgs st) (defBody st) (defScope st) .none kV doc pm an cdv ct) ⟨[u], ks.zip ws⟩ = pure (ps.zip (u :: perm .none js ws))) :
    KBn K fd ps 1 ks (fun us ws => us ++ perm .none js ws) (fun vs zs => vs ++ perm .non js zs) := by
  obtain ⟨oc, od, kV, doc, pm, an, cdv, ct, osl, rfl, lk, hcd⟩ := F.ex
  exact ⟨fun s us ws _ hu hw => match us, hu with | [u], _ => .of_eq (h kV doc pm an cdv ct u ws hw), fun r rz => r.append (vals_perm rz js)⟩
structure DnN (K : PySem.W.Frag) (mg : Str → Option Value) (x : Str) (st : Stmt) (ps ks : List Str) (js : List Nat) : Prop where
  ex : ∃ (f : Addr) (fd : FuncData), Fun K x x st f fd ∧ Kwn K fd ps ks js ∧ mg x = some (.ref f)
structure MnN (K : PySem.W.Frag) (C : Addr) (m qual : Str) (st : Stmt) (ps ks : List Str) (js : List Nat) : Prop where
  ex : ∃ (f : Addr) (fd : FuncData), Fun K m qual st f fd ∧ KBn K fd ps 1 ks (fun us ws => us ++ perm .none js ws) (fun vs zs => vs ++ perm .non js zs) ∧ Meth K C m f
section
variable {P : Program} {w : World} {K : PySem.W.Frag} {mg : Str → Option Value} {base : Heap}
theorem DnN.calN {x : Str} {st : Stmt} {N ps ks : List Str} {js : List Nat} {k : Nat} {sp : Sp} (D : DnN K mg x st ps ks js) (S : FnScope N ps (defScope st)) (len : ∀ vs H Q E, sp vs H Q E → vs.length = ps.length)
    (hbody : ∀ (cdv : Value) (f : Addr) (A : Around) (outer : List Env) (s : Shared) (H : Hp) (vs : List V) (Q : VK) (E : XK), Room k (A.deeper (envOfC x (defScope st) s.heap.objs.size f cdv)) → sp vs H Q E →
      ∃ t, PSs (cxOf CX0 P w K mg base N x (defScope st) f cdv A outer s H E).nox (defBody st) t ∧ t { nx := fun _ H' => Q .non H', rt := Q } (start N vs) H) : CalN P w K mg base (k + 1) x sp ks js := by
  obtain ⟨f, fd, F, b, g⟩ := D.ex
  exact ⟨f, fd, ps, F.ok S len fun cdv A outer s H vs Q E hr h => hbody cdv f A outer s H vs Q E hr h, g, F.kp, b⟩
theorem MnN.makN {C : Addr} {qual : Str} {st : Stmt} {N ps ks : List Str} {js : List Nat} {k : Nat} {sp : Sp} {x : Str} (D : MnN K C "__init__" qual st ps ks js) (mk : PySem.W.makesIn K C = true) (kp : PySem.W.keepIn K (.ref C) = true) (g : mg x = some (.ref C)) (S : FnScope N ps (defScope st)) (len : ∀ vs H Q E, sp vs H Q E → vs.length = ps.length)
    (hbody : ∀ (cdv : Value) (f : Addr) (A : Around) (outer : List Env) (s : Shared) (H : Hp) (vs : List V) (Q : VK) (E : XK), Room k (A.deeper (envOfC qual (defScope st) s.heap.objs.size f cdv)) → sp vs H Q E →
      ∃ t, PSs (cxOf CX0 P w K mg base N qual (defScope st) f cdv A outer s H E).nox (defBody st) t ∧ t { nx := fun _ H' => Q .non H', rt := Q } (start N vs) H) : MakN P w K mg base (k + 1) x C sp ks js := by
  obtain ⟨f, fd, F, b, me⟩ := D.ex
  exact ⟨f, fd, ps, ⟨mk, me.at_, me.fn, kp⟩, F.ok S len fun cdv A outer s H vs Q E hr h => hbody cdv f A outer s H vs Q E hr h, g, b⟩
end
end Ab

local macro_rules | `(tactic| walk_at "rd") => `(tactic| (repeat (first | refine ⟨_, _, rfl, rfl, ?_⟩ | refine ⟨_, rfl, ?_⟩ | refine ⟨_, _, rfl, ?_⟩ | refine ⟨rfl, ?_⟩)))
local macro_rules | `(tactic| walk_at "tr") => `(tactic| first | assumption | (show _ = some _; first | exact Ab.Same.at_ (by assumption) (by walk_at "tr") | exact Ab.But.at_ (by assumption) (by assumption) (by walk_at "tr") (by rfl)) | (show Ab.HouseAt _ _ _ _ _; first | exact Ab.house_s (by assumption) (by walk_at "tr") | exact Ab.house_b (by assumption) (by assumption) (by walk_at "tr")) | (show Ab.PenAt _ _ _ _; exact Ab.pen_s (by assumption) (by walk_at "tr")) | (show L2.SqL _ _ _ _; exact Ab.sql (by walk_at "tr")) | (show L2.Same _ _; first | exact Ab.same_t (by assumption) (by walk_at "tr") | exact L2.Same.refl _) | (show Ab.But _ _ _; first | exact Ab.but_t (by assumption) (by walk_at "tr") | exact Ab.but_s (by assumption) (by walk_at "tr") | exact Ab.But.refl _ _))
local macro_rules | `(tactic| walk_at "sz") => `(tactic| first | exact Ab.szn (by first | omega | (simp only [Ab.ints_len, Ab.zs_len, List.length_append, List.length_cons, List.length_nil, List.length_map, List.length_replicate, Ab.gonL_len]; omega)) | exact Ab.szl (by first | omega | (simp only [Ab.ints_len, Ab.zs_len, List.length_append, List.length_cons, List.length_nil, List.length_map, List.length_replicate, Ab.gonL_len]; omega)))
local macro_rules | `(tactic| walk_at "mw") => `(tactic| first | exact Ab.mulS (by omega) (by omega) (by omega) (by omega) | exact Ab.divS (by omega) (by omega))
local macro_rules | `(tactic| walk_at "om") => `(tactic| first | (split <;> omega) | omega)

namespace Ab
open PySem PySem.Spec PyProof.Rows L2
open C8 (Cal Mak Met pe_c pe_mk pe_mt pe_mt0)
def topS (i : Nat) : Stmt := PySem.Challenge.pw_askback_k23_whole_far_chains_walked.main.body.getD i (.Pass ⟨0, 0, 0, 0⟩)
abbrev s_exponent_of : Stmt := topS 13
theorem sc_exponent_of : FnScope ["number", "base", "exponent"] ["number", "base"] (defScope s_exponent_of) := ⟨rfl, rfl, rfl, by decide +kernel, rfl, by decide +kernel, by decide +kernel⟩
abbrev s_first_sign : Stmt := topS 14
theorem sc_first_sign : FnScope ["number", "base"] ["number", "base"] (defScope s_first_sign) := ⟨rfl, rfl, rfl, by decide +kernel, rfl, by decide +kernel, by decide +kernel⟩
abbrev s_heap_of : Stmt := topS 15
theorem sc_heap_of : FnScope ["number", "base", "heap"] ["number", "base"] (defScope s_heap_of) := ⟨rfl, rfl, rfl, by decide +kernel, rfl, by decide +kernel, by decide +kernel⟩
abbrev s_is_whole : Stmt := topS 7
theorem sc_is_whole : FnScope ["thing"] ["thing"] (defScope s_is_whole) := ⟨rfl, rfl, rfl, by decide +kernel, rfl, by decide +kernel, by decide +kernel⟩
abbrev s_is_whole_from : Stmt := topS 8
theorem sc_is_whole_from : FnScope ["thing", "least"] ["thing", "least"] (defScope s_is_whole_from) := ⟨rfl, rfl, rfl, by decide +kernel, rfl, by decide +kernel, by decide +kernel⟩
abbrev s_is_row : Stmt := topS 9
theorem sc_is_row : FnScope ["thing"] ["thing"] (defScope s_is_row) := ⟨rfl, rfl, rfl, by decide +kernel, rfl, by decide +kernel, by decide +kernel⟩
abbrev s_is_k : Stmt := topS 18
theorem sc_is_k : FnScope ["thing"] ["thing"] (defScope s_is_k) := ⟨rfl, rfl, rfl, by decide +kernel, rfl, by decide +kernel, by decide +kernel⟩
abbrev s_is_beginning : Stmt := topS 19
theorem sc_is_beginning : FnScope ["k", "thing", "many"] ["k", "thing"] (defScope s_is_beginning) := ⟨rfl, rfl, rfl, by decide +kernel, rfl, by decide +kernel, by decide +kernel⟩
abbrev s_lessened_sums : Stmt := topS 20
theorem sc_lessened_sums : FnScope ["beginning", "sums", "many"] ["beginning"] (defScope s_lessened_sums) := ⟨rfl, rfl, rfl, by decide +kernel, rfl, by decide +kernel, by decide +kernel⟩
abbrev s_House_init : Stmt := inClass (topS 21) 0
theorem sc_House_init : FnScope ["self", "k", "beginning"] ["self", "k", "beginning"] (defScope s_House_init) := ⟨rfl, rfl, rfl, by decide +kernel, rfl, by decide +kernel, by decide +kernel⟩
abbrev s_House_base : Stmt := inClass (topS 21) 2
theorem sc_House_base : FnScope ["self"] ["self"] (defScope s_House_base) := ⟨rfl, rfl, rfl, by decide +kernel, rfl, by decide +kernel, by decide +kernel⟩
abbrev s_House_reach : Stmt := inClass (topS 21) 4
theorem sc_House_reach : FnScope ["self"] ["self"] (defScope s_House_reach) := ⟨rfl, rfl, rfl, by decide +kernel, rfl, by decide +kernel, by decide +kernel⟩
abbrev s_House_folk : Stmt := inClass (topS 21) 5
theorem sc_House_folk : FnScope ["self"] ["self"] (defScope s_House_folk) := ⟨rfl, rfl, rfl, by decide +kernel, rfl, by decide +kernel, by decide +kernel⟩
abbrev s_House_first_place : Stmt := inClass (topS 21) 8
theorem sc_House_first_place : FnScope ["self", "number"] ["self", "number"] (defScope s_House_first_place) := ⟨rfl, rfl, rfl, by decide +kernel, rfl, by decide +kernel, by decide +kernel⟩
abbrev s_House_last_place : Stmt := inClass (topS 21) 9
theorem sc_House_last_place : FnScope ["self", "number", "exponent", "ahead"] ["self", "number"] (defScope s_House_last_place) := ⟨rfl, rfl, rfl, by decide +kernel, rfl, by decide +kernel, by decide +kernel⟩
abbrev s_House_last_of_round : Stmt := inClass (topS 21) 12
theorem sc_House_last_of_round : FnScope ["self", "exponent", "sign", "ones"] ["self", "exponent", "sign", "ones"] (defScope s_House_last_of_round) := ⟨rfl, rfl, rfl, by decide +kernel, rfl, by decide +kernel, by decide +kernel⟩
abbrev s_House_first_round : Stmt := inClass (topS 21) 11
theorem sc_House_first_round : FnScope ["self", "place", "exponent", "ones", "sign"] ["self", "place"] (defScope s_House_first_round) := ⟨rfl, rfl, rfl, by decide +kernel, rfl, by decide +kernel, by decide +kernel⟩
abbrev s_House_said_out : Stmt := inClass (topS 21) 10
theorem sc_House_said_out : FnScope ["self", "place", "exponent", "sign", "ones", "number", "left", "_"] ["self", "place"] (defScope s_House_said_out) := ⟨rfl, rfl, rfl, by decide +kernel, rfl, by decide +kernel, by decide +kernel⟩
abbrev s_House_said : Stmt := inClass (topS 21) 6
theorem sc_House_said : FnScope ["self", "place"] ["self", "place"] (defScope s_House_said) := ⟨rfl, rfl, rfl, by decide +kernel, rfl, by decide +kernel, by decide +kernel⟩
abbrev s_asked_first_behind : Stmt := topS 2
theorem sc_asked_first_behind : FnScope ["house", "place"] ["house", "place"] (defScope s_asked_first_behind) := ⟨rfl, rfl, rfl, by decide +kernel, rfl, by decide +kernel, by decide +kernel⟩
abbrev s_leads : Stmt := topS 3
theorem sc_leads : FnScope ["house", "place", "place_asked"] ["house", "place"] (defScope s_leads) := ⟨rfl, rfl, rfl, by decide +kernel, rfl, by decide +kernel, by decide +kernel⟩
abbrev s_number_at : Stmt := topS 5
theorem sc_number_at : FnScope ["house", "place", "number"] ["house", "place"] (defScope s_number_at) := ⟨rfl, rfl, rfl, by decide +kernel, rfl, by decide +kernel, by decide +kernel⟩
abbrev s_chain : Stmt := topS 4
theorem sc_chain : FnScope ["house", "place", "base", "folk", "reach", "places", "number", "is_first"] ["house", "place"] (defScope s_chain) := ⟨rfl, rfl, rfl, by decide +kernel, rfl, by decide +kernel, by decide +kernel⟩
abbrev s_pen : Stmt := topS 23
theorem sc_pen : FnScope ["_law_script", "_law_most", "_law_cell"] ["_law_script"] (defScope s_pen) := ⟨rfl, rfl, rfl, by decide +kernel, rfl, by decide +kernel, by decide +kernel⟩
abbrev s_draw : Stmt := topS 24
theorem sc_draw : FnScope ["_law_pen_here", "_law_many", "_law_digit", "_law_at", "_law_cell", "_law_number_here", "_law_turn"] ["_law_pen_here", "_law_many"] (defScope s_draw) := ⟨rfl, rfl, rfl, by decide +kernel, rfl, by decide +kernel, by decide +kernel⟩
abbrev s_pick : Stmt := topS 25
theorem sc_pick : FnScope ["_law_pen_here", "_law_some"] ["_law_pen_here", "_law_some"] (defScope s_pick) := ⟨rfl, rfl, rfl, by decide +kernel, rfl, by decide +kernel, by decide +kernel⟩
abbrev s_far : Stmt := topS 26
theorem sc_far : FnScope ["_law_pen_here", "_law_pieces", "_law_number_here", "_law_j"] ["_law_pen_here", "_law_pieces"] (defScope s_far) := ⟨rfl, rfl, rfl, by decide +kernel, rfl, by decide +kernel, by decide +kernel⟩
abbrev s_base : Stmt := topS 27
theorem sc_base : FnScope ["_law_pen_here", "_law_way"] ["_law_pen_here"] (defScope s_base) := ⟨rfl, rfl, rfl, by decide +kernel, rfl, by decide +kernel, by decide +kernel⟩
abbrev s_begun : Stmt := topS 28
theorem sc_begun : FnScope ["_law_pen_here", "_law_base_here", "_law_pieces", "_law_found", "_law_j", "_law_way"] ["_law_pen_here", "_law_base_here", "_law_pieces"] (defScope s_begun) := ⟨rfl, rfl, rfl, by decide +kernel, rfl, by decide +kernel, by decide +kernel⟩
abbrev s_house : Stmt := topS 29
theorem sc_house : FnScope ["_law_pen_here", "_law_base_here", "_law_begun_here"] ["_law_pen_here", "_law_base_here", "_law_begun_here"] (defScope s_house) := ⟨rfl, rfl, rfl, by decide +kernel, rfl, by decide +kernel, by decide +kernel⟩
abbrev s_is_number : Stmt := topS 30
theorem sc_is_number : FnScope ["_law_thing"] ["_law_thing"] (defScope s_is_number) := ⟨rfl, rfl, rfl, by decide +kernel, rfl, by decide +kernel, by decide +kernel⟩
abbrev s_times : Stmt := topS 31
theorem sc_times : FnScope ["_law_base_here", "_law_begun_here", "_law_number_here", "_law_left", "_law_more"] ["_law_base_here", "_law_begun_here", "_law_number_here"] (defScope s_times) := ⟨rfl, rfl, rfl, by decide +kernel, rfl, by decide +kernel, by decide +kernel⟩
abbrev s_last : Stmt := topS 32
theorem sc_last : FnScope ["_law_base_here", "_law_begun_here", "_law_number_here", "_law_left", "_law_heap", "_law_deep", "_law_reach"] ["_law_base_here", "_law_begun_here", "_law_number_here"] (defScope s_last) := ⟨rfl, rfl, rfl, by decide +kernel, rfl, by decide +kernel, by decide +kernel⟩
abbrev s_number : Stmt := topS 33
theorem sc_number : FnScope ["_law_pen_here", "_law_base_here", "_law_pieces", "_law_way", "_law_number_here", "_law_j"] ["_law_pen_here", "_law_base_here", "_law_pieces"] (defScope s_number) := ⟨rfl, rfl, rfl, by decide +kernel, rfl, by decide +kernel, by decide +kernel⟩
abbrev s_walked : Stmt := topS 34
theorem sc_walked : FnScope ["_law_base_here", "_law_begun_here", "_law_at", "_law_told", "_law_reach", "_law_j", "_law_number_here", "_law_one"] ["_law_base_here", "_law_begun_here", "_law_at", "_law_told"] (defScope s_walked) := ⟨rfl, rfl, rfl, by decide +kernel, rfl, by decide +kernel, by decide +kernel⟩
abbrev s_law : Stmt := topS 35
theorem sc_law : FnScope ["_law_script", "_law_pen_here", "_law_base_here", "_law_begun_here", "_law_home", "_law_number_here", "_law_times_here", "_law_way", "_law_nth", "_law_at", "_law_told", "_law_kept", "_law_some", "_law_spot", "_law_j"] ["_law_script"] (defScope s_law) := ⟨rfl, rfl, rfl, by decide +kernel, rfl, by decide +kernel, by decide +kernel⟩
structure Txt (K : PySem.W.Frag) (mg : Str → Option Value) (C_House : Addr) : Prop where
  b_abs : mg "abs" = none
  b_all : mg "all" = none
  b_bool : mg "bool" = none
  b_int : mg "int" = none
  b_isinstance : mg "isinstance" = none
  b_len : mg "len" = none
  b_list : mg "list" = none
  b_min : mg "min" = none
  b_range : mg "range" = none
  b_sum : mg "sum" = none
  b_tuple : mg "tuple" = none
  g_GREATEST_K : ∃ t, mg "GREATEST_K" = some (.int 30 t)
  d_exponent_of : Dn K mg "exponent_of" s_exponent_of ["number", "base"]
  d_first_sign : Dn K mg "first_sign" s_first_sign ["number", "base"]
  d_heap_of : Dn K mg "heap_of" s_heap_of ["number", "base"]
  d_is_whole : Dn K mg "is_whole" s_is_whole ["thing"]
  d_is_whole_from : Dn K mg "is_whole_from" s_is_whole_from ["thing", "least"]
  d_is_row : Dn K mg "is_row" s_is_row ["thing"]
  d_is_k : Dn K mg "is_k" s_is_k ["thing"]
  d_is_beginning : Dn K mg "is_beginning" s_is_beginning ["k", "thing"]
  d_lessened_sums : Dn K mg "lessened_sums" s_lessened_sums ["beginning"]
  d_asked_first_behind : Dn K mg "asked_first_behind" s_asked_first_behind ["house", "place"]
  d_leads : Dn K mg "leads" s_leads ["house", "place"]
  d_number_at : Dn K mg "number_at" s_number_at ["house", "place"]
  d_chain : Dn K mg "chain" s_chain ["house", "place"]
  d_pen : Dn K mg "_law_pen" s_pen ["_law_script"]
  d_draw : Dn K mg "_law_draw" s_draw ["_law_pen_here", "_law_many"]
  d_pick : Dn K mg "_law_pick" s_pick ["_law_pen_here", "_law_some"]
  d_far : Dn K mg "_law_far" s_far ["_law_pen_here", "_law_pieces"]
  d_base : Dn K mg "_law_base" s_base ["_law_pen_here"]
  d_begun : Dn K mg "_law_begun" s_begun ["_law_pen_here", "_law_base_here", "_law_pieces"]
  d_house : Dn K mg "_law_house" s_house ["_law_pen_here", "_law_base_here", "_law_begun_here"]
  d_is_number : Dn K mg "_law_is_number" s_is_number ["_law_thing"]
  d_times : Dn K mg "_law_times" s_times ["_law_base_here", "_law_begun_here", "_law_number_here"]
  d_last : Dn K mg "_law_last" s_last ["_law_base_here", "_law_begun_here", "_law_number_here"]
  d_number : Dn K mg "_law_number" s_number ["_law_pen_here", "_law_base_here", "_law_pieces"]
  d_walked : Dn K mg "_law_walked" s_walked ["_law_base_here", "_law_begun_here", "_law_at", "_law_told"]
  cl_House : Cls K C_House
  mk_House : PySem.W.makesIn K C_House = true
  kp_House : PySem.W.keepIn K (.ref C_House) = true
  g_House : mg "House" = some (.ref C_House)
  na_House_beginning : NoAttr K C_House "_beginning"
  na_House_k : NoAttr K C_House "_k"
  na_House_sums : NoAttr K C_House "_sums"
  d_House_init : Mn K C_House "__init__" "House.__init__" s_House_init ["self", "k", "beginning"]
  d_House_base : Mn K C_House "base" "House.base" s_House_base ["self"]
  d_House_reach : Mn K C_House "reach" "House.reach" s_House_reach ["self"]
  d_House_folk : Mn K C_House "folk" "House.folk" s_House_folk ["self"]
  d_House_first_place : Mn K C_House "first_place" "House.first_place" s_House_first_place ["self", "number"]
  d_House_last_place : Mn K C_House "last_place" "House.last_place" s_House_last_place ["self", "number"]
  d_House_last_of_round : Mn K C_House "_last_of_round" "House._last_of_round" s_House_last_of_round ["self", "exponent", "sign", "ones"]
  d_House_first_round : Mn K C_House "_first_round" "House._first_round" s_House_first_round ["self", "place"]
  d_House_said_out : Mn K C_House "_said_out" "House._said_out" s_House_said_out ["self", "place"]
  d_House_said : Mn K C_House "said" "House.said" s_House_said ["self", "place"]
  n_House_init_0 : MnN K C_House "__init__" "House.__init__" s_House_init ["self", "k", "beginning"] ["beginning", "k"] [1, 0]
def spBegun : Sp := fun vs H Q _ => ∃ (p b m n c : Nat), vs = [.ref p, .int b, .int m] ∧ 2 ≤ b ∧ b ≤ 30 ∧ 0 < m ∧ m < 2 ^ 390 ∧ PenAt H p c n ∧ n ≤ 900000 ∧
  ∀ H' l (B : List Nat), PenAt H' p c (n + 3 * b) → But p H H' → H l = none → H' l = some (.lst ((zs B).map V.int)) → Beg b B → (∀ x ∈ B, x ≤ m + 3) → Q (.ref l) H'
def spFirst0 (C : Addr) : Sp := fun vs H Q _ => ∃ (p k : Nat) (B : List Nat), vs = [.ref p, .int (-1)] ∧ HouseAt C H p k B ∧ ∀ H' t, Same H H' → H t = none → H' t = some (.tup [.int ((0 : Nat) : Int), .int ((0 : Nat) : Int), .int ((1 : Nat) : Int)]) → Q (.ref t) H'
def spOut0 (C : Addr) : Sp := fun vs H Q _ => ∃ (p k : Nat) (B : List Nat), vs = [.ref p, .int (-1)] ∧ HouseAt C H p k B ∧ ∀ H', Same H H' → Q (.int ((0 : Nat) : Int)) H'
def spSaid0 (C : Addr) : Sp := fun vs H Q _ => ∃ (p k : Nat) (B : List Nat), vs = [.ref p, .int 0] ∧ HouseAt C H p k B ∧ ∀ H', Same H H' → Q (.int 1) H'
def spBase2 : Sp := fun vs H Q _ => ∃ (p n c : Nat), vs = [.ref p] ∧ PenAt H p c n ∧ n ≤ 900000 ∧ ∀ H' (b : Nat), 2 ≤ b → b ≤ 30 → PenAt H' p c (n + 2) → But p H H' → Q (.int b) H'
def spGone2 : Sp := fun vs H Q _ => ∃ (k b n : Nat) (B : List Nat), vs = [.int k, .ref b, .int n] ∧ H b = some (.lst ((zs B).map V.int)) ∧ Beg k B ∧ k ≤ 30 ∧ B.sum ≤ n ∧ n ≤ 100000 ∧
  ∀ H' l, Same H H' → H l = none → H' l = some (.lst ((zs (gonL k B n)).map V.int)) → Q (.ref l) H'
def spLhouse (C : Addr) : Sp := fun vs H Q _ => ∃ (p k b n c : Nat) (B : List Nat), vs = [.ref p, .int k, .ref b] ∧ PenAt H p c n ∧ n ≤ 900000 ∧ H b = some (.lst ((zs B).map V.int)) ∧ Beg k B ∧ k ≤ 30 ∧ rea B < 2 ^ 400 ∧
  ∀ H' x, PenAt H' p c (n + 1) → But p H H' → HouseAt C H' x k B → Q (.ref x) H'
def spNum2 (g : Nat → Nat → Nat) : Sp := fun vs H Q _ => ∃ n b : Nat, vs = [.int n, .int b] ∧ 2 ≤ b ∧ b ≤ 30 ∧ Q (.int (g b n : Nat)) H
def spSigns : Sp := fun vs H Q _ => ∃ n b : Nat, vs = [.int n, .int b] ∧ 2 ≤ b ∧ b ≤ 30 ∧ n < 2 ^ 3000 ∧ ∀ H' p, Same H H' → H p = none → H' p = some (.lst ((zs (sgn b n)).map V.int)) → Q (.ref p) H'
def l1 (k : Nat) (B : List Nat) (z : Nat) : Int := (z : Int) + 1 - ((rea B : Nat) : Int) - ((sa k B z : Nat) : Int)
def askL (k : Nat) (B : List Nat) (n : Nat) : List Int := (List.range k).map fun i => l1 k B (n - i - 1)
def spBehind1 (C : Addr) : Sp := fun vs H Q _ => ∃ (x k z : Nat) (B : List Nat), vs = [.ref x, .int z] ∧ HouseAt C H x k B ∧ z ≤ 2 ^ 3000 ∧ ∀ H', Same H H' → Q (.int (l1 k B z)) H'
def spAsked (C : Addr) : Sp := fun vs H Q _ => ∃ (x k n : Nat) (B : List Nat), vs = [.ref x, .int n] ∧ HouseAt C H x k B ∧ 0 < n ∧ n ≤ 2 ^ 3000 ∧
  (n ≤ las k B (k - 1) → ∀ H', Same H H' → Q .non H') ∧
  (las k B (k - 1) < n → ∀ H' l, Same H H' → H l = none → H' l = some (.lst ((askL k B n).map V.int)) → Q (.ref l) H')
def chL (k : Nat) (B : List Nat) (n : Nat) : List Nat := if h : las k B (k - 1) < n ∧ (l1 k B n).toNat < n then n :: chL k B (l1 k B n).toNat else [n]
termination_by n
decreasing_by exact h.2
theorem chL_end {k : Nat} {B : List Nat} {n : Nat} (h : n ≤ las k B (k - 1)) : chL k B n = [n] := by rw [chL, dif_neg (by omega)]
theorem l1_at {k : Nat} {B : List Nat} (h : Beg k B) {n : Nat} (hn : las k B (k - 1) < n) : ∃ q j : Nat, sa k B n = q + 1 ∧ k ≤ sa k B n ∧ n = las k B q + 1 + j ∧ l1 k B n = ((las k B (q / k) + 1 + j : Nat) : Int) := by
  have hk := h.two
  obtain ⟨a, b, c⟩ := sa_at h n (by omega)
  have hm : k ≤ sa k B n := by
    rcases Nat.lt_or_ge (sa k B n) k with z | z
    · have := las_mono h (show sa k B n ≤ k - 1 by omega); omega
    · exact z
  have h1 := lead_at h hm
  refine ⟨sa k B n - 1, n - (las k B (sa k B n - 1) + 1), by omega, hm, by omega, ?_⟩
  unfold l1
  omega
theorem l1_lt {k : Nat} {B : List Nat} (h : Beg k B) {n : Nat} (hn : las k B (k - 1) < n) : ∃ m : Nat, 0 < m ∧ m < n ∧ l1 k B n = (m : Int) := by
  have hk := h.two
  obtain ⟨q, j, a, b, c, d⟩ := l1_at h hn
  refine ⟨_, by omega, ?_, d⟩
  unfold l1 at d
  omega
theorem chL_next {k : Nat} {B : List Nat} (h : Beg k B) {n m : Nat} (hn : las k B (k - 1) < n) (hm : l1 k B n = (m : Int)) : chL k B n = n :: chL k B m := by
  obtain ⟨m', a, b, c⟩ := l1_lt h hn
  have e : m = m' := by omega
  subst e
  rw [chL, dif_pos ⟨hn, by rw [hm]; exact b⟩, hm]
  rfl
/-- the first one of a number leads to a first one -/
theorem first_next {k : Nat} {B : List Nat} (h : Beg k B) {n m : Nat} (hn : las k B (k - 1) < n) (hm : l1 k B n = (m : Int)) (hf : las k B (sa k B n - 1) + 1 = n) : sa k B m = (sa k B n + k - 1) / k ∧ las k B (sa k B m - 1) + 1 = m := by
  have hk := h.two
  obtain ⟨q, j, a, b, c, d⟩ := l1_at h hn
  rw [a, Nat.add_sub_cancel] at hf
  have hj : j = 0 := by omega
  subst hj
  have e : m = las k B (q / k) + 1 := by omega
  have e2 : sa k B m = q / k + 1 := by rw [e]; exact sa_first h _
  refine ⟨?_, by rw [e2, Nat.add_sub_cancel, e]⟩
  rw [e2, a, show q + 1 + k - 1 = q + k by omega, Nat.add_div_right _ (by omega)]
def firB (k : Nat) (B : List Nat) (n : Nat) : Bool := decide (las k B (sa k B n - 1) + 1 = n)
def spNumAt (C : Addr) : Sp := fun vs H Q _ => ∃ (x k n : Nat) (B : List Nat), vs = [.ref x, .int n] ∧ HouseAt C H x k B ∧ 0 < n ∧ n < 2 ^ 3000 ∧ ∀ H' t, Same H H' → H t = none → H' t = some (.tup [.int (sa k B n : Nat), .bl (firB k B n)]) → Q (.ref t) H'
def spLeads (C : Addr) : Sp := fun vs H Q _ => ∃ (x k n : Nat) (B : List Nat), vs = [.ref x, .int n] ∧ HouseAt C H x k B ∧ 0 < n ∧ n ≤ 2 ^ 3000 ∧ ∀ H', Same H H' → Q (if 1 ≤ l1 k B n then .int (l1 k B n) else .non) H'
def spChain (C : Addr) : Sp := fun vs H Q _ => ∃ (x k n : Nat) (B : List Nat), vs = [.ref x, .int n] ∧ HouseAt C H x k B ∧ 0 < n ∧ n < 2 ^ 3000 ∧ (chL k B n).length ≤ 100000 ∧
  ∀ H' l, Same H H' → H l = none → H' l = some (.lst ((zs (chL k B n)).map V.int)) → Q (.ref l) H'
def spFarP : Sp := fun vs H Q _ => ∃ (p m n c : Nat), vs = [.ref p, .int m] ∧ 0 < m ∧ m ≤ 100 ∧ PenAt H p c n ∧ n ≤ 900000 ∧
  ∀ H' (r : Nat), r < 2 ^ (20 * m) → PenAt H' p c (n + 1 + m) → But p H H' → Q (.int r) H'
def spBegunP : Sp := fun vs H Q _ => ∃ (p k m n c : Nat), vs = [.ref p, .int k, .int m] ∧ 2 ≤ k ∧ k ≤ 30 ∧ 0 < m ∧ m ≤ 19 ∧ PenAt H p c n ∧ n ≤ 800000 ∧
  ∀ H' l (B : List Nat), PenAt H' p c (n + k * (m + 2)) → But p H H' → H l = none → H' l = some (.lst ((zs B).map V.int)) → Beg k B → rea B < 2 ^ 400 → (∀ x ∈ B, x ≤ 2 ^ (20 * m)) → Q (.ref l) H'
def spLtimesP : Sp := fun vs H Q _ => ∃ (k b n : Nat) (B : List Nat), vs = [.int k, .ref b, .int n] ∧ H b = some (.lst ((zs B).map V.int)) ∧ Beg k B ∧ k ≤ 30 ∧ 0 < n ∧ Q (.int (tim k B n : Nat)) H
def spLlastP : Sp := fun vs H Q _ => ∃ (k b n : Nat) (B : List Nat), vs = [.int k, .ref b, .int n] ∧ H b = some (.lst ((zs B).map V.int)) ∧ Beg k B ∧ k ≤ 30 ∧ rea B < 2 ^ 400 ∧ n < 2 ^ 20000 ∧ ∀ H', Same H H' → Q (.int (las k B n : Nat)) H'
def spNumberP : Sp := fun vs H Q _ => ∃ (p k m n c : Nat), vs = [.ref p, .int k, .int m] ∧ 2 ≤ k ∧ k ≤ 30 ∧ 0 < m ∧ m ≤ 100 ∧ PenAt H p c n ∧ n ≤ 800000 ∧
  ∀ H' (r : Nat), 0 < r → r < 2 ^ (20 * m + 10) → PenAt H' p c (n + m + 4) → But p H H' → Q (.int r) H'
theorem chL_head {k : Nat} {B : List Nat} (n : Nat) : ∃ r, chL k B n = n :: r := by
  rw [chL]
  split
  · exact ⟨_, rfl⟩
  · exact ⟨_, rfl⟩
theorem chL_step {k : Nat} {B : List Nat} (h : Beg k B) : ∀ (j n y z : Nat), 0 < n → (chL k B n)[j]? = some y → (chL k B n)[j + 1]? = some z → las k B (k - 1) < y ∧ l1 k B y = (z : Int) ∧ y ≤ n
  | 0, n, y, z, hn, h1, h2 => by
    rcases Nat.lt_or_ge (las k B (k - 1)) n with c | c
    · obtain ⟨m, a, b, d⟩ := l1_lt h c
      rw [chL_next h c d] at h1 h2
      obtain ⟨r, e⟩ := chL_head (k := k) (B := B) m
      rw [e] at h2
      cases h1
      cases h2
      exact ⟨c, d, Nat.le_refl _⟩
    · rw [chL_end c] at h2; cases h2
  | j + 1, n, y, z, hn, h1, h2 => by
    rcases Nat.lt_or_ge (las k B (k - 1)) n with c | c
    · obtain ⟨m, a, b, d⟩ := l1_lt h c
      rw [chL_next h c d] at h1 h2
      obtain ⟨u, v, w⟩ := chL_step h j m y z a h1 h2
      exact ⟨u, v, by omega⟩
    · rw [chL_end c] at h1; cases h1
theorem chL_drop {k : Nat} {B : List Nat} (h : Beg k B) : ∀ (j n y : Nat), 0 < n → (chL k B n)[j]? = some y → (chL k B n).drop j = chL k B y ∧ 0 < y ∧ y ≤ n
  | 0, n, y, hn, h1 => by
    obtain ⟨r, e⟩ := chL_head (k := k) (B := B) n
    rw [e] at h1
    cases h1
    exact ⟨rfl, hn, Nat.le_refl _⟩
  | j + 1, n, y, hn, h1 => by
    rcases Nat.lt_or_ge (las k B (k - 1)) n with c | c
    · obtain ⟨m, a, b, d⟩ := l1_lt h c
      rw [chL_next h c d] at h1 ⊢
      obtain ⟨u, v, w⟩ := chL_drop h j m y a h1
      exact ⟨u, v, by omega⟩
    · rw [chL_end c] at h1; cases h1
theorem chL_last {k : Nat} {B : List Nat} (h : Beg k B) : ∀ n, 0 < n → ∃ pre y, chL k B n = pre ++ [y] ∧ 0 < y ∧ y ≤ las k B (k - 1)
  | n, hn => by
    rcases Nat.lt_or_ge (las k B (k - 1)) n with c | c
    · obtain ⟨m, a, b, d⟩ := l1_lt h c
      obtain ⟨pre, y, e, f, g⟩ := chL_last h m a
      exact ⟨n :: pre, y, by rw [chL_next h c d, e]; rfl, f, g⟩
    · exact ⟨[], n, chL_end c, hn, c⟩
termination_by n => n
/-- a step divides the number by k, but for one -/
theorem step_num {k : Nat} {B : List Nat} (h : Beg k B) {n m : Nat} (hn : las k B (k - 1) < n) (hm : l1 k B n = (m : Int)) : sa k B m ≤ sa k B n / k + 1 := by
  have hk := h.two
  obtain ⟨q, j, a, b, c, d⟩ := l1_at h hn
  obtain ⟨_, _, c3⟩ := sa_at h n (by omega)
  have h1 := las_tim h (show 0 < q + 1 by omega)
  rw [a] at c3
  rw [Nat.add_sub_cancel] at h1
  have hj : j < tim k B (q + 1) := by omega
  have hm0 : 0 < m := by omega
  have e0 : 0 < (q + 1) / k := div_pos_of hk (by omega)
  have h2 : m ≤ las k B (sa k B n / k + 1) := by
    rw [a]
    by_cases z : (q + 1) % k = 0
    · have e1 := tim_more (B := B) hk (show k ≤ q + 1 by omega) z
      have e2 := div_pred0 hk (show 0 < q + 1 by omega) z
      rw [Nat.add_sub_cancel] at e2
      have e3 := las_tim h (show 0 < (q + 1) / k by omega)
      have e4 := las_tim h (show 0 < (q + 1) / k + 1 by omega)
      have e5 := tim_pos h (show 0 < (q + 1) / k + 1 by omega)
      rw [Nat.add_sub_cancel] at e4
      rw [show (q + 1) / k - 1 = q / k by omega] at e3
      omega
    · have e1 := tim_one (B := B) hk (show k ≤ q + 1 by omega) z
      have e2 := div_pred hk z
      rw [Nat.add_sub_cancel] at e2
      have e4 := las_tim h (show 0 < (q + 1) / k + 1 by omega)
      have e5 := tim_pos h (show 0 < (q + 1) / k + 1 by omega)
      rw [Nat.add_sub_cancel] at e4
      rw [← e2] at e4 e5 ⊢
      omega
  rcases Nat.lt_or_ge (sa k B n / k + 1) (sa k B m) with z | z
  · obtain ⟨_, c2, _⟩ := sa_at h m hm0
    have := las_mono h (show sa k B n / k + 1 ≤ sa k B m - 1 by omega)
    omega
  · exact z
theorem chL_short {k : Nat} {B : List Nat} (h : Beg k B) : ∀ x n, 0 < n → sa k B n ≤ 2 ^ x + 1 → (chL k B n).length ≤ x + 3
  | 0, n, hn, hs => by
    have hk := h.two
    rcases Nat.lt_or_ge (las k B (k - 1)) n with c | c
    · obtain ⟨m, a, b, d⟩ := l1_lt h c
      obtain ⟨q, j, a1, b1, c1, d1⟩ := l1_at h c
      have hk2 : k = 2 := by omega
      have hq : q = 1 := by omega
      subst hk2 hq
      have e0 : las 2 B (1 / 2) = 0 := las_zero (by decide)
      have e1 : las 2 B 1 = tim 2 B 1 := by
        have := las_tim h (show 0 < 1 by decide)
        rw [show 1 - 1 = 0 from rfl, las_zero (by decide)] at this
        omega
      have e2 : tim 2 B 2 = tim 2 B 1 + 1 := tim_more (by decide) (by decide) rfl
      have e3 := las_tim h (show 0 < 2 by decide)
      obtain ⟨_, _, c3⟩ := sa_at h n (by omega)
      rw [a1] at c3
      rw [chL_next h c d]
      rcases Nat.lt_or_ge (las 2 B (2 - 1)) m with z | z
      · obtain ⟨m2, a2, b2, d2⟩ := l1_lt h z
        have hmm : m = las 2 B 1 + 1 := by
          have e4 : las 2 B (1 + 1) = las 2 B 1 + tim 2 B 2 := e3
          have e5 : las 2 B (2 - 1) = las 2 B 1 := rfl
          omega
        have hs2 : sa 2 B m = 2 := by rw [hmm]; exact sa_first h 1
        have hm2 : m2 ≤ las 2 B (2 - 1) := by
          have e5 : las 2 B (2 - 1) = las 2 B 1 := rfl
          have hl := lead_at h (m := 2) (by decide)
          have e6 : (l1 2 B m : Int) = (las 2 B ((2 - 1) / 2) : Int) + 1 := by
            unfold l1
            rw [hs2, hmm]
            have e7 : las 2 B (2 - 1) = las 2 B 1 := rfl
            rw [e7] at hl
            omega
          rw [show (2 - 1) / 2 = 0 from rfl, las_zero (by decide)] at e6
          have e8 := las_ge 2 B 1
          omega
        rw [chL_next h z d2, chL_end hm2]
        exact Nat.le_refl _
      · rw [chL_end z]
        show 2 ≤ 3
        decide
    · rw [chL_end c]
      show 1 ≤ 3
      decide
  | x + 1, n, hn, hs => by
    have hk := h.two
    rcases Nat.lt_or_ge (las k B (k - 1)) n with c | c
    · obtain ⟨m, a, b, d⟩ := l1_lt h c
      have h1 := step_num h c d
      have h2 : sa k B n / k ≤ sa k B n / 2 := Nat.div_le_div_left hk (by decide)
      have h3 : 2 ^ (x + 1) = 2 ^ x * 2 := Nat.pow_succ ..
      have h4 := chL_short h x m a (by omega)
      rw [chL_next h c d, List.length_cons]
      omega
    · rw [chL_end c]
      show 1 ≤ _
      omega
end Ab

namespace Ab
open PySem PySem.Spec PyProof.Rows L2
open C8 (Cal Mak Met pe_c pe_mk pe_mt pe_mt0)
section
variable {P : Program} {w : World} {K : PySem.W.Frag} {mg : Str → Option Value} {base : Heap} {C_House : Addr}
theorem ok_reach (T : Txt K mg C_House) : Met P w K mg base 1 C_House "reach" (spReach C_House) [] := by
  refine T.d_House_reach.met T.cl_House sc_House_reach (fun vs H Q E h => ?_) (fun cdv f A outer s H vs Q E hr h => ?_)
  · obtain ⟨p, k, B, rfl, _⟩ := h
    rfl
  · obtain ⟨p, k, B, rfl, hH, q⟩ := h
    obtain ⟨dx, tb, ls, h1, h2, h3⟩ := hH.ex
    refine ⟨_, (pss_one (ps_ret (pe_ix ix_list (pe_fld (pv 0) rfl) (pe_un un_neg pe_int) (fun _ _ => rfl)))), ?_⟩
    walk_at "rd"
    refine ⟨p, C_House, dx, _, _, rfl, h1, T.cl_House, T.na_House_sums, hfs_s _ _ _, ?_⟩
    walk_at "rd"
    refine ⟨ls, _, _, _, rfl, rfl, sql h3, sumsL_last B, ?_⟩
    exact q
theorem ok_last_of_round (T : Txt K mg C_House) : Met P w K mg base 2 C_House "_last_of_round" (spRound C_House) [] := by
  have m_reach : Met P w K mg base 1 C_House "reach" (spReach C_House) [] := ok_reach T
  refine T.d_House_last_of_round.met T.cl_House sc_House_last_of_round (fun vs H Q E h => ?_) (fun cdv f A outer s H vs Q E hr h => ?_)
  · obtain ⟨p, k, B, e, s, o, rfl, _⟩ := h
    rfl
  · obtain ⟨p, k, B, e, s, o, rfl, hH, hs, rfl, he, ho, q⟩ := h
    obtain ⟨dx, tb, ls, h1, h2, h3⟩ := hH.ex
    have hk := hH.top
    have hl := hH.beg.len
    refine ⟨_, (pss_one (ps_ret (pe_op op_add (pe_op op_add (pe_op op_mulW (pv 2) (pv 3)) (pe_op op_mulW (pv 1) (pe_mt0 m_reach hr (by decide) (pv 0)))) (pe_ix ix_list (pe_fld (pv 0) rfl) (pv 2) (fun _ _ => rfl))))), ?_⟩
    walk_at "rd"
    refine ⟨mulW (x := 5) (y := 100000) (by omega) ho, ?_⟩
    walk_at "rd"
    refine ⟨p, dx, _, rfl, h1, hfs_no _ _ _, ?_⟩
    refine ⟨p, k, B, rfl, hH, ?_⟩
    walk_at "rd"
    refine ⟨mulW (x := 20) (y := 400) (by omega) hH.big, ?_⟩
    walk_at "rd"
    refine ⟨p, C_House, dx, _, _, rfl, h1, T.cl_House, T.na_House_sums, hfs_s _ _ _, ?_⟩
    walk_at "rd"
    refine ⟨ls, _, _, _, rfl, rfl, sql h3, at_of (j := s) rfl (zs_at (sumsL_at (by omega))), ?_⟩
    walk_at "rd"
    exact q
theorem ok_first_round (T : Txt K mg C_House) : Met P w K mg base 3 C_House "_first_round" (spFirst C_House) [] := by
  have m_last_of_round : Met P w K mg base 2 C_House "_last_of_round" (spRound C_House) [] := ok_last_of_round T
  refine T.d_House_first_round.met T.cl_House sc_House_first_round (fun vs H Q E h => ?_) (fun cdv f A outer s H vs Q E hr h => ?_)
  · obtain ⟨p, k, B, n, rfl, _⟩ := h
    rfl
  · obtain ⟨p, k, B, n, rfl, hH, hn, q⟩ := h
    obtain ⟨dx, tb, ls, h1, h2, h3⟩ := hH.ex
    have hk := hH.top
    have hk2 := hH.beg.two
    have big : ∀ {x : Nat}, x < 2 ^ 3006 → x < 2 ^ 100000 := fun h => Nat.lt_of_lt_of_le h (Nat.pow_le_pow_right (by decide) (by decide))
    have hones : ∀ e, e = 0 ∨ rnd k B e 1 ≤ n → ones k e < 2 ^ 3000 := fun e h => by
      rcases h with h | h
      · rw [h]; exact Nat.one_lt_two_pow (by decide)
      · have := rnd_ones k B e
        omega
    have hones2 : ∀ e, e = 0 ∨ rnd k B e 1 ≤ n → ones k (e + 1) < 2 ^ 3006 := fun e h => by
      have h1 := hones e h
      have h2 : (ones k e + 1) * k ≤ 2 ^ 3000 * 2 ^ 5 := Nat.mul_le_mul h1 (by omega)
      rw [← Nat.pow_add, Nat.add_mul, Nat.one_mul] at h2
      show ones k e * k + 1 < 2 ^ 3006
      have h3 : 2 ^ (3000 + 5) < 2 ^ 3006 := Nat.pow_lt_pow_right (by decide) (by decide)
      omega
    refine ⟨_, (pss_cons (ps_set (i := 2) sc_House_first_round.nd rfl (.inl rfl) pe_int)
      (pss_cons (ps_set (i := 3) sc_House_first_round.nd rfl (.inl rfl) pe_int)
      (pss_cons (ps_while PassesOwn.never (pt_cmpR op_le (pe_mt m_last_of_round hr (by decide) (pv 0) (pa_cons (pe_op op_add (pv 2) pe_int) (pa_cons pe_int (pa_cons (pe_op op_add (pe_op op_mulW (pv 3) (pe_fld (pv 0) rfl)) pe_int) pa_nil)))) (pv 1) (nomark _))
        (pss_cons (ps_aug (i := 2) sc_House_first_round.nd rfl (.inl rfl) pe_int ip_add)
        (pss_one (ps_set (i := 3) sc_House_first_round.nd rfl (.inl rfl) (pe_op op_add (pe_op op_mulW (pv 3) (pe_fld (pv 0) rfl)) pe_int)))))
      (pss_cons (ps_set (i := 4) sc_House_first_round.nd rfl (.inl rfl) pe_int)
      (pss_cons (ps_while PassesOwn.never (PW.pt (pw_and (pt_cmpR op_lt (pv 4) (pe_op op_sub (pe_fld (pv 0) rfl) pe_int) (nomark _)) (pw_and1 (pt_cmpR op_le (pe_mt m_last_of_round hr (by decide) (pv 0) (pa_cons (pv 2) (pa_cons (pe_op op_add (pv 4) pe_int) (pa_cons (pv 3) pa_nil)))) (pv 1) (nomark _)))))
        (pss_one (ps_aug (i := 4) sc_House_first_round.nd rfl (.inl rfl) pe_int ip_add)))
      (pss_one (ps_ret (pe_tup (pa_cons (pv 2) (pa_cons (pv 4) (pa_cons (pv 3) pa_nil))))))))))), ?_⟩
    walk_at "rd"
    refine ⟨fun m σ H1 => ∃ e : Nat, σ = [some (.ref p), some (.int n), some (.int e), some (.int (ones k e : Nat)), none] ∧ m = 3000 - e ∧ e < 3000 ∧ (e = 0 ∨ rnd k B e 1 ≤ n) ∧ H1 = H,
      ⟨3000, 0, rfl, rfl, by decide, .inl rfl, rfl⟩, fun m σ H1 hw => ?_⟩
    obtain ⟨e, rfl, rfl, he, hen, rfl⟩ := hw
    walk_at "rd"
    refine ⟨p, dx, _, rfl, h1, hfs_no _ _ _, ?_⟩
    walk_at "rd"
    refine ⟨p, C_House, dx, _, _, rfl, h1, T.cl_House, T.na_House_k, hfs_k _ _ _, ?_⟩
    walk_at "rd"
    refine ⟨mulW (x := 3000) (y := 5) (hones e hen) (by omega), ?_⟩
    walk_at "rd"
    refine ⟨p, k, B, e + 1, 1, ones k (e + 1), rfl, hH, by omega, rfl, by omega, big (hones2 e hen), ?_⟩
    walk_at "rd"
    refine itd (fun c => ?_) (fun c => ?_)
    · have c2 : rnd k B (e + 1) 1 ≤ n := by omega
      have c3 := exp_lt hk2 c2 hn
      refine ⟨_, fun _ _ h => h, ?_⟩
      walk_at "rd"
      refine ⟨p, C_House, dx, _, _, rfl, h1, T.cl_House, T.na_House_k, hfs_k _ _ _, ?_⟩
      walk_at "rd"
      refine ⟨mulW (x := 3000) (y := 5) (hones e hen) (by omega), ?_⟩
      walk_at "rd"
      exact ⟨3000 - (e + 1), by omega, e + 1, rfl, rfl, c3, .inr c2, rfl⟩
    · have c2 : n < rnd k B (e + 1) 1 := by omega
      walk_at "rd"
      refine ⟨fun m σ H2 => ∃ s : Nat, σ = [some (.ref p), some (.int n), some (.int e), some (.int (ones k e : Nat)), some (.int s)] ∧ m = k - s ∧ s < k ∧ (s = 0 ∨ rnd k B e s ≤ n) ∧ H2 = H1,
        ⟨k, 0, rfl, rfl, by omega, .inl rfl, rfl⟩, fun m σ H2 hw => ?_⟩
      obtain ⟨s, rfl, rfl, hs, hsn, rfl⟩ := hw
      have done : s = k - 1 ∨ n < rnd k B e (s + 1) → tRet (tTup (tCons (tVar 2) (tCons (tVar 4) (tCons (tVar 3) tNil)))) { nx := fun x H' => Q V.non H', rt := Q } [some (.ref p), some (.int n), some (.int e), some (.int (ones k e : Nat)), some (.int s)] H2 := fun hend => by
        obtain ⟨g1, g2⟩ := Pre.start hH.beg hen c2 hs hsn hend
        walk_at "rd"
        refine ⟨show 3 ≤ sizeLine by decide, fun t nt => ?_⟩
        exact q _ t e s (same_upd nt) nt upd_same he hs g1 g2
      walk_at "rd"
      refine ⟨p, C_House, dx, _, _, rfl, h1, T.cl_House, T.na_House_k, hfs_k _ _ _, ?_⟩
      walk_at "rd"
      refine itd (fun c3 => ?_) (fun c3 => done (.inl (by omega)))
      walk_at "rd"
      refine ⟨p, dx, _, rfl, h1, hfs_no _ _ _, ?_⟩
      walk_at "rd"
      refine ⟨p, k, B, e, s + 1, ones k e, rfl, hH, by omega, rfl, by omega, big (Nat.lt_trans (hones e hen) (Nat.pow_lt_pow_right (by decide) (by decide))), ?_⟩
      walk_at "rd"
      refine itd (fun c4 => ?_) (fun c4 => done (.inr (by omega)))
      refine ⟨_, fun _ _ h => h, ?_⟩
      walk_at "rd"
      exact ⟨k - (s + 1), by omega, s + 1, rfl, rfl, by omega, .inr (by omega), rfl⟩
theorem ok_said_out (T : Txt K mg C_House) : Met P w K mg base 4 C_House "_said_out" (spOut C_House) [] := by
  have m_last_of_round : Met P w K mg base 2 C_House "_last_of_round" (spRound C_House) [] := ok_last_of_round T
  have m_first_round : Met P w K mg base 3 C_House "_first_round" (spFirst C_House) [] := ok_first_round T
  refine T.d_House_said_out.met T.cl_House sc_House_said_out (fun vs H Q E h => ?_) (fun cdv f A outer s H vs Q E hr h => ?_)
  · obtain ⟨p, k, B, n, rfl, _⟩ := h
    rfl
  · obtain ⟨p, k, B, n, rfl, hH, hn, q⟩ := h
    have hk := hH.top
    have hk2 := hH.beg.two
    obtain ⟨dx, tb, ls, h1, h2, h3⟩ := hH.ex
    refine ⟨_, (pss_cons (ps_asg (pe_mt m_first_round hr (by decide) (pv 0) (pa_cons (pv 1) pa_nil)) (pg_tup rfl (pgs_cons (pg_name (i := 2) sc_House_said_out.nd rfl (.inl rfl)) (pgs_cons (pg_name (i := 3) sc_House_said_out.nd rfl (.inl rfl)) (pgs_cons (pg_name (i := 4) sc_House_said_out.nd rfl (.inl rfl)) pgs_nil)))))
      (pss_cons (ps_set (i := 5) sc_House_said_out.nd rfl (.inl rfl) (pv 3))
      (pss_cons (ps_set (i := 6) sc_House_said_out.nd rfl (.inl rfl) (pe_op op_sub (pv 1) (pe_mt m_last_of_round hr (by decide) (pv 0) (pa_cons (pv 2) (pa_cons (pv 3) (pa_cons (pv 4) pa_nil))))))
      (pss_cons (ps_for PassesOwn.never rfl (pi_range1 rfl T.b_range (pa_cons (pv 2) pa_nil)) (pg_name (i := 7) sc_House_said_out.nd rfl (.inl rfl))
        (pss_cons (ps_set (i := 4) sc_House_said_out.nd rfl (.inl rfl) (pe_op op_fdivW (pv 4) (pe_fld (pv 0) rfl)))
        (C8.pss_cut (ps_set (i := 3) sc_House_said_out.nd rfl (.inl rfl) (pe_callB (call_min2 rfl) (by rfl) T.b_min (by decide +kernel) (pa_cons (pe_op op_sub (pe_fld (pv 0) rfl) pe_int) (pa_cons (pe_op op_fdivW (pv 6) (pv 4)) pa_nil))))
        (pss_cons (ps_aug (i := 6) sc_House_said_out.nd rfl (.inl rfl) (pe_op op_mulW (pv 3) (pv 4)) ip_sub)
        (pss_one (ps_set (i := 5) sc_House_said_out.nd rfl (.inl rfl) (pe_op op_add (pe_op op_mulW (pv 5) (pe_fld (pv 0) rfl)) (pv 3))))))))
      (pss_one (ps_ret (pv 5))))))), ?_⟩
    walk_at "rd"
    refine ⟨p, dx, _, rfl, h1, hfs_no _ _ _, ?_⟩
    walk_at "rd"
    refine ⟨p, k, B, n, rfl, hH, hn, fun H1 t e s s1 nt ht he hs hpre hpos => ?_⟩
    have hH1 := hH.same s1
    have g1 := s1 _ _ h1
    walk_at "rd"
    refine ⟨t, _, rfl, .inl (.inl ht), rfl, ?_⟩
    walk_at "rd"
    refine ⟨p, dx, _, rfl, g1, hfs_no _ _ _, ?_⟩
    walk_at "rd"
    have ho : ones k e < 2 ^ 3100 := by
      rcases Nat.eq_zero_or_pos e with z | z
      · rw [z]; exact Nat.one_lt_two_pow (by decide)
      · have h4 := hpre.lo
        rw [las_round hk2 (hpos z) hs] at h4
        have h5 : ones k e ≤ rnd k B e s := by
          unfold rnd
          have := Nat.le_mul_of_pos_left (ones k e) (hpos z)
          omega
        exact Nat.lt_of_le_of_lt (Nat.le_trans h5 h4) (Nat.lt_trans hn (Nat.pow_lt_pow_right (by decide) (by decide)))
    refine ⟨p, k, B, e, s, ones k e, rfl, hH1, hs, rfl, by omega, Nat.lt_trans ho (Nat.pow_lt_pow_right (by decide) (by decide)), ?_⟩
    walk_at "rd"
    have hlas : rnd k B e s = las k B (s * k ^ e) := by
      rcases Nat.eq_zero_or_pos s with z | z
      · have ez : e = 0 := Nat.le_antisymm (Nat.le_of_not_lt fun y => by have := hpos y; omega) (Nat.zero_le e)
        rw [z, ez, Nat.zero_mul, las_zero hk2, rnd_zero, Nat.zero_mul]
      · exact (las_round hk2 z hs e).symm
    have hlo := hpre.lo
    have eL : ((n : Int) - (rnd k B e s : Nat)) = ((n - las k B (s * k ^ e) : Nat) : Int) := by rw [hlas]; omega
    refine ⟨by omega, by omega, for_range (n := (e : Int).toNat) (fun i σ H2 => ∃ (N sg L o : Nat) (v7 : Option V), σ = [some (.ref p), some (.int n), some (.int e), some (.int sg), some (.int o), some (.int N), some (.int L), v7] ∧ i ≤ e ∧ o = ones k (e - i) ∧ Pre k B n N (e - i) ∧ (i < e → 0 < N) ∧ L = n - las k B (N * k ^ (e - i)) ∧ H2 = H1)
      ⟨s, s, n - las k B (s * k ^ e), ones k e, none, by rw [← eL]; rfl, by omega, rfl, hpre, hpos, rfl, rfl⟩ (fun i σ H2 hi h4 => ?_) (fun σ H2 h4 => ?_)⟩
    · obtain ⟨N, sg, L, o, v7, rfl, hie, rfl, hp, hN, rfl, rfl⟩ := h4
      have hi2 : i < e := by omega
      have hN0 := hN hi2
      obtain ⟨r, hr0⟩ : ∃ r, e - i = r + 1 := ⟨e - i - 1, by omega⟩
      have hr1 : e - (i + 1) = r := by omega
      rw [hr0] at hp
      obtain ⟨p1, p2, p3⟩ := hp.next hH.beg hN0
      have eo : ((ones k (e - i) : Nat) : Int) / (k : Int) = ((ones k r : Nat) : Int) := by
        rw [hr0]
        exact congrArg Int.ofNat (ones_div hk2 r)
      have hor : ones k r < 2 ^ 3100 := by
        have : ∀ d, ones k (e - d) ≤ ones k e := fun d => by
          induction d with
          | zero => exact Nat.le_refl _
          | succ d ih =>
            by_cases z : d < e
            · refine Nat.le_trans ?_ ih
              rw [show e - d = e - (d + 1) + 1 by omega]
              exact ones_mono k _
            · rw [show e - (d + 1) = e - d by omega]; exact ih
        have h5 := this (i + 1)
        rw [hr1] at h5
        omega
      have hop := ones_pos k r
      walk_at "rd"
      refine ⟨p, C_House, dx, _, _, rfl, g1, T.cl_House, T.na_House_k, hfs_k _ _ _, ?_⟩
      walk_at "rd"
      refine ⟨divW (b := k) (y := 5) (by omega) (by omega), ?_⟩
      rw [← hr0] at p1 p2 p3
      generalize hL : n - las k B (N * k ^ (e - i)) = L at p1 p2 p3
      generalize hc : min (k - 1) (L / ones k r) = c at p1 p2 p3
      have hck : c < k := by omega
      have ec : (if ((L : Int) / ((ones k (e - i) : Nat) / (k : Int) : Int)) < (k : Int) - 1 then ((L : Int) / ((ones k (e - i) : Nat) / (k : Int) : Int)) else (k : Int) - 1) = ((c : Nat) : Int) := by
        rw [eo]
        show (if ((L / ones k r : Nat) : Int) < (k : Int) - 1 then ((L / ones k r : Nat) : Int) else (k : Int) - 1) = _
        split <;> omega
      refine ⟨fun σ2 H3 => ∃ w7, σ2 = [some (.ref p), some (.int n), some (.int e), some (.int c), some (.int (ones k r : Nat)), some (.int N), some (.int L), w7] ∧ H3 = H2, ?_, ?_⟩
      · walk_at "rd"
        refine ⟨p, C_House, dx, _, _, rfl, g1, T.cl_House, T.na_House_k, hfs_k _ _ _, ?_⟩
        walk_at "rd"
        rw [hr0]
        refine ⟨divW (b := ones k (r + 1) / k) (y := 3100) (by rw [ones_div hk2]; exact hop) (by rw [ones_div hk2]; exact hor), ?_⟩
        walk_at "rd"
        rw [← hr0]
        refine ⟨some (.int (0 + (i : Int))), ?_, rfl⟩
        rw [← ec, ← eo]
        rfl
      · rintro σ2 H3 ⟨w7, rfl, rfl⟩
        walk_at "rd"
        refine ⟨mulW (x := 5) (y := 3100) (by omega) hor, ?_⟩
        walk_at "rd"
        refine ⟨p, C_House, dx, _, _, rfl, g1, T.cl_House, T.na_House_k, hfs_k _ _ _, ?_⟩
        walk_at "rd"
        refine ⟨mulW (x := 3000) (y := 5) (Nat.lt_of_le_of_lt (hp.le hk2) hn) (by omega), ?_⟩
        have eL2 : ((L : Int) - ((c : Nat) : Int) * ((ones k r : Nat) : Int)) = ((L - c * ones k r : Nat) : Int) := by
          have e5 : ((c * ones k r : Nat) : Int) = ((c : Nat) : Int) * ((ones k r : Nat) : Int) := Int.natCast_mul _ _
          omega
        walk_at "rd"
        refine ⟨N * k + c, c, L - c * ones k r, ones k r, w7, by rw [← eL2]; rfl, by omega, by rw [hr1], by rw [hr1]; exact p1, fun _ => Nat.add_pos_left (Nat.mul_pos hN0 (by omega)) c, by rw [hr1]; exact p2.symm, rfl⟩
    · obtain ⟨N, sg, L, o, v7, rfl, hie, rfl, hp, hN, rfl, rfl⟩ := h4
      have e0 : e - (e : Int).toNat = 0 := by omega
      rw [e0] at hp
      walk_at "rd"
      exact q H2 N s1 (hp.end hH.beg)
theorem ok_said (T : Txt K mg C_House) : Met P w K mg base 5 C_House "said" (spSaid C_House) [] := by
  have m_said_out : Met P w K mg base 4 C_House "_said_out" (spOut C_House) [] := ok_said_out T
  refine T.d_House_said.met T.cl_House sc_House_said (fun vs H Q E h => ?_) (fun cdv f A outer s H vs Q E hr h => ?_)
  · obtain ⟨p, k, B, n, rfl, _⟩ := h
    rfl
  · obtain ⟨p, k, B, n, rfl, hH, hn0, hn, q⟩ := h
    obtain ⟨dx, tb, ls, h1, h2, h3⟩ := hH.ex
    obtain ⟨m, rfl⟩ : ∃ m, n = m + 1 := ⟨n - 1, by omega⟩
    refine ⟨_, (pss_one (ps_ret (pe_op op_add (pe_mt m_said_out hr (by decide) (pv 0) (pa_cons (pe_op op_sub (pv 1) pe_int) pa_nil)) pe_int))), ?_⟩
    walk_at "rd"
    refine ⟨p, dx, _, rfl, h1, hfs_no _ _ _, ?_⟩
    walk_at "rd"
    refine ⟨p, k, B, m, by show [V.ref p, V.int (((m + 1 : Nat) : Int) - 1)] = _; rw [show ((m + 1 : Nat) : Int) - 1 = (m : Int) by omega], hH, by omega, fun H1 x s1 hx => ?_⟩
    walk_at "rd"
    have e := q H1 s1
    rw [hx] at e
    exact e
theorem ok_base (T : Txt K mg C_House) : Met P w K mg base 1 C_House "base" (spBase C_House) [] := by
  refine T.d_House_base.met T.cl_House sc_House_base (fun vs H Q E h => ?_) (fun cdv f A outer s H vs Q E hr h => ?_)
  · obtain ⟨p, k, B, rfl, _⟩ := h
    rfl
  · obtain ⟨p, k, B, rfl, hH, q⟩ := h
    obtain ⟨dx, tb, ls, h1, h2, h3⟩ := hH.ex
    refine ⟨_, (pss_one (ps_ret (pe_fld (pv 0) rfl))), ?_⟩
    walk_at "rd"
    refine ⟨p, C_House, dx, _, _, rfl, h1, T.cl_House, T.na_House_k, hfs_k _ _ _, ?_⟩
    exact q
theorem ok_folk (T : Txt K mg C_House) : Met P w K mg base 1 C_House "folk" (spFolk C_House) [] := by
  refine T.d_House_folk.met T.cl_House sc_House_folk (fun vs H Q E h => ?_) (fun cdv f A outer s H vs Q E hr h => ?_)
  · obtain ⟨p, k, B, rfl, _⟩ := h
    rfl
  · obtain ⟨p, k, B, rfl, hH, q⟩ := h
    obtain ⟨dx, tb, ls, h1, h2, h3⟩ := hH.ex
    refine ⟨_, (pss_one (ps_ret (pe_callB (cr_sumT rfl) (by rfl) T.b_sum (by decide +kernel) (pa_cons (pe_fld (pv 0) rfl) pa_nil)))), ?_⟩
    walk_at "rd"
    refine ⟨p, C_House, dx, _, _, rfl, h1, T.cl_House, T.na_House_beginning, hfs_b _ _ _, ?_⟩
    walk_at "rd"
    refine ⟨tb, zs B, rfl, .inl (.inl h2), ?_⟩
    rw [zs_sum, ← folk_las hH.beg]
    exact q
theorem ok_first_round0 (T : Txt K mg C_House) : Met P w K mg base 3 C_House "_first_round" (spFirst0 C_House) [] := by
  have m_last_of_round : Met P w K mg base 2 C_House "_last_of_round" (spRound C_House) [] := ok_last_of_round T
  refine T.d_House_first_round.met T.cl_House sc_House_first_round (fun vs H Q E h => ?_) (fun cdv f A outer s H vs Q E hr h => ?_)
  · obtain ⟨p, k, B, rfl, _⟩ := h
    rfl
  · obtain ⟨p, k, B, rfl, hH, q⟩ := h
    obtain ⟨dx, tb, ls, h1, h2, h3⟩ := hH.ex
    have hk := hH.top
    have hk2 := hH.beg.two
    refine ⟨_, (pss_cons (ps_set (i := 2) sc_House_first_round.nd rfl (.inl rfl) pe_int)
      (pss_cons (ps_set (i := 3) sc_House_first_round.nd rfl (.inl rfl) pe_int)
      (pss_cons (ps_while PassesOwn.never (pt_cmpR op_le (pe_mt m_last_of_round hr (by decide) (pv 0) (pa_cons (pe_op op_add (pv 2) pe_int) (pa_cons pe_int (pa_cons (pe_op op_add (pe_op op_mulW (pv 3) (pe_fld (pv 0) rfl)) pe_int) pa_nil)))) (pv 1) (nomark _))
        (pss_cons (ps_aug (i := 2) sc_House_first_round.nd rfl (.inl rfl) pe_int ip_add)
        (pss_one (ps_set (i := 3) sc_House_first_round.nd rfl (.inl rfl) (pe_op op_add (pe_op op_mulW (pv 3) (pe_fld (pv 0) rfl)) pe_int)))))
      (pss_cons (ps_set (i := 4) sc_House_first_round.nd rfl (.inl rfl) pe_int)
      (pss_cons (ps_while PassesOwn.never (PW.pt (pw_and (pt_cmpR op_lt (pv 4) (pe_op op_sub (pe_fld (pv 0) rfl) pe_int) (nomark _)) (pw_and1 (pt_cmpR op_le (pe_mt m_last_of_round hr (by decide) (pv 0) (pa_cons (pv 2) (pa_cons (pe_op op_add (pv 4) pe_int) (pa_cons (pv 3) pa_nil)))) (pv 1) (nomark _)))))
        (pss_one (ps_aug (i := 4) sc_House_first_round.nd rfl (.inl rfl) pe_int ip_add)))
      (pss_one (ps_ret (pe_tup (pa_cons (pv 2) (pa_cons (pv 4) (pa_cons (pv 3) pa_nil))))))))))), ?_⟩
    refine ⟨fun m σ H1 => σ = [some (.ref p), some (.int (-1)), some (.int ((0 : Nat) : Int)), some (.int ((1 : Nat) : Int)), none] ∧ H1 = H, ⟨0, rfl, rfl⟩, fun m σ H1 hw => ?_⟩
    obtain ⟨rfl, rfl⟩ := hw
    walk_at "rd"
    refine ⟨p, dx, _, rfl, h1, hfs_no _ _ _, ?_⟩
    walk_at "rd"
    refine ⟨p, C_House, dx, _, _, rfl, h1, T.cl_House, T.na_House_k, hfs_k _ _ _, ?_⟩
    walk_at "rd"
    refine ⟨mulW (x := 2) (y := 5) (by decide) (by omega), ?_⟩
    walk_at "rd"
    refine ⟨p, k, B, 0 + 1, 1, 1 * k + 1, rfl, hH, by omega, rfl, by omega, Nat.lt_of_lt_of_le (show 1 * k + 1 < 2 ^ 10 by omega) (Nat.pow_le_pow_right (by decide) (by decide)), ?_⟩
    walk_at "rd"
    refine itd (fun c => absurd c (by omega)) (fun _ => ?_)
    walk_at "rd"
    refine ⟨fun m σ H2 => σ = [some (.ref p), some (.int (-1)), some (.int ((0 : Nat) : Int)), some (.int ((1 : Nat) : Int)), some (.int ((0 : Nat) : Int))] ∧ H2 = H1, ⟨0, rfl, rfl⟩, fun m σ H2 hw => ?_⟩
    obtain ⟨rfl, rfl⟩ := hw
    walk_at "rd"
    refine ⟨p, C_House, dx, _, _, rfl, h1, T.cl_House, T.na_House_k, hfs_k _ _ _, ?_⟩
    walk_at "rd"
    refine itd (fun _ => ?_) (fun c => absurd (show (0 : Int) < (k : Nat) - 1 by omega) c)
    walk_at "rd"
    refine ⟨p, dx, _, rfl, h1, hfs_no _ _ _, ?_⟩
    walk_at "rd"
    refine ⟨p, k, B, 0, 0 + 1, 1, rfl, hH, by omega, rfl, by omega, Nat.one_lt_two_pow (by decide), ?_⟩
    walk_at "rd"
    refine itd (fun c => absurd c (by omega)) (fun _ => ?_)
    walk_at "rd"
    refine ⟨show 3 ≤ sizeLine by decide, fun t nt => ?_⟩
    exact q _ t (same_upd nt) nt upd_same
theorem ok_said_out0 (T : Txt K mg C_House) : Met P w K mg base 4 C_House "_said_out" (spOut0 C_House) [] := by
  have m_last_of_round : Met P w K mg base 2 C_House "_last_of_round" (spRound C_House) [] := ok_last_of_round T
  have m_first_round : Met P w K mg base 3 C_House "_first_round" (spFirst0 C_House) [] := ok_first_round0 T
  refine T.d_House_said_out.met T.cl_House sc_House_said_out (fun vs H Q E h => ?_) (fun cdv f A outer s H vs Q E hr h => ?_)
  · obtain ⟨p, k, B, rfl, _⟩ := h
    rfl
  · obtain ⟨p, k, B, rfl, hH, q⟩ := h
    have hk2 := hH.beg.two
    obtain ⟨dx, tb, ls, h1, h2, h3⟩ := hH.ex
    refine ⟨_, (pss_cons (ps_asg (pe_mt m_first_round hr (by decide) (pv 0) (pa_cons (pv 1) pa_nil)) (pg_tup rfl (pgs_cons (pg_name (i := 2) sc_House_said_out.nd rfl (.inl rfl)) (pgs_cons (pg_name (i := 3) sc_House_said_out.nd rfl (.inl rfl)) (pgs_cons (pg_name (i := 4) sc_House_said_out.nd rfl (.inl rfl)) pgs_nil)))))
      (pss_cons (ps_set (i := 5) sc_House_said_out.nd rfl (.inl rfl) (pv 3))
      (pss_cons (ps_set (i := 6) sc_House_said_out.nd rfl (.inl rfl) (pe_op op_sub (pv 1) (pe_mt m_last_of_round hr (by decide) (pv 0) (pa_cons (pv 2) (pa_cons (pv 3) (pa_cons (pv 4) pa_nil))))))
      (pss_cons (ps_for PassesOwn.never rfl (pi_range1 rfl T.b_range (pa_cons (pv 2) pa_nil)) (pg_name (i := 7) sc_House_said_out.nd rfl (.inl rfl))
        (pss_cons (ps_set (i := 4) sc_House_said_out.nd rfl (.inl rfl) (pe_op op_fdivW (pv 4) (pe_fld (pv 0) rfl)))
        (C8.pss_cut (ps_set (i := 3) sc_House_said_out.nd rfl (.inl rfl) (pe_callB (call_min2 rfl) (by rfl) T.b_min (by decide +kernel) (pa_cons (pe_op op_sub (pe_fld (pv 0) rfl) pe_int) (pa_cons (pe_op op_fdivW (pv 6) (pv 4)) pa_nil))))
        (pss_cons (ps_aug (i := 6) sc_House_said_out.nd rfl (.inl rfl) (pe_op op_mulW (pv 3) (pv 4)) ip_sub)
        (pss_one (ps_set (i := 5) sc_House_said_out.nd rfl (.inl rfl) (pe_op op_add (pe_op op_mulW (pv 5) (pe_fld (pv 0) rfl)) (pv 3))))))))
      (pss_one (ps_ret (pv 5))))))), ?_⟩
    walk_at "rd"
    refine ⟨p, dx, _, rfl, h1, hfs_no _ _ _, ?_⟩
    walk_at "rd"
    refine ⟨p, k, B, rfl, hH, fun H1 t s1 nt ht => ?_⟩
    have hH1 := hH.same s1
    have g1 := s1 _ _ h1
    walk_at "rd"
    refine ⟨t, _, rfl, .inl (.inl ht), rfl, ?_⟩
    walk_at "rd"
    refine ⟨p, dx, _, rfl, g1, hfs_no _ _ _, ?_⟩
    walk_at "rd"
    refine ⟨p, k, B, 0, 0, 1, rfl, hH1, by omega, rfl, by omega, Nat.one_lt_two_pow (by decide), ?_⟩
    walk_at "rd"
    refine ⟨by decide, by decide, for_range (n := 0) (fun i σ H2 => ∃ v5 v6 : Option V, ∃ v7, σ = [some (.ref p), some (.int (-1)), some (.int ((0 : Nat) : Int)), v5, v6, some (.int ((0 : Nat) : Int)), some (.int (-1 - (rnd k B 0 0 : Nat))), v7] ∧ H2 = H1)
      ⟨_, _, _, rfl, rfl⟩ (fun i σ H2 hi h4 => absurd hi (by omega)) (fun σ H2 h4 => ?_)⟩
    obtain ⟨v5, v6, v7, rfl, rfl⟩ := h4
    walk_at "rd"
    exact q _ s1
theorem ok_said0 (T : Txt K mg C_House) : Met P w K mg base 5 C_House "said" (spSaid0 C_House) [] := by
  have m_said_out : Met P w K mg base 4 C_House "_said_out" (spOut0 C_House) [] := ok_said_out0 T
  refine T.d_House_said.met T.cl_House sc_House_said (fun vs H Q E h => ?_) (fun cdv f A outer s H vs Q E hr h => ?_)
  · obtain ⟨p, k, B, rfl, _⟩ := h
    rfl
  · obtain ⟨p, k, B, rfl, hH, q⟩ := h
    obtain ⟨dx, tb, ls, h1, h2, h3⟩ := hH.ex
    refine ⟨_, (pss_one (ps_ret (pe_op op_add (pe_mt m_said_out hr (by decide) (pv 0) (pa_cons (pe_op op_sub (pv 1) pe_int) pa_nil)) pe_int))), ?_⟩
    walk_at "rd"
    refine ⟨p, dx, _, rfl, h1, hfs_no _ _ _, ?_⟩
    walk_at "rd"
    refine ⟨p, k, B, rfl, hH, fun H1 s1 => ?_⟩
    walk_at "rd"
    exact q H1 s1
theorem ok_behind1 (T : Txt K mg C_House) : Cal P w K mg base 6 "asked_first_behind" (spBehind1 C_House) [] := by
  have m_reach : Met P w K mg base 1 C_House "reach" (spReach C_House) [] := ok_reach T
  refine T.d_asked_first_behind.cal sc_asked_first_behind (fun vs H Q E h => ?_) (fun cdv f A outer s H vs Q E hr h => ?_)
  · obtain ⟨x, k, z, B, rfl, _⟩ := h
    rfl
  · obtain ⟨x, k, z, B, rfl, hH, hz, q⟩ := h
    obtain ⟨dx, tb, ls, h1, h2, h3⟩ := hH.ex
    rcases Nat.eq_zero_or_pos z with z0 | z0
    · subst z0
      have m_said : Met P w K mg base 5 C_House "said" (spSaid0 C_House) [] := ok_said0 T
      refine ⟨_, (pss_one (ps_ret (pe_op op_sub (pe_op op_sub (pe_op op_add (pv 1) pe_int) (pe_mt0 m_reach hr (by decide) (pv 0))) (pe_mt m_said hr (by decide) (pv 0) (pa_cons (pv 1) pa_nil))))), ?_⟩
      walk_at "rd"
      refine ⟨x, _, _, rfl, by walk_at "tr", hfs_no _ _ _, ?_⟩
      refine ⟨x, k, B, rfl, hH, ?_⟩
      walk_at "rd"
      refine ⟨x, _, _, rfl, by walk_at "tr", hfs_no _ _ _, ?_⟩
      walk_at "rd"
      refine ⟨x, k, B, rfl, hH, fun H1 s1 => ?_⟩
      walk_at "rd"
      have e1 : sa k B 0 = 1 := by
        have := saI_neg (k := k) (B := B) (z := 0) (by omega)
        exact this
      have q1 := q H1 s1
      unfold l1 at q1
      rw [e1] at q1
      exact q1
    · have m_said : Met P w K mg base 5 C_House "said" (spSaid C_House) [] := ok_said T
      refine ⟨_, (pss_one (ps_ret (pe_op op_sub (pe_op op_sub (pe_op op_add (pv 1) pe_int) (pe_mt0 m_reach hr (by decide) (pv 0))) (pe_mt m_said hr (by decide) (pv 0) (pa_cons (pv 1) pa_nil))))), ?_⟩
      walk_at "rd"
      refine ⟨x, _, _, rfl, by walk_at "tr", hfs_no _ _ _, ?_⟩
      refine ⟨x, k, B, rfl, hH, ?_⟩
      walk_at "rd"
      refine ⟨x, _, _, rfl, by walk_at "tr", hfs_no _ _ _, ?_⟩
      walk_at "rd"
      refine ⟨x, k, B, z, rfl, hH, z0, hz, fun H1 s1 => ?_⟩
      walk_at "rd"
      exact q H1 s1
theorem ok_expo (T : Txt K mg C_House) : Cal P w K mg base 1 "exponent_of" (spNum2 expo) [] := by
  refine T.d_exponent_of.cal sc_exponent_of (fun vs H Q E h => ?_) (fun cdv f A outer s H vs Q E hr h => ?_)
  · obtain ⟨n, b, rfl, _⟩ := h
    rfl
  · obtain ⟨n, b, rfl, h2, h30, q⟩ := h
    refine ⟨_, (pss_cons (ps_set (i := 2) sc_exponent_of.nd rfl (.inl rfl) pe_int)
      (pss_cons (ps_while PassesOwn.never (pt_cmpR op_ge (pv 0) (pv 1) (nomark _))
        (pss_cons (ps_set (i := 0) sc_exponent_of.nd rfl (.inl rfl) (pe_op op_fdivW (pv 0) (pv 1)))
        (pss_one (ps_aug (i := 2) sc_exponent_of.nd rfl (.inl rfl) pe_int ip_add))))
      (pss_one (ps_ret (pv 2))))), ?_⟩
    refine ⟨fun m σ H1 => ∃ x e : Nat, σ = [some (.int x), some (.int b), some (.int e)] ∧ m = x ∧ e + expo b x = expo b n ∧ H1 = H, ⟨n, n, 0, rfl, rfl, by omega, rfl⟩, fun m σ H1 hw => ?_⟩
    obtain ⟨x, e, rfl, rfl, he, rfl⟩ := hw
    walk_at "rd"
    refine itd (fun c => ?_) (fun c => ?_)
    · have hc : b ≤ m := by omega
      rw [expo_step h2 hc] at he
      refine ⟨_, fun _ _ h => h, ?_⟩
      walk_at "rd"
      refine ⟨divW (y := 5) (by omega) (by omega), ?_⟩
      walk_at "rd"
      exact ⟨m / b, Nat.div_lt_self (by omega) (by omega), m / b, e + 1, rfl, rfl, by omega, rfl⟩
    · rw [expo_small (by omega)] at he
      walk_at "rd"
      rw [show e = expo b n by omega]
      exact q
theorem ok_first (T : Txt K mg C_House) : Cal P w K mg base 1 "first_sign" (spNum2 lead) [] := by
  refine T.d_first_sign.cal sc_first_sign (fun vs H Q E h => ?_) (fun cdv f A outer s H vs Q E hr h => ?_)
  · obtain ⟨n, b, rfl, _⟩ := h
    rfl
  · obtain ⟨n, b, rfl, h2, h30, q⟩ := h
    refine ⟨_, (pss_cons (ps_while PassesOwn.never (pt_cmpR op_ge (pv 0) (pv 1) (nomark _))
        (pss_one (ps_set (i := 0) sc_first_sign.nd rfl (.inl rfl) (pe_op op_fdivW (pv 0) (pv 1)))))
      (pss_one (ps_ret (pv 0)))), ?_⟩
    refine ⟨fun m σ H1 => ∃ x : Nat, σ = [some (.int x), some (.int b)] ∧ m = x ∧ lead b x = lead b n ∧ H1 = H, ⟨n, n, rfl, rfl, rfl, rfl⟩, fun m σ H1 hw => ?_⟩
    obtain ⟨x, rfl, rfl, he, rfl⟩ := hw
    walk_at "rd"
    refine itd (fun c => ?_) (fun c => ?_)
    · have hc : b ≤ m := by omega
      rw [lead_step h2 hc] at he
      refine ⟨_, fun _ _ h => h, ?_⟩
      walk_at "rd"
      refine ⟨divW (y := 5) (by omega) (by omega), ?_⟩
      exact ⟨m / b, Nat.div_lt_self (by omega) (by omega), m / b, rfl, rfl, he, rfl⟩
    · rw [lead_small (by omega)] at he
      walk_at "rd"
      rw [he]
      exact q
theorem ok_heap (T : Txt K mg C_House) : Cal P w K mg base 1 "heap_of" (spNum2 heap) [] := by
  refine T.d_heap_of.cal sc_heap_of (fun vs H Q E h => ?_) (fun cdv f A outer s H vs Q E hr h => ?_)
  · obtain ⟨n, b, rfl, _⟩ := h
    rfl
  · obtain ⟨n, b, rfl, h2, h30, q⟩ := h
    refine ⟨_, (pss_cons (ps_set (i := 2) sc_heap_of.nd rfl (.inl rfl) pe_int)
      (pss_cons (ps_while PassesOwn.never (pt_cmpR op_ge (pv 0) (pv 1) (nomark _))
        (pss_cons (ps_set (i := 0) sc_heap_of.nd rfl (.inl rfl) (pe_op op_fdivW (pv 0) (pv 1)))
        (pss_one (ps_aug (i := 2) sc_heap_of.nd rfl (.inl rfl) (pv 0) ip_add))))
      (pss_one (ps_ret (pv 2))))), ?_⟩
    refine ⟨fun m σ H1 => ∃ x e : Nat, σ = [some (.int x), some (.int b), some (.int e)] ∧ m = x ∧ e + heap b x = heap b n ∧ H1 = H, ⟨n, n, 0, rfl, rfl, by omega, rfl⟩, fun m σ H1 hw => ?_⟩
    obtain ⟨x, e, rfl, rfl, he, rfl⟩ := hw
    walk_at "rd"
    refine itd (fun c => ?_) (fun c => ?_)
    · rw [heap_step h2] at he
      refine ⟨_, fun _ _ h => h, ?_⟩
      walk_at "rd"
      refine ⟨divW (y := 5) (by omega) (by omega), ?_⟩
      walk_at "rd"
      exact ⟨m / b, Nat.div_lt_self (by omega) (by omega), m / b, e + m / b, rfl, rfl, by omega, rfl⟩
    · rw [heap_small (by omega)] at he
      walk_at "rd"
      rw [show e = heap b n by omega]
      exact q
theorem ok_last (T : Txt K mg C_House) : Met P w K mg base 2 C_House "last_place" (spLast C_House) [] := by
  have m_reach : Met P w K mg base 1 C_House "reach" (spReach C_House) [] := ok_reach T
  have c_exponent_of : Cal P w K mg base 1 "exponent_of" (spNum2 expo) [] := ok_expo T
  have c_first_sign : Cal P w K mg base 1 "first_sign" (spNum2 lead) [] := ok_first T
  have c_heap_of : Cal P w K mg base 1 "heap_of" (spNum2 heap) [] := ok_heap T
  refine T.d_House_last_place.met T.cl_House sc_House_last_place (fun vs H Q E h => ?_) (fun cdv f A outer s H vs Q E hr h => ?_)
  · obtain ⟨p, k, B, n, rfl, _⟩ := h
    rfl
  · obtain ⟨p, k, B, n, rfl, hH, hn, q⟩ := h
    obtain ⟨dx, tb, ls, h1, h2, h3⟩ := hH.ex
    have hk := hH.top
    have hk2 := hH.beg.two
    have hl := hH.beg.len
    have hexp : expo k n < 2 ^ 20 := by
      by_cases z : n < k
      · rw [expo_small z]; decide
      · have e1 := digs_len hk2 n (by omega)
        have e2 := digs_bits hk2 n 3000 hn
        omega
    have hlead := lead_lt hk2 n
    refine ⟨_, (pss_cons (ps_set (i := 2) sc_House_last_place.nd rfl (.inl rfl) (pe_c c_exponent_of hr (by decide) rfl (pa_cons (pv 1) (pa_cons (pe_fld (pv 0) rfl) pa_nil))))
      (pss_cons (ps_set (i := 3) sc_House_last_place.nd rfl (.inl rfl) (pe_op op_add (pe_op op_mulW (pv 2) (pe_mt0 m_reach hr (by decide) (pv 0))) (pe_ix ix_list (pe_fld (pv 0) rfl) (pe_c c_first_sign hr (by decide) rfl (pa_cons (pv 1) (pa_cons (pe_fld (pv 0) rfl) pa_nil))) (fun _ _ => rfl))))
      (pss_one (ps_ret (pe_op op_add (pe_op op_add (pv 1) (pe_c c_heap_of hr (by decide) rfl (pa_cons (pv 1) (pa_cons (pe_fld (pv 0) rfl) pa_nil)))) (pv 3)))))), ?_⟩
    walk_at "rd"
    refine ⟨p, C_House, dx, _, _, rfl, h1, T.cl_House, T.na_House_k, hfs_k _ _ _, ?_⟩
    walk_at "rd"
    refine ⟨hk2, hk, ?_⟩
    walk_at "rd"
    refine ⟨p, dx, _, rfl, h1, hfs_no _ _ _, ?_⟩
    refine ⟨p, k, B, rfl, hH, ?_⟩
    walk_at "rd"
    refine ⟨mulW (x := 20) (y := 400) hexp hH.big, ?_⟩
    walk_at "rd"
    refine ⟨p, C_House, dx, _, _, rfl, h1, T.cl_House, T.na_House_sums, hfs_s _ _ _, ?_⟩
    walk_at "rd"
    refine ⟨p, C_House, dx, _, _, rfl, h1, T.cl_House, T.na_House_k, hfs_k _ _ _, ?_⟩
    walk_at "rd"
    refine ⟨hk2, hk, ?_⟩
    refine ⟨ls, _, _, _, rfl, rfl, sql h3, at_of (j := lead k n) rfl (zs_at (sumsL_at (by omega))), ?_⟩
    walk_at "rd"
    refine ⟨p, C_House, dx, _, _, rfl, h1, T.cl_House, T.na_House_k, hfs_k _ _ _, ?_⟩
    walk_at "rd"
    refine ⟨hk2, hk, ?_⟩
    walk_at "rd"
    exact q
theorem ok_first_place (T : Txt K mg C_House) : Met P w K mg base 3 C_House "first_place" (spFirstP C_House) [] := by
  have m_last_place : Met P w K mg base 2 C_House "last_place" (spLast C_House) [] := ok_last T
  refine T.d_House_first_place.met T.cl_House sc_House_first_place (fun vs H Q E h => ?_) (fun cdv f A outer s H vs Q E hr h => ?_)
  · obtain ⟨p, k, B, n, rfl, _⟩ := h
    rfl
  · obtain ⟨p, k, B, n, rfl, hH, hn0, hn, q⟩ := h
    obtain ⟨dx, tb, ls, h1, h2, h3⟩ := hH.ex
    obtain ⟨m, rfl⟩ : ∃ m, n = m + 1 := ⟨n - 1, by omega⟩
    refine ⟨_, (pss_one (ps_ret (pe_op op_add (pe_mt m_last_place hr (by decide) (pv 0) (pa_cons (pe_op op_sub (pv 1) pe_int) pa_nil)) pe_int))), ?_⟩
    walk_at "rd"
    refine ⟨p, dx, _, rfl, h1, hfs_no _ _ _, ?_⟩
    walk_at "rd"
    refine ⟨p, k, B, m, by show [V.ref p, V.int (((m + 1 : Nat) : Int) - 1)] = _; rw [show ((m + 1 : Nat) : Int) - 1 = (m : Int) by omega], hH, by omega, ?_⟩
    walk_at "rd"
    exact q
theorem ok_numat (T : Txt K mg C_House) : Cal P w K mg base 6 "number_at" (spNumAt C_House) [] := by
  have m_said : Met P w K mg base 5 C_House "said" (spSaid C_House) [] := ok_said T
  have m_first_place : Met P w K mg base 3 C_House "first_place" (spFirstP C_House) [] := ok_first_place T
  refine T.d_number_at.cal sc_number_at (fun vs H Q E h => ?_) (fun cdv f A outer s H vs Q E hr h => ?_)
  · obtain ⟨x, k, n, B, rfl, _⟩ := h
    rfl
  · obtain ⟨x, k, n, B, rfl, hH, hn0, hn, q⟩ := h
    obtain ⟨dx, tb, ls, h1, h2, h3⟩ := hH.ex
    have hsa := sa_le hH.beg hn0
    refine ⟨_, (pss_cons (ps_set (i := 2) sc_number_at.nd rfl (.inl rfl) (pe_mt m_said hr (by decide) (pv 0) (pa_cons (pv 1) pa_nil)))
      (pss_one (ps_ret (pe_tup (pa_cons (pv 2) (pa_cons (pe_cmpR op_eq (pe_mt m_first_place hr (by decide) (pv 0) (pa_cons (pv 2) pa_nil)) (pv 1) (nomark _)) pa_nil)))))), ?_⟩
    walk_at "rd"
    refine ⟨x, _, _, rfl, by walk_at "tr", hfs_no _ _ _, ?_⟩
    walk_at "rd"
    refine ⟨x, k, B, n, rfl, hH, hn0, Nat.le_of_lt hn, fun H1 s1 => ?_⟩
    walk_at "rd"
    refine ⟨x, _, _, rfl, by walk_at "tr", hfs_no _ _ _, ?_⟩
    walk_at "rd"
    refine ⟨x, k, B, sa k B n, rfl, hH.same s1, hsa.1, by omega, ?_⟩
    walk_at "rd"
    refine ⟨by walk_at "sz", fun t nt => ?_⟩
    generalize hu : upd H1 t _ = H2
    have s2 := heap_s hu nt
    have e2 := heap_e hu
    refine q H2 t (s1.trans s2) (Same.free s1 nt) ?_
    rw [e2]
    unfold firB
    congr 4
    by_cases z : las k B (sa k B n - 1) + 1 = n
    · rw [decide_eq_true z, decide_eq_true (congrArg (fun x : Nat => V.int x) z)]
    · rw [decide_eq_false z, decide_eq_false (p := V.int ((las k B (sa k B n - 1) + 1 : Nat) : Int) = V.int ((n : Nat) : Int)) (fun c => z (Int.ofNat.inj (V.int.inj c)))]
theorem ok_leads (T : Txt K mg C_House) : Cal P w K mg base 7 "leads" (spLeads C_House) [] := by
  have c_asked_first_behind : Cal P w K mg base 6 "asked_first_behind" (spBehind1 C_House) [] := ok_behind1 T
  refine T.d_leads.cal sc_leads (fun vs H Q E h => ?_) (fun cdv f A outer s H vs Q E hr h => ?_)
  · obtain ⟨x, k, n, B, rfl, _⟩ := h
    rfl
  · obtain ⟨x, k, n, B, rfl, hH, hn0, hn, q⟩ := h
    refine ⟨_, (pss_cons (ps_set (i := 2) sc_leads.nd rfl (.inl rfl) (pe_c c_asked_first_behind hr (by decide) rfl (pa_cons (pv 0) (pa_cons (pv 1) pa_nil))))
      (pss_one (ps_ret (pe_ifExp (pt_cmpR op_ge (pv 2) pe_int (nomark _)) (pv 2) pe_non)))), ?_⟩
    walk_at "rd"
    refine ⟨x, k, n, B, rfl, hH, hn, fun H1 s1 => ?_⟩
    have q1 := q H1 s1
    walk_at "rd"
    refine itd (fun c1 => ?_) (fun c1 => ?_)
    · walk_at "rd"
      rw [if_pos c1] at q1
      exact q1
    · walk_at "rd"
      rw [if_neg c1] at q1
      exact q1
theorem ok_chain (T : Txt K mg C_House) : Cal P w K mg base 7 "chain" (spChain C_House) [] := by
  have m_folk : Met P w K mg base 1 C_House "folk" (spFolk C_House) [] := ok_folk T
  have m_base : Met P w K mg base 1 C_House "base" (spBase C_House) [] := ok_base T
  have m_reach : Met P w K mg base 1 C_House "reach" (spReach C_House) [] := ok_reach T
  have c_number_at : Cal P w K mg base 6 "number_at" (spNumAt C_House) [] := ok_numat T
  refine T.d_chain.cal sc_chain (fun vs H Q E h => ?_) (fun cdv f A outer s H vs Q E hr h => ?_)
  · obtain ⟨x, k, n, B, rfl, _⟩ := h
    rfl
  · obtain ⟨x, k, n, B, rfl, hH, hn0, hn, hlen, q⟩ := h
    obtain ⟨dx, tb, ls, h1, h2, h3⟩ := hH.ex
    have hB := hH.beg
    have hk2 := hB.two
    have hk := hH.top
    refine ⟨_, (pss_cons (ps_par3 (i := 2) (j := 3) (l := 4) rfl sc_chain.nd rfl rfl rfl (by decide) (by decide) (by decide) rfl rfl rfl (pa_cons (pe_mt0 m_base hr (by decide) (pv 0)) (pa_cons (pe_mt0 m_folk hr (by decide) (pv 0)) (pa_cons (pe_mt0 m_reach hr (by decide) (pv 0)) pa_nil))) rfl)
      (pss_cons (ps_set (i := 5) sc_chain.nd rfl (.inl rfl) (pe_lst (pa_cons (pv 1) pa_nil)))
      (pss_cons (ps_asg (pe_c c_number_at hr (by decide) rfl (pa_cons (pv 0) (pa_cons (pv 1) pa_nil))) (pg_tup rfl (pgs_cons (pg_name (i := 6) sc_chain.nd rfl (.inl rfl)) (pgs_cons (pg_name (i := 7) sc_chain.nd rfl (.inl rfl)) pgs_nil))))
      (pss_cons (ps_while PassesOwn.never (pt_cmpR op_gt (pv 1) (pv 3) (nomark _))
        (pss_cons (ps_aug (i := 1) sc_chain.nd rfl (.inl rfl) (pe_op op_sub (pe_op op_sub pe_int (pv 4)) (pv 6)) ip_add)
        (pss_cons (ps_expr (pe_bm PySem.F.plainAttrs_list PySem.F.slot_list_append PySem.F.type_list_append mt_append (pv 5) (pa_cons (pv 1) pa_nil)))
        (pss_one (ps_if (pt_val (pv 7))
          (pss_one (ps_set (i := 6) sc_chain.nd rfl (.inl rfl) (pe_op op_fdivW (pe_op op_sub (pe_op op_add (pv 6) (pv 2)) pe_int) (pv 2))))
          (pss_one (ps_asg (pe_c c_number_at hr (by decide) rfl (pa_cons (pv 0) (pa_cons (pv 1) pa_nil))) (pg_tup rfl (pgs_cons (pg_name (i := 6) sc_chain.nd rfl (.inl rfl)) (pgs_cons (pg_name (i := 7) sc_chain.nd rfl (.inl rfl)) pgs_nil))))))))))
      (pss_one (ps_ret (pv 5))))))), ?_⟩
    walk_at "rd"
    refine ⟨x, _, _, rfl, by walk_at "tr", hfs_no _ _ _, ?_⟩
    refine ⟨x, k, B, rfl, hH, ?_⟩
    walk_at "rd"
    refine ⟨x, _, _, rfl, by walk_at "tr", hfs_no _ _ _, ?_⟩
    refine ⟨x, k, B, rfl, hH, ?_⟩
    walk_at "rd"
    refine ⟨x, _, _, rfl, by walk_at "tr", hfs_no _ _ _, ?_⟩
    refine ⟨x, k, B, rfl, hH, ?_⟩
    walk_at "rd"
    refine ⟨_, _, _, rfl, ?_⟩
    walk_at "rd"
    refine ⟨by walk_at "sz", fun l nl => ?_⟩
    generalize hu : upd H l _ = H1
    have s1 := heap_s hu nl
    have el := heap_e hu
    clear hu
    walk_at "rd"
    refine ⟨x, k, n, B, rfl, hH.same s1, hn0, hn, fun H2 t s2 nt et => ?_⟩
    refine ⟨t, _, rfl, .inl (.inl et), rfl, ?_⟩
    walk_at "rd"
    refine ⟨fun m => (fun σ H3 => ∃ (y : Nat) (pre : List Nat), σ = [some (.ref x), some (.int y), some (.int k), some (.int (las k B (k - 1) : Nat)), some (.int (rea B : Nat)), some (.ref l), some (.int (sa k B y : Nat)), some (.bl (firB k B y))] ∧ m = y ∧ 0 < y ∧ y ≤ n ∧ pre ++ chL k B y = chL k B n ∧ H3 l = some (.lst ((zs (pre ++ [y])).map V.int)) ∧ Same H H3),
      ⟨n, ⟨n, [], rfl, rfl, hn0, Nat.le_refl _, rfl, s2 _ _ el, s1.trans s2⟩⟩, fun m σ H3 hw => ?_⟩
    obtain ⟨y, pre, rfl, rfl, hm0, hmn, hpre, e3, s3⟩ := hw
    walk_at "rd"
    refine itd (fun c1 => ?_) (fun c1 => ?_)
    · have hmf : las k B (k - 1) < m := by omega
      obtain ⟨y, hy0, hym, hy⟩ := l1_lt hB hmf
      have hch := chL_next hB hmf hy
      have ey : ((m : Nat) : Int) + (1 - ((rea B : Nat) : Int) - ((sa k B m : Nat) : Int)) = (y : Int) := by
        rw [← hy]; unfold l1; omega
      have hpl : pre.length + 1 < 100000 := by
        have h4 := congrArg List.length hpre
        rw [List.length_append, hch, List.length_cons] at h4
        have h5 : 0 < (chL k B y).length := by
          rw [chL]; split <;> exact Nat.succ_pos _
        omega
      refine ⟨_, fun _ _ h => h, ?_⟩
      walk_at "rd"
      dsimp only
      rw [ey]
      refine ⟨.inl ⟨rfl, _, sql e3⟩, ?_⟩
      walk_at "rd"
      refine ⟨_, _, _, rfl, rfl, e3, by rw [ints_len, zs_len, List.length_append]; exact szl (by show pre.length + 1 ≤ _; omega), ?_⟩
      generalize hu : upd H3 l _ = H4
      have e4 := heap_e hu
      have s4 := heap_ss hu s3 nl
      clear hu
      rw [show ((zs (pre ++ [m])).map V.int ++ [V.int (y : Int)]) = (zs (pre ++ [m] ++ [y])).map V.int from zs_snoc _ _] at e4
      have hpre2 : (pre ++ [m]) ++ chL k B y = chL k B n := by rw [← hpre, hch, List.append_assoc]; rfl
      walk_at "rd"
      refine itd' (b := firB k B m) (fun c2 => ?_) (fun c2 => ?_)
      · have hfm : las k B (sa k B m - 1) + 1 = m := of_decide_eq_true c2
        obtain ⟨f1, f2⟩ := first_next hB hmf hy hfm
        have f3 : firB k B y = firB k B m := by rw [c2]; exact decide_eq_true f2
        walk_at "rd"
        refine ⟨divW (b := k) (y := 5) (by omega) (by omega), ?_⟩
        walk_at "rd"
        have ef : ((sa k B m : Nat) : Int) + (k : Int) - 1 = ((sa k B m + k - 1 : Nat) : Int) := by omega
        refine ⟨y, hym, y, pre ++ [m], by dsimp only; rw [f1, f3, ef]; rfl, rfl, hy0, by omega, hpre2, e4, s4⟩
      · walk_at "rd"
        refine ⟨x, k, y, B, rfl, hH.same s4, hy0, by omega, fun H5 t5 s5 nt5 et5 => ?_⟩
        refine ⟨t5, _, rfl, .inl (.inl et5), rfl, ?_⟩
        walk_at "rd"
        exact ⟨y, hym, ⟨y, pre ++ [m], rfl, rfl, hy0, by omega, hpre2, s5 _ _ e4, s4.trans s5⟩⟩
    · walk_at "rd"
      rw [chL_end (by omega)] at hpre
      rw [hpre] at e3
      exact q H3 l s3 nl e3
end
end Ab

namespace Ab
open PySem PySem.Spec PyProof.Rows L2
open C8 (Cal Mak Met pe_c pe_mk pe_mt pe_mt0)
section
variable {P : Program} {w : World} {K : PySem.W.Frag} {mg : Str → Option Value} {base : Heap} {C_House : Addr}
theorem ok_draw (T : Txt K mg C_House) : Cal P w K mg base 1 "_law_draw" spDraw [] := by
  refine T.d_draw.cal sc_draw (fun vs H Q E h => ?_) (fun cdv f A outer s H vs Q E hr h => ?_)
  · obtain ⟨p, m, n, c, rfl, _⟩ := h
    rfl
  · obtain ⟨p, m, n, c, rfl, h0, hm, hP, hn, q⟩ := h
    obtain ⟨C, a, l, h1, h2, h3, h4⟩ := hP.ex
    have hpos : (0 : Int) < m := by omega
    have ncp : c ≠ p := hP.ne h2
    refine ⟨_, (pss_cons (ps_if (pt_cmpR op_gt (pe_dget (hu_of hr) (pv 0) pe_str (fun _ _ => rfl)) pe_int (nomark _))
        (pss_cons (ps_set (i := 2) sc_draw.nd rfl (.inl rfl) (pe_op op_mod (pe_dget (hu_of hr) (pv 0) pe_str (fun _ _ => rfl)) (pv 1)))
        (pss_cons (ps_dput (hu_of hr) (pv 0) pe_str (pe_op op_fdivW (pe_dget (hu_of hr) (pv 0) pe_str (fun _ _ => rfl)) (pv 1)) rfl)
        (pss_one (ps_ret (pv 2)))))
        pss_nil)
      (pss_cons (ps_set (i := 3) sc_draw.nd rfl (.inl rfl) (pe_dget (hu_of hr) (pv 0) pe_str (fun _ _ => rfl)))
      (pss_cons (ps_dput (hu_of hr) (pv 0) pe_str (pe_op op_add (pv 3) pe_int) rfl)
      (pss_cons (ps_set (i := 4) sc_draw.nd rfl (.inl rfl) (pe_op op_add (pe_op op_mulW (pv 3) (pv 3)) pe_int))
      (C8.pss_cut (ps_if (pt_cmpR (op_neI (u64 hr)) (pe_dget (hu_of hr) (pv 0) pe_str (fun _ _ => rfl)) (pe_lst pa_nil) (nomark _))
        (pss_one (ps_set (i := 4) sc_draw.nd rfl (.inl rfl) (pe_ix ix_list (pe_dget (hu_of hr) (pv 0) pe_str (fun _ _ => rfl)) (pe_op op_mod (pv 3) (pe_callB call_len_seq (by rfl) T.b_len (by decide +kernel) (pa_cons (pe_dget (hu_of hr) (pv 0) pe_str (fun _ _ => rfl)) pa_nil))) (fun _ _ => rfl))))
        pss_nil)
      (C8.pss_cut (ps_if (PW.pt (pw_and (pt_cmpR op_lt (pv 3) (pe_callB call_len_seq (by rfl) T.b_len (by decide +kernel) (pa_cons (pe_dget (hu_of hr) (pv 0) pe_str (fun _ _ => rfl)) pa_nil)) (nomark _)) (pw_and1 (pt_cmpR op_ge (pv 4) (pe_op op_powW pe_int pe_int) (nomark _)))))
        (pss_cons (ps_dput (hu_of hr) (pv 0) pe_str (pe_op op_fdivW (pv 4) (pv 1)) rfl)
        (pss_one (ps_ret (pe_op op_mod (pv 4) (pv 1)))))
        pss_nil)
      (pss_cons (ps_set (i := 5) sc_draw.nd rfl (.inl rfl) (pe_op op_mod (pe_op op_mulW (pe_op op_add (pe_op op_add (pe_op op_mod (pv 4) pe_int) (pe_op op_mulW pe_int (pv 3))) pe_int) pe_int) pe_int))
      (pss_cons (ps_for PassesOwn.never rfl (pi_range1 rfl T.b_range (pa_cons pe_int pa_nil)) (pg_name (i := 6) sc_draw.nd rfl (.inl rfl))
        (pss_cons (ps_set (i := 5) sc_draw.nd rfl (.inl rfl) (pe_op op_add (pe_op op_add (pe_op op_add (pe_op op_mulW (pv 5) (pv 5)) (pe_op op_mulW pe_int (pv 5))) (pv 3)) (pv 6)))
        (pss_one (ps_set (i := 5) sc_draw.nd rfl (.inl rfl) (pe_op op_mod (pv 5) pe_int)))))
      (pss_one (ps_ret (pe_op op_mod (pe_op op_fdivW (pv 5) pe_int) (pv 1)))))))))))), ?_⟩
    -- what is left of a great cell
    refine ⟨_, rfl, p, _, rfl, get_left h1, ?_⟩
    walk_at "rd"
    refine itd (fun c0 => ?_) (fun c0 => ?_)
    · refine ⟨_, rfl, p, _, rfl, get_left h1, ?_⟩
      walk_at "rd"
      refine ⟨hpos, ?_⟩
      refine ⟨_, rfl, p, _, rfl, get_left h1, ?_⟩
      walk_at "rd"
      refine ⟨divW (y := 8000) h0 hm, ?_⟩
      walk_at "rd"
      refine ⟨p, _, rfl, dput_left _ h1, ?_⟩
      walk_at "rd"
      obtain ⟨r, hr1, hr2⟩ := emodN l h0
      have e := q _ r hr1 ⟨C, a, l / (m : Int), upd_same, by rw [upd_ne ncp]; exact h2, h3, Nat.le_succ_of_le h4⟩ But.upd
      rw [← hr2] at e
      exact e
    · -- the next place
      refine ⟨_, rfl, p, _, rfl, get_at h1, ?_⟩
      walk_at "rd"
      refine ⟨p, _, rfl, dput_at h1, ?_⟩
      have g1 : ∀ x, upd H p x p = some x := fun x => upd_same
      have g2 : ∀ x, upd H p x c = some (.lst (C.map V.int)) := fun x => by rw [upd_ne ncp]; exact h2
      have ha : a < 2 ^ 20 := by omega
      walk_at "rd"
      refine ⟨mulW (x := 20) (y := 20) ha ha, ?_⟩
      walk_at "rd"
      -- a cell, where there are any
      have hcut : ∃ (W : L2.St → Hp → Prop), W = fun σ H1 => ∃ z : Int, σ = [some (.ref p), some (.int m), none, some (.int a), some (.int z), none, none] ∧ H1 p = some (.dK (pkv c (a + 1) l)) ∧ H1 c = some (.lst (C.map V.int)) ∧ But p H H1 := ⟨_, rfl⟩
      obtain ⟨W, hW⟩ := hcut
      refine ⟨W, ?_, ?_⟩
      · refine ⟨_, rfl, p, _, rfl, get_cells (g1 _), ?_⟩
        refine ⟨Nat.zero_le _, fun e ne => ?_⟩
        have nep : p ≠ e := ne_of_none (g1 _) ne
        have nec : c ≠ e := ne_of_none (g2 _) ne
        have b1 : But p H (upd (upd H p (.dK (pkv c (a + 1) l))) e (.lst [])) := But.trans But.upd (But.same (same_upd ne))
        refine ⟨c, e, C, [], rfl, rfl, sql (by rw [upd_ne nec]; exact g2 _), sql upd_same, ?_⟩
        walk_at "rd"
        refine itn (fun c1 => ?_) (fun c1 => ?_)
        · refine ⟨_, rfl, p, _, rfl, get_cells (by rw [upd_ne nep]; exact g1 _), ?_⟩
          walk_at "rd"
          refine ⟨p, _, rfl, get_cells (by rw [upd_ne nep]; exact g1 _), ?_⟩
          refine ⟨c, _, rfl, .inl (sql (by rw [upd_ne nec]; exact g2 _)), ?_⟩
          have hpos2 : 0 < C.length := List.length_pos_iff.mpr c1
          walk_at "rd"
          refine ⟨by rw [ints_len]; show (0 : Int) < (C.length : Int); omega, ?_⟩
          have hlt : a % C.length < C.length := Nat.mod_lt a hpos2
          refine ⟨c, _, _, _, rfl, rfl, sql (by rw [upd_ne nec]; exact g2 _), at_of (j := a % C.length) (by rw [ints_len]; rfl) (by rw [List.getElem?_map, List.getElem?_eq_getElem hlt]; rfl), ?_⟩
          rw [hW]
          exact ⟨_, rfl, by rw [upd_ne nep]; exact g1 _, by rw [upd_ne nec]; exact g2 _, b1⟩
        · rw [hW]
          exact ⟨_, rfl, by rw [upd_ne nep]; exact g1 _, by rw [upd_ne nec]; exact g2 _, b1⟩
      · intro σ1 H1 w1
        rw [hW] at w1
        obtain ⟨z, rfl, k1, k2, b1⟩ := w1
        refine ⟨fun σ H2 => σ = [some (.ref p), some (.int m), none, some (.int a), some (.int z), none, none] ∧ H2 = H1, ?_, ?_⟩
        · walk_at "rd"
          refine ⟨p, _, rfl, get_cells k1, ?_⟩
          refine ⟨c, _, rfl, .inl (sql k2), ?_⟩
          walk_at "rd"
          refine itd (fun c1 => ?_) (fun c1 => ?_)
          · walk_at "rd"
            refine ⟨⟨by decide, by decide +kernel⟩, ?_⟩
            walk_at "rd"
            refine itd (fun c2 => ?_) (fun c2 => ?_)
            · walk_at "rd"
              refine ⟨divW (y := 8000) h0 hm, ?_⟩
              walk_at "rd"
              refine ⟨p, _, rfl, dput_left _ k1, ?_⟩
              walk_at "rd"
              refine ⟨hpos, ?_⟩
              obtain ⟨r, hr1, hr2⟩ := emodN z h0
              have e := q _ r hr1 ⟨C, a + 1, z / (m : Int), upd_same, by rw [upd_ne ncp]; exact k2, h3, Nat.succ_le_succ h4⟩ (b1.trans But.upd)
              rw [← hr2] at e
              exact e
            · exact ⟨rfl, rfl⟩
          · exact ⟨rfl, rfl⟩
        · rintro σ2 H2 ⟨rfl, rfl⟩
          walk_at "rd"
          refine ⟨by show (0 : Int) < 4294967311; decide, ?_⟩
          walk_at "rd"
          refine ⟨mulW (a := 65539) (x := 17) (y := 20) (by decide) ha, ?_⟩
          walk_at "rd"
          have z0 := Int.emod_nonneg z (show (4294967311 : Int) ≠ 0 by decide)
          have z1 := Int.emod_lt_of_pos z (show (0 : Int) < 4294967311 by decide)
          generalize z % 4294967311 = y at z0 z1
          refine ⟨wide_mul (a := 40) (b := 17) (by omega) (by decide) (by decide) (by decide) (by decide), ?_⟩
          walk_at "rd"
          refine ⟨by show (0 : Int) < 4294967311; decide, ?_⟩
          have y0 := Int.emod_nonneg ((y + 65539 * (a : Int) + 17) * 48271) (show (4294967311 : Int) ≠ 0 by decide)
          have y1 := Int.emod_lt_of_pos ((y + 65539 * (a : Int) + 17) * 48271) (show (0 : Int) < 4294967311 by decide)
          refine ⟨3, rfl, by decide, by decide, for_range (n := 3) (fun i σ H3 => ∃ (x : Int) (v : Option V), σ = [some (.ref p), some (.int m), none, some (.int a), some (.int z), some (.int x), v] ∧ 0 ≤ x ∧ x < 4294967311 ∧ H3 = H2)
            ⟨_, _, rfl, y0, y1, rfl⟩ (fun i σ H3 hi hP => ?_) (fun σ H3 hP => ?_)⟩
          · obtain ⟨x, v, rfl, x0, x1, rfl⟩ := hP
            walk_at "rd"
            refine ⟨wide_mul (a := 33) (b := 33) (by omega) (by omega) (by decide) (by decide) (by decide), ?_⟩
            walk_at "rd"
            refine ⟨wide_mul (a := 20) (b := 33) (by decide) (by omega) (by decide) (by decide) (by decide), ?_⟩
            walk_at "rd"
            refine ⟨by show (0 : Int) < 4294967311; decide, ?_⟩
            exact ⟨_, _, rfl, Int.emod_nonneg _ (by decide), Int.emod_lt_of_pos _ (by decide), rfl⟩
          · obtain ⟨x, v, rfl, x0, x1, rfl⟩ := hP
            walk_at "rd"
            refine ⟨divW (b := 32) (y := 6) (by decide) (by decide), ?_⟩
            walk_at "rd"
            refine ⟨hpos, ?_⟩
            obtain ⟨r, hr1, hr2⟩ := emodN (x / 32) h0
            have e := q _ r hr1 ⟨C, a + 1, l, k1, k2, h3, Nat.succ_le_succ h4⟩ b1
            rw [← hr2] at e
            exact e
theorem ok_pen (T : Txt K mg C_House) : Cal P w K mg base 1 "_law_pen" (spPen K) [] := by
  refine T.d_pen.cal sc_pen (fun vs H Q E h => ?_) (fun cdv f A outer s H vs Q E hr h => ?_)
  · obtain ⟨a, ns, rfl, _⟩ := h
    rfl
  · obtain ⟨a, ns, rfl, hS, hlen, q⟩ := h
    refine ⟨_, (pss_cons (ps_set (i := 1) sc_pen.nd rfl (.inr rfl) (pe_op op_powW (pe_op op_powW pe_int pe_int) pe_int))
      (pss_one (ps_ret (pe_disp (pps_cons pe_str (pe_lc (own := [("_law_cell", 2)]) (g := gName 2) (tt := tYes) rfl sc_pen.nd (pi_list (pe_slice sl_list (pv 0) po_none (po_some pe_int))) (blkOk_by (own := [("_law_cell", 2)]) (N := ["_law_script", "_law_most", "_law_cell"]) (sc := defScope s_pen) (by decide +kernel)) (fun _ _ _ _ _ => pg_name (i := 2) sc_pen.nd rfl (Or.inl rfl)) (fun _ _ _ _ _ => pts_nil) (fun _ _ _ _ _ => (pe_ifExp (pt_cmpR op_ge (pe_callB call_abs (by rfl) T.b_abs (by decide +kernel) (pa_cons (pv 2) pa_nil)) (pe_op op_powW pe_int pe_int) (nomark _)) (pe_op op_mod (pe_callB call_abs (by rfl) T.b_abs (by decide +kernel) (pa_cons (pv 2) pa_nil)) (pv 1)) (pv 2)))) (pps_cons pe_str pe_int (pps_cons pe_str pe_int pps_nil))) (by rfl) (by rfl) (fun z => by cases z) (by decide))))), ?_⟩
    walk_at "rd"
    refine ⟨⟨by decide, by decide +kernel⟩, ?_⟩
    walk_at "rd"
    refine ⟨⟨by decide, by decide +kernel⟩, ?_⟩
    have hm : (0 : Int) < ((10 : Int) ^ (60 : Int).toNat) ^ (60 : Int).toNat := by decide +kernel
    refine fun p np => ?_
    have s1 := same_upd (o := .dK []) np
    walk_at "rd"
    refine ⟨a, _, rfl, s1.seq hS, fun l nl => ?_⟩
    have s2 := same_upd (o := .lst (cutV (ns.map V.int) none (some 63))) nl
    have npl : p ≠ l := ne_of_none upd_same nl
    walk_at "rd"
    refine ⟨⟨_, sql upd_same⟩, fun D nD => ?_⟩
    have nlD : l ≠ D := ne_of_none upd_same nD
    have npD : p ≠ D := ne_of_none (by rw [upd_ne npl]; exact upd_same) nD
    have eP : ∀ o, upd (upd (upd H p (.dK [])) l (.lst (cutV (ns.map V.int) none (some 63)))) D o p = some (.dK []) := fun o => by rw [upd_ne npD, upd_ne npl]; exact upd_same
    have s3 : ∀ o, Same H (upd (upd (upd H p (.dK [])) l (.lst (cutV (ns.map V.int) none (some 63)))) D o) := fun o => (s1.trans s2).trans (same_upd nD)
    have nHD : H D = none := (s1.trans s2).free nD
    have hz : ∀ i x, (cutV (ns.map V.int) none (some 63))[i]? = some x → i < 63 ∧ ∃ z, x = V.int z := by
      intro i x hx
      unfold cutV at hx
      rw [List.getElem?_take] at hx
      split at hx
      · rename_i hi
        rw [List.getElem?_drop, List.getElem?_map] at hx
        cases e : ns[HT.sIx (ns.map V.int).length 0 none + i]? with
        | none => rw [e] at hx; cases hx
        | some z =>
          rw [e] at hx
          have := (List.getElem?_eq_some_iff.mp e).1
          exact ⟨by omega, z, (Option.some.inj hx).symm⟩
      · cases hx
    have hN : (cutV (ns.map V.int) none (some 63)).length ≤ 63 := by
      unfold cutV
      rw [List.length_take, List.length_drop, ints_len]
      omega
    generalize cutV (ns.map V.int) none (some 63) = cs at hz hN nD eP s3 ⊢
    clear s2
    refine lc_list (K := K) (a := l) (xs := cs) (fun i H3 => ∃ C : List Int, H3 D = some (.lst (C.map V.int)) ∧ C.length = i ∧ H3 p = some (.dK []) ∧ H3 l = some (.lst cs) ∧ Same H H3)
      ⟨[], upd_same, rfl, eP _, by rw [upd_ne nlD]; exact upd_same, s3 _⟩ (fun i H3 hi h3 => ?_) (fun i x H3 hx h3 => ?_) (fun H3 h3 => ?_)
    · obtain ⟨C, _, _, _, h3, _⟩ := h3
      exact sql h3
    · obtain ⟨C, d1, d2, d3, d4, d5⟩ := h3
      obtain ⟨hi, z, rfl⟩ := hz i x hx
      walk_at "rd"
      refine ⟨⟨by decide, by decide +kernel⟩, ?_⟩
      walk_at "rd"
      refine itd (fun _ => ?_) (fun _ => ?_)
      · walk_at "rd"
        refine ⟨hm, ?_⟩
        exact ⟨_, d1, by rw [ints_len]; exact small1000 (by omega), C ++ [_], by rw [upd_same, List.map_append]; rfl, by rw [List.length_append, d2]; rfl, by rw [upd_ne npD]; exact d3, by rw [upd_ne nlD]; exact d4, same_put d5 nHD⟩
      · walk_at "rd"
        exact ⟨_, d1, by rw [ints_len]; exact small1000 (by omega), C ++ [_], by rw [upd_same, List.map_append]; rfl, by rw [List.length_append, d2]; rfl, by rw [upd_ne npD]; exact d3, by rw [upd_ne nlD]; exact d4, same_put d5 nHD⟩
    · obtain ⟨C, d1, d2, d3, d4, d5⟩ := h3
      refine ⟨d3, [(.inr "cells", .ref D), (.inr "at", .int 0), (.inr "left", .int 0)], rfl, Nat.le_add_left 3 12, ?_⟩
      rw [merge_pen]
      exact q _ p D ⟨C, 0, 0, upd_same, by rw [upd_ne npD.symm]; exact d1, by omega, Nat.le_refl _⟩ (same_put d5 np) np
theorem ok_farp (T : Txt K mg C_House) : Cal P w K mg base 2 "_law_far" spFarP [] := by
  have c_draw : Cal P w K mg base 1 "_law_draw" (cut spDraw) [] := cut_cal (ok_draw T)
  refine T.d_far.cal sc_far (fun vs H Q E h => ?_) (fun cdv f A outer s H vs Q E hr h => ?_)
  · obtain ⟨p, m, n, c, rfl, _⟩ := h
    rfl
  · obtain ⟨p, m, n, c, rfl, hm0, hm, hP, hn, q⟩ := h
    refine ⟨_, (pss_cons (ps_set (i := 2) sc_far.nd rfl (.inl rfl) pe_int)
      (pss_cons (ps_for PassesOwn.never rfl (pi_range1 rfl T.b_range (pa_cons (pe_op op_add pe_int (pe_c c_draw hr (by decide) rfl (pa_cons (pv 0) (pa_cons (pv 1) pa_nil)))) pa_nil)) (pg_name (i := 3) sc_far.nd rfl (.inl rfl))
        (pss_one (ps_set (i := 2) sc_far.nd rfl (.inl rfl) (pe_op op_add (pe_op op_mulW (pv 2) (pe_op op_powW pe_int pe_int)) (pe_c c_draw hr (by decide) rfl (pa_cons (pv 0) (pa_cons (pe_op op_powW pe_int pe_int) pa_nil)))))))
      (pss_one (ps_ret (pv 2))))), ?_⟩
    walk_at "rd"
    refine use_draw (by walk_at "tr") (by walk_at "om") (by walk_at "om") (by omega) fun H r hr Pn bu => ?_
    walk_at "rd"
    refine ⟨by omega, by omega, for_range (n := (1 + (r : Int)).toNat) (fun i σ H' => ∃ (x : Nat) (w3 : Option V), σ = [some (.ref p), some (.int m), some (.int x), w3] ∧ x < (10 ^ 6) ^ i ∧ PenAt H' p c (n + 1 + i) ∧ But p H H') ⟨0, _, rfl, by decide, by assumption, But.refl _ _⟩
      (fun i σ H' hi h => ?_) (fun σ H' h => ?_)⟩
    · obtain ⟨x, w3, rfl, hx, Pn, bu⟩ := h
      have hx2 : x < 2 ^ 3400 := Nat.lt_of_lt_of_le hx (Nat.le_trans (pow6 i) (Nat.pow_le_pow_right (by decide) (by omega)))
      walk_at "rd"
      refine ⟨⟨by decide, by decide +kernel⟩, ?_⟩
      walk_at "rd"
      refine ⟨mulW (b := 1000000) (x := 3400) (y := 20) hx2 (by decide), ?_⟩
      walk_at "rd"
      refine ⟨⟨by decide, by decide +kernel⟩, ?_⟩
      walk_at "rd"
      have e6 : (10 : Int) ^ (6 : Int).toNat = 1000000 := by decide
      refine ⟨p, 1000000, n + 1 + i, c, rfl, by decide, lt8000 (by decide), by assumption, by omega, fun H4 d hd Pn b4 => ?_⟩
      walk_at "rd"
      refine ⟨?_, Pn.le (by omega), bu.trans b4⟩
      show x * 1000000 + d < _
      rw [Nat.pow_succ]
      have h1 : x + 1 ≤ (10 ^ 6) ^ i := hx
      have h2 := Nat.mul_le_mul_right (10 ^ 6) h1
      omega
    · obtain ⟨x, w3, rfl, hx, Pn, b2⟩ := h
      walk_at "rd"
      have e1 : (1 + (r : Int)).toNat = 1 + r := by omega
      rw [e1] at hx Pn
      refine q H' x (Nat.lt_of_lt_of_le hx (Nat.le_trans (pow6 _) (Nat.pow_le_pow_right (by decide) (by omega)))) (Pn.le (by omega)) (but_t b2 (by assumption))
theorem ok_begunp (T : Txt K mg C_House) : Cal P w K mg base 3 "_law_begun" spBegunP [] := by
  have c_draw : Cal P w K mg base 1 "_law_draw" (cut spDraw) [] := cut_cal (ok_draw T)
  have c_far : Cal P w K mg base 2 "_law_far" spFarP [] := ok_farp T
  refine T.d_begun.cal sc_begun (fun vs H Q E h => ?_) (fun cdv f A outer s H vs Q E hr h => ?_)
  · obtain ⟨p, k, m, n, c, rfl, _⟩ := h
    rfl
  · obtain ⟨p, k, m, n, c, rfl, hk2, hk30, hm0, hm, hP, hn, q⟩ := h
    have hp20 : 2 ^ 20 ≤ 2 ^ (20 * m) := Nat.pow_le_pow_right (by decide) (by omega)
    refine ⟨_, (pss_cons (ps_set (i := 3) sc_begun.nd rfl (.inl rfl) (pe_lst pa_nil))
      (pss_cons (ps_for PassesOwn.never rfl (pi_range1 rfl T.b_range (pa_cons (pe_op op_sub (pv 1) pe_int) pa_nil)) (pg_name (i := 4) sc_begun.nd rfl (.inl rfl))
        (pss_cons (ps_set (i := 5) sc_begun.nd rfl (.inl rfl) (pe_c c_draw hr (by decide) rfl (pa_cons (pv 0) (pa_cons pe_int pa_nil))))
        (pss_one (ps_expr (pe_bm PySem.F.plainAttrs_list PySem.F.slot_list_append PySem.F.type_list_append mt_append (pv 3) (pa_cons (pe_ifExp (pt_cmpR op_lt (pv 5) pe_int (nomark _)) (pe_op op_add pe_int (pe_c c_draw hr (by decide) rfl (pa_cons (pv 0) (pa_cons (pe_ix ix_list (pe_lst (pa_cons pe_int (pa_cons pe_int (pa_cons pe_int (pa_cons pe_int pa_nil))))) (pv 5) (fun _ _ => rfl)) pa_nil)))) (pe_op op_add pe_int (pe_c c_far hr (by decide) rfl (pa_cons (pv 0) (pa_cons (pv 2) pa_nil))))) pa_nil))))))
      (pss_one (ps_ret (pv 3))))), ?_⟩
    refine ⟨Nat.zero_le _, fun D nD => ?_⟩
    have hD := hP.new nD
    have npD := hD.1
    walk_at "rd"
    refine ⟨by omega, by omega, for_range (n := ((k : Int) - 1).toNat) (fun i σ H3 => ∃ (B : List Nat) (w4 w5 : Option V), σ = [some (.ref p), some (.int k), some (.int m), some (.ref D), w4, w5] ∧ H3 D = some (.lst ((zs B).map V.int)) ∧ B.length = i ∧ (∀ x ∈ B, 1 ≤ x ∧ x ≤ 2 ^ (20 * m)) ∧ PenAt H3 p c (n + (m + 2) * i) ∧ But p H H3) ⟨[], _, _, rfl, upd_same, rfl, fun x hx => by (cases hx), hP.same (same_upd nD), But.same (same_upd nD)⟩
      (fun i σ H3 hi h => ?_) (fun σ H3 h => ?_)⟩
    · obtain ⟨B, w4, w5, rfl, d1, d2, d3, P3, b3⟩ := h
      have hi30 : i < 30 := by omega
      have hmi : (m + 2) * i ≤ 21 * 30 := Nat.mul_le_mul (by omega) (by omega)
      have hmi2 : (m + 2) * (i + 1) = (m + 2) * i + (m + 2) := Nat.mul_succ _ _
      have fin : ∀ (H7 : Hp) (N : Nat) (v5 : Option V), PenAt H7 p c (n + (m + 2) * i + (m + 2)) → But p H3 H7 → 1 ≤ N → N ≤ 2 ^ (20 * m) →
          (fun σ H7 => ∃ (B2 : List Nat) (w4 w5 : Option V), σ = [some (.ref p), some (.int k), some (.int m), some (.ref D), w4, w5] ∧ H7 D = some (.lst ((zs B2).map V.int)) ∧ B2.length = i + 1 ∧ (∀ x ∈ B2, 1 ≤ x ∧ x ≤ 2 ^ (20 * m)) ∧ PenAt H7 p c (n + (m + 2) * (i + 1)) ∧ But p H H7) [some (V.ref p), some (.int k), some (.int m), some (.ref D), some (.int (0 + (i : Int))), v5] (upd H7 D (.lst ((zs B).map V.int ++ [V.int (N : Nat)]))) := by
        intro H7 N v5 P7 b7 h1 h2
        refine ⟨B ++ [N], _, _, rfl, by rw [upd_same, zs_snoc], by rw [List.length_append, d2]; rfl, fun x hx => ?_, (P7.put hD).le (by omega), (b3.trans b7).put nD⟩
        rcases List.mem_append.mp hx with z | z
        · exact d3 x z
        · rw [List.mem_singleton.mp z]; exact ⟨h1, h2⟩
      walk_at "rd"
      refine use_draw (by walk_at "tr") (by walk_at "om") (by walk_at "om") (by omega) fun H way hway Pn bu => ?_
      walk_at "rd"
      refine ⟨.inl ⟨rfl, _, sql (by walk_at "tr")⟩, ?_⟩
      walk_at "rd"
      refine itd (fun c1 => ?_) (fun c1 => ?_)
      · walk_at "rd"
        refine ⟨by walk_at "sz", fun l nl => ?_⟩
        generalize hu : upd _ l _ = H
        have s := heap_s hu nl
        have el := heap_e hu
        clear hu
        walk_at "rd"
        obtain ⟨N, hN0, hN, hat⟩ : ∃ N : Nat, 0 < N ∧ N ≤ 30 ∧ ([V.int 1, .int 4, .int 30, .int 1] : List V)[way]? = some (.int (N : Nat)) := by
          match way, c1 with
          | 0, _ => exact ⟨1, by omega, by omega, rfl⟩
          | 1, _ => exact ⟨4, by omega, by omega, rfl⟩
          | 2, _ => exact ⟨30, by omega, by omega, rfl⟩
        refine ⟨l, _, _, _, rfl, rfl, sql el, at_of (j := way) rfl hat, ?_⟩
        walk_at "rd"
        refine' hold (A := PenAt H p c _) (by walk_at "tr") fun Pn => ?_
        refine use_draw (by walk_at "tr") (by walk_at "om") (by walk_at "om") (by omega) fun H r hr Pn bu => ?_
        walk_at "rd"
        refine ⟨_, _, _, rfl, rfl, by walk_at "tr", by walk_at "sz", ?_⟩
        exact fin _ (1 + r) _ (PenAt.le (n := n + (m + 2) * i + 1 + 1) (by assumption) (by omega)) (by walk_at "tr") (by omega) (by omega)
      · walk_at "rd"
        refine ⟨p, m, _, c, rfl, hm0, by omega, by assumption, by omega, fun H r hr Pn bu => ?_⟩
        walk_at "rd"
        refine ⟨_, _, _, rfl, rfl, by walk_at "tr", by walk_at "sz", ?_⟩
        exact fin _ (1 + r) _ (Pn.le (by omega)) (by walk_at "tr") (by omega) (by omega)
    · obtain ⟨B, w4, w5, rfl, d1, d2, d3, P3, b3⟩ := h
      have hB : Beg k B := ⟨hk2, by omega, fun x hx => (d3 x hx).1⟩
      have h1 := sum_le_of (B := B) (m := 2 ^ (20 * m)) fun x hx => (d3 x hx).2
      have h2 := rea_le hB.pos
      have h3 : B.length * 2 ^ (20 * m) ≤ 2 ^ 5 * 2 ^ 380 := Nat.mul_le_mul (by omega) (Nat.pow_le_pow_right (by decide) (by omega))
      have h4 : 2 ^ 5 * 2 ^ 380 < 2 ^ 400 := by decide +kernel
      have h5 : (m + 2) * ((k : Int) - 1).toNat ≤ k * (m + 2) := by
        rw [Nat.mul_comm k]
        exact Nat.mul_le_mul (Nat.le_refl _) (by omega)
      walk_at "rd"
      exact q H3 D B (P3.le (by omega)) b3 nD d1 hB (by omega) fun x hx => (d3 x hx).2
theorem ok_ltimes (T : Txt K mg C_House) : Cal P w K mg base 1 "_law_times" spLtimesP [] := by
  refine T.d_times.cal sc_times (fun vs H Q E h => ?_) (fun cdv f A outer s H vs Q E hr h => ?_)
  · obtain ⟨k, b, n, B, rfl, _⟩ := h
    rfl
  · obtain ⟨k, b, n, B, rfl, hb, hB, hk, hn, q⟩ := h
    have hk2 := hB.two
    refine ⟨_, (pss_cons (ps_par (i := 3) (j := 4) rfl sc_times.nd rfl rfl (by decide) rfl rfl (pa_cons (pv 2) (pa_cons pe_int pa_nil)) rfl)
      (pss_cons (ps_while PassesOwn.never (PW.pt (pw_and (pt_cmpR op_ge (pv 3) (pv 0) (nomark _)) (pw_and1 (pt_cmpR op_eq (pe_op op_mod (pv 3) (pv 0)) pe_int (nomark _)))))
        (pss_one (ps_par (i := 3) (j := 4) rfl sc_times.nd rfl rfl (by decide) rfl rfl (pa_cons (pe_op op_fdivW (pv 3) (pv 0)) (pa_cons (pe_op op_add (pv 4) pe_int) pa_nil)) rfl)))
      (pss_one (ps_ret (pe_op op_add (pv 4) (pe_ifExp (pt_cmpR op_lt (pv 3) (pv 0) (nomark _)) (pe_ix ix_list (pv 1) (pe_op op_sub (pv 3) pe_int) (fun _ _ => rfl)) pe_int)))))), ?_⟩
    walk_at "rd"
    refine ⟨fun m => (fun σ H1 => ∃ (l e : Nat), σ = [some (.int k), some (.ref b), some (.int n), some (.int l), some (.int e)] ∧ m = l ∧ 0 < l ∧ e + tim k B l = tim k B n ∧ H1 = H), ⟨n, ⟨n, 0, rfl, rfl, hn, by omega, rfl⟩⟩, fun m σ H1 hw => ?_⟩
    obtain ⟨l, e, rfl, rfl, hl, he, rfl⟩ := hw
    have done : (m < k ∨ m % k ≠ 0) → tRet (tOp (rI0 fun i j => V.int (i + j)) (tVar 4) (tIf (tTest (tOp (rI0 fun i j => V.bl (decide (i < j))) (tVar 3) (tVar 0))) (tOp (rIxL K) (tVar 1) (tOp (rI0 fun i j => V.int (i - j)) (tVar 3) (tC (.int 1)))) (tC (.int 1)))) { nx := fun _ H' => Q .non H', rt := Q } [some (.int k), some (.ref b), some (.int n), some (.int m), some (.int e)] H1 := fun hend => by
      walk_at "rd"
      refine itd (fun c => ?_) (fun c => ?_)
      · have hmk : m < k := by omega
        obtain ⟨x, hx1, _, hx3⟩ := hB.at hl hmk
        rw [tim_small hmk, hx3] at he
        walk_at "rd"
        refine ⟨b, _, _, _, rfl, rfl, sql hb, at_of (j := m - 1) (by omega) (zs_at hx1), ?_⟩
        walk_at "rd"
        rw [← he] at q
        exact q
      · have hmk : k ≤ m := by omega
        rw [tim_one hk2 hmk (hend.resolve_left (by omega))] at he
        walk_at "rd"
        rw [← he] at q
        exact q
    walk_at "rd"
    refine itd (fun c => ?_) (fun c => done (.inl (by omega)))
    walk_at "rd"
    refine ⟨by show (0 : Int) < (k : Int); omega, ?_⟩
    walk_at "rd"
    refine itd (fun c2 => ?_) (fun c2 => done (.inr fun z => c2 (congrArg (fun x : Nat => V.int x) z)))
    have hm : m % k = 0 := Int.ofNat.inj (V.int.inj c2)
    have hkm : k ≤ m := by omega
    rw [tim_more hk2 hkm hm] at he
    refine ⟨_, fun _ _ h => h, ?_⟩
    walk_at "rd"
    refine ⟨divW (b := k) (y := 5) (by omega) (by omega), ?_⟩
    walk_at "rd"
    exact ⟨m / k, Nat.div_lt_self hl (by omega), m / k, e + 1, rfl, rfl, div_pos_of hk2 hkm, by omega, rfl⟩
theorem las_eqn (k : Nat) (B : List Nat) (m : Nat) : las k B m = m + heap k m + (expo k m * rea B + sm B (lead k m)) := rfl
theorem take_sum {B : List Nat} (h : ∀ b ∈ B, 1 ≤ b) : ∀ d, d ≤ B.length → (B.take d).sum = sm B d + d
  | 0, _ => by simp [sm_zero]
  | d + 1, hd => by
    have h1 := take_sum h d (by omega)
    have h2 : B[d]? = some B[d] := List.getElem?_eq_getElem (by omega)
    have h3 := h B[d] (List.getElem_mem (by omega))
    rw [sm_succ h2, List.take_add_one, h2, List.sum_append, h1]
    show _ + (B[d] + 0) = _
    omega
theorem ok_llast (T : Txt K mg C_House) : Cal P w K mg base 1 "_law_last" spLlastP [] := by
  refine T.d_last.cal sc_last (fun vs H Q E h => ?_) (fun cdv f A outer s H vs Q E hr h => ?_)
  · obtain ⟨k, b, n, B, rfl, _⟩ := h
    rfl
  · obtain ⟨k, b, n, B, rfl, hb, hB, hk, hbig, hn, q⟩ := h
    have hk2 := hB.two
    have hlen := hB.len
    have hex : expo k n < 2 ^ 20 := by
      by_cases z : n < k
      · rw [expo_small z]; decide
      · have e1 := digs_len hk2 n (by omega)
        have e2 := digs_bits hk2 n 20000 hn
        omega
    have hlead := lead_lt hk2 n
    refine ⟨_, (pss_cons (ps_par3 (i := 3) (j := 4) (l := 5) rfl sc_last.nd rfl rfl rfl (by decide) (by decide) (by decide) rfl rfl rfl (pa_cons (pv 2) (pa_cons pe_int (pa_cons pe_int pa_nil))) rfl)
      (pss_cons (ps_while PassesOwn.never (pt_cmpR op_ge (pv 3) (pv 0) (nomark _))
        (pss_cons (ps_set (i := 3) sc_last.nd rfl (.inl rfl) (pe_op op_fdivW (pv 3) (pv 0)))
        (pss_one (ps_par (i := 4) (j := 5) rfl sc_last.nd rfl rfl (by decide) rfl rfl (pa_cons (pe_op op_add (pv 4) (pv 3)) (pa_cons (pe_op op_add (pv 5) pe_int) pa_nil)) rfl))))
      (pss_cons (ps_set (i := 6) sc_last.nd rfl (.inl rfl) (pe_op op_sub (pe_callB (cr_sum rfl) (by rfl) T.b_sum (by decide +kernel) (pa_cons (pv 1) pa_nil)) (pe_callB call_len_seq (by rfl) T.b_len (by decide +kernel) (pa_cons (pv 1) pa_nil))))
      (pss_one (ps_ret (pe_op op_sub (pe_op op_add (pe_op op_add (pe_op op_add (pv 2) (pv 4)) (pe_op op_mulW (pv 5) (pv 6))) (pe_callB (cr_sum rfl) (by rfl) T.b_sum (by decide +kernel) (pa_cons (pe_slice sl_list (pv 1) po_none (po_some (pv 3))) pa_nil))) (pv 3))))))), ?_⟩
    walk_at "rd"
    refine ⟨_, _, _, rfl, ?_⟩
    refine ⟨fun m => (fun σ H1 => ∃ (l h e : Nat) (w6 : Option V), σ = [some (.int k), some (.ref b), some (.int n), some (.int l), some (.int h), some (.int e), w6] ∧ m = l ∧ h + heap k l = heap k n ∧ e + expo k l = expo k n ∧ lead k l = lead k n ∧ H1 = H), ⟨n, ⟨n, 0, 0, _, rfl, rfl, by omega, by omega, rfl, rfl⟩⟩, fun m σ H1 hw => ?_⟩
    obtain ⟨l, h, e, w6, rfl, rfl, h1, h2, h3, rfl⟩ := hw
    walk_at "rd"
    refine itd (fun c => ?_) (fun c => ?_)
    · have hkm : k ≤ m := by omega
      refine ⟨_, fun _ _ h => h, ?_⟩
      walk_at "rd"
      refine ⟨divW (b := k) (y := 5) (by omega) (by omega), ?_⟩
      rw [heap_step hk2] at h1
      rw [expo_step hk2 hkm] at h2
      rw [lead_step hk2 hkm] at h3
      walk_at "rd"
      exact ⟨m / k, Nat.div_lt_self (by omega) (by omega), ⟨m / k, h + m / k, e + 1, _, rfl, rfl, by omega, by omega, h3, rfl⟩⟩
    · have hmk : m < k := by omega
      rw [heap_small hmk] at h1
      rw [expo_small hmk] at h2
      rw [lead_small hmk] at h3
      walk_at "rd"
      refine ⟨b, zs B, rfl, sql hb, ?_⟩
      walk_at "rd"
      refine ⟨b, _, rfl, .inl (sql hb), ?_⟩
      walk_at "rd"
      have er : ((zs B).sum - (((zs B).map V.int).length : Int)) = ((rea B : Nat) : Int) := by
        rw [zs_sum, ints_len, zs_len, sum_rea hB.pos]; omega
      refine ⟨by rw [er]; exact mulW (x := 20) (y := 400) (by omega) hbig, ?_⟩
      walk_at "rd"
      refine ⟨b, _, rfl, sql hb, fun l nl => ?_⟩
      generalize hu : upd _ l _ = H
      have s := heap_s hu nl
      have el := heap_e hu
      clear hu
      walk_at "rd"
      refine ⟨l, zs (B.take m), rfl, sql (by rw [el, zs_cut]), ?_⟩
      walk_at "rd"
      have ts := take_sum hB.pos m (by omega)
      refine num_at (i := _) (j := ((las k B n : Nat) : Int)) (f := fun v H => Q v H) ?_ (q _ s)
      have e9 : las k B n = n + h + (e * rea B + sm B m) := by rw [las_eqn, ← h3, ← h2, ← h1]; rfl
      have e10 : ((e * rea B : Nat) : Int) = (e : Int) * ((rea B : Nat) : Int) := Int.natCast_mul _ _
      rw [er, zs_sum, ts, e9]
      omega
theorem ok_lnumber (T : Txt K mg C_House) : Cal P w K mg base 3 "_law_number" spNumberP [] := by
  have c_draw : Cal P w K mg base 1 "_law_draw" (cut spDraw) [] := cut_cal (ok_draw T)
  have c_far : Cal P w K mg base 2 "_law_far" spFarP [] := ok_farp T
  refine T.d_number.cal sc_number (fun vs H Q E h => ?_) (fun cdv f A outer s H vs Q E hr h => ?_)
  · obtain ⟨p, k, m, n, c, rfl, _⟩ := h
    rfl
  · obtain ⟨p, k, m, n, c, rfl, hk2, hk30, hm0, hm, hP, hn, q⟩ := h
    have hp20 : 2 ^ 30 ≤ 2 ^ (20 * m + 10) := Nat.pow_le_pow_right (by decide) (by omega)
    have hpe : 2 ^ (20 * m) < 2 ^ (20 * m + 10) := Nat.pow_lt_pow_right (by decide) (by omega)
    refine ⟨_, (pss_cons (ps_set (i := 3) sc_number.nd rfl (.inl rfl) (pe_c c_draw hr (by decide) rfl (pa_cons (pv 0) (pa_cons pe_int pa_nil))))
      (pss_cons (ps_if (pt_cmpR op_eq (pv 3) pe_int (nomark _))
        (pss_one (ps_ret (pe_op op_add pe_int (pe_c c_far hr (by decide) rfl (pa_cons (pv 0) (pa_cons (pv 2) pa_nil))))))
        pss_nil)
      (pss_cons (ps_set (i := 4) sc_number.nd rfl (.inl rfl) (pe_op op_add pe_int (pe_c c_draw hr (by decide) rfl (pa_cons (pv 0) (pa_cons (pe_ix ix_list (pe_lst (pa_cons pe_int (pa_cons (pe_op op_mulW pe_int (pv 1)) pa_nil))) (pe_op op_sub (pv 3) pe_int) (fun _ _ => rfl)) pa_nil)))))
      (pss_cons (ps_if (pt_cmpR op_eq (pv 3) pe_int (nomark _))
        (pss_one (ps_ret (pv 4)))
        pss_nil)
      (pss_cons (ps_for PassesOwn.never rfl (pi_range1 rfl T.b_range (pa_cons (pe_c c_draw hr (by decide) rfl (pa_cons (pv 0) (pa_cons (pe_op op_add pe_int (pe_op op_mulW pe_int (pv 2))) pa_nil))) pa_nil)) (pg_name (i := 5) sc_number.nd rfl (.inl rfl))
        (pss_one (ps_set (i := 4) sc_number.nd rfl (.inl rfl) (pe_op op_mulW (pv 4) (pv 1)))))
      (pss_one (ps_ret (pe_ifExp (pt_cmpR op_gt (pv 4) pe_int (nomark _)) (pe_op op_sub (pe_op op_add (pv 4) (pe_c c_draw hr (by decide) rfl (pa_cons (pv 0) (pa_cons pe_int pa_nil)))) pe_int) pe_int)))))))), ?_⟩
    walk_at "rd"
    refine use_draw (by walk_at "tr") (by walk_at "om") (by walk_at "om") (by omega) fun H way hway Pn bu => ?_
    walk_at "rd"
    refine itd (fun c1 => ?_) (fun c1 => ?_)
    · walk_at "rd"
      refine ⟨p, m, _, c, rfl, hm0, by omega, by assumption, by omega, fun H r hr Pn bu => ?_⟩
      walk_at "rd"
      exact q _ (1 + r) (by omega) (by omega) (Pn.le (by omega)) (by walk_at "tr")
    walk_at "rd"
    have hw0 : way ≠ 0 := fun z => c1 (by rw [z]; rfl)
    refine ⟨by walk_at "mw", ?_⟩
    walk_at "rd"
    refine ⟨by walk_at "sz", fun l nl => ?_⟩
    generalize hu : upd _ l _ = H
    have s := heap_s hu nl
    have el := heap_e hu
    clear hu
    walk_at "rd"
    obtain ⟨N, hN0, hN, hat⟩ : ∃ N : Nat, 0 < N ∧ N ≤ 200 ∧ ([V.int 200, .int (3 * (k : Int))] : List V)[way - 1]? = some (.int (N : Nat)) := by
      match way, hw0, hway with
      | 1, _, _ => exact ⟨200, by omega, by omega, rfl⟩
      | 2, _, _ => exact ⟨3 * k, by omega, by omega, rfl⟩
    refine ⟨l, _, _, _, rfl, rfl, sql el, at_of (j := way - 1) (by omega) hat, ?_⟩
    clear hat
    refine' hold (A := PenAt H p c _) (by walk_at "tr") fun Pn => ?_
    walk_at "rd"
    refine use_draw (by walk_at "tr") (by walk_at "om") (by walk_at "om") (by omega) fun H r hr Pn bu => ?_
    walk_at "rd"
    refine itd (fun c2 => ?_) (fun c2 => ?_)
    · walk_at "rd"
      exact q _ (1 + r) (by omega) (by omega) (PenAt.le (by assumption) (by omega)) (by walk_at "tr")
    walk_at "rd"
    refine ⟨by walk_at "mw", ?_⟩
    walk_at "rd"
    refine use_draw (by walk_at "tr") (by walk_at "om") (by walk_at "om") (by omega) fun H t ht Pn bu => ?_
    walk_at "rd"
    refine ⟨by omega, by omega, for_range (n := (t : Int).toNat) (fun i σ H' => ∃ (x : Nat) (w5 : Option V), σ = [some (.ref p), some (.int k), some (.int m), some (.int way), some (.int x), w5] ∧ 0 < x ∧ x < 2 ^ (5 * i + 8) ∧ H' = H) ⟨1 + r, _, rfl, by omega, by show 1 + r < 256; omega, rfl⟩
      (fun i σ H' hi h => ?_) (fun σ H' h => ?_)⟩
    · obtain ⟨x, w5, rfl, hx0, hx, rfl⟩ := h
      walk_at "rd"
      refine ⟨mulW (x := 5 * i + 8) (y := 5) hx (by omega) (by omega) (by decide) (by omega), ?_⟩
      refine ⟨x * k, _, rfl, Nat.mul_pos hx0 (by omega), ?_, rfl⟩
      have h1 : x * k < 2 ^ (5 * i + 8) * 2 ^ 5 := Nat.mul_lt_mul'' hx (by omega)
      rw [← Nat.pow_add] at h1
      rw [show 5 * (i + 1) + 8 = 5 * i + 8 + 5 by omega]
      exact h1
    obtain ⟨x, w5, rfl, hx0, hx, rfl⟩ := h
    have hx2 : x ≤ 2 ^ (20 * m + 9) := Nat.le_trans (Nat.le_of_lt hx) (Nat.pow_le_pow_right (by decide) (by omega))
    have hx3 : 2 ^ (20 * m + 10) = 2 ^ (20 * m + 9) * 2 := Nat.pow_succ ..
    have hx4 : 2 ^ 20 ≤ 2 ^ (20 * m + 9) := Nat.pow_le_pow_right (by decide) (by omega)
    walk_at "rd"
    refine itd (fun c3 => ?_) (fun c3 => ?_)
    · walk_at "rd"
      refine use_draw (by walk_at "tr") (by walk_at "om") (by walk_at "om") (by omega) fun H u hu Pn bu => ?_
      walk_at "rd"
      refine num_at (i := _) (j := ((x + u - 1 : Nat) : Int)) (f := fun v H => Q v H) (by omega) (q _ (x + u - 1) (by omega) (by omega) (PenAt.le (by assumption) (by omega)) (by walk_at "tr"))
    · walk_at "rd"
      exact q _ 1 (by omega) (by omega) (PenAt.le (by assumption) (by omega)) (by walk_at "tr")
def spPick : Sp := fun vs H Q _ => ∃ (p l n c : Nat) (L : List Nat), vs = [.ref p, .ref l] ∧ PenAt H p c n ∧ n ≤ 900000 ∧ H l = some (.lst ((zs L).map V.int)) ∧ 0 < L.length ∧ L.length ≤ 1000 ∧
  ∀ H' (y : Nat), y ∈ L → PenAt H' p c (n + 1) → But p H H' → Q (.int y) H'
theorem ok_lpick (T : Txt K mg C_House) : Cal P w K mg base 2 "_law_pick" spPick [] := by
  have c_draw : Cal P w K mg base 1 "_law_draw" (cut spDraw) [] := cut_cal (ok_draw T)
  refine T.d_pick.cal sc_pick (fun vs H Q E h => ?_) (fun cdv f A outer s H vs Q E hr h => ?_)
  · obtain ⟨p, l, n, c, L, rfl, _⟩ := h
    rfl
  · obtain ⟨p, l, n, c, L, rfl, hP, hn, hl, hL0, hL, q⟩ := h
    refine ⟨_, (pss_one (ps_ret (pe_ix ix_list (pv 1) (pe_c c_draw hr (by decide) rfl (pa_cons (pv 0) (pa_cons (pe_callB call_len_seq (by rfl) T.b_len (by decide +kernel) (pa_cons (pv 1) pa_nil)) pa_nil))) (fun _ _ => rfl)))), ?_⟩
    walk_at "rd"
    refine ⟨l, _, rfl, .inl (sql hl), ?_⟩
    have hlen : (((zs L).map V.int).length : Int) = (L.length : Int) := by rw [ints_len, zs_len]
    walk_at "rd"
    refine use_draw (by walk_at "tr") (by walk_at "om") (by walk_at "om") (by omega) fun H r hr Pn bu => ?_
    walk_at "rd"
    have hr2 : r < L.length := by omega
    refine ⟨l, _, _, _, rfl, rfl, sql (by walk_at "tr"), at_of (j := r) rfl (zs_at (List.getElem?_eq_getElem hr2)), ?_⟩
    exact q _ _ (List.getElem_mem hr2) (by assumption) (by assumption)
end
end Ab

namespace Ab
open PySem PySem.Spec PyProof.Rows L2
open C8 (Cal Mak Met pe_c pe_mk pe_mt pe_mt0)
section
variable {P : Program} {w : World} {K : PySem.W.Frag} {mg : Str → Option Value} {base : Heap} {C_House : Addr}
theorem ok_isnum (T : Txt K mg C_House) : Cal P w K mg base 1 "_law_is_number" spWhole [] := by
  refine T.d_is_number.cal sc_is_number (fun vs H Q E h => ?_) (fun cdv f A outer s H vs Q E hr h => ?_)
  · obtain ⟨i, rfl, _⟩ := h
    rfl
  · obtain ⟨i, rfl, q⟩ := h
    refine ⟨_, (pss_one (ps_ret (pe_and (pe_callB call_isi (by rfl) T.b_isinstance (by decide +kernel) (pa_cons (pv 0) (pa_cons (pe_bltn (v := V.ty "int") (u := Value.type "int") (by rfl) T.b_int (by decide +kernel) rfl) pa_nil))) (pe_one (pe_not (pe_callB call_isi (by rfl) T.b_isinstance (by decide +kernel) (pa_cons (pv 0) (pa_cons (pe_bltn (v := V.ty "bool") (u := Value.type "bool") (by rfl) T.b_bool (by decide +kernel) rfl) pa_nil)))))))), ?_⟩
    walk_at "rd"
    refine ⟨_, _, _, _, true, rfl, .ty _, .base (.int i), kit_ty (by decide +kernel), ?_⟩
    walk_at "rd"
    refine ⟨_, _, _, _, false, rfl, .ty _, .base (.int i), kit_ty (by decide +kernel), ?_⟩
    walk_at "rd"
    exact q
theorem ok_lbase (T : Txt K mg C_House) : Cal P w K mg base 2 "_law_base" spBase2 [] := by
  have c_draw : Cal P w K mg base 1 "_law_draw" spDraw [] := ok_draw T
  refine T.d_base.cal sc_base (fun vs H Q E h => ?_) (fun cdv f A outer s H vs Q E hr h => ?_)
  · obtain ⟨p, n, c, rfl, _⟩ := h
    rfl
  · obtain ⟨p, n, c, rfl, hP, hn, q⟩ := h
    refine ⟨_, (pss_cons (ps_set (i := 1) sc_base.nd rfl (.inl rfl) (pe_c c_draw hr (by decide) rfl (pa_cons (pv 0) (pa_cons pe_int pa_nil))))
      (pss_one (ps_ret (pe_op op_add pe_int (pe_c c_draw hr (by decide) rfl (pa_cons (pv 0) (pa_cons (pe_ix ix_list (pe_lst (pa_cons pe_int (pa_cons pe_int (pa_cons pe_int (pa_cons pe_int pa_nil))))) (pv 1) (fun _ _ => rfl)) pa_nil))))))), ?_⟩
    walk_at "rd"
    refine ⟨p, 4, _, c, rfl, by decide, lt8000 (by decide), hP, by omega, fun H4 r1 hr1 P4 b4 => ?_⟩
    walk_at "rd"
    refine ⟨show 4 ≤ sizeLine by decide, fun l nl => ?_⟩
    have s5 := same_upd (o := .lst [.int 1, .int 3, .int 7, .int 29]) nl
    have P6 := P4.same s5
    walk_at "rd"
    obtain ⟨N, hN0, hN, hat⟩ : ∃ N : Nat, 0 < N ∧ N ≤ 29 ∧ ([V.int 1, .int 3, .int 7, .int 29] : List V)[r1]? = some (.int (N : Nat)) := by
      match r1, hr1 with
      | 0, _ => exact ⟨1, by omega, by omega, rfl⟩
      | 1, _ => exact ⟨3, by omega, by omega, rfl⟩
      | 2, _ => exact ⟨7, by omega, by omega, rfl⟩
      | 3, _ => exact ⟨29, by omega, by omega, rfl⟩
    refine ⟨l, _, _, _, rfl, rfl, sql upd_same, at_of (j := r1) rfl hat, ?_⟩
    walk_at "rd"
    refine ⟨p, N, _, c, rfl, hN0, lt8000 (Nat.le_trans hN (by decide)), P6, by omega, fun H7 r2 hr2 P7 b7 => ?_⟩
    walk_at "rd"
    exact q H7 (2 + r2) (by omega) (by omega) P7 ((b4.trans (But.same s5)).trans b7)
theorem ok_is_whole (T : Txt K mg C_House) : Cal P w K mg base 1 "is_whole" spWhole [] := by
  refine T.d_is_whole.cal sc_is_whole (fun vs H Q E h => ?_) (fun cdv f A outer s H vs Q E hr h => ?_)
  · obtain ⟨i, rfl, _⟩ := h
    rfl
  · obtain ⟨i, rfl, q⟩ := h
    refine ⟨_, (pss_one (ps_ret (pe_and (pe_callB call_isi (by rfl) T.b_isinstance (by decide +kernel) (pa_cons (pv 0) (pa_cons (pe_bltn (v := V.ty "int") (u := Value.type "int") (by rfl) T.b_int (by decide +kernel) rfl) pa_nil))) (pe_one (pe_not (pe_callB call_isi (by rfl) T.b_isinstance (by decide +kernel) (pa_cons (pv 0) (pa_cons (pe_bltn (v := V.ty "bool") (u := Value.type "bool") (by rfl) T.b_bool (by decide +kernel) rfl) pa_nil)))))))), ?_⟩
    walk_at "rd"
    refine ⟨_, _, _, _, true, rfl, .ty _, .base (.int i), kit_ty (by decide +kernel), ?_⟩
    walk_at "rd"
    refine ⟨_, _, _, _, false, rfl, .ty _, .base (.int i), kit_ty (by decide +kernel), ?_⟩
    walk_at "rd"
    exact q
theorem ok_is_whole_from (T : Txt K mg C_House) : Cal P w K mg base 2 "is_whole_from" spFrom [] := by
  have c_is_whole : Cal P w K mg base 1 "is_whole" spWhole [] := ok_is_whole T
  refine T.d_is_whole_from.cal sc_is_whole_from (fun vs H Q E h => ?_) (fun cdv f A outer s H vs Q E hr h => ?_)
  · obtain ⟨i, l, rfl, _⟩ := h
    rfl
  · obtain ⟨i, l, rfl, q⟩ := h
    refine ⟨_, (pss_one (ps_ret (pe_and (pe_c c_is_whole hr (by decide) rfl (pa_cons (pv 0) pa_nil)) (pe_one (pe_cmpR op_ge (pv 0) (pv 1) (nomark _)))))), ?_⟩
    walk_at "rd"
    exact q
theorem ok_is_k (T : Txt K mg C_House) : Cal P w K mg base 2 "is_k" spIsK [] := by
  have c_is_whole : Cal P w K mg base 1 "is_whole" spWhole [] := ok_is_whole T
  obtain ⟨t0, h_GREATEST_K⟩ := T.g_GREATEST_K
  refine T.d_is_k.cal sc_is_k (fun vs H Q E h => ?_) (fun cdv f A outer s H vs Q E hr h => ?_)
  · obtain ⟨k, rfl, _⟩ := h
    rfl
  · obtain ⟨k, rfl, h1, h2, q⟩ := h
    refine ⟨_, (pss_one (ps_ret (pe_and (pe_c c_is_whole hr (by decide) rfl (pa_cons (pv 0) pa_nil)) (pe_one (pe_chain op_le op_le pe_int (pv 0) (pe_glob (v := V.int 30) rfl h_GREATEST_K ⟨_, rfl⟩) rfl))))), ?_⟩
    walk_at "rd"
    refine itd (fun _ => ?_) (fun c => absurd (show (2 : Int) ≤ (k : Int) by omega) c)
    walk_at "rd"
    show Q (V.bl (decide ((k : Int) ≤ 30))) H
    rw [decide_eq_true (show (k : Int) ≤ 30 by omega)]
    exact q
theorem ok_is_row (T : Txt K mg C_House) : Cal P w K mg base 1 "is_row" spRow2 [] := by
  refine T.d_is_row.cal sc_is_row (fun vs H Q E h => ?_) (fun cdv f A outer s H vs Q E hr h => ?_)
  · obtain ⟨b, tu, xs, rfl, _⟩ := h
    rfl
  · obtain ⟨b, tu, xs, rfl, hb, q⟩ := h
    refine ⟨_, (pss_one (ps_ret (pe_callB call_isiT (by rfl) T.b_isinstance (by decide +kernel) (pa_cons (pv 0) (pa_cons (pe_tup (pa_cons (pe_bltn (v := V.ty "list") (u := Value.type "list") (by rfl) T.b_list (by decide +kernel) rfl) (pa_cons (pe_bltn (v := V.ty "tuple") (u := Value.type "tuple") (by rfl) T.b_tuple (by decide +kernel) rfl) pa_nil))) pa_nil))))), ?_⟩
    walk_at "rd"
    refine ⟨by walk_at "sz", fun t nt => ?_⟩
    generalize hu : upd _ t _ = H
    have s := heap_s hu nt
    have et := heap_e hu
    clear hu
    walk_at "rd"
    cases tu
    · refine ⟨_, t, _, _, _, true, rfl, et, .cons (.ty _) (.cons (.ty _) .nil), .base (.lst (s _ _ hb)), kitAny_cons (b := true) (kit_ty (by decide +kernel)) (fun z => by cases z) (fun _ => rfl), ?_⟩
      exact q _ s
    · refine ⟨_, t, _, _, _, true, rfl, et, .cons (.ty _) (.cons (.ty _) .nil), .base (.tup (s _ _ hb)), kitAny_cons (b := false) (kit_ty (by decide +kernel)) (fun _ => kitAny_cons (b := true) (kit_ty (by decide +kernel)) (fun z => by cases z) (fun _ => rfl)) (fun z => by cases z), ?_⟩
      exact q _ s
theorem ok_is_beginning (T : Txt K mg C_House) : Cal P w K mg base 3 "is_beginning" spIsBeg2 [] := by
  have c_is_row : Cal P w K mg base 1 "is_row" spRow2 [] := ok_is_row T
  have c_is_whole_from : Cal P w K mg base 2 "is_whole_from" spFrom [] := ok_is_whole_from T
  refine T.d_is_beginning.cal sc_is_beginning (fun vs H Q E h => ?_) (fun cdv f A outer s H vs Q E hr h => ?_)
  · obtain ⟨k, b, tu, B, rfl, _⟩ := h
    rfl
  · obtain ⟨k, b, tu, B, rfl, hb, hB, hk, q⟩ := h
    refine ⟨_, (pss_cons (ps_if (PW.pt (pw_or (pt_not (pt_val (pe_c c_is_row hr (by decide) rfl (pa_cons (pv 1) pa_nil)))) (pw_or1 (pt_cmpR op_ne (pe_callB call_len_seq (by rfl) T.b_len (by decide +kernel) (pa_cons (pv 1) pa_nil)) (pe_op op_sub (pv 0) pe_int) (nomark _)))))
        (pss_one (ps_ret pe_bl))
        pss_nil)
      (pss_one (ps_ret (pe_callB (cr_all rfl) (by rfl) T.b_all (by decide +kernel) (pa_cons (pe_lc (own := [("many", 2)]) (g := gName 2) (tt := tYes) rfl sc_is_beginning.nd (pi_seq (pv 1)) (blkOk_by (own := [("many", 2)]) (N := ["k", "thing", "many"]) (sc := defScope s_is_beginning) (by decide +kernel)) (fun _ _ _ _ _ => pg_name (i := 2) sc_is_beginning.nd rfl (Or.inl rfl)) (fun _ _ _ _ _ => pts_nil) (fun _ _ _ _ _ => (pe_c c_is_whole_from hr (by decide) rfl (pa_cons (pv 2) (pa_cons pe_int pa_nil))))) pa_nil))))), ?_⟩
    walk_at "rd"
    refine ⟨b, tu, _, rfl, hb, fun H1 s1 => ?_⟩
    have hb1 := s1 _ _ hb
    have hl := hB.len
    walk_at "rd"
    refine ⟨b, _, rfl, (sqq hb1).lt, ?_⟩
    walk_at "rd"
    refine itn (fun c => absurd (congrArg V.int (by rw [ints_len, zs_len]; omega)) c) (fun _ => ?_)
    refine ⟨_, rfl, b, tu, rfl, ⟨_, sqq hb1⟩, fun D nD => ?_⟩
    have nbD : b ≠ D := ne_of_none hb1 nD
    refine lc_seq (K := K) (a := b) (tu := tu) (xs := (zs B).map V.int) (fun i H3 => H3 D = some (.lst ((List.replicate i true).map V.bl)) ∧ H3 b = some (sqO tu ((zs B).map V.int)) ∧ Same H1 H3)
      ⟨upd_same, by rw [upd_ne nbD]; exact hb1, same_upd nD⟩ (fun i H3 hi h3 => sqq h3.2.1) (fun i x H3 hx h3 => ?_) (fun H3 h3 => ?_)
    · obtain ⟨d1, d2, d3⟩ := h3
      obtain ⟨d, hd, rfl⟩ := zs_get hx
      have hd1 := hB.pos d (List.mem_of_getElem? hd)
      have hiB : i < B.length := (List.getElem?_eq_some_iff.mp hd).1
      walk_at "rd"
      refine ⟨_, d1, by rw [List.length_map, List.length_replicate]; exact small1000 (by omega), ?_, by rw [upd_ne nbD]; exact d2, same_put d3 nD⟩
      rw [upd_same, decide_eq_true (show (1 : Int) ≤ (d : Int) by omega), List.replicate_succ', List.map_append]
      rfl
    · obtain ⟨d1, d2, d3⟩ := h3
      walk_at "rd"
      refine ⟨D, _, rfl, sql d1, ?_⟩
      rw [show (List.replicate ((zs B).map V.int).length true).all id = true by rw [List.all_eq_true]; intro x hx; rw [List.eq_of_mem_replicate hx]; rfl]
      exact q H3 (s1.trans d3)
theorem ok_lessened (T : Txt K mg C_House) : Cal P w K mg base 1 "lessened_sums" spSums2 [] := by
  refine T.d_lessened_sums.cal sc_lessened_sums (fun vs H Q E h => ?_) (fun cdv f A outer s H vs Q E hr h => ?_)
  · obtain ⟨b, tu, B, rfl, _⟩ := h
    rfl
  · obtain ⟨b, tu, B, rfl, hb, hl, hp, q⟩ := h
    refine ⟨_, (pss_cons (ps_set (i := 1) sc_lessened_sums.nd rfl (.inl rfl) (pe_lst (pa_cons pe_int pa_nil)))
      (pss_cons (ps_for PassesOwn.never rfl (pi_seq (pv 0)) (pg_name (i := 2) sc_lessened_sums.nd rfl (.inl rfl))
        (pss_one (ps_expr (pe_bm PySem.F.plainAttrs_list PySem.F.slot_list_append PySem.F.type_list_append mt_append (pv 1) (pa_cons (pe_op op_sub (pe_op op_add (pe_ix ix_list (pv 1) (pe_un un_neg pe_int) (fun _ _ => rfl)) (pv 2)) pe_int) pa_nil)))))
      (pss_one (ps_ret (pv 1))))), ?_⟩
    refine ⟨show 1 ≤ sizeLine by decide, fun l nl => ?_⟩
    have nbl : b ≠ l := ne_of_none hb nl
    refine ⟨_, rfl, b, tu, rfl, ⟨_, sqq (same_upd nl _ _ hb)⟩, for_seq (K := K) (a := b) (tu := tu) (xs := (zs B).map V.int) (fun i σ H3 => ∃ v : Option V, σ = [some (.ref b), some (.ref l), v] ∧ H3 l = some (.lst ((zs ((List.range (i + 1)).map (sm B))).map V.int)) ∧ Same H H3)
      ⟨_, rfl, upd_same, same_upd nl⟩ (fun i σ H3 _ h3 => ?_) (fun i x σ H3 hx h3 => ?_) (fun σ H3 h3 => ?_)⟩
    · obtain ⟨v, rfl, e1, e2⟩ := h3
      exact sqq (e2 _ _ hb)
    · obtain ⟨v, rfl, e1, e2⟩ := h3
      obtain ⟨d, hd, rfl⟩ := zs_get hx
      have hd1 := hp d (List.mem_of_getElem? hd)
      have hiB : i < B.length := (List.getElem?_eq_some_iff.mp hd).1
      walk_at "rd"
      refine ⟨.inl ⟨rfl, _, sql e1⟩, ?_⟩
      walk_at "rd"
      refine ⟨l, _, _, .int (sm B i : Nat), rfl, rfl, sql e1, ?_, ?_⟩
      · rw [List.range_succ, List.map_append]
        unfold zs
        rw [List.map_append, List.map_append]
        exact atI_last _ _
      walk_at "rd"
      refine ⟨_, _, _, rfl, rfl, e1, by rw [ints_len, zs_len, List.length_map, List.length_range]; exact small1000 (by omega), ?_⟩
      refine ⟨_, rfl, ?_, same_put e2 nl⟩
      rw [upd_same]
      show some (HO.lst (_ ++ [V.int (((sm B i : Nat) : Int) + (d : Int) - 1)])) = _
      rw [show ((sm B i : Nat) : Int) + (d : Int) - 1 = ((sm B (i + 1) : Nat) : Int) by rw [sm_succ hd]; omega, zs_snoc, List.range_succ (n := i + 1), List.map_append]
      rfl
    · obtain ⟨v, rfl, e1, e2⟩ := h3
      rw [ints_len, zs_len] at e1
      walk_at "rd"
      exact q H3 l e2 nl e1
theorem ok_House (T : Txt K mg C_House) : Mak P w K mg base 4 "House" C_House (spInit2 C_House) [] := by
  have c_is_k : Cal P w K mg base 2 "is_k" spIsK [] := ok_is_k T
  have c_is_beginning : Cal P w K mg base 3 "is_beginning" spIsBeg2 [] := ok_is_beginning T
  have c_lessened_sums : Cal P w K mg base 1 "lessened_sums" spSums2 [] := ok_lessened T
  refine T.d_House_init.mak T.mk_House T.kp_House T.g_House sc_House_init (fun vs H Q E h => ?_) (fun cdv f A outer s H vs Q E hr h => ?_)
  · obtain ⟨x, k, b, dx, tu, B, rfl, _⟩ := h
    rfl
  · obtain ⟨x, k, b, dx, tu, B, rfl, hx, hb, hB, hk, hbig, q⟩ := h
    have h2 := hB.two
    have nbx : b ≠ x := ne_of hb hx (by cases tu <;> intro z <;> cases z)
    refine ⟨_, (pss_cons (ps_if (pt_not (pt_val (pe_c c_is_k hr (by decide) rfl (pa_cons (pv 1) pa_nil))))
        (pss_one ps_never)
        pss_nil)
      (pss_cons (ps_if (pt_not (pt_val (pe_c c_is_beginning hr (by decide) rfl (pa_cons (pv 1) (pa_cons (pv 2) pa_nil)))))
        (pss_one ps_never)
        pss_nil)
      (pss_cons (ps_fld (pv 0) (pv 1) rfl)
      (pss_cons (ps_fld (pv 0) (pe_callTy call_tup2 (by rfl) T.b_tuple (by decide +kernel) (pa_cons (pv 2) pa_nil)) rfl)
      (pss_one (ps_fld (pv 0) (pe_c c_lessened_sums hr (by decide) rfl (pa_cons (pv 2) pa_nil)) rfl)))))), ?_⟩
    walk_at "rd"
    refine ⟨h2, hk, ?_⟩
    walk_at "rd"
    refine ⟨k, b, tu, B, rfl, hb, hB, hk, fun H1 s1 => ?_⟩
    walk_at "rd"
    have hx1 := s1 _ _ hx
    refine ⟨x, C_House, dx, _, rfl, hx1, T.cl_House, T.na_House_k, by decide, ?_⟩
    walk_at "rd"
    generalize hu : upd H1 x _ = H2
    have hx2 := heap_e hu
    have hb2 := heap_o hu (s1 _ _ hb) nbx
    have fr2 : ∀ a o, H a = some o → a ≠ x → H2 a = some o := fun a o ha na => heap_o hu (s1 _ _ ha) na
    clear hu
    refine ⟨b, tu, _, rfl, hb2, fun H3 tb s3 ht3 => ?_⟩
    have hx3 := s3 _ _ hx2
    have ntx : tb ≠ x := ne_of ht3 hx3 (by intro z; cases z)
    walk_at "rd"
    refine ⟨x, C_House, dx, _, rfl, hx3, T.cl_House, T.na_House_beginning, by show 1 < 1000; decide, ?_⟩
    walk_at "rd"
    generalize hu : upd H3 x _ = H4
    have hx4 := heap_e hu
    have hb4 := heap_o hu (s3 _ _ hb2) nbx
    have ht4 := heap_o hu ht3 ntx
    have fr4 : ∀ a o, H a = some o → a ≠ x → H4 a = some o := fun a o ha na => heap_o hu (s3 _ _ (fr2 a o ha na)) na
    clear hu
    refine ⟨b, tu, B, rfl, hb4, by have := hB.len; omega, hB.pos, fun H5 ls s5 nls hls => ?_⟩
    have hx5 := s5 _ _ hx4
    have nlx : ls ≠ x := ne_of hls hx5 (by intro z; cases z)
    walk_at "rd"
    refine ⟨x, C_House, dx, _, rfl, hx5, T.cl_House, T.na_House_sums, by rw [show (putF "_beginning" (V.ref tb) (putF "_k" (V.int k) [])).length = 2 from len_kb tb k]; decide, ?_⟩
    generalize hu : upd H5 x _ = H6
    exact q _ ⟨⟨dx, tb, ls, heap_e hu, heap_o hu (s5 _ _ ht4) ntx, heap_o hu hls nlx⟩, hB, hk, hbig⟩ (fun a o ha nax => heap_o hu (s5 _ _ (fr4 a o ha nax)) nax)
theorem okn_House_init_0 (T : Txt K mg C_House) : MakN P w K mg base 4 "House" C_House (spInit2 C_House) ["beginning", "k"] [1, 0] := by
  have c_is_k : Cal P w K mg base 2 "is_k" spIsK [] := ok_is_k T
  have c_is_beginning : Cal P w K mg base 3 "is_beginning" spIsBeg2 [] := ok_is_beginning T
  have c_lessened_sums : Cal P w K mg base 1 "lessened_sums" spSums2 [] := ok_lessened T
  refine T.n_House_init_0.makN T.mk_House T.kp_House T.g_House sc_House_init (fun vs H Q E h => ?_) (fun cdv f A outer s H vs Q E hr h => ?_)
  · obtain ⟨x, k, b, dx, tu, B, rfl, _⟩ := h
    rfl
  · obtain ⟨x, k, b, dx, tu, B, rfl, hx, hb, hB, hk, hbig, q⟩ := h
    have h2 := hB.two
    have nbx : b ≠ x := ne_of hb hx (by cases tu <;> intro z <;> cases z)
    refine ⟨_, (pss_cons (ps_if (pt_not (pt_val (pe_c c_is_k hr (by decide) rfl (pa_cons (pv 1) pa_nil))))
        (pss_one ps_never)
        pss_nil)
      (pss_cons (ps_if (pt_not (pt_val (pe_c c_is_beginning hr (by decide) rfl (pa_cons (pv 1) (pa_cons (pv 2) pa_nil)))))
        (pss_one ps_never)
        pss_nil)
      (pss_cons (ps_fld (pv 0) (pv 1) rfl)
      (pss_cons (ps_fld (pv 0) (pe_callTy call_tup2 (by rfl) T.b_tuple (by decide +kernel) (pa_cons (pv 2) pa_nil)) rfl)
      (pss_one (ps_fld (pv 0) (pe_c c_lessened_sums hr (by decide) rfl (pa_cons (pv 2) pa_nil)) rfl)))))), ?_⟩
    walk_at "rd"
    refine ⟨h2, hk, ?_⟩
    walk_at "rd"
    refine ⟨k, b, tu, B, rfl, hb, hB, hk, fun H1 s1 => ?_⟩
    walk_at "rd"
    have hx1 := s1 _ _ hx
    refine ⟨x, C_House, dx, _, rfl, hx1, T.cl_House, T.na_House_k, by decide, ?_⟩
    walk_at "rd"
    generalize hu : upd H1 x _ = H2
    have hx2 := heap_e hu
    have hb2 := heap_o hu (s1 _ _ hb) nbx
    have fr2 : ∀ a o, H a = some o → a ≠ x → H2 a = some o := fun a o ha na => heap_o hu (s1 _ _ ha) na
    clear hu
    refine ⟨b, tu, _, rfl, hb2, fun H3 tb s3 ht3 => ?_⟩
    have hx3 := s3 _ _ hx2
    have ntx : tb ≠ x := ne_of ht3 hx3 (by intro z; cases z)
    walk_at "rd"
    refine ⟨x, C_House, dx, _, rfl, hx3, T.cl_House, T.na_House_beginning, by show 1 < 1000; decide, ?_⟩
    walk_at "rd"
    generalize hu : upd H3 x _ = H4
    have hx4 := heap_e hu
    have hb4 := heap_o hu (s3 _ _ hb2) nbx
    have ht4 := heap_o hu ht3 ntx
    have fr4 : ∀ a o, H a = some o → a ≠ x → H4 a = some o := fun a o ha na => heap_o hu (s3 _ _ (fr2 a o ha na)) na
    clear hu
    refine ⟨b, tu, B, rfl, hb4, by have := hB.len; omega, hB.pos, fun H5 ls s5 nls hls => ?_⟩
    have hx5 := s5 _ _ hx4
    have nlx : ls ≠ x := ne_of hls hx5 (by intro z; cases z)
    walk_at "rd"
    refine ⟨x, C_House, dx, _, rfl, hx5, T.cl_House, T.na_House_sums, by rw [show (putF "_beginning" (V.ref tb) (putF "_k" (V.int k) [])).length = 2 from len_kb tb k]; decide, ?_⟩
    generalize hu : upd H5 x _ = H6
    exact q _ ⟨⟨dx, tb, ls, heap_e hu, heap_o hu (s5 _ _ ht4) ntx, heap_o hu hls nlx⟩, hB, hk, hbig⟩ (fun a o ha nax => heap_o hu (s5 _ _ (fr4 a o ha nax)) nax)
theorem ok_lhouse (T : Txt K mg C_House) : Cal P w K mg base 6 "_law_house" (spLhouse C_House) [] := by
  have c_draw : Cal P w K mg base 1 "_law_draw" (cut spDraw) [] := cut_cal (ok_draw T)
  have m_House : Mak P w K mg base 4 "House" C_House (spInit2 C_House) [] := ok_House T
  have mn_House_init_0 : MakN P w K mg base 4 "House" C_House (spInit2 C_House) ["beginning", "k"] [1, 0] := okn_House_init_0 T
  refine T.d_house.cal sc_house (fun vs H Q E h => ?_) (fun cdv f A outer s H vs Q E hr h => ?_)
  · obtain ⟨p, k, b, n, c, B, rfl, _⟩ := h
    rfl
  · obtain ⟨p, k, b, n, c, B, rfl, P, hn, hb, hB, hk, hbig, q⟩ := h
    have fin : ∀ H0 H1 (tu : Bool) (l : Addr), PenAt H0 p c (n + 1) → But p H H0 → Same H0 H1 → H1 l = some (sqO tu ((zs B).map V.int)) → ∀ x dx, H1 x = none → H1 dx = none → dx ≠ x →
        spInit2 C_House [V.ref x, .int k, .ref l] (L2.upd (L2.upd H1 dx (.own x)) x (.ins C_House dx [])) (fun v H2 => v = .non ∧ Q (.ref x) H2) C8.E0 := by
      intro H0 H1 tu l P0 b0 s0 hl x dx nx ndx nex
      refine ⟨x, k, l, dx, tu, B, rfl, upd_same, by rw [upd_ne (ne_of_none hl nx), upd_ne (ne_of_none hl ndx)]; exact hl, hB, hk, hbig, fun H2 hH fr => ⟨rfl, ?_⟩⟩
      have s2 : Same H1 H2 := Same.made nx ndx fr
      exact q H2 x ((P0.same s0).same s2) (b0.to (s0.trans s2)) hH
    refine ⟨_, (pss_cons (ps_if (pt_cmpR op_eq (pe_c c_draw hr (by decide) rfl (pa_cons (pv 0) (pa_cons pe_int pa_nil))) pe_int (nomark _))
        (pss_one (ps_ret (pe_mk m_House hr (by decide) rfl (pa_cons (pv 1) (pa_cons (pe_callTy call_tup2 (by rfl) T.b_tuple (by decide +kernel) (pa_cons (pv 2) pa_nil)) pa_nil)))))
        pss_nil)
      (pss_one (ps_ret (pe_mkN mn_House_init_0 hr (by decide) rfl (pk_cons (pe_callTy call_list2 (by rfl) T.b_list (by decide +kernel) (pa_cons (pv 2) pa_nil)) (pk_cons (pv 1) pk_nil)))))), ?_⟩
    walk_at "rd"
    refine use_draw (by walk_at "tr") (by walk_at "om") (by walk_at "om") (by omega) fun H way hway Pn bu => ?_
    walk_at "rd"
    refine itd (fun c1 => ?_) (fun c1 => ?_)
    · walk_at "rd"
      refine ⟨b, false, _, rfl, by show _ = some (HO.lst _); walk_at "tr", fun H1 t s1 ht => ?_⟩
      walk_at "rd"
      exact fin _ H1 true t (by assumption) (by assumption) s1 ht
    · walk_at "rd"
      refine ⟨b, false, _, rfl, sqq (tu := false) (by show _ = some (HO.lst _); walk_at "tr"), fun H1 t s1 nt ht => ?_⟩
      walk_at "rd"
      exact fun x dx nx ndx nex => fin _ H1 false t (by assumption) (by assumption) s1 ht x dx nx ndx nex
theorem last_app (pre : List Nat) (y : Nat) : atI ((zs (pre ++ [y])).map V.int) (-1) = some (.int (y : Nat)) := by
  unfold zs
  rw [List.map_append, List.map_append]
  exact atI_last _ _
def spLwalked : Sp := fun vs H Q _ => ∃ (k b n t : Nat) (B : List Nat), vs = [.int k, .ref b, .int n, .ref t] ∧ H b = some (.lst ((zs B).map V.int)) ∧ Beg k B ∧ k ≤ 30 ∧ rea B < 2 ^ 400 ∧ 0 < n ∧ Hid (n < 2 ^ 1000) ∧ (chL k B n).length ≤ 100000 ∧ H t = some (.lst ((zs (chL k B n)).map V.int)) ∧ ∀ H', Same H H' → Q (.bl true) H'
theorem ok_lwalked (T : Txt K mg C_House) : Cal P w K mg base 2 "_law_walked" spLwalked [] := by
  have c_is_number : Cal P w K mg base 1 "_law_is_number" spWhole [] := ok_isnum T
  have c_last : Cal P w K mg base 1 "_law_last" spLlastP [] := ok_llast T
  refine T.d_walked.cal sc_walked (fun vs H Q E h => ?_) (fun cdv f A outer s H vs Q E hr h => ?_)
  · obtain ⟨k, b, n, t, B, rfl, _⟩ := h
    rfl
  · obtain ⟨k, b, n, t, B, rfl, hb, hB, hk, hbig, hn0, hn, hlen, ht, q⟩ := h
    have hk2 := hB.two
    have hfolk := folk_las hB
    obtain ⟨rest, hhead⟩ := chL_head (k := k) (B := B) n
    obtain ⟨pre, y0, hpre, hy0, hy1⟩ := chL_last hB n hn0
    have er : ((zs B).sum - (((zs B).map V.int).length : Int)) = ((rea B : Nat) : Int) := by
      rw [zs_sum, ints_len, zs_len, sum_rea hB.pos]; omega
    refine ⟨_, (pss_cons (ps_if (PW.pt (pw_or (pt_not (pt_val (pe_callB call_isi (by rfl) T.b_isinstance (by decide +kernel) (pa_cons (pv 3) (pa_cons (pe_bltn (v := V.ty "list") (u := Value.type "list") (by rfl) T.b_list (by decide +kernel) rfl) pa_nil))))) (pw_or (pt_cmpR (op_eqI (u64 hr)) (pv 3) (pe_lst pa_nil) (nomark _)) (pw_or1 (pt_cmpR (op_neI (u64 hr)) (pe_lc (own := [("_law_one", 7)]) (g := gName 7) rfl sc_walked.nd (pi_list (pv 3)) (blkOk_by (own := [("_law_one", 7)]) (N := ["_law_base_here", "_law_begun_here", "_law_at", "_law_told", "_law_reach", "_law_j", "_law_number_here", "_law_one"]) (sc := defScope s_walked) (by decide +kernel)) (fun _ _ _ _ _ => pg_name (i := 7) sc_walked.nd rfl (Or.inl rfl)) (fun _ _ _ _ _ => pts_one (pt_not (pt_val (pe_c c_is_number hr (by decide) rfl (pa_cons (pv 7) pa_nil))))) (fun _ _ _ _ _ => (pv 7))) (pe_lst pa_nil) (nomark _))))))
        (pss_one (ps_ret pe_bl))
        pss_nil)
      (pss_cons (ps_set (i := 4) sc_walked.nd rfl (.inl rfl) (pe_op op_sub (pe_callB (cr_sum rfl) (by rfl) T.b_sum (by decide +kernel) (pa_cons (pv 1) pa_nil)) (pe_callB call_len_seq (by rfl) T.b_len (by decide +kernel) (pa_cons (pv 1) pa_nil))))
      (pss_cons (ps_if (PW.pt (pw_or (pt_cmpR op_ne (pe_ix ix_list (pv 3) pe_int (fun _ _ => rfl)) (pv 2) (nomark _)) (pw_or (pt_cmpR op_lt (pe_ix ix_list (pv 3) (pe_un un_neg pe_int) (fun _ _ => rfl)) pe_int (nomark _)) (pw_or1 (pt_cmpR op_gt (pe_ix ix_list (pv 3) (pe_un un_neg pe_int) (fun _ _ => rfl)) (pe_callB (cr_sum rfl) (by rfl) T.b_sum (by decide +kernel) (pa_cons (pv 1) pa_nil)) (nomark _))))))
        (pss_one (ps_ret pe_bl))
        pss_nil)
      (pss_cons (ps_for PassesOwn.never rfl (pi_range1 rfl T.b_range (pa_cons (pe_op op_sub (pe_callB call_len_seq (by rfl) T.b_len (by decide +kernel) (pa_cons (pv 3) pa_nil)) pe_int) pa_nil)) (pg_name (i := 5) sc_walked.nd rfl (.inl rfl))
        (pss_cons (ps_set (i := 6) sc_walked.nd rfl (.inl rfl) (pe_op op_sub (pe_op op_sub (pe_op op_add (pe_ix ix_list (pv 3) (pv 5) (fun _ _ => rfl)) pe_int) (pv 4)) (pe_ix ix_list (pv 3) (pe_op op_add (pv 5) pe_int) (fun _ _ => rfl))))
        (pss_cons (ps_if (PW.pt (pw_or (pt_cmpR op_lt (pv 6) (pv 0) (nomark _)) (pw_or1 (pt_cmpR op_gt (pe_ix ix_list (pv 3) (pv 5) (fun _ _ => rfl)) (pe_c c_last hr (by decide) rfl (pa_cons (pv 0) (pa_cons (pv 1) (pa_cons (pv 6) pa_nil)))) (nomark _)))))
          (pss_one (ps_ret pe_bl))
          pss_nil)
        (pss_one (ps_if (pt_cmpR op_le (pe_ix ix_list (pv 3) (pv 5) (fun _ _ => rfl)) (pe_c c_last hr (by decide) rfl (pa_cons (pv 0) (pa_cons (pv 1) (pa_cons (pe_op op_sub (pv 6) pe_int) pa_nil)))) (nomark _))
          (pss_one (ps_ret pe_bl))
          pss_nil)))))
      (pss_one (ps_ret pe_bl)))))), ?_⟩
    walk_at "rd"
    refine ⟨_, _, _, _, true, rfl, .ty _, .base (.lst ht), kit_ty (by decide +kernel), ?_⟩
    walk_at "rd"
    refine ⟨by walk_at "sz", fun t0 nt0 => ?_⟩
    generalize hu : upd H t0 _ = H1
    have s1 := heap_s hu nt0
    have et0 := heap_e hu
    clear hu
    have ht1 := s1 _ _ ht
    refine ⟨t, t0, zs (chL k B n), [], rfl, rfl, sql ht1, sql et0, ?_⟩
    walk_at "rd"
    refine itF (decide_eq_false (by rw [hhead]; intro c; cases c)) ?_
    walk_at "rd"
    refine ⟨⟨_, sql ht1⟩, fun D2 nD2 => ?_⟩
    refine lc_list (K := K) (a := t) (xs := (zs (chL k B n)).map V.int) (fun i H9 => H9 D2 = some (.lst []) ∧ Same H1 H9)
        ⟨upd_same, same_upd nD2⟩ (fun i H9 hi h9 => sql (h9.2 _ _ ht1)) (fun i y H9 hy h9 => ?_) (fun H9 h9 => ?_)
    · obtain ⟨d2, s9⟩ := h9
      obtain ⟨yy, _, rfl⟩ := zs_get hy
      walk_at "rd"
      refine itF rfl ?_
      exact ⟨d2, s9⟩
    obtain ⟨d2, s9⟩ := h9
    clear nD2
    walk_at "rd"
    refine ⟨by walk_at "sz", fun t2 nt2 => ?_⟩
    generalize hu : upd H9 t2 _ = H10
    have s10 := heap_s hu nt2
    have et2 := heap_e hu
    clear hu
    refine ⟨D2, t2, [], [], rfl, rfl, sql (s10 _ _ d2), sql et2, ?_⟩
    have sB : Same H H10 := (s1.trans s9).trans s10
    have hb2 := sB _ _ hb
    have ht2 := sB _ _ ht
    walk_at "rd"
    refine ⟨b, zs B, rfl, sql hb2, ?_⟩
    walk_at "rd"
    refine ⟨b, _, rfl, .inl (sql hb2), ?_⟩
    walk_at "rd"
    dsimp only
    rw [er]
    refine ⟨t, _, _, _, rfl, rfl, sql ht2, at_of (j := 0) rfl (zs_at (n := n) (by rw [hhead]; rfl)), ?_⟩
    walk_at "rd"
    refine itn (fun c => absurd (congrArg V.int (rfl)) c) (fun _ => ?_)
    walk_at "rd"
    refine ⟨t, _, _, .int (y0 : Nat), rfl, rfl, sql ht2, by rw [hpre]; exact last_app _ _, ?_⟩
    walk_at "rd"
    refine itd (fun c => absurd c (by omega)) (fun _ => ?_)
    walk_at "rd"
    refine ⟨t, _, _, .int (y0 : Nat), rfl, rfl, sql ht2, by rw [hpre]; exact last_app _ _, ?_⟩
    walk_at "rd"
    refine ⟨b, zs B, rfl, sql hb2, ?_⟩
    rw [zs_sum]
    walk_at "rd"
    refine itd (fun c => absurd (show ((B.sum : Nat) : Int) < (y0 : Int) from c) (by omega)) (fun _ => ?_)
    walk_at "rd"
    refine ⟨t, _, rfl, .inl (sql ht2), ?_⟩
    have hll : (((zs (chL k B n)).map V.int).length : Int) = ((chL k B n).length : Int) := by rw [ints_len, zs_len]
    walk_at "rd"
    refine ⟨by omega, by omega, for_range (fun j σ H3 => ∃ (w5 w6 w7 : Option V), σ = [some (.int k), some (.ref b), some (.int n), some (.ref t), some (.int (rea B : Nat)), w5, w6, w7] ∧ Same H10 H3) ⟨_, _, _, rfl, Same.refl _⟩
      (fun j σ H3 hj h => ?_) (fun σ H3 h => ?_)⟩
    · obtain ⟨w5, w6, w7, rfl, s3⟩ := h
      have hj1 : j + 1 < (chL k B n).length := by omega
      obtain ⟨y, hy⟩ : ∃ y, (chL k B n)[j]? = some y := ⟨_, List.getElem?_eq_getElem (by omega)⟩
      obtain ⟨z, hz⟩ : ∃ z, (chL k B n)[j + 1]? = some z := ⟨_, List.getElem?_eq_getElem hj1⟩
      obtain ⟨a1, a2, a3⟩ := chL_step hB j n y z hn0 hy hz
      obtain ⟨q1, j1, b1, b2, b3, b4⟩ := l1_at hB a1
      obtain ⟨c1, c2, c3⟩ := sa_at hB y (by omega)
      have hsy := (sa_le hB (show 0 < y by omega)).2
      have ht3 := s3 _ _ ht2
      have hb3 := s3 _ _ hb2
      have hs20 : Hid (sa k B y < 2 ^ 20000 ∧ sa k B y - 1 < 2 ^ 20000) := ⟨by
        have h1 : n < 2 ^ 20000 := Nat.lt_of_lt_of_le hn.out (Nat.pow_le_pow_right (by decide) (by decide))
        exact ⟨Nat.lt_of_le_of_lt (show sa k B y ≤ n by omega) h1, Nat.lt_of_le_of_lt (show sa k B y - 1 ≤ n by omega) h1⟩⟩
      have ez : ((y : Nat) : Int) + 1 - ((rea B : Nat) : Int) - ((z : Nat) : Int) = ((sa k B y : Nat) : Int) := by
        unfold l1 at a2
        omega
      walk_at "rd"
      refine ⟨t, _, _, _, rfl, rfl, sql ht3, at_of (j := j) (by omega) (zs_at hy), ?_⟩
      walk_at "rd"
      refine ⟨t, _, _, _, rfl, rfl, sql ht3, at_of (j := j + 1) (by omega) (zs_at hz), ?_⟩
      walk_at "rd"
      dsimp only
      rw [ez]
      refine itd (fun c => absurd c (by omega)) (fun _ => ?_)
      walk_at "rd"
      refine ⟨t, _, _, _, rfl, rfl, sql ht3, at_of (j := j) (by omega) (zs_at hy), ?_⟩
      walk_at "rd"
      refine ⟨k, b, sa k B y, B, rfl, hb3, hB, hk, hbig, hs20.out.1, fun H4 s4 => ?_⟩
      walk_at "rd"
      refine itd (fun c => absurd (show ((las k B (sa k B y) : Nat) : Int) < (y : Int) from c) (by omega)) (fun _ => ?_)
      walk_at "rd"
      refine ⟨t, _, _, _, rfl, rfl, sql (s4 _ _ ht3), at_of (j := j) (by omega) (zs_at hy), ?_⟩
      walk_at "rd"
      refine ⟨k, b, sa k B y - 1, B, by rw [show ((sa k B y - 1 : Nat) : Int) = ((sa k B y : Nat) : Int) - 1 by omega]; rfl, s4 _ _ hb3, hB, hk, hbig, hs20.out.2, fun H5 s5 => ?_⟩
      walk_at "rd"
      refine itd (fun c => absurd (show (y : Int) ≤ ((las k B (sa k B y - 1) : Nat) : Int) from c) (by omega)) (fun _ => ?_)
      exact ⟨_, _, _, rfl, (s3.trans s4).trans s5⟩
    · obtain ⟨w5, w6, w7, rfl, s3⟩ := h
      walk_at "rd"
      exact q _ (sB.trans s3)
end
end Ab

namespace Ab
open PySem PySem.Spec PyProof.Rows L2
open C8 (Cal Mak Met pe_c pe_mk pe_mt pe_mt0)
section
variable {P : Program} {w : World} {K : PySem.W.Frag} {mg : Str → Option Value} {base : Heap} {C_House : Addr}
theorem ok_law (T : Txt K mg C_House) {f : Addr} {fd : FuncData} (F : Fun K "law" "law" s_law f fd) : FnOk P w K mg base CX0 9 f fd ["_law_script"] (spLaw K) := by
  have c_pen : Cal P w K mg base 1 "_law_pen" (spPen K) [] := ok_pen T
  have c_draw : Cal P w K mg base 1 "_law_draw" (cut spDraw) [] := cut_cal (ok_draw T)
  have c_base : Cal P w K mg base 2 "_law_base" spBase2 [] := ok_lbase T
  have c_begun : Cal P w K mg base 3 "_law_begun" spBegunP [] := ok_begunp T
  have c_house : Cal P w K mg base 6 "_law_house" (spLhouse C_House) [] := ok_lhouse T
  have c_is_number : Cal P w K mg base 1 "_law_is_number" spWhole [] := ok_isnum T
  have c_pick : Cal P w K mg base 2 "_law_pick" spPick [] := ok_lpick T
  have c_times : Cal P w K mg base 1 "_law_times" spLtimesP [] := ok_ltimes T
  have c_last : Cal P w K mg base 1 "_law_last" spLlastP [] := ok_llast T
  have c_number : Cal P w K mg base 3 "_law_number" spNumberP [] := ok_lnumber T
  have c_walked : Cal P w K mg base 2 "_law_walked" spLwalked [] := ok_lwalked T
  have c_chain : Cal P w K mg base 7 "chain" (spChain C_House) [] := ok_chain T
  have c_leads : Cal P w K mg base 7 "leads" (spLeads C_House) [] := ok_leads T
  refine F.ok sc_law (fun vs H Q E h => ?_) (fun cdv A outer s H vs Q E hr h => ?_)
  · obtain ⟨a, ns, rfl, _⟩ := h
    rfl
  · obtain ⟨a, ns, rfl, hS, hlen, q⟩ := h
    refine ⟨_, (pss_cons (ps_set (i := 1) sc_law.nd rfl (.inr rfl) (pe_c c_pen hr (by decide) rfl (pa_cons (pv 0) pa_nil)))
      (pss_cons (ps_set (i := 2) sc_law.nd rfl (.inl rfl) (pe_c c_base hr (by decide) rfl (pa_cons (pv 1) pa_nil)))
      (pss_cons (ps_set (i := 3) sc_law.nd rfl (.inl rfl) (pe_c c_begun hr (by decide) rfl (pa_cons (pv 1) (pa_cons (pv 2) (pa_cons (pe_c c_pick hr (by decide) rfl (pa_cons (pv 1) (pa_cons (pe_lst (pa_cons pe_int (pa_cons pe_int (pa_cons pe_int pa_nil)))) pa_nil))) pa_nil)))))
      (pss_cons (ps_set (i := 4) sc_law.nd rfl (.inl rfl) (pe_c c_house hr (by decide) rfl (pa_cons (pv 1) (pa_cons (pv 2) (pa_cons (pv 3) pa_nil)))))
      (pss_cons (ps_set (i := 5) sc_law.nd rfl (.inl rfl) (pe_c c_number hr (by decide) rfl (pa_cons (pv 1) (pa_cons (pv 2) (pa_cons (pe_c c_pick hr (by decide) rfl (pa_cons (pv 1) (pa_cons (pe_lst (pa_cons pe_int (pa_cons pe_int (pa_cons pe_int (pa_cons (pe_ix ix_list (pe_lst (pa_cons pe_int (pa_cons pe_int pa_nil))) (pe_callTy call_int1 (by rfl) T.b_int (by decide +kernel) (pa_cons (pe_cmpR op_gt (pv 2) pe_int (nomark _)) pa_nil)) (fun _ _ => rfl)) pa_nil))))) pa_nil))) pa_nil)))))
      (pss_cons (ps_par (i := 6) (j := 7) rfl sc_law.nd rfl rfl (by decide) rfl rfl (pa_cons (pe_c c_times hr (by decide) rfl (pa_cons (pv 2) (pa_cons (pv 3) (pa_cons (pv 5) pa_nil)))) (pa_cons (pe_c c_draw hr (by decide) rfl (pa_cons (pv 1) (pa_cons pe_int pa_nil))) pa_nil)) rfl)
      (C8.pss_cut (ps_set (i := 8) sc_law.nd rfl (.inl rfl) (pe_ifExp (pt_cmpR op_lt (pv 7) pe_int (nomark _)) (pe_ix ix_list (pe_lst (pa_cons pe_int (pa_cons (pv 6) pa_nil))) (pv 7) (fun _ _ => rfl)) (pe_op op_add pe_int (pe_c c_draw hr (by decide) rfl (pa_cons (pv 1) (pa_cons (pe_callB (call_min2 rfl) (by rfl) T.b_min (by decide +kernel) (pa_cons (pe_op op_powW pe_int pe_int) (pa_cons (pv 6) pa_nil))) pa_nil))))))
      (pss_cons (ps_set (i := 9) sc_law.nd rfl (.inl rfl) (pe_op op_add (pe_c c_last hr (by decide) rfl (pa_cons (pv 2) (pa_cons (pv 3) (pa_cons (pe_op op_sub (pv 5) pe_int) pa_nil)))) (pv 8)))
      (pss_cons (ps_set (i := 10) sc_law.nd rfl (.inr rfl) (pe_c c_chain hr (by decide) rfl (pa_cons (pv 4) (pa_cons (pv 9) pa_nil))))
      (pss_cons (ps_if (pt_not (pt_val (pe_c c_walked hr (by decide) rfl (pa_cons (pv 2) (pa_cons (pv 3) (pa_cons (pv 9) (pa_cons (pv 10) pa_nil)))))))
        (pss_one (ps_ret pe_bl))
        pss_nil)
      (pss_cons (ps_set (i := 11) sc_law.nd rfl (.inl rfl) (pe_callTy call_list_of (by rfl) T.b_list (by decide +kernel) (pa_cons (pv 10) pa_nil)))
      (pss_cons (ps_setLc (i := 12) (hy := rfl) (hyl := rfl) (hsw := sw_true rfl rfl rfl (by decide +kernel)) (own := [("_law_j", 14)]) (g := gName 14) (tt := tYes) (hc := rfl) (hN := sc_law.nd) (pi_range1 rfl T.b_range (pa_cons pe_int pa_nil)) (blkOk_by (own := [("_law_j", 14)]) (N := ["_law_script", "_law_pen_here", "_law_base_here", "_law_begun_here", "_law_home", "_law_number_here", "_law_times_here", "_law_way", "_law_nth", "_law_at", "_law_told", "_law_kept", "_law_some", "_law_spot", "_law_j"]) (sc := defScope s_law) (by decide +kernel)) (fun _ _ _ _ _ => pg_name (i := 14) sc_law.nd rfl (Or.inl rfl)) (fun _ _ _ _ _ => pts_nil) (fun _ _ _ _ _ => (pe_c c_draw hr (by decide) rfl (pa_cons (pv 1) (pa_cons (pe_callB (r := rLen K) call_len2 (by rfl) T.b_len (by decide +kernel) (pa_cons (pv 10) pa_nil)) pa_nil)))))
      (pss_cons (ps_for PassesOwn.never rfl (pi_list (pv 12)) (pg_name (i := 13) sc_law.nd rfl (.inl rfl))
        (pss_cons (ps_if (pt_cmpR (op_neI (u64 hr)) (pe_c c_chain hr (by decide) rfl (pa_cons (pv 4) (pa_cons (pe_ix ix_list (pv 11) (pv 13) (fun _ _ => rfl)) pa_nil))) (pe_slice sl_list (pv 11) (po_some (pv 13)) po_none) (nomark _))
          (pss_one (ps_ret pe_bl))
          pss_nil)
        (pss_one (ps_if (PW.pt (pw_and (pt_cmpR op_lt (pv 13) (pe_op op_sub (pe_callB call_len_seq (by rfl) T.b_len (by decide +kernel) (pa_cons (pv 11) pa_nil)) pe_int) (nomark _)) (pw_and1 (pt_cmpR op_ne (pe_c c_leads hr (by decide) rfl (pa_cons (pv 4) (pa_cons (pe_ix ix_list (pv 11) (pv 13) (fun _ _ => rfl)) pa_nil))) (pe_ix ix_list (pv 11) (pe_op op_add (pv 13) pe_int) (fun _ _ => rfl)) (nomark _)))))
          (pss_one (ps_ret pe_bl))
          pss_nil))))
      (pss_one (ps_ret (pe_cmpR (op_eqI (u64 hr)) (pv 10) (pv 11) (nomark _))))))))))))))))), ?_⟩
    walk_at "rd"
    refine ⟨a, ns, rfl, hS, hlen, fun H p c Pn s np => ?_⟩
    walk_at "rd"
    refine ⟨p, _, c, rfl, Pn, by omega, fun H k hk2 hk30 Pn bu => ?_⟩
    walk_at "rd"
    refine ⟨by walk_at "sz", fun l0 nl0 => ?_⟩
    generalize hu : upd _ l0 _ = H
    have s := heap_s hu nl0
    have el0 := heap_e hu
    clear hu
    walk_at "rd"
    refine' hold (A := PenAt H p c _) (by walk_at "tr") fun Pn => ?_
    refine ⟨p, l0, _, c, [3, 3, 15], rfl, Pn, by omega, el0, by decide, by decide, fun H m1 hm1 Pn bu => ?_⟩
    have hm1 : 0 < m1 ∧ m1 ≤ 15 := by
      simp only [List.mem_cons, List.not_mem_nil, or_false] at hm1; omega
    have hkm : k * (m1 + 2) ≤ 30 * 17 := Nat.mul_le_mul hk30 (by omega)
    walk_at "rd"
    refine ⟨p, k, m1, _, c, rfl, hk2, hk30, by omega, by omega, Pn, by omega, fun H b B Pn bu nb hb hB hbig hBm => ?_⟩
    walk_at "rd"
    refine ⟨p, k, b, _, c, B, rfl, Pn, by omega, hb, hB, hk30, hbig, fun H x Pn bu hH => ?_⟩
    refine' hold (A := H b = some _) (by walk_at "tr") fun hb => ?_
    walk_at "rd"
    refine ⟨by walk_at "sz", fun l1' nl1' => ?_⟩
    generalize hu : upd _ l1' _ = H
    have s := heap_s hu nl1'
    have el1' := heap_e hu
    clear hu
    walk_at "rd"
    walk_at "rd"
    refine .inr ⟨_, rfl, ?_⟩
    obtain ⟨v, hv, hvat⟩ : ∃ v : Nat, (v = 10 ∨ v = 30) ∧ atI ([V.int 10, .int 30] : List V) (if decide ((7 : Int) < (k : Int)) = true then 1 else 0) = some (.int (v : Nat)) := by
      by_cases z : (7 : Int) < (k : Int)
      · rw [if_pos (decide_eq_true z)]; exact ⟨30, .inr rfl, rfl⟩
      · rw [if_neg (by rw [decide_eq_false z]; exact Bool.false_ne_true)]; exact ⟨10, .inl rfl, rfl⟩
    refine ⟨l1', _, _, .int (v : Nat), rfl, rfl, sql el1', hvat, ?_⟩
    clear hvat
    walk_at "rd"
    refine ⟨by walk_at "sz", fun l2' nl2' => ?_⟩
    generalize hu : upd _ l2' _ = H
    have s := heap_s hu nl2'
    have el2' := heap_e hu
    clear hu
    walk_at "rd"
    refine' hold (A := PenAt H p c _) (by walk_at "tr") fun Pn => ?_
    refine' hold (A := H b = some _) (by walk_at "tr") fun hb => ?_
    refine' hold (A := HouseAt C_House H _ _ _) (by walk_at "tr") fun hH => ?_
    refine ⟨p, l2', _, c, [2, 4, 10, v], rfl, Pn, by omega, el2', by show 0 < 4; decide, by show 4 ≤ 1000; decide, fun H m2 hm2 Pn bu => ?_⟩
    have hm2 : 0 < m2 ∧ m2 ≤ 30 := by
      simp only [List.mem_cons, List.not_mem_nil, or_false] at hm2; omega
    walk_at "rd"
    refine ⟨p, k, m2, _, c, rfl, hk2, hk30, by omega, by omega, Pn, by omega, fun H N hN0 hN Pn bu => ?_⟩
    have hN2 : Hid (N < 2 ^ 610) := ⟨Nat.lt_of_lt_of_le hN (Nat.pow_le_pow_right (by decide) (by omega))⟩
    clear hN
    have hN3 : Hid (N < 2 ^ 900) := ⟨Nat.lt_trans hN2.out (by decide +kernel)⟩
    have hN4 : Hid (N - 1 < 2 ^ 20000) := ⟨Nat.lt_of_le_of_lt (Nat.sub_le _ _) (Nat.lt_trans hN3.out (Nat.pow_lt_pow_right (by decide) (by decide)))⟩
    refine' hold (A := H b = some _) (by walk_at "tr") fun hb => ?_
    refine' hold (A := HouseAt C_House H _ _ _) (by walk_at "tr") fun hH => ?_
    have ht0 := tim_pos hB hN0
    walk_at "rd"
    refine ⟨k, b, N, B, rfl, hb, hB, hk30, hN0, ?_⟩
    walk_at "rd"
    refine use_draw (by walk_at "tr") (by walk_at "om") (by walk_at "om") (by omega) fun H way hway Pn bu => ?_
    walk_at "rd"
    refine' hold (A := H b = some _) (by walk_at "tr") fun hb => ?_
    refine' hold (A := HouseAt C_House H _ _ _) (by walk_at "tr") fun hH => ?_
    refine ⟨(fun σ H6 => ∃ (i P6 : Nat) (w6 w7 w9 w10 w11 w12 w13 w14 : Option V), σ = [some (.ref a), some (.ref p), some (.int k), some (.ref b), some (.ref x), some (.int N), w6, w7, some (.int i), w9, w10, w11, w12, w13, w14] ∧ 1 ≤ i ∧ i ≤ tim k B N ∧ PenAt H6 p c P6 ∧ P6 ≤ 20000 ∧ But p H H6), ?_, ?_⟩
    · walk_at "rd"
      refine itd (fun c1 => ?_) (fun c1 => ?_)
      · walk_at "rd"
        refine ⟨by walk_at "sz", fun l nl => ?_⟩
        generalize hu : upd _ l _ = H
        have s := heap_s hu nl
        have el := heap_e hu
        clear hu
        walk_at "rd"
        obtain ⟨i, hi1, hi2, hat⟩ : ∃ i : Nat, 1 ≤ i ∧ i ≤ tim k B N ∧ ([V.int 1, .int (tim k B N : Nat)] : List V)[way]? = some (.int (i : Nat)) := by
          match way, c1 with
          | 0, _ => exact ⟨1, by omega, by omega, rfl⟩
          | 1, _ => exact ⟨_, ht0, Nat.le_refl _, rfl⟩
        refine ⟨l, _, _, _, rfl, rfl, sql el, at_of (j := way) rfl hat, ?_⟩
        refine' hold (A := PenAt H p c _) (by walk_at "tr") fun Pn => ?_
        walk_at "rd"
        exact ⟨i, _, _, _, _, _, _, _, _, _, rfl, hi1, hi2, Pn, by omega, by walk_at "tr"⟩
      · walk_at "rd"
        refine ⟨⟨by decide, by decide +kernel⟩, ?_⟩
        have e6 : (10 : Int) ^ (6 : Int).toNat = 1000000 := by decide
        walk_at "rd"
        rw [e6]
        refine use_draw (by walk_at "tr") (by walk_at "om") (by walk_at "om") (by omega) fun H r hr Pn bu => ?_
        walk_at "rd"
        have hr6 : r + 1 ≤ tim k B N := by split at hr <;> omega
        walk_at "rd"
        exact ⟨1 + r, _, _, _, _, _, _, _, _, _, rfl, by omega, by omega, by assumption, by omega, by walk_at "tr"⟩
    rintro σ H6 ⟨i, P6, w6, w7, w9, w10, w11, w12, w13, w14, rfl, hi1, hi2, Pn, hP6, bu6⟩
    have hb := bu6.at_ (by assumption) hb rfl
    have hH := hH.but (by assumption) bu6
    have eN1 : ((N : Nat) : Int) - 1 = ((N - 1 : Nat) : Int) := by omega
    walk_at "rd"
    refine ⟨k, b, N - 1, B, by rw [← eN1]; rfl, hb, hB, hk30, hbig, hN4.out, fun H7 s7 => ?_⟩
    obtain ⟨n, hn⟩ : ∃ n, n = las k B (N - 1) + i := ⟨_, rfl⟩
    have hlt := las_tim hB hN0
    have esa : sa k B n = N := sa_eq hB hN0 (by omega) (by omega)
    have hnb : Hid (n < 2 ^ 1000) := ⟨Nat.lt_of_le_of_lt (show n ≤ las k B N by omega) (las_lt_pow hk2 hbig hN3.out)⟩
    have hnb3 : Hid (n < 2 ^ 3000) := ⟨Nat.lt_trans hnb.out (Nat.pow_lt_pow_right (by decide) (by decide))⟩
    have hcl : (chL k B n).length ≤ 613 := chL_short hB 610 n (by omega) (by rw [esa]; exact Nat.le_succ_of_le (Nat.le_of_lt hN2.out))
    have en : ((las k B (N - 1) : Nat) : Int) + (i : Int) = (n : Int) := by omega
    have hb7 := s7 _ _ hb
    have hH7 := hH.same s7
    have P7 := Pn.same s7
    have hn0 : 0 < n := by omega
    obtain ⟨rest, hhead⟩ := chL_head (k := k) (B := B) n
    walk_at "rd"
    dsimp only
    rw [en]
    refine ⟨x, k, n, B, rfl, hH7, hn0, hnb3.out, by omega, fun H8 told s8 ntold htold => ?_⟩
    walk_at "rd"
    refine ⟨k, b, n, told, B, rfl, s8 _ _ hb7, hB, hk30, hbig, hn0, hnb, by omega, htold, fun H9 s9 => ?_⟩
    have ht9 := s9 _ _ htold
    walk_at "rd"
    refine ⟨told, _, rfl, .inl (sql ht9), fun kept nkept => ?_⟩
    generalize hu : upd H9 kept _ = H10
    have s10 := heap_s hu nkept
    have ek := heap_e hu
    clear hu
    have ht10 := s10 _ _ ht9
    have hH10 := ((hH7.same s8).same s9).same s10
    have P10 := ((P7.same s8).same s9).same s10
    have hll : (((zs (chL k B n)).map V.int).length : Int) = ((chL k B n).length : Int) := by rw [ints_len, zs_len]
    have hc0 : 0 < (chL k B n).length := by rw [hhead]; exact Nat.succ_pos _
    walk_at "rd"
    refine ⟨by decide, by decide, fun D nD => ?_⟩
    refine lc_range (lo := 0) (n := (3 : Int).toNat) (fun i H11 => ∃ L : List Nat, H11 D = some (.lst ((zs L).map V.int)) ∧ L.length = i ∧ (∀ y ∈ L, y < (chL k B n).length) ∧ PenAt H11 p c (P6 + i) ∧ But p H10 H11)
        ⟨[], upd_same, rfl, fun y hy => by (cases hy), P10.same (same_upd nD), But.same (same_upd nD)⟩ (fun i H11 hi h11 => ?_) (fun H11 h11 => ?_)
    · obtain ⟨L, d1, d2, d3, P11, b11⟩ := h11
      have hi3 : i < 3 := hi
      walk_at "rd"
      refine ⟨told, _, rfl, .inl (sql (b11.at_ P10 ht10 rfl)), ?_⟩
      walk_at "rd"
      refine use_draw (by walk_at "tr") (by walk_at "om") (by walk_at "om") (by omega) fun H r hr Pn bu => ?_
      walk_at "rd"
      refine ⟨_, bu.at_ P11 d1 rfl, by rw [ints_len, zs_len]; exact szl (by omega), ?_⟩
      generalize hu : upd _ D _ = H13
      refine ⟨L ++ [r], by rw [heap_e hu, ← zs_snoc], by rw [List.length_append, d2]; rfl, fun y hy => ?_, PenAt.le (heap_P hu (by assumption) P10 nD) (by omega), heap_b hu (but_t bu b11) nD⟩
      rcases List.mem_append.mp hy with z | z
      · exact d3 y z
      · rw [List.mem_singleton.mp z]; omega
    obtain ⟨L, d1, d2, d3, P11, b11⟩ := h11
    clear nD
    have ht11 := b11.at_ P10 ht10 rfl
    have ek11 := b11.at_ P10 ek rfl
    have hH11 := hH10.but P10 b11
    walk_at "rd"
    refine ⟨⟨_, sql d1⟩, for_list (K := K) (a := D) (xs := (zs L).map V.int) (fun i' σ H3 => ∃ (w5 w6 w7 w8 w9 w12 w13 w14 : Option V), σ = [some (.ref a), some (.ref p), some (.int k), some (.ref b), some (.ref x), w5, w6, w7, w8, w9, some (.ref told), some (.ref kept), w12, w13, w14] ∧ Same H11 H3) ⟨_, _, _, _, _, _, _, _, rfl, Same.refl _⟩
      (fun i' σ H3 _ h => ?_) (fun i' z σ H3 hz h => ?_) (fun σ H3 h => ?_)⟩
    · obtain ⟨w5, w6, w7, w8, w9, w12, w13, w14, rfl, s3⟩ := h
      exact sql (s3 _ _ d1)
    rotate_left
    · obtain ⟨w5, w6, w7, w8, w9, w12, w13, w14, rfl, s3⟩ := h
      walk_at "rd"
      refine ⟨told, kept, zs (chL k B n), zs (chL k B n), rfl, rfl, sql (s3 _ _ ht11), sql (s3 _ _ ek11), ?_⟩
      rw [decide_eq_true rfl]
      exact q _
    obtain ⟨w5, w6, w7, w8, w9, w12, w13, w14, rfl, s3⟩ := h
    obtain ⟨j, hj, rfl⟩ := zs_get hz
    have hjl := d3 j (List.mem_of_getElem? hj)
    obtain ⟨y, hy⟩ : ∃ y, (chL k B n)[j]? = some y := ⟨_, List.getElem?_eq_getElem hjl⟩
    obtain ⟨g1, g2, g3⟩ := chL_drop hB j n y hn0 hy
    have hyl : (chL k B y).length ≤ 613 := by rw [← g1, List.length_drop]; omega
    have hy3 : Hid (y < 2 ^ 3000) := ⟨Nat.lt_of_le_of_lt g3 hnb3.out⟩
    have hH3 := hH11.same (H' := H3) s3
    have ek3 := s3 _ _ ek11
    walk_at "rd"
    refine ⟨kept, _, _, _, rfl, rfl, sql ek3, at_of (j := j) rfl (zs_at hy), ?_⟩
    walk_at "rd"
    refine ⟨x, k, y, B, rfl, hH3, g2, hy3.out, by omega, fun H12 t12 s12 n12 e12 => ?_⟩
    walk_at "rd"
    refine ⟨kept, _, rfl, sql (s12 _ _ ek3), fun t13 nt13 => ?_⟩
    generalize hu : upd H12 t13 _ = H13
    have s13 := heap_s hu nt13
    have e13 := heap_e hu
    clear hu
    rw [zs_cut2 _ _ (by omega), g1] at e13
    refine ⟨t12, t13, zs (chL k B y), zs (chL k B y), rfl, rfl, sql (s13 _ _ e12), sql e13, ?_⟩
    walk_at "rd"
    refine itF (by rw [decide_eq_true rfl]; rfl) ?_
    have s14 := s12.trans s13
    have ek14 := s14 _ _ ek3
    walk_at "rd"
    refine ⟨kept, _, rfl, .inl (sql ek14), ?_⟩
    walk_at "rd"
    refine itd (fun c1 => ?_) (fun c1 => ?_)
    · obtain ⟨z, hz2⟩ : ∃ z, (chL k B n)[j + 1]? = some z := ⟨_, List.getElem?_eq_getElem (by omega)⟩
      obtain ⟨a1, a2, a3⟩ := chL_step hB j n y z hn0 hy hz2
      obtain ⟨mz, m0, m1', m2'⟩ := l1_lt hB a1
      walk_at "rd"
      refine ⟨kept, _, _, _, rfl, rfl, sql ek14, at_of (j := j) rfl (zs_at hy), ?_⟩
      walk_at "rd"
      refine ⟨x, k, y, B, rfl, hH3.same (H' := H13) s14, g2, Nat.le_of_lt hy3.out, fun H15 s15 => ?_⟩
      rw [if_pos (show 1 ≤ l1 k B y by omega), a2]
      walk_at "rd"
      refine ⟨kept, _, _, _, rfl, rfl, sql (s15 _ _ ek14), at_of (j := j + 1) rfl (zs_at hz2), ?_⟩
      walk_at "rd"
      refine itn (fun c => absurd (congrArg V.int (rfl)) c) (fun _ => ?_)
      walk_at "rd"
      exact ⟨_, _, _, _, _, _, _, _, rfl, s3.trans (s14.trans s15)⟩
    · walk_at "rd"
      exact ⟨_, _, _, _, _, _, _, _, rfl, s3.trans s14⟩
end
end Ab

namespace Ab
open PySem PySem.Spec PyProof.Rows L2
open C8 (Cal Mak Met pe_c pe_mk pe_mt pe_mt0)
theorem all_mk {l : PySem.W.OpenLaw} {w : World} {K : PySem.W.Frag} {h : Heap} {mg : Str → Option Value} {fa : Addr} (X : K.In h) (G : h.Ns mainGlobals mg) (hfa : mg "law" = some (.ref fa))
    {C_House : Addr} (aC_House : PySem.W.nsIn K mainGlobals "House" = some (some (.ref C_House))) (pg_House : PySem.W.plainGet K C_House Str.empty = true) (hd_House : PySem.W.hasDictIn K C_House = true) (po_House : PySem.W.plainOver K C_House = true)
    (sa_House : PySem.W.findIn K (.ref C_House) "__setattr__" = some (some (.builtin "object.__setattr__"))) (mk_House : PySem.W.makesIn K C_House = true) (kc_House : PySem.W.keepIn K (.ref C_House) = true)
    (na_House_beginning : PySem.W.findIn K (.ref C_House) "_beginning" = some none)
    (na_House_k : PySem.W.findIn K (.ref C_House) "_k" = some none)
    (na_House_sums : PySem.W.findIn K (.ref C_House) "_sums" = some none)
    {f0 : Addr} {od0 an0 : Option Addr} {sl0 : Array (Option Value)} {oc0 kV0 dc0 pm0 cd0 ct0 : Value}
    (a0 : PySem.W.nsIn K mainGlobals "exponent_of" = some (some (.ref f0)))
    (l0 : K.lookup f0 = some ⟨oc0, od0, .func (PySem.W.fnOf "exponent_of" "exponent_of" (defArgs s_exponent_of) (defBody s_exponent_of) (defScope s_exponent_of) .none kV0 dc0 pm0 an0 cd0 ct0), sl0⟩) (c0 : PySem.W.codeIn K cd0 "exponent_of" = true) (k0 : PySem.W.keepIn K (.ref f0) = true)
    {f1 : Addr} {od1 an1 : Option Addr} {sl1 : Array (Option Value)} {oc1 kV1 dc1 pm1 cd1 ct1 : Value}
    (a1 : PySem.W.nsIn K mainGlobals "first_sign" = some (some (.ref f1)))
    (l1 : K.lookup f1 = some ⟨oc1, od1, .func (PySem.W.fnOf "first_sign" "first_sign" (defArgs s_first_sign) (defBody s_first_sign) (defScope s_first_sign) .none kV1 dc1 pm1 an1 cd1 ct1), sl1⟩) (c1 : PySem.W.codeIn K cd1 "first_sign" = true) (k1 : PySem.W.keepIn K (.ref f1) = true)
    {f2 : Addr} {od2 an2 : Option Addr} {sl2 : Array (Option Value)} {oc2 kV2 dc2 pm2 cd2 ct2 : Value}
    (a2 : PySem.W.nsIn K mainGlobals "heap_of" = some (some (.ref f2)))
    (l2 : K.lookup f2 = some ⟨oc2, od2, .func (PySem.W.fnOf "heap_of" "heap_of" (defArgs s_heap_of) (defBody s_heap_of) (defScope s_heap_of) .none kV2 dc2 pm2 an2 cd2 ct2), sl2⟩) (c2 : PySem.W.codeIn K cd2 "heap_of" = true) (k2 : PySem.W.keepIn K (.ref f2) = true)
    {f3 : Addr} {od3 an3 : Option Addr} {sl3 : Array (Option Value)} {oc3 kV3 dc3 pm3 cd3 ct3 : Value}
    (a3 : PySem.W.nsIn K mainGlobals "is_whole" = some (some (.ref f3)))
    (l3 : K.lookup f3 = some ⟨oc3, od3, .func (PySem.W.fnOf "is_whole" "is_whole" (defArgs s_is_whole) (defBody s_is_whole) (defScope s_is_whole) .none kV3 dc3 pm3 an3 cd3 ct3), sl3⟩) (c3 : PySem.W.codeIn K cd3 "is_whole" = true) (k3 : PySem.W.keepIn K (.ref f3) = true)
    {f4 : Addr} {od4 an4 : Option Addr} {sl4 : Array (Option Value)} {oc4 kV4 dc4 pm4 cd4 ct4 : Value}
    (a4 : PySem.W.nsIn K mainGlobals "is_whole_from" = some (some (.ref f4)))
    (l4 : K.lookup f4 = some ⟨oc4, od4, .func (PySem.W.fnOf "is_whole_from" "is_whole_from" (defArgs s_is_whole_from) (defBody s_is_whole_from) (defScope s_is_whole_from) .none kV4 dc4 pm4 an4 cd4 ct4), sl4⟩) (c4 : PySem.W.codeIn K cd4 "is_whole_from" = true) (k4 : PySem.W.keepIn K (.ref f4) = true)
    {f5 : Addr} {od5 an5 : Option Addr} {sl5 : Array (Option Value)} {oc5 kV5 dc5 pm5 cd5 ct5 : Value}
    (a5 : PySem.W.nsIn K mainGlobals "is_row" = some (some (.ref f5)))
    (l5 : K.lookup f5 = some ⟨oc5, od5, .func (PySem.W.fnOf "is_row" "is_row" (defArgs s_is_row) (defBody s_is_row) (defScope s_is_row) .none kV5 dc5 pm5 an5 cd5 ct5), sl5⟩) (c5 : PySem.W.codeIn K cd5 "is_row" = true) (k5 : PySem.W.keepIn K (.ref f5) = true)
    {f6 : Addr} {od6 an6 : Option Addr} {sl6 : Array (Option Value)} {oc6 kV6 dc6 pm6 cd6 ct6 : Value}
    (a6 : PySem.W.nsIn K mainGlobals "is_k" = some (some (.ref f6)))
    (l6 : K.lookup f6 = some ⟨oc6, od6, .func (PySem.W.fnOf "is_k" "is_k" (defArgs s_is_k) (defBody s_is_k) (defScope s_is_k) .none kV6 dc6 pm6 an6 cd6 ct6), sl6⟩) (c6 : PySem.W.codeIn K cd6 "is_k" = true) (k6 : PySem.W.keepIn K (.ref f6) = true)
    {f7 : Addr} {od7 an7 : Option Addr} {sl7 : Array (Option Value)} {oc7 kV7 dc7 pm7 cd7 ct7 : Value}
    (a7 : PySem.W.nsIn K mainGlobals "is_beginning" = some (some (.ref f7)))
    (l7 : K.lookup f7 = some ⟨oc7, od7, .func (PySem.W.fnOf "is_beginning" "is_beginning" (defArgs s_is_beginning) (defBody s_is_beginning) (defScope s_is_beginning) .none kV7 dc7 pm7 an7 cd7 ct7), sl7⟩) (c7 : PySem.W.codeIn K cd7 "is_beginning" = true) (k7 : PySem.W.keepIn K (.ref f7) = true)
    {f8 : Addr} {od8 an8 : Option Addr} {sl8 : Array (Option Value)} {oc8 kV8 dc8 pm8 cd8 ct8 : Value}
    (a8 : PySem.W.nsIn K mainGlobals "lessened_sums" = some (some (.ref f8)))
    (l8 : K.lookup f8 = some ⟨oc8, od8, .func (PySem.W.fnOf "lessened_sums" "lessened_sums" (defArgs s_lessened_sums) (defBody s_lessened_sums) (defScope s_lessened_sums) .none kV8 dc8 pm8 an8 cd8 ct8), sl8⟩) (c8 : PySem.W.codeIn K cd8 "lessened_sums" = true) (k8 : PySem.W.keepIn K (.ref f8) = true)
    {f9 : Addr} {od9 an9 : Option Addr} {sl9 : Array (Option Value)} {oc9 kV9 dc9 pm9 cd9 ct9 : Value}
    (a9 : PySem.W.nsIn K mainGlobals "asked_first_behind" = some (some (.ref f9)))
    (l9 : K.lookup f9 = some ⟨oc9, od9, .func (PySem.W.fnOf "asked_first_behind" "asked_first_behind" (defArgs s_asked_first_behind) (defBody s_asked_first_behind) (defScope s_asked_first_behind) .none kV9 dc9 pm9 an9 cd9 ct9), sl9⟩) (c9 : PySem.W.codeIn K cd9 "asked_first_behind" = true) (k9 : PySem.W.keepIn K (.ref f9) = true)
    {f10 : Addr} {od10 an10 : Option Addr} {sl10 : Array (Option Value)} {oc10 kV10 dc10 pm10 cd10 ct10 : Value}
    (a10 : PySem.W.nsIn K mainGlobals "leads" = some (some (.ref f10)))
    (l10 : K.lookup f10 = some ⟨oc10, od10, .func (PySem.W.fnOf "leads" "leads" (defArgs s_leads) (defBody s_leads) (defScope s_leads) .none kV10 dc10 pm10 an10 cd10 ct10), sl10⟩) (c10 : PySem.W.codeIn K cd10 "leads" = true) (k10 : PySem.W.keepIn K (.ref f10) = true)
    {f11 : Addr} {od11 an11 : Option Addr} {sl11 : Array (Option Value)} {oc11 kV11 dc11 pm11 cd11 ct11 : Value}
    (a11 : PySem.W.nsIn K mainGlobals "number_at" = some (some (.ref f11)))
    (l11 : K.lookup f11 = some ⟨oc11, od11, .func (PySem.W.fnOf "number_at" "number_at" (defArgs s_number_at) (defBody s_number_at) (defScope s_number_at) .none kV11 dc11 pm11 an11 cd11 ct11), sl11⟩) (c11 : PySem.W.codeIn K cd11 "number_at" = true) (k11 : PySem.W.keepIn K (.ref f11) = true)
    {f12 : Addr} {od12 an12 : Option Addr} {sl12 : Array (Option Value)} {oc12 kV12 dc12 pm12 cd12 ct12 : Value}
    (a12 : PySem.W.nsIn K mainGlobals "chain" = some (some (.ref f12)))
    (l12 : K.lookup f12 = some ⟨oc12, od12, .func (PySem.W.fnOf "chain" "chain" (defArgs s_chain) (defBody s_chain) (defScope s_chain) .none kV12 dc12 pm12 an12 cd12 ct12), sl12⟩) (c12 : PySem.W.codeIn K cd12 "chain" = true) (k12 : PySem.W.keepIn K (.ref f12) = true)
    {f13 : Addr} {od13 an13 : Option Addr} {sl13 : Array (Option Value)} {oc13 kV13 dc13 pm13 cd13 ct13 : Value}
    (a13 : PySem.W.nsIn K mainGlobals "_law_pen" = some (some (.ref f13)))
    (l13 : K.lookup f13 = some ⟨oc13, od13, .func (PySem.W.fnOf "_law_pen" "_law_pen" (defArgs s_pen) (defBody s_pen) (defScope s_pen) .none kV13 dc13 pm13 an13 cd13 ct13), sl13⟩) (c13 : PySem.W.codeIn K cd13 "_law_pen" = true) (k13 : PySem.W.keepIn K (.ref f13) = true)
    {f14 : Addr} {od14 an14 : Option Addr} {sl14 : Array (Option Value)} {oc14 kV14 dc14 pm14 cd14 ct14 : Value}
    (a14 : PySem.W.nsIn K mainGlobals "_law_draw" = some (some (.ref f14)))
    (l14 : K.lookup f14 = some ⟨oc14, od14, .func (PySem.W.fnOf "_law_draw" "_law_draw" (defArgs s_draw) (defBody s_draw) (defScope s_draw) .none kV14 dc14 pm14 an14 cd14 ct14), sl14⟩) (c14 : PySem.W.codeIn K cd14 "_law_draw" = true) (k14 : PySem.W.keepIn K (.ref f14) = true)
    {f15 : Addr} {od15 an15 : Option Addr} {sl15 : Array (Option Value)} {oc15 kV15 dc15 pm15 cd15 ct15 : Value}
    (a15 : PySem.W.nsIn K mainGlobals "_law_pick" = some (some (.ref f15)))
    (l15 : K.lookup f15 = some ⟨oc15, od15, .func (PySem.W.fnOf "_law_pick" "_law_pick" (defArgs s_pick) (defBody s_pick) (defScope s_pick) .none kV15 dc15 pm15 an15 cd15 ct15), sl15⟩) (c15 : PySem.W.codeIn K cd15 "_law_pick" = true) (k15 : PySem.W.keepIn K (.ref f15) = true)
    {f16 : Addr} {od16 an16 : Option Addr} {sl16 : Array (Option Value)} {oc16 kV16 dc16 pm16 cd16 ct16 : Value}
    (a16 : PySem.W.nsIn K mainGlobals "_law_far" = some (some (.ref f16)))
    (l16 : K.lookup f16 = some ⟨oc16, od16, .func (PySem.W.fnOf "_law_far" "_law_far" (defArgs s_far) (defBody s_far) (defScope s_far) .none kV16 dc16 pm16 an16 cd16 ct16), sl16⟩) (c16 : PySem.W.codeIn K cd16 "_law_far" = true) (k16 : PySem.W.keepIn K (.ref f16) = true)
    {f17 : Addr} {od17 an17 : Option Addr} {sl17 : Array (Option Value)} {oc17 kV17 dc17 pm17 cd17 ct17 : Value}
    (a17 : PySem.W.nsIn K mainGlobals "_law_base" = some (some (.ref f17)))
    (l17 : K.lookup f17 = some ⟨oc17, od17, .func (PySem.W.fnOf "_law_base" "_law_base" (defArgs s_base) (defBody s_base) (defScope s_base) .none kV17 dc17 pm17 an17 cd17 ct17), sl17⟩) (c17 : PySem.W.codeIn K cd17 "_law_base" = true) (k17 : PySem.W.keepIn K (.ref f17) = true)
    {f18 : Addr} {od18 an18 : Option Addr} {sl18 : Array (Option Value)} {oc18 kV18 dc18 pm18 cd18 ct18 : Value}
    (a18 : PySem.W.nsIn K mainGlobals "_law_begun" = some (some (.ref f18)))
    (l18 : K.lookup f18 = some ⟨oc18, od18, .func (PySem.W.fnOf "_law_begun" "_law_begun" (defArgs s_begun) (defBody s_begun) (defScope s_begun) .none kV18 dc18 pm18 an18 cd18 ct18), sl18⟩) (c18 : PySem.W.codeIn K cd18 "_law_begun" = true) (k18 : PySem.W.keepIn K (.ref f18) = true)
    {f19 : Addr} {od19 an19 : Option Addr} {sl19 : Array (Option Value)} {oc19 kV19 dc19 pm19 cd19 ct19 : Value}
    (a19 : PySem.W.nsIn K mainGlobals "_law_house" = some (some (.ref f19)))
    (l19 : K.lookup f19 = some ⟨oc19, od19, .func (PySem.W.fnOf "_law_house" "_law_house" (defArgs s_house) (defBody s_house) (defScope s_house) .none kV19 dc19 pm19 an19 cd19 ct19), sl19⟩) (c19 : PySem.W.codeIn K cd19 "_law_house" = true) (k19 : PySem.W.keepIn K (.ref f19) = true)
    {f20 : Addr} {od20 an20 : Option Addr} {sl20 : Array (Option Value)} {oc20 kV20 dc20 pm20 cd20 ct20 : Value}
    (a20 : PySem.W.nsIn K mainGlobals "_law_is_number" = some (some (.ref f20)))
    (l20 : K.lookup f20 = some ⟨oc20, od20, .func (PySem.W.fnOf "_law_is_number" "_law_is_number" (defArgs s_is_number) (defBody s_is_number) (defScope s_is_number) .none kV20 dc20 pm20 an20 cd20 ct20), sl20⟩) (c20 : PySem.W.codeIn K cd20 "_law_is_number" = true) (k20 : PySem.W.keepIn K (.ref f20) = true)
    {f21 : Addr} {od21 an21 : Option Addr} {sl21 : Array (Option Value)} {oc21 kV21 dc21 pm21 cd21 ct21 : Value}
    (a21 : PySem.W.nsIn K mainGlobals "_law_times" = some (some (.ref f21)))
    (l21 : K.lookup f21 = some ⟨oc21, od21, .func (PySem.W.fnOf "_law_times" "_law_times" (defArgs s_times) (defBody s_times) (defScope s_times) .none kV21 dc21 pm21 an21 cd21 ct21), sl21⟩) (c21 : PySem.W.codeIn K cd21 "_law_times" = true) (k21 : PySem.W.keepIn K (.ref f21) = true)
    {f22 : Addr} {od22 an22 : Option Addr} {sl22 : Array (Option Value)} {oc22 kV22 dc22 pm22 cd22 ct22 : Value}
    (a22 : PySem.W.nsIn K mainGlobals "_law_last" = some (some (.ref f22)))
    (l22 : K.lookup f22 = some ⟨oc22, od22, .func (PySem.W.fnOf "_law_last" "_law_last" (defArgs s_last) (defBody s_last) (defScope s_last) .none kV22 dc22 pm22 an22 cd22 ct22), sl22⟩) (c22 : PySem.W.codeIn K cd22 "_law_last" = true) (k22 : PySem.W.keepIn K (.ref f22) = true)
    {f23 : Addr} {od23 an23 : Option Addr} {sl23 : Array (Option Value)} {oc23 kV23 dc23 pm23 cd23 ct23 : Value}
    (a23 : PySem.W.nsIn K mainGlobals "_law_number" = some (some (.ref f23)))
    (l23 : K.lookup f23 = some ⟨oc23, od23, .func (PySem.W.fnOf "_law_number" "_law_number" (defArgs s_number) (defBody s_number) (defScope s_number) .none kV23 dc23 pm23 an23 cd23 ct23), sl23⟩) (c23 : PySem.W.codeIn K cd23 "_law_number" = true) (k23 : PySem.W.keepIn K (.ref f23) = true)
    {f24 : Addr} {od24 an24 : Option Addr} {sl24 : Array (Option Value)} {oc24 kV24 dc24 pm24 cd24 ct24 : Value}
    (a24 : PySem.W.nsIn K mainGlobals "_law_walked" = some (some (.ref f24)))
    (l24 : K.lookup f24 = some ⟨oc24, od24, .func (PySem.W.fnOf "_law_walked" "_law_walked" (defArgs s_walked) (defBody s_walked) (defScope s_walked) .none kV24 dc24 pm24 an24 cd24 ct24), sl24⟩) (c24 : PySem.W.codeIn K cd24 "_law_walked" = true) (k24 : PySem.W.keepIn K (.ref f24) = true)
    {f25 : Addr} {od25 an25 : Option Addr} {sl25 : Array (Option Value)} {oc25 kV25 dc25 pm25 cd25 ct25 : Value}
    (a25 : PySem.W.nsIn K mainGlobals "law" = some (some (.ref f25)))
    (l25 : K.lookup f25 = some ⟨oc25, od25, .func (PySem.W.fnOf "law" "law" (defArgs s_law) (defBody s_law) (defScope s_law) .none kV25 dc25 pm25 an25 cd25 ct25), sl25⟩) (c25 : PySem.W.codeIn K cd25 "law" = true) (k25 : PySem.W.keepIn K (.ref f25) = true)
    {f26 : Addr} {od26 an26 : Option Addr} {sl26 : Array (Option Value)} {oc26 kV26 dc26 pm26 cd26 ct26 : Value}
    (a26 : PySem.W.findIn K (.ref C_House) "__init__" = some (some (.ref f26))) (i26 : PySem.W.isFn K (.ref f26) = true)
    (l26 : K.lookup f26 = some ⟨oc26, od26, .func (PySem.W.fnOf "__init__" "House.__init__" (defArgs s_House_init) (defBody s_House_init) (defScope s_House_init) .none kV26 dc26 pm26 an26 cd26 ct26), sl26⟩) (c26 : PySem.W.codeIn K cd26 "House.__init__" = true) (k26 : PySem.W.keepIn K (.ref f26) = true)
    {f27 : Addr} {od27 an27 : Option Addr} {sl27 : Array (Option Value)} {oc27 kV27 dc27 pm27 cd27 ct27 : Value}
    (a27 : PySem.W.findIn K (.ref C_House) "base" = some (some (.ref f27))) (i27 : PySem.W.isFn K (.ref f27) = true)
    (l27 : K.lookup f27 = some ⟨oc27, od27, .func (PySem.W.fnOf "base" "House.base" (defArgs s_House_base) (defBody s_House_base) (defScope s_House_base) .none kV27 dc27 pm27 an27 cd27 ct27), sl27⟩) (c27 : PySem.W.codeIn K cd27 "House.base" = true) (k27 : PySem.W.keepIn K (.ref f27) = true)
    {f28 : Addr} {od28 an28 : Option Addr} {sl28 : Array (Option Value)} {oc28 kV28 dc28 pm28 cd28 ct28 : Value}
    (a28 : PySem.W.findIn K (.ref C_House) "reach" = some (some (.ref f28))) (i28 : PySem.W.isFn K (.ref f28) = true)
    (l28 : K.lookup f28 = some ⟨oc28, od28, .func (PySem.W.fnOf "reach" "House.reach" (defArgs s_House_reach) (defBody s_House_reach) (defScope s_House_reach) .none kV28 dc28 pm28 an28 cd28 ct28), sl28⟩) (c28 : PySem.W.codeIn K cd28 "House.reach" = true) (k28 : PySem.W.keepIn K (.ref f28) = true)
    {f29 : Addr} {od29 an29 : Option Addr} {sl29 : Array (Option Value)} {oc29 kV29 dc29 pm29 cd29 ct29 : Value}
    (a29 : PySem.W.findIn K (.ref C_House) "folk" = some (some (.ref f29))) (i29 : PySem.W.isFn K (.ref f29) = true)
    (l29 : K.lookup f29 = some ⟨oc29, od29, .func (PySem.W.fnOf "folk" "House.folk" (defArgs s_House_folk) (defBody s_House_folk) (defScope s_House_folk) .none kV29 dc29 pm29 an29 cd29 ct29), sl29⟩) (c29 : PySem.W.codeIn K cd29 "House.folk" = true) (k29 : PySem.W.keepIn K (.ref f29) = true)
    {f30 : Addr} {od30 an30 : Option Addr} {sl30 : Array (Option Value)} {oc30 kV30 dc30 pm30 cd30 ct30 : Value}
    (a30 : PySem.W.findIn K (.ref C_House) "first_place" = some (some (.ref f30))) (i30 : PySem.W.isFn K (.ref f30) = true)
    (l30 : K.lookup f30 = some ⟨oc30, od30, .func (PySem.W.fnOf "first_place" "House.first_place" (defArgs s_House_first_place) (defBody s_House_first_place) (defScope s_House_first_place) .none kV30 dc30 pm30 an30 cd30 ct30), sl30⟩) (c30 : PySem.W.codeIn K cd30 "House.first_place" = true) (k30 : PySem.W.keepIn K (.ref f30) = true)
    {f31 : Addr} {od31 an31 : Option Addr} {sl31 : Array (Option Value)} {oc31 kV31 dc31 pm31 cd31 ct31 : Value}
    (a31 : PySem.W.findIn K (.ref C_House) "last_place" = some (some (.ref f31))) (i31 : PySem.W.isFn K (.ref f31) = true)
    (l31 : K.lookup f31 = some ⟨oc31, od31, .func (PySem.W.fnOf "last_place" "House.last_place" (defArgs s_House_last_place) (defBody s_House_last_place) (defScope s_House_last_place) .none kV31 dc31 pm31 an31 cd31 ct31), sl31⟩) (c31 : PySem.W.codeIn K cd31 "House.last_place" = true) (k31 : PySem.W.keepIn K (.ref f31) = true)
    {f32 : Addr} {od32 an32 : Option Addr} {sl32 : Array (Option Value)} {oc32 kV32 dc32 pm32 cd32 ct32 : Value}
    (a32 : PySem.W.findIn K (.ref C_House) "_last_of_round" = some (some (.ref f32))) (i32 : PySem.W.isFn K (.ref f32) = true)
    (l32 : K.lookup f32 = some ⟨oc32, od32, .func (PySem.W.fnOf "_last_of_round" "House._last_of_round" (defArgs s_House_last_of_round) (defBody s_House_last_of_round) (defScope s_House_last_of_round) .none kV32 dc32 pm32 an32 cd32 ct32), sl32⟩) (c32 : PySem.W.codeIn K cd32 "House._last_of_round" = true) (k32 : PySem.W.keepIn K (.ref f32) = true)
    {f33 : Addr} {od33 an33 : Option Addr} {sl33 : Array (Option Value)} {oc33 kV33 dc33 pm33 cd33 ct33 : Value}
    (a33 : PySem.W.findIn K (.ref C_House) "_first_round" = some (some (.ref f33))) (i33 : PySem.W.isFn K (.ref f33) = true)
    (l33 : K.lookup f33 = some ⟨oc33, od33, .func (PySem.W.fnOf "_first_round" "House._first_round" (defArgs s_House_first_round) (defBody s_House_first_round) (defScope s_House_first_round) .none kV33 dc33 pm33 an33 cd33 ct33), sl33⟩) (c33 : PySem.W.codeIn K cd33 "House._first_round" = true) (k33 : PySem.W.keepIn K (.ref f33) = true)
    {f34 : Addr} {od34 an34 : Option Addr} {sl34 : Array (Option Value)} {oc34 kV34 dc34 pm34 cd34 ct34 : Value}
    (a34 : PySem.W.findIn K (.ref C_House) "_said_out" = some (some (.ref f34))) (i34 : PySem.W.isFn K (.ref f34) = true)
    (l34 : K.lookup f34 = some ⟨oc34, od34, .func (PySem.W.fnOf "_said_out" "House._said_out" (defArgs s_House_said_out) (defBody s_House_said_out) (defScope s_House_said_out) .none kV34 dc34 pm34 an34 cd34 ct34), sl34⟩) (c34 : PySem.W.codeIn K cd34 "House._said_out" = true) (k34 : PySem.W.keepIn K (.ref f34) = true)
    {f35 : Addr} {od35 an35 : Option Addr} {sl35 : Array (Option Value)} {oc35 kV35 dc35 pm35 cd35 ct35 : Value}
    (a35 : PySem.W.findIn K (.ref C_House) "said" = some (some (.ref f35))) (i35 : PySem.W.isFn K (.ref f35) = true)
    (l35 : K.lookup f35 = some ⟨oc35, od35, .func (PySem.W.fnOf "said" "House.said" (defArgs s_House_said) (defBody s_House_said) (defScope s_House_said) .none kV35 dc35 pm35 an35 cd35 ct35), sl35⟩) (c35 : PySem.W.codeIn K cd35 "House.said" = true) (k35 : PySem.W.keepIn K (.ref f35) = true)
    (z0 : PySem.W.nsIn K mainGlobals "abs" = some none)
    (z1 : PySem.W.nsIn K mainGlobals "all" = some none)
    (z2 : PySem.W.nsIn K mainGlobals "bool" = some none)
    (z3 : PySem.W.nsIn K mainGlobals "int" = some none)
    (z4 : PySem.W.nsIn K mainGlobals "isinstance" = some none)
    (z5 : PySem.W.nsIn K mainGlobals "len" = some none)
    (z6 : PySem.W.nsIn K mainGlobals "list" = some none)
    (z7 : PySem.W.nsIn K mainGlobals "min" = some none)
    (z8 : PySem.W.nsIn K mainGlobals "range" = some none)
    (z9 : PySem.W.nsIn K mainGlobals "sum" = some none)
    (z10 : PySem.W.nsIn K mainGlobals "tuple" = some none)
    {t_GREATEST_K : Tok} (n_GREATEST_K : PySem.W.nsIn K mainGlobals "GREATEST_K" = some (some (.int 30 t_GREATEST_K)))
    : ∃ fd : FuncData, (∀ (s : Shared) (v : Value), BindsTo s fd ⟨[v], []⟩ [("_law_script", v)]) ∧ ∀ base : Heap, K.In base → base.Ns mainGlobals mg → FnOk l.prog w K mg base CX0 9 fa fd ["_law_script"] (spLaw K) := by
  have e := hfa.symm.trans (PySem.W.mg_of X G a25)
  cases e
  have F0 := fun_mk (st := s_exponent_of) l0 c0 k0
  have F1 := fun_mk (st := s_first_sign) l1 c1 k1
  have F2 := fun_mk (st := s_heap_of) l2 c2 k2
  have F3 := fun_mk (st := s_is_whole) l3 c3 k3
  have F4 := fun_mk (st := s_is_whole_from) l4 c4 k4
  have F5 := fun_mk (st := s_is_row) l5 c5 k5
  have F6 := fun_mk (st := s_is_k) l6 c6 k6
  have F7 := fun_mk (st := s_is_beginning) l7 c7 k7
  have F8 := fun_mk (st := s_lessened_sums) l8 c8 k8
  have F9 := fun_mk (st := s_asked_first_behind) l9 c9 k9
  have F10 := fun_mk (st := s_leads) l10 c10 k10
  have F11 := fun_mk (st := s_number_at) l11 c11 k11
  have F12 := fun_mk (st := s_chain) l12 c12 k12
  have F13 := fun_mk (st := s_pen) l13 c13 k13
  have F14 := fun_mk (st := s_draw) l14 c14 k14
  have F15 := fun_mk (st := s_pick) l15 c15 k15
  have F16 := fun_mk (st := s_far) l16 c16 k16
  have F17 := fun_mk (st := s_base) l17 c17 k17
  have F18 := fun_mk (st := s_begun) l18 c18 k18
  have F19 := fun_mk (st := s_house) l19 c19 k19
  have F20 := fun_mk (st := s_is_number) l20 c20 k20
  have F21 := fun_mk (st := s_times) l21 c21 k21
  have F22 := fun_mk (st := s_last) l22 c22 k22
  have F23 := fun_mk (st := s_number) l23 c23 k23
  have F24 := fun_mk (st := s_walked) l24 c24 k24
  have F25 := fun_mk (st := s_law) l25 c25 k25
  have F26 := fun_mk (st := s_House_init) l26 c26 k26
  have F27 := fun_mk (st := s_House_base) l27 c27 k27
  have F28 := fun_mk (st := s_House_reach) l28 c28 k28
  have F29 := fun_mk (st := s_House_folk) l29 c29 k29
  have F30 := fun_mk (st := s_House_first_place) l30 c30 k30
  have F31 := fun_mk (st := s_House_last_place) l31 c31 k31
  have F32 := fun_mk (st := s_House_last_of_round) l32 c32 k32
  have F33 := fun_mk (st := s_House_first_round) l33 c33 k33
  have F34 := fun_mk (st := s_House_said_out) l34 c34 k34
  have F35 := fun_mk (st := s_House_said) l35 c35 k35
  have b0 := F0.binds (ps := ["number", "base"]) fun _ _ _ _ _ _ us hl => match us, hl with | [_, _], _ => rfl
  have b1 := F1.binds (ps := ["number", "base"]) fun _ _ _ _ _ _ us hl => match us, hl with | [_, _], _ => rfl
  have b2 := F2.binds (ps := ["number", "base"]) fun _ _ _ _ _ _ us hl => match us, hl with | [_, _], _ => rfl
  have b3 := F3.binds (ps := ["thing"]) fun _ _ _ _ _ _ us hl => match us, hl with | [_], _ => rfl
  have b4 := F4.binds (ps := ["thing", "least"]) fun _ _ _ _ _ _ us hl => match us, hl with | [_, _], _ => rfl
  have b5 := F5.binds (ps := ["thing"]) fun _ _ _ _ _ _ us hl => match us, hl with | [_], _ => rfl
  have b6 := F6.binds (ps := ["thing"]) fun _ _ _ _ _ _ us hl => match us, hl with | [_], _ => rfl
  have b7 := F7.binds (ps := ["k", "thing"]) fun _ _ _ _ _ _ us hl => match us, hl with | [_, _], _ => rfl
  have b8 := F8.binds (ps := ["beginning"]) fun _ _ _ _ _ _ us hl => match us, hl with | [_], _ => rfl
  have b9 := F9.binds (ps := ["house", "place"]) fun _ _ _ _ _ _ us hl => match us, hl with | [_, _], _ => rfl
  have b10 := F10.binds (ps := ["house", "place"]) fun _ _ _ _ _ _ us hl => match us, hl with | [_, _], _ => rfl
  have b11 := F11.binds (ps := ["house", "place"]) fun _ _ _ _ _ _ us hl => match us, hl with | [_, _], _ => rfl
  have b12 := F12.binds (ps := ["house", "place"]) fun _ _ _ _ _ _ us hl => match us, hl with | [_, _], _ => rfl
  have b13 := F13.binds (ps := ["_law_script"]) fun _ _ _ _ _ _ us hl => match us, hl with | [_], _ => rfl
  have b14 := F14.binds (ps := ["_law_pen_here", "_law_many"]) fun _ _ _ _ _ _ us hl => match us, hl with | [_, _], _ => rfl
  have b15 := F15.binds (ps := ["_law_pen_here", "_law_some"]) fun _ _ _ _ _ _ us hl => match us, hl with | [_, _], _ => rfl
  have b16 := F16.binds (ps := ["_law_pen_here", "_law_pieces"]) fun _ _ _ _ _ _ us hl => match us, hl with | [_, _], _ => rfl
  have b17 := F17.binds (ps := ["_law_pen_here"]) fun _ _ _ _ _ _ us hl => match us, hl with | [_], _ => rfl
  have b18 := F18.binds (ps := ["_law_pen_here", "_law_base_here", "_law_pieces"]) fun _ _ _ _ _ _ us hl => match us, hl with | [_, _, _], _ => rfl
  have b19 := F19.binds (ps := ["_law_pen_here", "_law_base_here", "_law_begun_here"]) fun _ _ _ _ _ _ us hl => match us, hl with | [_, _, _], _ => rfl
  have b20 := F20.binds (ps := ["_law_thing"]) fun _ _ _ _ _ _ us hl => match us, hl with | [_], _ => rfl
  have b21 := F21.binds (ps := ["_law_base_here", "_law_begun_here", "_law_number_here"]) fun _ _ _ _ _ _ us hl => match us, hl with | [_, _, _], _ => rfl
  have b22 := F22.binds (ps := ["_law_base_here", "_law_begun_here", "_law_number_here"]) fun _ _ _ _ _ _ us hl => match us, hl with | [_, _, _], _ => rfl
  have b23 := F23.binds (ps := ["_law_pen_here", "_law_base_here", "_law_pieces"]) fun _ _ _ _ _ _ us hl => match us, hl with | [_, _, _], _ => rfl
  have b24 := F24.binds (ps := ["_law_base_here", "_law_begun_here", "_law_at", "_law_told"]) fun _ _ _ _ _ _ us hl => match us, hl with | [_, _, _, _], _ => rfl
  have b26 := F26.binds (ps := ["self", "k", "beginning"]) fun _ _ _ _ _ _ us hl => match us, hl with | [_, _, _], _ => rfl
  have b27 := F27.binds (ps := ["self"]) fun _ _ _ _ _ _ us hl => match us, hl with | [_], _ => rfl
  have b28 := F28.binds (ps := ["self"]) fun _ _ _ _ _ _ us hl => match us, hl with | [_], _ => rfl
  have b29 := F29.binds (ps := ["self"]) fun _ _ _ _ _ _ us hl => match us, hl with | [_], _ => rfl
  have b30 := F30.binds (ps := ["self", "number"]) fun _ _ _ _ _ _ us hl => match us, hl with | [_, _], _ => rfl
  have b31 := F31.binds (ps := ["self", "number"]) fun _ _ _ _ _ _ us hl => match us, hl with | [_, _], _ => rfl
  have b32 := F32.binds (ps := ["self", "exponent", "sign", "ones"]) fun _ _ _ _ _ _ us hl => match us, hl with | [_, _, _, _], _ => rfl
  have b33 := F33.binds (ps := ["self", "place"]) fun _ _ _ _ _ _ us hl => match us, hl with | [_, _], _ => rfl
  have b34 := F34.binds (ps := ["self", "place"]) fun _ _ _ _ _ _ us hl => match us, hl with | [_, _], _ => rfl
  have b35 := F35.binds (ps := ["self", "place"]) fun _ _ _ _ _ _ us hl => match us, hl with | [_, _], _ => rfl
  have kn0 := kbn_of F26 (ps := ["self", "k", "beginning"]) (ks := ["beginning", "k"]) (js := [1, 0]) fun _ _ _ _ _ _ _ ws hl => match ws, hl with | [_, _], _ => rfl
  have T : Txt K mg C_House := ⟨PySem.W.mg_none_of X G z0,
    PySem.W.mg_none_of X G z1,
    PySem.W.mg_none_of X G z2,
    PySem.W.mg_none_of X G z3,
    PySem.W.mg_none_of X G z4,
    PySem.W.mg_none_of X G z5,
    PySem.W.mg_none_of X G z6,
    PySem.W.mg_none_of X G z7,
    PySem.W.mg_none_of X G z8,
    PySem.W.mg_none_of X G z9,
    PySem.W.mg_none_of X G z10,
    ⟨_, PySem.W.mg_of X G n_GREATEST_K⟩,
    ⟨_, _, F0, b0, PySem.W.mg_of X G a0⟩,
    ⟨_, _, F1, b1, PySem.W.mg_of X G a1⟩,
    ⟨_, _, F2, b2, PySem.W.mg_of X G a2⟩,
    ⟨_, _, F3, b3, PySem.W.mg_of X G a3⟩,
    ⟨_, _, F4, b4, PySem.W.mg_of X G a4⟩,
    ⟨_, _, F5, b5, PySem.W.mg_of X G a5⟩,
    ⟨_, _, F6, b6, PySem.W.mg_of X G a6⟩,
    ⟨_, _, F7, b7, PySem.W.mg_of X G a7⟩,
    ⟨_, _, F8, b8, PySem.W.mg_of X G a8⟩,
    ⟨_, _, F9, b9, PySem.W.mg_of X G a9⟩,
    ⟨_, _, F10, b10, PySem.W.mg_of X G a10⟩,
    ⟨_, _, F11, b11, PySem.W.mg_of X G a11⟩,
    ⟨_, _, F12, b12, PySem.W.mg_of X G a12⟩,
    ⟨_, _, F13, b13, PySem.W.mg_of X G a13⟩,
    ⟨_, _, F14, b14, PySem.W.mg_of X G a14⟩,
    ⟨_, _, F15, b15, PySem.W.mg_of X G a15⟩,
    ⟨_, _, F16, b16, PySem.W.mg_of X G a16⟩,
    ⟨_, _, F17, b17, PySem.W.mg_of X G a17⟩,
    ⟨_, _, F18, b18, PySem.W.mg_of X G a18⟩,
    ⟨_, _, F19, b19, PySem.W.mg_of X G a19⟩,
    ⟨_, _, F20, b20, PySem.W.mg_of X G a20⟩,
    ⟨_, _, F21, b21, PySem.W.mg_of X G a21⟩,
    ⟨_, _, F22, b22, PySem.W.mg_of X G a22⟩,
    ⟨_, _, F23, b23, PySem.W.mg_of X G a23⟩,
    ⟨_, _, F24, b24, PySem.W.mg_of X G a24⟩,
    ⟨pg_House, hd_House, po_House, sa_House⟩,
    mk_House,
    kc_House,
    PySem.W.mg_of X G aC_House,
    na_House_beginning,
    na_House_k,
    na_House_sums,
    ⟨_, _, F26, b26, ⟨a26, i26, k26⟩⟩,
    ⟨_, _, F27, b27, ⟨a27, i27, k27⟩⟩,
    ⟨_, _, F28, b28, ⟨a28, i28, k28⟩⟩,
    ⟨_, _, F29, b29, ⟨a29, i29, k29⟩⟩,
    ⟨_, _, F30, b30, ⟨a30, i30, k30⟩⟩,
    ⟨_, _, F31, b31, ⟨a31, i31, k31⟩⟩,
    ⟨_, _, F32, b32, ⟨a32, i32, k32⟩⟩,
    ⟨_, _, F33, b33, ⟨a33, i33, k33⟩⟩,
    ⟨_, _, F34, b34, ⟨a34, i34, k34⟩⟩,
    ⟨_, _, F35, b35, ⟨a35, i35, k35⟩⟩,
    ⟨_, _, F26, kn0, ⟨a26, i26, k26⟩⟩⟩
  exact ⟨PySem.W.fnOf "law" "law" (defArgs s_law) (defBody s_law) (defScope s_law) .none kV25 dc25 pm25 an25 cd25 ct25, fun s v => .of_eq rfl, fun base _ _ => ok_law T F25⟩
end Ab
open PySem PySem.W PyProof.Rows
set_option maxRecDepth 100000 in
set_option maxHeartbeats 0 in
theorem PySem.Challenge.cw_askback_k23_whole_far_chains_walked_holds : PySem.Challenge.rw_askback_k23_whole_far_chains_walked.Holds := by
  w_on; o_law; k_head; (case hw => w_witness2)
  k_fill
  refine L2.walk_of (l := PySem.Challenge.rw_askback_k23_whole_far_chains_walked) (n := 63) (k := 9) (x := "_law_script") (CX := fun _ => L2.CX0) (sp := fun w => Ab.spLaw _) rfl (by decide) rfl ⟨rfl, by decide, by decide⟩ (fun w h Y => PySem.W.kIn_of Y) ?F (fun _ _ a ns hl _ hS => ⟨a, ns, rfl, hS, hl, fun _ => rfl⟩) (fun _ _ _ _ _ h => h)
  case F =>
    intro w mg fa h KX G hmg
    refine' Ab.all_mk KX G hmg ?aC_House ?pg_House ?hd_House ?po_House ?sa_House ?mk_House ?kc_House ?na_House_beginning ?na_House_k ?na_House_sums ?a0 ?l0 ?c0 ?k0 ?a1 ?l1 ?c1 ?k1 ?a2 ?l2 ?c2 ?k2 ?a3 ?l3 ?c3 ?k3 ?a4 ?l4 ?c4 ?k4 ?a5 ?l5 ?c5 ?k5 ?a6 ?l6 ?c6 ?k6 ?a7 ?l7 ?c7 ?k7 ?a8 ?l8 ?c8 ?k8 ?a9 ?l9 ?c9 ?k9 ?a10 ?l10 ?c10 ?k10 ?a11 ?l11 ?c11 ?k11 ?a12 ?l12 ?c12 ?k12 ?a13 ?l13 ?c13 ?k13 ?a14 ?l14 ?c14 ?k14 ?a15 ?l15 ?c15 ?k15 ?a16 ?l16 ?c16 ?k16 ?a17 ?l17 ?c17 ?k17 ?a18 ?l18 ?c18 ?k18 ?a19 ?l19 ?c19 ?k19 ?a20 ?l20 ?c20 ?k20 ?a21 ?l21 ?c21 ?k21 ?a22 ?l22 ?c22 ?k22 ?a23 ?l23 ?c23 ?k23 ?a24 ?l24 ?c24 ?k24 ?a25 ?l25 ?c25 ?k25 ?a26 ?i26 ?l26 ?c26 ?k26 ?a27 ?i27 ?l27 ?c27 ?k27 ?a28 ?i28 ?l28 ?c28 ?k28 ?a29 ?i29 ?l29 ?c29 ?k29 ?a30 ?i30 ?l30 ?c30 ?k30 ?a31 ?i31 ?l31 ?c31 ?k31 ?a32 ?i32 ?l32 ?c32 ?k32 ?a33 ?i33 ?l33 ?c33 ?k33 ?a34 ?i34 ?l34 ?c34 ?k34 ?a35 ?i35 ?l35 ?c35 ?k35 ?z0 ?z1 ?z2 ?z3 ?z4 ?z5 ?z6 ?z7 ?z8 ?z9 ?z10 ?n_GREATEST_K
    (case aC_House => k_is)
    (case pg_House => k_is)
    (case hd_House => k_is)
    (case po_House => k_is)
    (case sa_House => k_is)
    (case mk_House => k_is)
    (case kc_House => k_is)
    (case na_House_beginning => k_is)
    (case na_House_k => k_is)
    (case na_House_sums => k_is)
    (case a0 => k_is)
    (case l0 => k_is)
    (case c0 => k_is)
    (case k0 => k_is)
    (case a1 => k_is)
    (case l1 => k_is)
    (case c1 => k_is)
    (case k1 => k_is)
    (case a2 => k_is)
    (case l2 => k_is)
    (case c2 => k_is)
    (case k2 => k_is)
    (case a3 => k_is)
    (case l3 => k_is)
    (case c3 => k_is)
    (case k3 => k_is)
    (case a4 => k_is)
    (case l4 => k_is)
    (case c4 => k_is)
    (case k4 => k_is)
    (case a5 => k_is)
    (case l5 => k_is)
    (case c5 => k_is)
    (case k5 => k_is)
    (case a6 => k_is)
    (case l6 => k_is)
    (case c6 => k_is)
    (case k6 => k_is)
    (case a7 => k_is)
    (case l7 => k_is)
    (case c7 => k_is)
    (case k7 => k_is)
    (case a8 => k_is)
    (case l8 => k_is)
    (case c8 => k_is)
    (case k8 => k_is)
    (case a9 => k_is)
    (case l9 => k_is)
    (case c9 => k_is)
    (case k9 => k_is)
    (case a10 => k_is)
    (case l10 => k_is)
    (case c10 => k_is)
    (case k10 => k_is)
    (case a11 => k_is)
    (case l11 => k_is)
    (case c11 => k_is)
    (case k11 => k_is)
    (case a12 => k_is)
    (case l12 => k_is)
    (case c12 => k_is)
    (case k12 => k_is)
    (case a13 => k_is)
    (case l13 => k_is)
    (case c13 => k_is)
    (case k13 => k_is)
    (case a14 => k_is)
    (case l14 => k_is)
    (case c14 => k_is)
    (case k14 => k_is)
    (case a15 => k_is)
    (case l15 => k_is)
    (case c15 => k_is)
    (case k15 => k_is)
    (case a16 => k_is)
    (case l16 => k_is)
    (case c16 => k_is)
    (case k16 => k_is)
    (case a17 => k_is)
    (case l17 => k_is)
    (case c17 => k_is)
    (case k17 => k_is)
    (case a18 => k_is)
    (case l18 => k_is)
    (case c18 => k_is)
    (case k18 => k_is)
    (case a19 => k_is)
    (case l19 => k_is)
    (case c19 => k_is)
    (case k19 => k_is)
    (case a20 => k_is)
    (case l20 => k_is)
    (case c20 => k_is)
    (case k20 => k_is)
    (case a21 => k_is)
    (case l21 => k_is)
    (case c21 => k_is)
    (case k21 => k_is)
    (case a22 => k_is)
    (case l22 => k_is)
    (case c22 => k_is)
    (case k22 => k_is)
    (case a23 => k_is)
    (case l23 => k_is)
    (case c23 => k_is)
    (case k23 => k_is)
    (case a24 => k_is)
    (case l24 => k_is)
    (case c24 => k_is)
    (case k24 => k_is)
    (case a25 => k_is)
    (case l25 => k_is)
    (case c25 => k_is)
    (case k25 => k_is)
    (case a26 => k_is)
    (case i26 => k_is)
    (case l26 => k_is)
    (case c26 => k_is)
    (case k26 => k_is)
    (case a27 => k_is)
    (case i27 => k_is)
    (case l27 => k_is)
    (case c27 => k_is)
    (case k27 => k_is)
    (case a28 => k_is)
    (case i28 => k_is)
    (case l28 => k_is)
    (case c28 => k_is)
    (case k28 => k_is)
    (case a29 => k_is)
    (case i29 => k_is)
    (case l29 => k_is)
    (case c29 => k_is)
    (case k29 => k_is)
    (case a30 => k_is)
    (case i30 => k_is)
    (case l30 => k_is)
    (case c30 => k_is)
    (case k30 => k_is)
    (case a31 => k_is)
    (case i31 => k_is)
    (case l31 => k_is)
    (case c31 => k_is)
    (case k31 => k_is)
    (case a32 => k_is)
    (case i32 => k_is)
    (case l32 => k_is)
    (case c32 => k_is)
    (case k32 => k_is)
    (case a33 => k_is)
    (case i33 => k_is)
    (case l33 => k_is)
    (case c33 => k_is)
    (case k33 => k_is)
    (case a34 => k_is)
    (case i34 => k_is)
    (case l34 => k_is)
    (case c34 => k_is)
    (case k34 => k_is)
    (case a35 => k_is)
    (case i35 => k_is)
    (case l35 => k_is)
    (case c35 => k_is)
    (case k35 => k_is)
    (case z0 => k_is)
    (case z1 => k_is)
    (case z2 => k_is)
    (case z3 => k_is)
    (case z4 => k_is)
    (case z5 => k_is)
    (case z6 => k_is)
    (case z7 => k_is)
    (case z8 => k_is)
    (case z9 => k_is)
    (case z10 => k_is)
    (case n_GREATEST_K => k_is)
