import PyProof.Rows.All
import Wide.All
import OpenK.AllK
import Wide.FinOn
import HandS.ForMost
import HandS.Wide
import HandS.WideBits
import HandS.WideMore
import HandS.Style
import HandS.Codes
import PySem.Challenge.RW_askback_k09_whole_signs_put_together
set_option Elab.async false
set_option linter.all false
set_option maxRecDepth 100000
set_option maxHeartbeats 4000000
local macro_rules | `(tactic| walk_at "rd") => `(tactic| (repeat (first | refine ⟨_, _, rfl, rfl, ?_⟩ | refine ⟨_, rfl, ?_⟩ | refine ⟨_, _, rfl, ?_⟩ | refine ⟨rfl, ?_⟩)))
/-! numbers by their signs -/
namespace Ab
def digs (b n : Nat) : List Nat := if h : n = 0 ∨ b < 2 then [] else n % b :: digs b (n / b)
termination_by n
decreasing_by exact Nat.div_lt_self (by omega) (by omega)
theorem digs_zero (b : Nat) : digs b 0 = [] := by
  rw [digs, dif_pos (.inl rfl)]
theorem digs_pos {b n : Nat} (hb : 2 ≤ b) (hn : 0 < n) : digs b n = n % b :: digs b (n / b) := by
  rw [digs, dif_neg (by omega)]
/-- the signs, the greatest first -/
def sgn (b n : Nat) : List Nat := (digs b n).reverse
theorem sgn_zero (b : Nat) : sgn b 0 = [] := by rw [sgn, digs_zero]; rfl
theorem sgn_pos {b n : Nat} (hb : 2 ≤ b) (hn : 0 < n) : sgn b n = sgn b (n / b) ++ [n % b] := by
  rw [sgn, digs_pos hb hn, List.reverse_cons]; rfl
def heap (b n : Nat) : Nat := if h : n < b ∨ b < 2 then 0 else n / b + heap b (n / b)
termination_by n
decreasing_by exact Nat.div_lt_self (by omega) (by omega)
theorem heap_small {b n : Nat} (h : n < b) : heap b n = 0 := by
  rw [heap, dif_pos (.inl h)]
theorem heap_step {b n : Nat} (hb : 2 ≤ b) : heap b n = n / b + heap b (n / b) := by
  by_cases h : n < b
  · rw [heap_small h, Nat.div_eq_of_lt h, heap_small (show 0 < b by omega)]
  · rw [heap, dif_neg (by omega)]
def expo (b n : Nat) : Nat := if h : n < b ∨ b < 2 then 0 else expo b (n / b) + 1
termination_by n
decreasing_by exact Nat.div_lt_self (by omega) (by omega)
theorem expo_small {b n : Nat} (h : n < b) : expo b n = 0 := by
  rw [expo, dif_pos (.inl h)]
theorem expo_step {b n : Nat} (hb : 2 ≤ b) (h : b ≤ n) : expo b n = expo b (n / b) + 1 := by
  rw [expo, dif_neg (by omega)]
def lead (b n : Nat) : Nat := if h : n < b ∨ b < 2 then n else lead b (n / b)
termination_by n
decreasing_by exact Nat.div_lt_self (by omega) (by omega)
theorem lead_small {b n : Nat} (h : n < b) : lead b n = n := by
  rw [lead, dif_pos (.inl h)]
theorem lead_step {b n : Nat} (hb : 2 ≤ b) (h : b ≤ n) : lead b n = lead b (n / b) := by
  rw [lead, dif_neg (by omega)]
def nou (b n : Nat) : Nat := if h : n = 0 ∨ n % b ≠ 0 ∨ b < 2 then 0 else nou b (n / b) + 1
termination_by n
decreasing_by exact Nat.div_lt_self (by omega) (by omega)
theorem nou_zero (b : Nat) : nou b 0 = 0 := by
  rw [nou, dif_pos (.inl rfl)]
theorem nou_no {b n : Nat} (h : n % b ≠ 0) : nou b n = 0 := by
  rw [nou, dif_pos (.inr (.inl h))]
theorem nou_step {b n : Nat} (hb : 2 ≤ b) (hn : 0 < n) (h : n % b = 0) : nou b n = nou b (n / b) + 1 := by
  rw [nou, dif_neg (by omega)]
/-- induction along the parts -/
theorem part_ind {b : Nat} (hb : 2 ≤ b) {P : Nat → Prop} (h : ∀ n, (∀ m, 0 < n → m = n / b → P m) → P n) (n : Nat) : P n := by
  induction n using Nat.strongRecOn with
  | ind n ih => exact h n fun m hn e => ih m (by rw [e]; exact Nat.div_lt_self hn (by omega))
theorem div_pos_of {b n : Nat} (hb : 2 ≤ b) (h : b ≤ n) : 0 < n / b := Nat.div_pos h (by omega)
theorem digs_lt {b : Nat} (hb : 2 ≤ b) (n : Nat) : ∀ s ∈ digs b n, s < b := by
  induction n using part_ind hb with
  | h n ih =>
    by_cases hn : n = 0
    · subst hn; rw [digs_zero]; intro s hs; cases hs
    · rw [digs_pos hb (by omega)]
      intro s hs
      rcases List.mem_cons.mp hs with e | e
      · rw [e]; exact Nat.mod_lt _ (by omega)
      · exact ih _ (by omega) rfl s e
theorem sgn_lt {b : Nat} (hb : 2 ≤ b) (n : Nat) : ∀ s ∈ sgn b n, s < b := fun s hs => digs_lt hb n s (List.mem_reverse.mp hs)
theorem digs_len {b : Nat} (hb : 2 ≤ b) (n : Nat) (hn : 0 < n) : (digs b n).length = expo b n + 1 := by
  induction n using part_ind hb with
  | h n ih =>
    rw [digs_pos hb hn, List.length_cons]
    by_cases h : n < b
    · rw [Nat.div_eq_of_lt h, digs_zero, expo_small h]; rfl
    · rw [ih _ hn rfl (div_pos_of hb (by omega)), expo_step (n := n) hb (by omega)]
theorem sgn_len {b : Nat} (hb : 2 ≤ b) (n : Nat) (hn : 0 < n) : (sgn b n).length = expo b n + 1 := by
  rw [sgn, List.length_reverse, digs_len hb n hn]
theorem sgn_head {b : Nat} (hb : 2 ≤ b) (n : Nat) (hn : 0 < n) : (sgn b n)[0]? = some (lead b n) := by
  induction n using part_ind hb with
  | h n ih =>
    rw [sgn_pos hb hn]
    by_cases h : n < b
    · rw [Nat.div_eq_of_lt h, sgn_zero, lead_small h, Nat.mod_eq_of_lt h]; rfl
    · have hp := div_pos_of hb (show b ≤ n by omega)
      rw [List.getElem?_append_left (by rw [sgn_len hb _ hp]; omega), ih _ hn rfl hp, lead_step (n := n) hb (by omega)]
theorem lead_pos {b : Nat} (hb : 2 ≤ b) (n : Nat) (hn : 0 < n) : 0 < lead b n := by
  induction n using part_ind hb with
  | h n ih =>
    by_cases h : n < b
    · rw [lead_small h]; exact hn
    · rw [lead_step hb (by omega)]; exact ih _ hn rfl (div_pos_of hb (by omega))
theorem lead_lt {b : Nat} (hb : 2 ≤ b) (n : Nat) : lead b n < b := by
  induction n using part_ind hb with
  | h n ih =>
    by_cases h : n < b
    · rw [lead_small h]; exact h
    · rw [lead_step hb (by omega)]; exact ih _ (by omega) rfl
/-- the signs put together -/
theorem sgn_sum {b : Nat} (hb : 2 ≤ b) (n : Nat) : (sgn b n).foldl (fun t s => t * b + s) 0 = n := by
  induction n using part_ind hb with
  | h n ih =>
    by_cases hn : n = 0
    · subst hn; rw [sgn_zero]; rfl
    · rw [sgn_pos hb (by omega), List.foldl_append, ih _ (by omega) rfl]
      show n / b * b + n % b = n
      rw [Nat.mul_comm]; exact Nat.div_add_mod n b
theorem more_div {b n s : Nat} (hb : 2 ≤ b) (hs : s < b) : (n * b + s) / b = n := by
  rw [Nat.mul_comm, Nat.mul_add_div (by omega), Nat.div_eq_of_lt hs, Nat.add_zero]
theorem more_mod {b n s : Nat} (hs : s < b) : (n * b + s) % b = s := by
  rw [Nat.mul_comm, Nat.mul_add_mod, Nat.mod_eq_of_lt hs]
theorem more_pos {b n s : Nat} (hb : 2 ≤ b) (hn : 0 < n) : b ≤ n * b + s :=
  Nat.le_trans (Nat.le_mul_of_pos_left b hn) (Nat.le_add_right _ _)
theorem sgn_more {b n s : Nat} (hb : 2 ≤ b) (hn : 0 < n) (hs : s < b) : sgn b (n * b + s) = sgn b n ++ [s] := by
  have h := more_pos (s := s) hb hn
  rw [sgn_pos hb (by omega), more_div hb hs, more_mod hs]
theorem expo_more {b n s : Nat} (hb : 2 ≤ b) (hn : 0 < n) (hs : s < b) : expo b (n * b + s) = expo b n + 1 := by
  rw [expo_step hb (more_pos hb hn), more_div hb hs]
theorem heap_more {b n s : Nat} (hb : 2 ≤ b) (hs : s < b) : heap b (n * b + s) = n + heap b n := by
  rw [heap_step hb, more_div hb hs]
theorem nou_more {b n s : Nat} (hb : 2 ≤ b) (hn : 0 < n) (hs : s < b) : nou b (n * b + s) = if s = 0 then nou b n + 1 else 0 := by
  have h := more_pos (s := s) hb hn
  by_cases e : s = 0
  · rw [if_pos e, nou_step hb (by omega) (by rw [more_mod hs]; exact e), more_div hb hs]
  · rw [if_neg e, nou_no (by rw [more_mod hs]; exact e)]
/-- the noughts are the signs behind, that are 0 -/
theorem nou_lt {b : Nat} (hb : 2 ≤ b) (n : Nat) (hn : 0 < n) : nou b n < (digs b n).length := by
  induction n using part_ind hb with
  | h n ih =>
    rw [digs_pos hb hn, List.length_cons]
    by_cases h : n % b = 0
    · have hbn : b ≤ n := Nat.le_of_not_lt fun z => by rw [Nat.mod_eq_of_lt z] at h; omega
      have := ih _ hn rfl (div_pos_of hb hbn)
      rw [nou_step hb hn h]; omega
    · rw [nou_no h]; omega
theorem nou_at {b : Nat} (hb : 2 ≤ b) (n : Nat) (hn : 0 < n) : ∀ j, j < nou b n → (digs b n)[j]? = some 0 := by
  induction n using part_ind hb with
  | h n ih =>
    intro j hj
    by_cases h : n % b = 0
    · have hbn : b ≤ n := Nat.le_of_not_lt fun z => by rw [Nat.mod_eq_of_lt z] at h; omega
      rw [nou_step hb hn h] at hj
      rw [digs_pos hb hn]
      cases j with
      | zero => rw [h]; rfl
      | succ j =>
        rw [List.getElem?_cons_succ]
        exact ih _ hn rfl (div_pos_of hb hbn) j (by omega)
    · rw [nou_no h] at hj; omega
theorem nou_end {b : Nat} (hb : 2 ≤ b) (n : Nat) (hn : 0 < n) : ∃ s, (digs b n)[nou b n]? = some s ∧ s ≠ 0 := by
  induction n using part_ind hb with
  | h n ih =>
    rw [digs_pos hb hn]
    by_cases h : n % b = 0
    · have hbn : b ≤ n := Nat.le_of_not_lt fun z => by rw [Nat.mod_eq_of_lt z] at h; omega
      rw [nou_step hb hn h, List.getElem?_cons_succ]
      exact ih _ hn rfl (div_pos_of hb hbn)
    · rw [nou_no h]; exact ⟨_, rfl, h⟩
theorem sgn_back {b n j : Nat} (hj : j < (digs b n).length) : (sgn b n)[(digs b n).length - 1 - j]? = (digs b n)[j]? := by
  rw [sgn, List.getElem?_reverse (by omega)]
  congr 1
  omega
theorem digs_bits {b : Nat} (hb : 2 ≤ b) (n : Nat) : ∀ x, n < 2 ^ x → (digs b n).length ≤ x := by
  induction n using part_ind hb with
  | h n ih =>
    intro x hx
    by_cases hn : n = 0
    · subst hn; rw [digs_zero]; exact Nat.zero_le _
    · rw [digs_pos hb (by omega), List.length_cons]
      cases x with
      | zero => rw [Nat.pow_zero] at hx; omega
      | succ x =>
        have h1 : n / b ≤ n / 2 := Nat.div_le_div_left hb (by omega)
        have h2 : n / 2 < 2 ^ x := by rw [Nat.pow_succ] at hx; omega
        have := ih _ (by omega) rfl x (by omega)
        omega
theorem horner_le {b : Nat} (hb : 0 < b) : ∀ (l : List Nat) (t : Nat), t ≤ l.foldl (fun t s => t * b + s) t
  | [], t => Nat.le_refl t
  | s :: r, t => Nat.le_trans (Nat.le_trans (Nat.le_mul_of_pos_right t hb) (Nat.le_add_right _ s)) (horner_le hb r (t * b + s))
theorem horner_take {b : Nat} (hb : 2 ≤ b) (n i : Nat) : ((sgn b n).take i).foldl (fun t s => t * b + s) 0 ≤ n := by
  have e := sgn_sum hb n
  rw [← List.take_append_drop i (sgn b n), List.foldl_append] at e
  have h := horner_le (b := b) (by omega) ((sgn b n).drop i) (((sgn b n).take i).foldl (fun t s => t * b + s) 0)
  omega
theorem small_of {n x : Nat} (h : n ≤ x) (hx : x ≤ 100000 := by decide) : n ≤ 100000 := Nat.le_trans h hx
end Ab

/-! helpers over the hand layer: a power, heaps but for one place, the defs of a text, the pen -/
namespace Ab
open PySem PySem.Spec PyProof.Rows L2
open C8 (Cal Mak Met pe_c pe_mk pe_mt pe_mt0)
def CPowW (i j : Int) : Prop := 0 ≤ j ∧ (Builtin.Int.intBits i : Int) * j ≤ 2 ^ 27
theorem op_powW {X : Cx} : OpR X (binaryOp .Pow) (rI CPowW fun i j => .int (i ^ j.toNat)) := opI fun _ _ _ _ _ _ _ hc q => pow_int hc.1 hc.2 q
/-- all that was tracked, but what stands at p, is as it was -/
def But (p : Addr) (H H' : Hp) : Prop := ∀ b o, b ≠ p → H b = some o → H' b = some o
theorem But.refl (p : Addr) (H : Hp) : But p H H := fun _ _ _ h => h
theorem But.trans {p : Addr} {H H1 H2 : Hp} (a : But p H H1) (b : But p H1 H2) : But p H H2 := fun c o n h => b c o n (a c o n h)
theorem But.same {p : Addr} {H H' : Hp} (a : Same H H') : But p H H' := fun c o _ h => a c o h
theorem But.upd {p : Addr} {H : Hp} {o : HO} : But p H (upd H p o) := fun b u n h => by rw [upd_ne n]; exact h
theorem same_upd {H : Hp} {p : Addr} {o : HO} (h : H p = none) : Same H (upd H p o) := fun b x e => by
  rw [upd_ne (ne_of_none e h)]
  exact e
theorem But.seq {K : PySem.W.Frag} {p a : Addr} {H H' : Hp} {xs : List V} (e : But p H H') (n : a ≠ p) (h : SqL K H a xs) : SqL K H' a xs := by
  rcases h with (h | ⟨o, h⟩) | h
  · exact .inl (.inl (e _ _ n h))
  · exact .inl (.inr ⟨o, e _ _ n h⟩)
  · exact .inr h
theorem sql {K : PySem.W.Frag} {H : Hp} {a : Addr} {xs : List V} (h : H a = some (.lst xs)) : SqL K H a xs := .inl (.inl h)
/-! ### the defs of a text -/
structure Dn (K : PySem.W.Frag) (mg : Str → Option Value) (x : Str) (st : Stmt) (ps : List Str) : Prop where
  ex : ∃ (f : Addr) (fd : FuncData), Fun K x x st f fd ∧ Binds K fd ps [] ∧ mg x = some (.ref f)
section
variable {P : Program} {w : World} {K : PySem.W.Frag} {mg : Str → Option Value} {base : Heap}
theorem Dn.cal {x : Str} {st : Stmt} {N ps : List Str} {k : Nat} {sp : Sp} (D : Dn K mg x st ps) (S : FnScope N ps (defScope st)) (len : ∀ vs H Q E, sp vs H Q E → vs.length = ps.length)
    (hbody : ∀ (cdv : Value) (f : Addr) (A : Around) (outer : List Env) (s : Shared) (H : Hp) (vs : List V) (Q : VK) (E : XK), Room k (A.deeper (envOfC x (defScope st) s.heap.objs.size f cdv)) → sp vs H Q E →
      ∃ t, PSs (cxOf CX0 P w K mg base N x (defScope st) f cdv A outer s H E).nox (defBody st) t ∧ t { nx := fun _ H' => Q .non H', rt := Q } (start N vs) H) : Cal P w K mg base (k + 1) x sp [] := by
  obtain ⟨f, fd, F, b, g⟩ := D.ex
  exact ⟨f, fd, ps, [], F.ok S len fun cdv A outer s H vs Q E hr h => hbody cdv f A outer s H vs Q E hr h, g, F.kp, b, .nil⟩
end
/-! ### tests whose outcome is open -/
theorem itd {c A B : Prop} [Decidable c] (h1 : c → A) (h2 : ¬ c → B) : if decide c = true then A else B := by
  by_cases h : c
  · rw [if_pos (decide_eq_true h)]; exact h1 h
  · rw [if_neg (by rw [decide_eq_false h]; exact Bool.false_ne_true)]; exact h2 h
theorem itn {c A B : Prop} [Decidable c] (h1 : ¬ c → A) (h2 : c → B) : if (!decide c) = true then A else B := by
  by_cases h : c
  · rw [if_neg (by rw [decide_eq_true h]; exact Bool.false_ne_true)]; exact h2 h
  · rw [if_pos (by rw [decide_eq_false h]; rfl)]; exact h1 h
theorem itT {b : Bool} {A B : Prop} (e : b = true) (h : A) : if b = true then A else B := by
  rw [if_pos e]; exact h
theorem itF {b : Bool} {A B : Prop} (e : b = false) (h : B) : if b = true then A else B := by
  rw [if_neg (by rw [e]; exact Bool.false_ne_true)]; exact h
/-! ### numbers from 0 on as values -/
theorem mulW {a b x y : Nat} (ha : a < 2 ^ x) (hb : b < 2 ^ y) (h0 : 0 < x := by decide) (h1 : 0 < y := by decide) (h : x + y ≤ 1000000 := by decide) : CMulW (a : Int) (b : Int) :=
  wide_mul (a := x) (b := y) (by rw [Int.natAbs_natCast]; exact ha) (by rw [Int.natAbs_natCast]; exact hb) h0 h1 h
theorem divW {a : Int} {b y : Nat} (h : 0 < b) (hb : b < 2 ^ y) (h0 : 0 < y := by decide) (h9 : y ≤ 9000 := by decide) : CDivW a (b : Int) :=
  wide_div (b := y) (by omega) (by rw [Int.natAbs_natCast]; exact hb) h0 h9
theorem divP {a b x : Nat} (hb : 0 < b) (ha : a < 2 ^ x) (hx : x ≤ 4000 := by decide) : CDivP (a : Int) (b : Int) := by
  refine divp_ok (by omega) ?_
  have h := PyProof.Rows.intBits_le (k := x) (a := (a : Int)) (by rw [Int.natAbs_natCast]; exact ha)
  omega
/-! ### lists of whole numbers -/
def zs (l : List Nat) : List Int := l.map Int.ofNat
theorem zs_len (l : List Nat) : (zs l).length = l.length := List.length_map _
theorem zs_inj {l m : List Nat} (h : zs l = zs m) : l = m := (List.map_inj_right (fun _ _ e => Int.ofNat.inj e)).mp h
theorem zs_snoc (l : List Nat) (n : Nat) : (zs l).map V.int ++ [V.int (n : Nat)] = (zs (l ++ [n])).map V.int := by
  unfold zs; rw [List.map_append, List.map_append]; rfl
theorem zs_cons (l : List Nat) (n : Nat) : [V.int (n : Nat)] ++ (zs l).map V.int = (zs (n :: l)).map V.int := rfl
theorem zs_rev (l : List Nat) : ((zs l).map V.int).reverse = (zs l.reverse).map V.int := by
  unfold zs; rw [List.map_reverse, List.map_reverse]
theorem zs_at {l : List Nat} {j n : Nat} (h : l[j]? = some n) : ((zs l).map V.int)[j]? = some (V.int (n : Nat)) := by
  unfold zs; rw [List.getElem?_map, List.getElem?_map, h]; rfl
theorem ints_len (l : List Int) : (l.map V.int).length = l.length := List.length_map _
theorem dp_ints {K : PySem.W.Frag} {H : Hp} : ∀ xs : List Int, DpAll K H (xs.map V.int) (xs.map PyData.int)
  | [] => .nil
  | x :: r => .cons (.int x) (dp_ints r)
theorem lay_ints : ∀ xs : List Int, PyData.canLayAll0 (xs.map PyData.int) = true ∧ PyData.depthAll (xs.map PyData.int) = 0
  | [] => ⟨by simp only [List.map_nil, PyData.canLayAll0], by simp only [List.map_nil, PyData.depthAll]⟩
  | x :: r => by
    obtain ⟨h1, h2⟩ := lay_ints r
    refine ⟨?_, ?_⟩
    · simp only [List.map_cons, PyData.canLayAll0, PyData.canLay0, h1, Bool.and_self]
    · simp only [List.map_cons, PyData.depthAll, PyData.depth, h2]; rfl
theorem shaped_ints (xs : List Int) : SeqAt.shaped (.list (xs.map PyData.int)) = true := by
  obtain ⟨h1, h2⟩ := lay_ints xs
  unfold SeqAt.shaped
  rw [Bool.and_eq_true]
  refine ⟨?_, decide_eq_true ?_⟩
  · simp only [PyData.canLay0, h1]
  · simp only [PyData.depth, h2]; omega
theorem eqv_ints : ∀ xs ys : List Int, PyData.eqvAll (xs.map PyData.int) (ys.map PyData.int) = decide (xs = ys)
  | [], [] => by simp [PyData.eqvAll]
  | [], _ :: _ => by simp [PyData.eqvAll]
  | _ :: _, [] => by simp [PyData.eqvAll]
  | x :: r, y :: t => by
    simp only [List.map_cons, PyData.eqvAll, PyData.eqv, eqv_ints r t, List.cons.injEq]
    by_cases e : x = y
    · by_cases f : r = t
      · simp [e, f]
      · simp [e, f]
    · simp [e]
def rEqI (K : PySem.W.Frag) : R2 := fun x y H Q => ∃ (a b : Addr) (xs ys : List Int), x = .ref a ∧ y = .ref b ∧ SqL K H a (xs.map V.int) ∧ SqL K H b (ys.map V.int) ∧ Q (.bl (decide (xs = ys))) H
def rNeI (K : PySem.W.Frag) : R2 := fun x y H Q => ∃ (a b : Addr) (xs ys : List Int), x = .ref a ∧ y = .ref b ∧ SqL K H a (xs.map V.int) ∧ SqL K H b (ys.map V.int) ∧ Q (.bl (!decide (xs = ys))) H
theorem op_eqI {X : Cx} (hu : X.A.units + 64 < cLine) : OpR X (compareOp .Eq) (rEqI X.K) := by
  intro pins s σ H x y v u Q I rx ry h
  obtain ⟨a, b, xs, ys, rfl, rfl, h1, h2, q⟩ := h
  refine op_eqD hu pins s σ H _ _ v u Q I rx ry ⟨_, _, .lst h1 (dp_ints xs), .lst h2 (dp_ints ys), shaped_ints xs, shaped_ints ys, ?_⟩
  rw [show PyData.eqv (.list (xs.map PyData.int)) (.list (ys.map PyData.int)) = decide (xs = ys) by simp only [PyData.eqv, eqv_ints]]
  exact q
theorem op_neI {X : Cx} (hu : X.A.units + 64 < cLine) : OpR X (compareOp .NotEq) (rNeI X.K) := by
  intro pins s σ H x y v u Q I rx ry h
  obtain ⟨a, b, xs, ys, rfl, rfl, h1, h2, q⟩ := h
  refine op_neD hu pins s σ H _ _ v u Q I rx ry ⟨_, _, .lst h1 (dp_ints xs), .lst h2 (dp_ints ys), shaped_ints xs, shaped_ints ys, ?_⟩
  rw [show PyData.eqv (.list (xs.map PyData.int)) (.list (ys.map PyData.int)) = decide (xs = ys) by simp only [PyData.eqv, eqv_ints]]
  exact q
theorem u64 {k : Nat} {A : Around} (hr : Room k A) : A.units + 64 < cLine := by have := hr.un; omega
theorem same_put {H H1 : Hp} {l : Addr} {o : HO} (s : Same H H1) (n : H l = none) : Same H (upd H1 l o) := fun b x e => by
  rw [upd_ne (ne_of_none e n)]
  exact s _ _ e
theorem emodN (l : Int) {m : Nat} (h : 0 < m) : ∃ r : Nat, r < m ∧ l % (m : Int) = (r : Int) := by
  have h1 := Int.emod_nonneg l (show (m : Int) ≠ 0 by omega)
  have h2 := Int.emod_lt_of_pos l (show (0 : Int) < m by omega)
  exact ⟨(l % (m : Int)).toNat, by omega, by omega⟩
theorem lt8000 {m : Nat} (h : m ≤ 2 ^ 64) : m < 2 ^ 8000 := Nat.lt_of_le_of_lt h (by decide +kernel)
theorem pow6 (i : Nat) : (10 ^ 6) ^ i ≤ 2 ^ (20 * i) := by
  rw [Nat.pow_mul]
  exact Nat.pow_le_pow_left (by decide) i
/-! ### the pen: a dict of the cells, the place, what is left -/
def pkv (c : Addr) (a : Nat) (l : Int) : List (Key × V) := [(.inr "cells", .ref c), (.inr "at", .int a), (.inr "left", .int l)]
theorem k_ca : ¬ (("cells" : Str) = "at") := by decide +kernel
theorem k_cl : ¬ (("cells" : Str) = "left") := by decide +kernel
theorem k_al : ¬ (("at" : Str) = "left") := by decide +kernel
theorem k_ac : ¬ (("at" : Str) = "cells") := by decide +kernel
theorem k_lc : ¬ (("left" : Str) = "cells") := by decide +kernel
theorem k_la : ¬ (("left" : Str) = "at") := by decide +kernel
theorem val_cells (c : Addr) (a : Nat) (l : Int) : valV (pkv c a l) (.inr "cells") = some (.ref c) := by
  simp [valV, pkv, List.find?]
theorem val_at (c : Addr) (a : Nat) (l : Int) : valV (pkv c a l) (.inr "at") = some (.int a) := by
  simp [valV, pkv, List.find?, k_ca]
theorem val_left (c : Addr) (a : Nat) (l : Int) : valV (pkv c a l) (.inr "left") = some (.int l) := by
  simp [valV, pkv, List.find?, k_cl, k_al]
theorem put_at (c : Addr) (a b : Nat) (l : Int) : putK (pkv c a l) (.inr "at") (.int b) = pkv c b l := by
  simp [putK, pkv, k_ca, k_al, k_ac, k_la]
theorem put_left (c : Addr) (a : Nat) (l m : Int) : putK (pkv c a l) (.inr "left") (.int m) = pkv c a m := by
  simp [putK, pkv, k_cl, k_al, k_lc, k_la]
section
variable {H : Hp} {p c : Addr} {a : Nat} {l : Int}
theorem get_cells (h : H p = some (.dK (pkv c a l))) : DGet H p (.str "cells") (some (.ref c)) := by
  have e := DGet.k (k := .inr "cells") h
  rw [val_cells] at e
  exact e
theorem get_at (h : H p = some (.dK (pkv c a l))) : DGet H p (.str "at") (some (.int a)) := by
  have e := DGet.k (k := .inr "at") h
  rw [val_at] at e
  exact e
theorem get_left (h : H p = some (.dK (pkv c a l))) : DGet H p (.str "left") (some (.int l)) := by
  have e := DGet.k (k := .inr "left") h
  rw [val_left] at e
  exact e
theorem dput_at (h : H p = some (.dK (pkv c a l))) : DPut H p (.str "at") (.int ((a : Int) + 1)) (upd H p (.dK (pkv c (a + 1) l))) := by
  have e := DPut.k (k := .inr "at") (v := .int ((a + 1 : Nat) : Int)) h (small1000 (by show 3 ≤ 1000; omega))
  rw [put_at] at e
  exact e
theorem dput_left (m : Int) (h : H p = some (.dK (pkv c a l))) : DPut H p (.str "left") (.int m) (upd H p (.dK (pkv c a m))) := by
  have e := DPut.k (k := .inr "left") (v := .int m) h (small1000 (by show 3 ≤ 1000; omega))
  rw [put_left] at e
  exact e
end
theorem merge_pen (c : Addr) : mergeK [] [((.inr "cells" : Key), V.ref c), (.inr "at", .int 0), (.inr "left", .int 0)] = pkv c 0 0 := by
  simp [mergeK, putK, pkv, k_ca, k_cl, k_al, k_ac, k_lc, k_la]
structure PenAt (H : Hp) (p : Addr) (n : Nat) : Prop where
  ex : ∃ (c : Addr) (C : List Int) (a : Nat) (l : Int), H p = some (.dK (pkv c a l)) ∧ H c = some (.lst (C.map V.int)) ∧ C.length ≤ 63 ∧ a ≤ n
theorem PenAt.same {H H' : Hp} {p : Addr} {n : Nat} (h : PenAt H p n) (s : Same H H') : PenAt H' p n := by
  obtain ⟨c, C, a, l, h1, h2, h3, h4⟩ := h.ex
  exact ⟨c, C, a, l, s _ _ h1, s _ _ h2, h3, h4⟩
theorem PenAt.le {H : Hp} {p : Addr} {n m : Nat} (h : PenAt H p n) (e : n ≤ m) : PenAt H p m := by
  obtain ⟨c, C, a, l, h1, h2, h3, h4⟩ := h.ex
  exact ⟨c, C, a, l, h1, h2, h3, Nat.le_trans h4 e⟩
theorem PenAt.ne {H : Hp} {p q : Addr} {n : Nat} {xs : List V} (h : PenAt H p n) (e : H q = some (.lst xs)) : q ≠ p := by
  obtain ⟨c, C, a, l, h1, h2, h3, h4⟩ := h.ex
  exact ne_of e h1 (by intro z; cases z)
/-- what a draw promises -/
def spDraw : Sp := fun vs H Q _ => ∃ (p : Addr) (m n : Nat), vs = [.ref p, .int m] ∧ 0 < m ∧ m < 2 ^ 8000 ∧ PenAt H p n ∧ n ≤ 1000000 ∧
  ∀ H' (r : Nat), r < m → PenAt H' p (n + 1) → But p H H' → Q (.int r) H'
def spPen (K : PySem.W.Frag) : Sp := fun vs H Q _ => ∃ (a : Addr) (ns : List Int), vs = [.ref a] ∧ SqL K H a (ns.map V.int) ∧ ns.length ≤ 63 ∧
  ∀ H' p, PenAt H' p 0 → Same H H' → H p = none → Q (.ref p) H'
/-- a far number: of at most so many figures and seven -/
def spFar : Sp := fun vs H Q _ => ∃ (p : Addr) (f n : Nat), vs = [.ref p, .int f] ∧ f ≤ 1000 ∧ PenAt H p n ∧ n ≤ 900000 ∧
  ∀ H' (r : Nat), 0 < r → r ≤ (10 ^ 6) ^ (1 + f / 6) → PenAt H' p (n + 2 + f / 6) → But p H H' → Q (.int r) H'
def spLaw (K : PySem.W.Frag) : Sp := fun vs H Q _ => ∃ (a : Addr) (ns : List Int), vs = [.ref a] ∧ SqL K H a (ns.map V.int) ∧ ns.length ≤ 63 ∧ ∀ H', Q (.bl true) H'
end Ab

namespace Ab
open PySem PySem.Spec PyProof.Rows L2
open C8 (Cal Mak Met pe_c pe_mk pe_mt pe_mt0)
def topS (i : Nat) : Stmt := PySem.Challenge.pw_askback_k09_whole_signs_put_together.main.body.getD i (.Pass ⟨0, 0, 0, 0⟩)
abbrev s_signs_of : Stmt := topS 1
theorem sc_signs_of : FnScope ["number", "base", "signs", "sign"] ["number", "base"] (defScope s_signs_of) := ⟨rfl, rfl, rfl, by decide +kernel, rfl, by decide +kernel, by decide +kernel⟩
abbrev s_exponent_of : Stmt := topS 2
theorem sc_exponent_of : FnScope ["number", "base", "exponent"] ["number", "base"] (defScope s_exponent_of) := ⟨rfl, rfl, rfl, by decide +kernel, rfl, by decide +kernel, by decide +kernel⟩
abbrev s_first_sign : Stmt := topS 3
theorem sc_first_sign : FnScope ["number", "base"] ["number", "base"] (defScope s_first_sign) := ⟨rfl, rfl, rfl, by decide +kernel, rfl, by decide +kernel, by decide +kernel⟩
abbrev s_noughts_of : Stmt := topS 4
theorem sc_noughts_of : FnScope ["number", "base", "noughts"] ["number", "base"] (defScope s_noughts_of) := ⟨rfl, rfl, rfl, by decide +kernel, rfl, by decide +kernel, by decide +kernel⟩
abbrev s_heap_of : Stmt := topS 5
theorem sc_heap_of : FnScope ["number", "base", "heap"] ["number", "base"] (defScope s_heap_of) := ⟨rfl, rfl, rfl, by decide +kernel, rfl, by decide +kernel, by decide +kernel⟩
abbrev s_pen : Stmt := topS 7
theorem sc_pen : FnScope ["_law_script", "_law_most", "_law_cell"] ["_law_script"] (defScope s_pen) := ⟨rfl, rfl, rfl, by decide +kernel, rfl, by decide +kernel, by decide +kernel⟩
abbrev s_draw : Stmt := topS 8
theorem sc_draw : FnScope ["_law_pen_here", "_law_many", "_law_digit", "_law_at", "_law_cell", "_law_number", "_law_rounds"] ["_law_pen_here", "_law_many"] (defScope s_draw) := ⟨rfl, rfl, rfl, by decide +kernel, rfl, by decide +kernel, by decide +kernel⟩
abbrev s_far : Stmt := topS 9
theorem sc_far : FnScope ["_law_pen_here", "_law_figures", "_law_number", "_law_k"] ["_law_pen_here", "_law_figures"] (defScope s_far) := ⟨rfl, rfl, rfl, by decide +kernel, rfl, by decide +kernel, by decide +kernel⟩
abbrev s_law : Stmt := topS 10
theorem sc_law : FnScope ["_law_script", "_law_pen_here", "_law_turn", "_law_base", "_law_number", "_law_signs", "_law_total", "_law_sign", "_law_part", "_law_more"] ["_law_script"] (defScope s_law) := ⟨rfl, rfl, rfl, by decide +kernel, rfl, by decide +kernel, by decide +kernel⟩
structure Txt (K : PySem.W.Frag) (mg : Str → Option Value) : Prop where
  b_abs : mg "abs" = none
  b_divmod : mg "divmod" = none
  b_len : mg "len" = none
  b_min : mg "min" = none
  b_range : mg "range" = none
  d_signs_of : Dn K mg "signs_of" s_signs_of ["number", "base"]
  d_exponent_of : Dn K mg "exponent_of" s_exponent_of ["number", "base"]
  d_first_sign : Dn K mg "first_sign" s_first_sign ["number", "base"]
  d_noughts_of : Dn K mg "noughts_of" s_noughts_of ["number", "base"]
  d_heap_of : Dn K mg "heap_of" s_heap_of ["number", "base"]
  d_pen : Dn K mg "_law_pen" s_pen ["_law_script"]
  d_draw : Dn K mg "_law_draw" s_draw ["_law_pen_here", "_law_many"]
  d_far : Dn K mg "_law_far" s_far ["_law_pen_here", "_law_figures"]
def spNum2 (g : Nat → Nat → Nat) : Sp := fun vs H Q _ => ∃ n b : Nat, vs = [.int n, .int b] ∧ 2 ≤ b ∧ b ≤ 30 ∧ Q (.int (g b n : Nat)) H
def spSigns : Sp := fun vs H Q _ => ∃ n b : Nat, vs = [.int n, .int b] ∧ 2 ≤ b ∧ b ≤ 30 ∧ n < 2 ^ 3000 ∧ ∀ H' p, Same H H' → H p = none → H' p = some (.lst ((zs (sgn b n)).map V.int)) → Q (.ref p) H'
end Ab

namespace Ab
open PySem PySem.Spec PyProof.Rows L2
open C8 (Cal Mak Met pe_c pe_mk pe_mt pe_mt0)
section
variable {P : Program} {w : World} {K : PySem.W.Frag} {mg : Str → Option Value} {base : Heap}
theorem ok_expo (T : Txt K mg) : Cal P w K mg base 1 "exponent_of" (spNum2 expo) [] := by
  refine T.d_exponent_of.cal sc_exponent_of (fun vs H Q E h => ?_) (fun cdv f A outer s H vs Q E hr h => ?_)
  · obtain ⟨n, b, rfl, _⟩ := h
    rfl
  · obtain ⟨n, b, rfl, h2, h30, q⟩ := h
    refine ⟨_, (pss_cons (ps_set (i := 2) sc_exponent_of.nd rfl (.inl rfl) pe_int)
      (pss_cons (ps_while PassesOwn.never (pt_cmpR op_ge (pv 0) (pv 1) (nomark _))
        (pss_cons (ps_set (i := 0) sc_exponent_of.nd rfl (.inl rfl) (pe_op op_fdivW (pv 0) (pv 1)))
        (pss_one (ps_aug (i := 2) sc_exponent_of.nd rfl (.inl rfl) pe_int ip_add))))
      (pss_one (ps_ret (pv 2))))), ?_⟩
    refine ⟨fun m σ H1 => ∃ x e : Nat, σ = [some (.int x), some (.int b), some (.int e)] ∧ m = x ∧ e + expo b x = expo b n ∧ H1 = H, ⟨n, n, 0, rfl, rfl, by omega, rfl⟩, fun m σ H1 hw => ?_⟩
    obtain ⟨x, e, rfl, rfl, he, rfl⟩ := hw
    walk_at "rd"
    refine itd (fun c => ?_) (fun c => ?_)
    · have hc : b ≤ m := by omega
      rw [expo_step h2 hc] at he
      refine ⟨_, fun _ _ h => h, ?_⟩
      walk_at "rd"
      refine ⟨divW (y := 5) (by omega) (by omega), ?_⟩
      walk_at "rd"
      exact ⟨m / b, Nat.div_lt_self (by omega) (by omega), m / b, e + 1, rfl, rfl, by omega, rfl⟩
    · rw [expo_small (by omega)] at he
      walk_at "rd"
      rw [show e = expo b n by omega]
      exact q
theorem ok_first (T : Txt K mg) : Cal P w K mg base 1 "first_sign" (spNum2 lead) [] := by
  refine T.d_first_sign.cal sc_first_sign (fun vs H Q E h => ?_) (fun cdv f A outer s H vs Q E hr h => ?_)
  · obtain ⟨n, b, rfl, _⟩ := h
    rfl
  · obtain ⟨n, b, rfl, h2, h30, q⟩ := h
    refine ⟨_, (pss_cons (ps_while PassesOwn.never (pt_cmpR op_ge (pv 0) (pv 1) (nomark _))
        (pss_one (ps_set (i := 0) sc_first_sign.nd rfl (.inl rfl) (pe_op op_fdivW (pv 0) (pv 1)))))
      (pss_one (ps_ret (pv 0)))), ?_⟩
    refine ⟨fun m σ H1 => ∃ x : Nat, σ = [some (.int x), some (.int b)] ∧ m = x ∧ lead b x = lead b n ∧ H1 = H, ⟨n, n, rfl, rfl, rfl, rfl⟩, fun m σ H1 hw => ?_⟩
    obtain ⟨x, rfl, rfl, he, rfl⟩ := hw
    walk_at "rd"
    refine itd (fun c => ?_) (fun c => ?_)
    · have hc : b ≤ m := by omega
      rw [lead_step h2 hc] at he
      refine ⟨_, fun _ _ h => h, ?_⟩
      walk_at "rd"
      refine ⟨divW (y := 5) (by omega) (by omega), ?_⟩
      exact ⟨m / b, Nat.div_lt_self (by omega) (by omega), m / b, rfl, rfl, he, rfl⟩
    · rw [lead_small (by omega)] at he
      walk_at "rd"
      rw [he]
      exact q
theorem ok_heap (T : Txt K mg) : Cal P w K mg base 1 "heap_of" (spNum2 heap) [] := by
  refine T.d_heap_of.cal sc_heap_of (fun vs H Q E h => ?_) (fun cdv f A outer s H vs Q E hr h => ?_)
  · obtain ⟨n, b, rfl, _⟩ := h
    rfl
  · obtain ⟨n, b, rfl, h2, h30, q⟩ := h
    refine ⟨_, (pss_cons (ps_set (i := 2) sc_heap_of.nd rfl (.inl rfl) pe_int)
      (pss_cons (ps_while PassesOwn.never (pt_cmpR op_ge (pv 0) (pv 1) (nomark _))
        (pss_cons (ps_set (i := 0) sc_heap_of.nd rfl (.inl rfl) (pe_op op_fdivW (pv 0) (pv 1)))
        (pss_one (ps_aug (i := 2) sc_heap_of.nd rfl (.inl rfl) (pv 0) ip_add))))
      (pss_one (ps_ret (pv 2))))), ?_⟩
    refine ⟨fun m σ H1 => ∃ x e : Nat, σ = [some (.int x), some (.int b), some (.int e)] ∧ m = x ∧ e + heap b x = heap b n ∧ H1 = H, ⟨n, n, 0, rfl, rfl, by omega, rfl⟩, fun m σ H1 hw => ?_⟩
    obtain ⟨x, e, rfl, rfl, he, rfl⟩ := hw
    walk_at "rd"
    refine itd (fun c => ?_) (fun c => ?_)
    · rw [heap_step h2] at he
      refine ⟨_, fun _ _ h => h, ?_⟩
      walk_at "rd"
      refine ⟨divW (y := 5) (by omega) (by omega), ?_⟩
      walk_at "rd"
      exact ⟨m / b, Nat.div_lt_self (by omega) (by omega), m / b, e + m / b, rfl, rfl, by omega, rfl⟩
    · rw [heap_small (by omega)] at he
      walk_at "rd"
      rw [show e = heap b n by omega]
      exact q
theorem ok_noughts (T : Txt K mg) : Cal P w K mg base 1 "noughts_of" (spNum2 nou) [] := by
  refine T.d_noughts_of.cal sc_noughts_of (fun vs H Q E h => ?_) (fun cdv f A outer s H vs Q E hr h => ?_)
  · obtain ⟨n, b, rfl, _⟩ := h
    rfl
  · obtain ⟨n, b, rfl, h2, h30, q⟩ := h
    refine ⟨_, (pss_cons (ps_set (i := 2) sc_noughts_of.nd rfl (.inl rfl) pe_int)
      (pss_cons (ps_while PassesOwn.never (PW.pt (pw_and (pt_cmpR op_gt (pv 0) pe_int (nomark _)) (pw_and1 (pt_cmpR op_eq (pe_op op_mod (pv 0) (pv 1)) pe_int (nomark _)))))
        (pss_cons (ps_set (i := 0) sc_noughts_of.nd rfl (.inl rfl) (pe_op op_fdivW (pv 0) (pv 1)))
        (pss_one (ps_aug (i := 2) sc_noughts_of.nd rfl (.inl rfl) pe_int ip_add))))
      (pss_one (ps_ret (pv 2))))), ?_⟩
    refine ⟨fun m σ H1 => ∃ x e : Nat, σ = [some (.int x), some (.int b), some (.int e)] ∧ m = x ∧ e + nou b x = nou b n ∧ H1 = H, ⟨n, n, 0, rfl, rfl, by omega, rfl⟩, fun m σ H1 hw => ?_⟩
    obtain ⟨x, e, rfl, rfl, he, rfl⟩ := hw
    have done : nou b m = 0 → Q (.int (e : Nat)) H1 := fun z => by
      rw [show e = nou b n by omega]
      exact q
    walk_at "rd"
    refine itd (fun c => ?_) (fun c => ?_)
    · walk_at "rd"
      refine ⟨by show (0 : Int) < (b : Int); omega, rfl, ?_⟩
      walk_at "rd"
      refine itd (fun c2 => ?_) (fun c2 => ?_)
      · have c3 : m % b = 0 := Int.ofNat.inj (V.int.inj c2)
        rw [nou_step h2 (by omega) c3] at he
        refine ⟨_, fun _ _ h => h, ?_⟩
        walk_at "rd"
        refine ⟨divW (y := 5) (by omega) (by omega), ?_⟩
        walk_at "rd"
        exact ⟨m / b, Nat.div_lt_self (by omega) (by omega), m / b, e + 1, rfl, rfl, by omega, rfl⟩
      · walk_at "rd"
        exact done (nou_no fun z => c2 (congrArg (fun x : Nat => V.int x) z))
    · have z : m = 0 := by omega
      walk_at "rd"
      exact done (by rw [z]; exact nou_zero b)
theorem ok_signs_of (T : Txt K mg) : Cal P w K mg base 1 "signs_of" spSigns [] := by
  refine T.d_signs_of.cal sc_signs_of (fun vs H Q E h => ?_) (fun cdv f A outer s H vs Q E hr h => ?_)
  · obtain ⟨n, b, rfl, _⟩ := h
    rfl
  · obtain ⟨n, b, rfl, h2, h30, hn, q⟩ := h
    refine ⟨_, (pss_cons (ps_set (i := 2) sc_signs_of.nd rfl (.inl rfl) (pe_lst pa_nil))
      (pss_cons (ps_while PassesOwn.never (pt_cmpR op_gt (pv 0) pe_int (nomark _))
        (pss_cons (ps_asg (pe_callB call_divmodW (by rfl) T.b_divmod (by decide +kernel) (pa_cons (pv 0) (pa_cons (pv 1) pa_nil))) (pg_tup rfl (pgs_cons (pg_name (i := 0) sc_signs_of.nd rfl (.inl rfl)) (pgs_cons (pg_name (i := 3) sc_signs_of.nd rfl (.inl rfl)) pgs_nil))))
        (pss_one (ps_expr (pe_bm PySem.F.plainAttrs_list PySem.F.slot_list_append PySem.F.type_list_append mt_append (pv 2) (pa_cons (pv 3) pa_nil))))))
      (pss_one (ps_ret (pe_revL (pv 2)))))), ?_⟩
    have hd : (digs b n).length ≤ 3000 := digs_bits h2 n 3000 hn
    refine ⟨Nat.zero_le _, fun l nl => ?_⟩
    refine ⟨fun m σ H1 => ∃ (x : Nat) (ds : List Nat) (v : Option V), σ = [some (.int x), some (.int b), some (.ref l), v] ∧ m = x ∧ x < 2 ^ 3000 ∧ ds ++ digs b x = digs b n ∧ Same H H1 ∧ H1 l = some (.lst ((zs ds).map V.int)),
      ⟨n, n, [], none, rfl, rfl, hn, rfl, same_upd nl, upd_same⟩, fun m σ H1 hw => ?_⟩
    obtain ⟨x, ds, v, rfl, rfl, hx, he, sm, hL⟩ := hw
    walk_at "rd"
    refine itd (fun c => ?_) (fun c => ?_)
    · have hc : 0 < m := by omega
      refine ⟨_, fun _ _ h => h, ?_⟩
      walk_at "rd"
      refine ⟨divP (x := 3000) (by omega) hx, fun t nt => ?_⟩
      have s2 := same_upd (o := .tup [.int (m / b : Nat), .int (m % b : Nat)]) nt
      refine ⟨t, _, rfl, .inl (.inl upd_same), rfl, ?_⟩
      walk_at "rd"
      refine ⟨.inl ⟨rfl, _, sql (s2 _ _ hL)⟩, ?_⟩
      walk_at "rd"
      have hlen : ds.length ≤ (digs b n).length := by rw [← he, List.length_append]; omega
      refine ⟨_, _, _, rfl, rfl, s2 _ _ hL, by rw [ints_len, zs_len]; exact Nat.lt_of_le_of_lt (Nat.le_trans hlen hd) (by decide), ?_⟩
      rw [digs_pos h2 hc] at he
      exact ⟨m / b, Nat.div_lt_self hc (by omega), m / b, ds ++ [m % b], _, rfl, rfl, Nat.lt_of_le_of_lt (Nat.div_le_self _ _) hx, by rw [List.append_assoc]; exact he,
        same_put (sm.trans s2) nl, by rw [upd_same]; exact congrArg (fun x => some (HO.lst x)) (zs_snoc ds (m % b))⟩
    · have z : m = 0 := by omega
      subst z
      rw [digs_zero, List.append_nil] at he
      refine ⟨_, rfl, l, _, rfl, sql hL, fun p np => ?_⟩
      refine q _ p (sm.trans (same_upd np)) (sm.free np) ?_
      rw [upd_same, zs_rev, he]
      rfl
end
end Ab

namespace Ab
open PySem PySem.Spec PyProof.Rows L2
open C8 (Cal Mak Met pe_c pe_mk pe_mt pe_mt0)
section
variable {P : Program} {w : World} {K : PySem.W.Frag} {mg : Str → Option Value} {base : Heap}
theorem ok_draw (T : Txt K mg) : Cal P w K mg base 1 "_law_draw" spDraw [] := by
  refine T.d_draw.cal sc_draw (fun vs H Q E h => ?_) (fun cdv f A outer s H vs Q E hr h => ?_)
  · obtain ⟨p, m, n, rfl, _⟩ := h
    rfl
  · obtain ⟨p, m, n, rfl, h0, hm, hP, hn, q⟩ := h
    obtain ⟨c, C, a, l, h1, h2, h3, h4⟩ := hP.ex
    have hpos : (0 : Int) < m := by omega
    have ncp : c ≠ p := hP.ne h2
    refine ⟨_, (pss_cons (ps_if (pt_cmpR op_gt (pe_dget (hu_of hr) (pv 0) pe_str (fun _ _ => rfl)) pe_int (nomark _))
        (pss_cons (ps_set (i := 2) sc_draw.nd rfl (.inl rfl) (pe_op op_mod (pe_dget (hu_of hr) (pv 0) pe_str (fun _ _ => rfl)) (pv 1)))
        (pss_cons (ps_dput (hu_of hr) (pv 0) pe_str (pe_op op_fdivW (pe_dget (hu_of hr) (pv 0) pe_str (fun _ _ => rfl)) (pv 1)) rfl)
        (pss_one (ps_ret (pv 2)))))
        pss_nil)
      (pss_cons (ps_set (i := 3) sc_draw.nd rfl (.inl rfl) (pe_dget (hu_of hr) (pv 0) pe_str (fun _ _ => rfl)))
      (pss_cons (ps_dput (hu_of hr) (pv 0) pe_str (pe_op op_add (pv 3) pe_int) rfl)
      (pss_cons (ps_set (i := 4) sc_draw.nd rfl (.inl rfl) (pe_op op_add (pe_op op_mulW (pv 3) (pv 3)) pe_int))
      (C8.pss_cut (ps_if (pt_cmpR (op_neI (u64 hr)) (pe_dget (hu_of hr) (pv 0) pe_str (fun _ _ => rfl)) (pe_lst pa_nil) (nomark _))
        (pss_one (ps_set (i := 4) sc_draw.nd rfl (.inl rfl) (pe_ix ix_list (pe_dget (hu_of hr) (pv 0) pe_str (fun _ _ => rfl)) (pe_op op_mod (pv 3) (pe_callB call_len_seq (by rfl) T.b_len (by decide +kernel) (pa_cons (pe_dget (hu_of hr) (pv 0) pe_str (fun _ _ => rfl)) pa_nil))) (fun _ _ => rfl))))
        pss_nil)
      (C8.pss_cut (ps_if (PW.pt (pw_and (pt_cmpR op_lt (pv 3) (pe_callB call_len_seq (by rfl) T.b_len (by decide +kernel) (pa_cons (pe_dget (hu_of hr) (pv 0) pe_str (fun _ _ => rfl)) pa_nil)) (nomark _)) (pw_and1 (pt_cmpR op_ge (pv 4) (pe_op op_powW pe_int pe_int) (nomark _)))))
        (pss_cons (ps_dput (hu_of hr) (pv 0) pe_str (pe_op op_fdivW (pv 4) (pv 1)) rfl)
        (pss_one (ps_ret (pe_op op_mod (pv 4) (pv 1)))))
        pss_nil)
      (pss_cons (ps_set (i := 5) sc_draw.nd rfl (.inl rfl) (pe_op op_mod (pe_op op_mulW (pe_op op_add (pe_op op_add (pe_op op_mod (pv 4) pe_int) (pe_op op_mulW pe_int (pv 3))) pe_int) pe_int) pe_int))
      (pss_cons (ps_for PassesOwn.never rfl (pi_range1 rfl T.b_range (pa_cons pe_int pa_nil)) (pg_name (i := 6) sc_draw.nd rfl (.inl rfl))
        (pss_cons (ps_set (i := 5) sc_draw.nd rfl (.inl rfl) (pe_op op_add (pe_op op_add (pe_op op_add (pe_op op_mulW (pv 5) (pv 5)) (pe_op op_mulW pe_int (pv 5))) (pv 3)) (pv 6)))
        (pss_one (ps_set (i := 5) sc_draw.nd rfl (.inl rfl) (pe_op op_mod (pv 5) pe_int)))))
      (pss_one (ps_ret (pe_op op_mod (pe_op op_fdivW (pv 5) pe_int) (pv 1)))))))))))), ?_⟩
    -- what is left of a great cell
    refine ⟨_, rfl, p, _, rfl, get_left h1, ?_⟩
    walk_at "rd"
    refine itd (fun c0 => ?_) (fun c0 => ?_)
    · refine ⟨_, rfl, p, _, rfl, get_left h1, ?_⟩
      walk_at "rd"
      refine ⟨hpos, ?_⟩
      refine ⟨_, rfl, p, _, rfl, get_left h1, ?_⟩
      walk_at "rd"
      refine ⟨divW (y := 8000) h0 hm, ?_⟩
      walk_at "rd"
      refine ⟨p, _, rfl, dput_left _ h1, ?_⟩
      walk_at "rd"
      obtain ⟨r, hr1, hr2⟩ := emodN l h0
      have e := q _ r hr1 ⟨c, C, a, l / (m : Int), upd_same, by rw [upd_ne ncp]; exact h2, h3, Nat.le_succ_of_le h4⟩ But.upd
      rw [← hr2] at e
      exact e
    · -- the next place
      refine ⟨_, rfl, p, _, rfl, get_at h1, ?_⟩
      walk_at "rd"
      refine ⟨p, _, rfl, dput_at h1, ?_⟩
      have g1 : ∀ x, upd H p x p = some x := fun x => upd_same
      have g2 : ∀ x, upd H p x c = some (.lst (C.map V.int)) := fun x => by rw [upd_ne ncp]; exact h2
      have ha : a < 2 ^ 20 := by omega
      walk_at "rd"
      refine ⟨mulW (x := 20) (y := 20) ha ha, ?_⟩
      walk_at "rd"
      -- a cell, where there are any
      have hcut : ∃ (W : L2.St → Hp → Prop), W = fun σ H1 => ∃ z : Int, σ = [some (.ref p), some (.int m), none, some (.int a), some (.int z), none, none] ∧ H1 p = some (.dK (pkv c (a + 1) l)) ∧ H1 c = some (.lst (C.map V.int)) ∧ But p H H1 := ⟨_, rfl⟩
      obtain ⟨W, hW⟩ := hcut
      refine ⟨W, ?_, ?_⟩
      · refine ⟨_, rfl, p, _, rfl, get_cells (g1 _), ?_⟩
        refine ⟨Nat.zero_le _, fun e ne => ?_⟩
        have nep : p ≠ e := ne_of_none (g1 _) ne
        have nec : c ≠ e := ne_of_none (g2 _) ne
        have b1 : But p H (upd (upd H p (.dK (pkv c (a + 1) l))) e (.lst [])) := But.trans But.upd (But.same (same_upd ne))
        refine ⟨c, e, C, [], rfl, rfl, sql (by rw [upd_ne nec]; exact g2 _), sql upd_same, ?_⟩
        walk_at "rd"
        refine itn (fun c1 => ?_) (fun c1 => ?_)
        · refine ⟨_, rfl, p, _, rfl, get_cells (by rw [upd_ne nep]; exact g1 _), ?_⟩
          walk_at "rd"
          refine ⟨p, _, rfl, get_cells (by rw [upd_ne nep]; exact g1 _), ?_⟩
          refine ⟨c, _, rfl, .inl (sql (by rw [upd_ne nec]; exact g2 _)), ?_⟩
          have hpos2 : 0 < C.length := List.length_pos_iff.mpr c1
          walk_at "rd"
          refine ⟨by rw [ints_len]; show (0 : Int) < (C.length : Int); omega, ?_⟩
          have hlt : a % C.length < C.length := Nat.mod_lt a hpos2
          refine ⟨c, _, _, _, rfl, rfl, sql (by rw [upd_ne nec]; exact g2 _), at_of (j := a % C.length) (by rw [ints_len]; rfl) (by rw [List.getElem?_map, List.getElem?_eq_getElem hlt]; rfl), ?_⟩
          rw [hW]
          exact ⟨_, rfl, by rw [upd_ne nep]; exact g1 _, by rw [upd_ne nec]; exact g2 _, b1⟩
        · rw [hW]
          exact ⟨_, rfl, by rw [upd_ne nep]; exact g1 _, by rw [upd_ne nec]; exact g2 _, b1⟩
      · intro σ1 H1 w1
        rw [hW] at w1
        obtain ⟨z, rfl, k1, k2, b1⟩ := w1
        refine ⟨fun σ H2 => σ = [some (.ref p), some (.int m), none, some (.int a), some (.int z), none, none] ∧ H2 = H1, ?_, ?_⟩
        · walk_at "rd"
          refine ⟨p, _, rfl, get_cells k1, ?_⟩
          refine ⟨c, _, rfl, .inl (sql k2), ?_⟩
          walk_at "rd"
          refine itd (fun c1 => ?_) (fun c1 => ?_)
          · walk_at "rd"
            refine ⟨⟨by decide, by decide +kernel⟩, ?_⟩
            walk_at "rd"
            refine itd (fun c2 => ?_) (fun c2 => ?_)
            · walk_at "rd"
              refine ⟨divW (y := 8000) h0 hm, ?_⟩
              walk_at "rd"
              refine ⟨p, _, rfl, dput_left _ k1, ?_⟩
              walk_at "rd"
              refine ⟨hpos, ?_⟩
              obtain ⟨r, hr1, hr2⟩ := emodN z h0
              have e := q _ r hr1 ⟨c, C, a + 1, z / (m : Int), upd_same, by rw [upd_ne ncp]; exact k2, h3, Nat.succ_le_succ h4⟩ (b1.trans But.upd)
              rw [← hr2] at e
              exact e
            · exact ⟨rfl, rfl⟩
          · exact ⟨rfl, rfl⟩
        · rintro σ2 H2 ⟨rfl, rfl⟩
          walk_at "rd"
          refine ⟨by show (0 : Int) < 4294967311; decide, ?_⟩
          walk_at "rd"
          refine ⟨mulW (a := 65539) (x := 17) (y := 20) (by decide) ha, ?_⟩
          walk_at "rd"
          have z0 := Int.emod_nonneg z (show (4294967311 : Int) ≠ 0 by decide)
          have z1 := Int.emod_lt_of_pos z (show (0 : Int) < 4294967311 by decide)
          generalize z % 4294967311 = y at z0 z1
          refine ⟨wide_mul (a := 40) (b := 17) (by omega) (by decide) (by decide) (by decide) (by decide), ?_⟩
          walk_at "rd"
          refine ⟨by show (0 : Int) < 4294967311; decide, ?_⟩
          have y0 := Int.emod_nonneg ((y + 65539 * (a : Int) + 17) * 48271) (show (4294967311 : Int) ≠ 0 by decide)
          have y1 := Int.emod_lt_of_pos ((y + 65539 * (a : Int) + 17) * 48271) (show (0 : Int) < 4294967311 by decide)
          refine ⟨3, rfl, by decide, by decide, for_range (n := 3) (fun i σ H3 => ∃ (x : Int) (v : Option V), σ = [some (.ref p), some (.int m), none, some (.int a), some (.int z), some (.int x), v] ∧ 0 ≤ x ∧ x < 4294967311 ∧ H3 = H2)
            ⟨_, _, rfl, y0, y1, rfl⟩ (fun i σ H3 hi hP => ?_) (fun σ H3 hP => ?_)⟩
          · obtain ⟨x, v, rfl, x0, x1, rfl⟩ := hP
            walk_at "rd"
            refine ⟨wide_mul (a := 33) (b := 33) (by omega) (by omega) (by decide) (by decide) (by decide), ?_⟩
            walk_at "rd"
            refine ⟨wide_mul (a := 20) (b := 33) (by decide) (by omega) (by decide) (by decide) (by decide), ?_⟩
            walk_at "rd"
            refine ⟨by show (0 : Int) < 4294967311; decide, ?_⟩
            exact ⟨_, _, rfl, Int.emod_nonneg _ (by decide), Int.emod_lt_of_pos _ (by decide), rfl⟩
          · obtain ⟨x, v, rfl, x0, x1, rfl⟩ := hP
            walk_at "rd"
            refine ⟨divW (b := 32) (y := 6) (by decide) (by decide), ?_⟩
            walk_at "rd"
            refine ⟨hpos, ?_⟩
            obtain ⟨r, hr1, hr2⟩ := emodN (x / 32) h0
            have e := q _ r hr1 ⟨c, C, a + 1, l, k1, k2, h3, Nat.succ_le_succ h4⟩ b1
            rw [← hr2] at e
            exact e
theorem ok_pen (T : Txt K mg) : Cal P w K mg base 1 "_law_pen" (spPen K) [] := by
  refine T.d_pen.cal sc_pen (fun vs H Q E h => ?_) (fun cdv f A outer s H vs Q E hr h => ?_)
  · obtain ⟨a, ns, rfl, _⟩ := h
    rfl
  · obtain ⟨a, ns, rfl, hS, hlen, q⟩ := h
    refine ⟨_, (pss_cons (ps_set (i := 1) sc_pen.nd rfl (.inr rfl) (pe_op op_powW (pe_op op_powW pe_int pe_int) pe_int))
      (pss_one (ps_ret (pe_disp (pps_cons pe_str (pe_lc (own := [("_law_cell", 2)]) (g := gName 2) (tt := tYes) rfl sc_pen.nd (pi_list (pe_slice sl_list (pv 0) po_none (po_some pe_int))) (blkOk_by (own := [("_law_cell", 2)]) (N := ["_law_script", "_law_most", "_law_cell"]) (sc := defScope s_pen) (by decide +kernel)) (fun _ _ _ _ _ => pg_name (i := 2) sc_pen.nd rfl (Or.inl rfl)) (fun _ _ _ _ _ => pts_nil) (fun _ _ _ _ _ => (pe_ifExp (pt_cmpR op_ge (pe_callB call_abs (by rfl) T.b_abs (by decide +kernel) (pa_cons (pv 2) pa_nil)) (pe_op op_powW pe_int pe_int) (nomark _)) (pe_op op_mod (pe_callB call_abs (by rfl) T.b_abs (by decide +kernel) (pa_cons (pv 2) pa_nil)) (pv 1)) (pv 2)))) (pps_cons pe_str pe_int (pps_cons pe_str pe_int pps_nil))) (by rfl) (by rfl) (fun z => by cases z) (by decide))))), ?_⟩
    walk_at "rd"
    refine ⟨⟨by decide, by decide +kernel⟩, ?_⟩
    walk_at "rd"
    refine ⟨⟨by decide, by decide +kernel⟩, ?_⟩
    have hm : (0 : Int) < ((10 : Int) ^ (60 : Int).toNat) ^ (60 : Int).toNat := by decide +kernel
    refine fun p np => ?_
    have s1 := same_upd (o := .dK []) np
    walk_at "rd"
    refine ⟨a, _, rfl, s1.seq hS, fun l nl => ?_⟩
    have s2 := same_upd (o := .lst (cutV (ns.map V.int) none (some 63))) nl
    have npl : p ≠ l := ne_of_none upd_same nl
    walk_at "rd"
    refine ⟨⟨_, sql upd_same⟩, fun D nD => ?_⟩
    have nlD : l ≠ D := ne_of_none upd_same nD
    have npD : p ≠ D := ne_of_none (by rw [upd_ne npl]; exact upd_same) nD
    have eP : ∀ o, upd (upd (upd H p (.dK [])) l (.lst (cutV (ns.map V.int) none (some 63)))) D o p = some (.dK []) := fun o => by rw [upd_ne npD, upd_ne npl]; exact upd_same
    have s3 : ∀ o, Same H (upd (upd (upd H p (.dK [])) l (.lst (cutV (ns.map V.int) none (some 63)))) D o) := fun o => (s1.trans s2).trans (same_upd nD)
    have nHD : H D = none := (s1.trans s2).free nD
    have hz : ∀ i x, (cutV (ns.map V.int) none (some 63))[i]? = some x → i < 63 ∧ ∃ z, x = V.int z := by
      intro i x hx
      unfold cutV at hx
      rw [List.getElem?_take] at hx
      split at hx
      · rename_i hi
        rw [List.getElem?_drop, List.getElem?_map] at hx
        cases e : ns[HT.sIx (ns.map V.int).length 0 none + i]? with
        | none => rw [e] at hx; cases hx
        | some z =>
          rw [e] at hx
          have := (List.getElem?_eq_some_iff.mp e).1
          exact ⟨by omega, z, (Option.some.inj hx).symm⟩
      · cases hx
    have hN : (cutV (ns.map V.int) none (some 63)).length ≤ 63 := by
      unfold cutV
      rw [List.length_take, List.length_drop, ints_len]
      omega
    generalize cutV (ns.map V.int) none (some 63) = cs at hz hN nD eP s3 ⊢
    clear s2
    refine lc_list (K := K) (a := l) (xs := cs) (fun i H3 => ∃ C : List Int, H3 D = some (.lst (C.map V.int)) ∧ C.length = i ∧ H3 p = some (.dK []) ∧ H3 l = some (.lst cs) ∧ Same H H3)
      ⟨[], upd_same, rfl, eP _, by rw [upd_ne nlD]; exact upd_same, s3 _⟩ (fun i H3 hi h3 => ?_) (fun i x H3 hx h3 => ?_) (fun H3 h3 => ?_)
    · obtain ⟨C, _, _, _, h3, _⟩ := h3
      exact sql h3
    · obtain ⟨C, d1, d2, d3, d4, d5⟩ := h3
      obtain ⟨hi, z, rfl⟩ := hz i x hx
      walk_at "rd"
      refine ⟨⟨by decide, by decide +kernel⟩, ?_⟩
      walk_at "rd"
      refine itd (fun _ => ?_) (fun _ => ?_)
      · walk_at "rd"
        refine ⟨hm, ?_⟩
        exact ⟨_, d1, by rw [ints_len]; exact small1000 (by omega), C ++ [_], by rw [upd_same, List.map_append]; rfl, by rw [List.length_append, d2]; rfl, by rw [upd_ne npD]; exact d3, by rw [upd_ne nlD]; exact d4, same_put d5 nHD⟩
      · walk_at "rd"
        exact ⟨_, d1, by rw [ints_len]; exact small1000 (by omega), C ++ [_], by rw [upd_same, List.map_append]; rfl, by rw [List.length_append, d2]; rfl, by rw [upd_ne npD]; exact d3, by rw [upd_ne nlD]; exact d4, same_put d5 nHD⟩
    · obtain ⟨C, d1, d2, d3, d4, d5⟩ := h3
      refine ⟨d3, [(.inr "cells", .ref D), (.inr "at", .int 0), (.inr "left", .int 0)], rfl, Nat.le_add_left 3 12, ?_⟩
      rw [merge_pen]
      exact q _ p ⟨D, C, 0, 0, upd_same, by rw [upd_ne npD.symm]; exact d1, by omega, Nat.le_refl _⟩ (same_put d5 np) np
theorem ok_far (T : Txt K mg) : Cal P w K mg base 2 "_law_far" spFar [] := by
  have c_draw : Cal P w K mg base 1 "_law_draw" spDraw [] := ok_draw T
  refine T.d_far.cal sc_far (fun vs H Q E h => ?_) (fun cdv f A outer s H vs Q E hr h => ?_)
  · obtain ⟨p, m, n, rfl, _⟩ := h
    rfl
  · obtain ⟨p, fg, n, rfl, hf, hP, hn, q⟩ := h
    refine ⟨_, (pss_cons (ps_set (i := 2) sc_far.nd rfl (.inl rfl) pe_int)
      (pss_cons (ps_for PassesOwn.never rfl (pi_range1 rfl T.b_range (pa_cons (pe_op op_add (pe_c c_draw hr (by decide) rfl (pa_cons (pv 0) (pa_cons (pe_op op_add pe_int (pe_op op_fdivW (pv 1) pe_int)) pa_nil))) pe_int) pa_nil)) (pg_name (i := 3) sc_far.nd rfl (.inl rfl))
        (pss_one (ps_set (i := 2) sc_far.nd rfl (.inl rfl) (pe_op op_add (pe_op op_mulW (pv 2) (pe_op op_powW pe_int pe_int)) (pe_c c_draw hr (by decide) rfl (pa_cons (pv 0) (pa_cons (pe_op op_powW pe_int pe_int) pa_nil)))))))
      (pss_one (ps_ret (pe_op op_add (pv 2) pe_int))))), ?_⟩
    walk_at "rd"
    refine ⟨divW (b := 6) (y := 3) (by decide) (by decide), ?_⟩
    walk_at "rd"
    refine ⟨p, 1 + fg / 6, n, rfl, by omega, lt8000 (by omega), hP, by omega, fun H1 r hr1 P1 b1 => ?_⟩
    walk_at "rd"
    refine ⟨by omega, by omega, for_range (n := ((r : Int) + 1).toNat) (fun i σ H3 => ∃ (x : Nat) (v : Option V), σ = [some (.ref p), some (.int fg), some (.int x), v] ∧ x < (10 ^ 6) ^ i ∧ PenAt H3 p (n + 1 + i) ∧ But p H H3)
      ⟨0, _, rfl, by decide, P1, b1⟩ (fun i σ H3 hi hP3 => ?_) (fun σ H3 hP3 => ?_)⟩
    · obtain ⟨x, v, rfl, hx, P3, b3⟩ := hP3
      have hx2 : x < 2 ^ 3400 := Nat.lt_of_lt_of_le hx (Nat.le_trans (pow6 i) (Nat.pow_le_pow_right (by decide) (by omega)))
      walk_at "rd"
      refine ⟨⟨by decide, by decide +kernel⟩, ?_⟩
      walk_at "rd"
      refine ⟨mulW (b := 1000000) (x := 3400) (y := 20) hx2 (by decide), ?_⟩
      walk_at "rd"
      refine ⟨⟨by decide, by decide +kernel⟩, ?_⟩
      walk_at "rd"
      refine ⟨p, 1000000, n + 1 + i, rfl, by decide, lt8000 (by decide), P3, by omega, fun H4 d hd P4 b4 => ?_⟩
      refine ⟨_, _, rfl, rfl, ?_⟩
      refine ⟨x * 1000000 + d, _, rfl, ?_, P4, b3.trans b4⟩
      rw [Nat.pow_succ]
      have : x + 1 ≤ (10 ^ 6) ^ i := hx
      have := Nat.mul_le_mul_right (10 ^ 6) this
      omega
    · obtain ⟨x, v, rfl, hx, P3, b3⟩ := hP3
      walk_at "rd"
      refine q H3 (x + 1) (by omega) (Nat.le_trans hx (Nat.pow_le_pow_right (by decide) (by omega))) (P3.le (by omega)) b3
end
end Ab

namespace Ab
open PySem PySem.Spec PyProof.Rows L2
open C8 (Cal Mak Met pe_c pe_mk pe_mt pe_mt0)
section
variable {P : Program} {w : World} {K : PySem.W.Frag} {mg : Str → Option Value} {base : Heap}
theorem ok_law (T : Txt K mg) {f : Addr} {fd : FuncData} (F : Fun K "law" "law" s_law f fd) : FnOk P w K mg base CX0 3 f fd ["_law_script"] (spLaw K) := by
  have c_pen : Cal P w K mg base 1 "_law_pen" (spPen K) [] := ok_pen T
  have c_draw : Cal P w K mg base 1 "_law_draw" spDraw [] := ok_draw T
  have c_far : Cal P w K mg base 2 "_law_far" spFar [] := ok_far T
  have c_signs_of : Cal P w K mg base 1 "signs_of" spSigns [] := ok_signs_of T
  have c_heap_of : Cal P w K mg base 1 "heap_of" (spNum2 heap) [] := ok_heap T
  have c_exponent_of : Cal P w K mg base 1 "exponent_of" (spNum2 expo) [] := ok_expo T
  have c_first_sign : Cal P w K mg base 1 "first_sign" (spNum2 lead) [] := ok_first T
  have c_noughts_of : Cal P w K mg base 1 "noughts_of" (spNum2 nou) [] := ok_noughts T
  refine F.ok sc_law (fun vs H Q E h => ?_) (fun cdv A outer s H vs Q E hr h => ?_)
  · obtain ⟨a, ns, rfl, _⟩ := h
    rfl
  · obtain ⟨a, ns, rfl, hS, hlen, q⟩ := h
    refine ⟨_, (pss_cons (ps_set (i := 1) sc_law.nd rfl (.inl rfl) (pe_c c_pen hr (by decide) rfl (pa_cons (pv 0) pa_nil)))
      (pss_cons (ps_for PassesOwn.never rfl (pi_range1 rfl T.b_range (pa_cons (pe_op op_add pe_int (pe_callB (call_min2 rfl) (by rfl) T.b_min (by decide +kernel) (pa_cons pe_int (pa_cons (pe_callB call_len_seq (by rfl) T.b_len (by decide +kernel) (pa_cons (pv 0) pa_nil)) pa_nil)))) pa_nil)) (pg_name (i := 2) sc_law.nd rfl (.inl rfl))
        (pss_cons (ps_par (i := 3) (j := 4) rfl sc_law.nd rfl rfl (by decide) rfl rfl (pa_cons (pe_op op_add pe_int (pe_c c_draw hr (by decide) rfl (pa_cons (pv 1) (pa_cons pe_int pa_nil)))) (pa_cons (pe_c c_far hr (by decide) rfl (pa_cons (pv 1) (pa_cons pe_int pa_nil))) pa_nil)) rfl)
        (pss_cons (ps_par (i := 5) (j := 6) rfl sc_law.nd rfl rfl (by decide) rfl rfl (pa_cons (pe_c c_signs_of hr (by decide) rfl (pa_cons (pv 4) (pa_cons (pv 3) pa_nil))) (pa_cons pe_int pa_nil)) rfl)
        (pss_cons (ps_for PassesOwn.never rfl (pi_list (pv 5)) (pg_name (i := 7) sc_law.nd rfl (.inl rfl))
          (pss_cons (ps_if (pt_not (pt_chain op_le op_lt pe_int (pv 7) (pv 3) rfl))
            (pss_one (ps_ret pe_bl))
            pss_nil)
          (pss_one (ps_set (i := 6) sc_law.nd rfl (.inl rfl) (pe_op op_add (pe_op op_mulW (pv 6) (pv 3)) (pv 7))))))
        (pss_cons (ps_if (PW.pt (pw_or (pt_cmpR op_ne (pv 6) (pv 4) (nomark _)) (pw_or (pt_cmpR op_eq (pe_ix ix_list (pv 5) pe_int (fun _ _ => rfl)) pe_int (nomark _)) (pw_or1 (pt_cmpR op_ne (pe_c c_first_sign hr (by decide) rfl (pa_cons (pv 4) (pa_cons (pv 3) pa_nil))) (pe_ix ix_list (pv 5) pe_int (fun _ _ => rfl)) (nomark _))))))
          (pss_one (ps_ret pe_bl))
          pss_nil)
        (pss_cons (ps_set (i := 8) sc_law.nd rfl (.inl rfl) (pe_op op_fdivW (pv 4) (pv 3)))
        (pss_cons (ps_if (pt_cmpR op_ne (pe_c c_heap_of hr (by decide) rfl (pa_cons (pv 4) (pa_cons (pv 3) pa_nil))) (pe_op op_add (pv 8) (pe_c c_heap_of hr (by decide) rfl (pa_cons (pv 8) (pa_cons (pv 3) pa_nil)))) (nomark _))
          (pss_one (ps_ret pe_bl))
          pss_nil)
        (pss_cons (ps_set (i := 7) sc_law.nd rfl (.inl rfl) (pe_c c_draw hr (by decide) rfl (pa_cons (pv 1) (pa_cons (pv 3) pa_nil))))
        (pss_cons (ps_set (i := 9) sc_law.nd rfl (.inl rfl) (pe_op op_add (pe_op op_mulW (pv 4) (pv 3)) (pv 7)))
        (pss_cons (ps_if (PW.pt (pw_or (pt_cmpR (op_neI (u64 hr)) (pe_c c_signs_of hr (by decide) rfl (pa_cons (pv 9) (pa_cons (pv 3) pa_nil))) (pe_op op_cat (pv 5) (pe_lst (pa_cons (pv 7) pa_nil))) (nomark _)) (pw_or1 (pt_cmpR op_ne (pe_c c_exponent_of hr (by decide) rfl (pa_cons (pv 9) (pa_cons (pv 3) pa_nil))) (pe_op op_add (pe_c c_exponent_of hr (by decide) rfl (pa_cons (pv 4) (pa_cons (pv 3) pa_nil))) pe_int) (nomark _)))))
          (pss_one (ps_ret pe_bl))
          pss_nil)
        (pss_cons (ps_if (pt_cmpR op_ne (pe_c c_heap_of hr (by decide) rfl (pa_cons (pv 9) (pa_cons (pv 3) pa_nil))) (pe_op op_add (pv 4) (pe_c c_heap_of hr (by decide) rfl (pa_cons (pv 4) (pa_cons (pv 3) pa_nil)))) (nomark _))
          (pss_one (ps_ret pe_bl))
          pss_nil)
        (pss_one (ps_if (pt_cmpR op_ne (pe_c c_noughts_of hr (by decide) rfl (pa_cons (pv 9) (pa_cons (pv 3) pa_nil))) (pe_ifExp (pt_cmpR op_eq (pv 7) pe_int (nomark _)) (pe_op op_add (pe_c c_noughts_of hr (by decide) rfl (pa_cons (pv 4) (pa_cons (pv 3) pa_nil))) pe_int) pe_int) (nomark _))
          (pss_one (ps_ret pe_bl))
          pss_nil)))))))))))))
      (pss_one (ps_ret pe_bl)))), ?_⟩
    walk_at "rd"
    refine ⟨a, ns, rfl, hS, hlen, fun H1 p P1 s1 np => ?_⟩
    walk_at "rd"
    refine ⟨a, _, rfl, .inl (s1.seq hS), ?_⟩
    walk_at "rd"
    rw [ints_len]
    refine ⟨by split <;> omega, by split <;> omega, for_range (n := (3 + (if (ns.length : Int) < 9 then (ns.length : Int) else 9)).toNat)
      (fun i σ H3 => ∃ v2 v3 v4 v5 v6 v7 v8 v9 : Option V, σ = [some (.ref a), some (.ref p), v2, v3, v4, v5, v6, v7, v8, v9] ∧ PenAt H3 p (50 * i))
      ⟨_, _, _, _, _, _, _, _, rfl, P1⟩ (fun i σ H3 hi hP3 => ?_) (fun σ H3 hP3 => ?_)⟩
    · have hi20 : i < 12 := by
        split at hi <;> omega
      obtain ⟨v2, v3, v4, v5, v6, v7, v8, v9, rfl, P3⟩ := hP3
      walk_at "rd"
      refine ⟨p, 29, _, rfl, by decide, lt8000 (by decide), P3, by omega, fun H4 d1 hd1 P4 b4 => ?_⟩
      walk_at "rd"
      refine ⟨p, 192, _, rfl, by decide, P4, by omega, fun H5 N hN0 hN5 P5 b5 => ?_⟩
      have hN : N < 2 ^ 900 := Nat.lt_of_le_of_lt (Nat.le_trans hN5 (pow6 _)) (Nat.pow_lt_pow_right (by decide) (by decide))
      have h2 : 2 ≤ 2 + d1 := by omega
      have h30 : 2 + d1 ≤ 30 := by omega
      have up : ∀ {x y : Nat}, x < 2 ^ y → y ≤ 3000 → x < 2 ^ 3000 := fun h e => Nat.lt_of_lt_of_le h (Nat.pow_le_pow_right (by decide) e)
      walk_at "rd"
      refine ⟨h2, h30, up hN (by decide), fun H6 ls s6 nls hls => ?_⟩
      have P6 := P5.same s6
      walk_at "rd"
      refine ⟨⟨_, sql hls⟩, for_list (K := K) (a := ls) (xs := (zs (sgn (2 + d1) N)).map V.int) (fun j σ H7 => ∃ w2 w7 : Option V, σ = [some (.ref a), some (.ref p), w2, some (.int (2 + d1 : Nat)), some (.int N), some (.ref ls), some (.int (((sgn (2 + d1) N).take j).foldl (fun t s => t * (2 + d1) + s) 0 : Nat)), w7, v8, v9] ∧ H7 = H6)
        ⟨_, _, rfl, rfl⟩ (fun j σ H7 _ h7 => ?_) (fun j x σ H7 hx h7 => ?_) (fun σ H7 h7 => ?_)⟩
      · obtain ⟨w2, w7, rfl, rfl⟩ := h7
        exact sql hls
      · obtain ⟨w2, w7, rfl, rfl⟩ := h7
        obtain ⟨d, hd, rfl⟩ : ∃ d : Nat, (sgn (2 + d1) N)[j]? = some d ∧ x = .int (d : Nat) := by
          unfold zs at hx
          rw [List.getElem?_map, List.getElem?_map] at hx
          cases e : (sgn (2 + d1) N)[j]? with
          | none => rw [e] at hx; cases hx
          | some d => rw [e] at hx; exact ⟨d, rfl, (Option.some.inj hx).symm⟩
        have hdl := sgn_lt h2 N d (List.mem_of_getElem? hd)
        walk_at "rd"
        refine itn (fun c => absurd (show (d : Int) < ((2 + d1 : Nat) : Int) by omega) c) (fun _ => ?_)
        walk_at "rd"
        refine ⟨mulW (x := 900) (y := 5) (Nat.lt_of_le_of_lt (horner_take h2 N j) hN) (by omega), ?_⟩
        refine ⟨_, rfl, _, _, rfl, rfl, ?_⟩
        refine ⟨w2, some (.int (d : Nat)), ?_, rfl⟩
        rw [List.take_add_one, hd, List.foldl_append]
        rfl
      · obtain ⟨w2, w7, rfl, rfl⟩ := h7
        rw [List.take_of_length_le (by rw [ints_len, zs_len]; exact Nat.le_refl _), sgn_sum h2 N]
        have hd0 := sgn_head h2 N hN0
        have hl0 := lead_pos h2 N hN0
        walk_at "rd"
        refine itn (fun c => absurd rfl c) (fun _ => ?_)
        walk_at "rd"
        refine ⟨ls, _, _, _, rfl, rfl, sql hls, at_of (j := 0) rfl (zs_at hd0), ?_⟩
        walk_at "rd"
        refine itd (fun c => absurd (show lead (2 + d1) N = 0 from Int.ofNat.inj (V.int.inj c)) (by omega)) (fun _ => ?_)
        walk_at "rd"
        refine ⟨h2, h30, ?_⟩
        walk_at "rd"
        refine ⟨ls, _, _, _, rfl, rfl, sql hls, at_of (j := 0) rfl (zs_at hd0), ?_⟩
        walk_at "rd"
        refine itn (fun c => absurd rfl c) (fun _ => ?_)
        -- its part
        walk_at "rd"
        refine ⟨divW (b := 2 + d1) (y := 5) (by omega) (by omega), ?_⟩
        walk_at "rd"
        refine ⟨h2, h30, ?_⟩
        walk_at "rd"
        refine ⟨h2, h30, ?_⟩
        walk_at "rd"
        refine itn (fun c => absurd (congrArg (fun x : Nat => V.int x) (heap_step (n := N) h2)) c) (fun _ => ?_)
        -- a sign put on
        walk_at "rd"
        refine ⟨p, 2 + d1, _, rfl, by omega, lt8000 (by omega), P6, by omega, fun H8 d hd P8 b8 => ?_⟩
        have nlp : ls ≠ p := P6.ne hls
        have hl8 := b8 _ _ nlp hls
        walk_at "rd"
        refine ⟨mulW (b := 2 + d1) (x := 900) (y := 5) hN (by omega), ?_⟩
        walk_at "rd"
        have hM : N * (2 + d1) + d < 2 ^ 3000 := by
          refine up (y := 910) (Nat.lt_of_lt_of_le (m := 2 ^ (900 + 5)) ?_ (Nat.pow_le_pow_right (by decide) (by decide))) (by decide)
          have e1 : (N + 1) * (2 + d1) ≤ 2 ^ 900 * 2 ^ 5 := Nat.mul_le_mul hN (by omega)
          rw [Nat.pow_add]
          rw [Nat.add_mul, Nat.one_mul] at e1
          omega
        refine ⟨h2, h30, hM, fun H9 t s9 nt ht => ?_⟩
        have hl9 := s9 _ _ hl8
        walk_at "rd"
        refine ⟨show 1 ≤ sizeLine by decide, fun e ne => ?_⟩
        have hsz : (sgn (2 + d1) N).length ≤ 900 := by rw [sgn, List.length_reverse]; exact digs_bits h2 N 900 hN
        walk_at "rd"
        refine ⟨ls, e, _, _, rfl, rfl, same_upd ne _ _ hl9, upd_same, by rw [ints_len, zs_len]; exact Nat.le_of_lt (Nat.lt_of_le_of_lt (Nat.add_le_add_right hsz 1) (by decide)), fun u nu => ?_⟩
        rw [zs_snoc]
        have P9 := (P8.same s9).same ((same_upd (o := .lst [V.int (d : Nat)]) ne).trans (same_upd (o := .lst ((zs (sgn (2 + d1) N ++ [d])).map V.int)) nu))
        refine ⟨t, u, _, _, rfl, rfl, sql (same_upd nu _ _ (same_upd ne _ _ ht)), sql upd_same, ?_⟩
        walk_at "rd"
        rw [sgn_more h2 hN0 hd]
        refine itn (fun c => absurd rfl c) (fun _ => ?_)
        walk_at "rd"
        refine ⟨h2, h30, ?_⟩
        walk_at "rd"
        refine ⟨h2, h30, ?_⟩
        walk_at "rd"
        rw [expo_more h2 hN0 hd]
        refine itn (fun c => absurd rfl c) (fun _ => ?_)
        walk_at "rd"
        refine ⟨h2, h30, ?_⟩
        walk_at "rd"
        refine ⟨h2, h30, ?_⟩
        walk_at "rd"
        rw [heap_more h2 hd]
        refine itn (fun c => absurd rfl c) (fun _ => ?_)
        walk_at "rd"
        refine ⟨h2, h30, ?_⟩
        walk_at "rd"
        rw [nou_more h2 hN0 hd]
        refine itd (fun c => ?_) (fun c => ?_)
        · rw [if_pos (show d = 0 from Int.ofNat.inj (V.int.inj c))]
          walk_at "rd"
          refine ⟨h2, h30, ?_⟩
          walk_at "rd"
          refine itn (fun c => absurd rfl c) (fun _ => ?_)
          exact ⟨_, _, _, _, _, _, _, _, rfl, P9.le (by omega)⟩
        · rw [if_neg (fun z : d = 0 => c (congrArg (fun x : Nat => V.int x) z))]
          walk_at "rd"
          refine itn (fun c => absurd rfl c) (fun _ => ?_)
          exact ⟨_, _, _, _, _, _, _, _, rfl, P9.le (by omega)⟩
    · obtain ⟨v2, v3, v4, v5, v6, v7, v8, v9, rfl, P3⟩ := hP3
      walk_at "rd"
      exact q _
end
theorem all_mk {l : PySem.W.OpenLaw} {w : World} {K : PySem.W.Frag} {h : Heap} {mg : Str → Option Value} {fa : Addr} (X : K.In h) (G : h.Ns mainGlobals mg) (hfa : mg "law" = some (.ref fa))
    {f0 : Addr} {od0 an0 : Option Addr} {sl0 : Array (Option Value)} {oc0 kV0 dc0 pm0 cd0 ct0 : Value}
    (a0 : PySem.W.nsIn K mainGlobals "signs_of" = some (some (.ref f0))) (l0 : K.lookup f0 = some ⟨oc0, od0, .func (PySem.W.fnOf "signs_of" "signs_of" (defArgs s_signs_of) (defBody s_signs_of) (defScope s_signs_of) .none kV0 dc0 pm0 an0 cd0 ct0), sl0⟩) (c0 : PySem.W.codeIn K cd0 "signs_of" = true) (k0 : PySem.W.keepIn K (.ref f0) = true)
    {f1 : Addr} {od1 an1 : Option Addr} {sl1 : Array (Option Value)} {oc1 kV1 dc1 pm1 cd1 ct1 : Value}
    (a1 : PySem.W.nsIn K mainGlobals "exponent_of" = some (some (.ref f1))) (l1 : K.lookup f1 = some ⟨oc1, od1, .func (PySem.W.fnOf "exponent_of" "exponent_of" (defArgs s_exponent_of) (defBody s_exponent_of) (defScope s_exponent_of) .none kV1 dc1 pm1 an1 cd1 ct1), sl1⟩) (c1 : PySem.W.codeIn K cd1 "exponent_of" = true) (k1 : PySem.W.keepIn K (.ref f1) = true)
    {f2 : Addr} {od2 an2 : Option Addr} {sl2 : Array (Option Value)} {oc2 kV2 dc2 pm2 cd2 ct2 : Value}
    (a2 : PySem.W.nsIn K mainGlobals "first_sign" = some (some (.ref f2))) (l2 : K.lookup f2 = some ⟨oc2, od2, .func (PySem.W.fnOf "first_sign" "first_sign" (defArgs s_first_sign) (defBody s_first_sign) (defScope s_first_sign) .none kV2 dc2 pm2 an2 cd2 ct2), sl2⟩) (c2 : PySem.W.codeIn K cd2 "first_sign" = true) (k2 : PySem.W.keepIn K (.ref f2) = true)
    {f3 : Addr} {od3 an3 : Option Addr} {sl3 : Array (Option Value)} {oc3 kV3 dc3 pm3 cd3 ct3 : Value}
    (a3 : PySem.W.nsIn K mainGlobals "noughts_of" = some (some (.ref f3))) (l3 : K.lookup f3 = some ⟨oc3, od3, .func (PySem.W.fnOf "noughts_of" "noughts_of" (defArgs s_noughts_of) (defBody s_noughts_of) (defScope s_noughts_of) .none kV3 dc3 pm3 an3 cd3 ct3), sl3⟩) (c3 : PySem.W.codeIn K cd3 "noughts_of" = true) (k3 : PySem.W.keepIn K (.ref f3) = true)
    {f4 : Addr} {od4 an4 : Option Addr} {sl4 : Array (Option Value)} {oc4 kV4 dc4 pm4 cd4 ct4 : Value}
    (a4 : PySem.W.nsIn K mainGlobals "heap_of" = some (some (.ref f4))) (l4 : K.lookup f4 = some ⟨oc4, od4, .func (PySem.W.fnOf "heap_of" "heap_of" (defArgs s_heap_of) (defBody s_heap_of) (defScope s_heap_of) .none kV4 dc4 pm4 an4 cd4 ct4), sl4⟩) (c4 : PySem.W.codeIn K cd4 "heap_of" = true) (k4 : PySem.W.keepIn K (.ref f4) = true)
    {f5 : Addr} {od5 an5 : Option Addr} {sl5 : Array (Option Value)} {oc5 kV5 dc5 pm5 cd5 ct5 : Value}
    (a5 : PySem.W.nsIn K mainGlobals "_law_pen" = some (some (.ref f5))) (l5 : K.lookup f5 = some ⟨oc5, od5, .func (PySem.W.fnOf "_law_pen" "_law_pen" (defArgs s_pen) (defBody s_pen) (defScope s_pen) .none kV5 dc5 pm5 an5 cd5 ct5), sl5⟩) (c5 : PySem.W.codeIn K cd5 "_law_pen" = true) (k5 : PySem.W.keepIn K (.ref f5) = true)
    {f6 : Addr} {od6 an6 : Option Addr} {sl6 : Array (Option Value)} {oc6 kV6 dc6 pm6 cd6 ct6 : Value}
    (a6 : PySem.W.nsIn K mainGlobals "_law_draw" = some (some (.ref f6))) (l6 : K.lookup f6 = some ⟨oc6, od6, .func (PySem.W.fnOf "_law_draw" "_law_draw" (defArgs s_draw) (defBody s_draw) (defScope s_draw) .none kV6 dc6 pm6 an6 cd6 ct6), sl6⟩) (c6 : PySem.W.codeIn K cd6 "_law_draw" = true) (k6 : PySem.W.keepIn K (.ref f6) = true)
    {f7 : Addr} {od7 an7 : Option Addr} {sl7 : Array (Option Value)} {oc7 kV7 dc7 pm7 cd7 ct7 : Value}
    (a7 : PySem.W.nsIn K mainGlobals "_law_far" = some (some (.ref f7))) (l7 : K.lookup f7 = some ⟨oc7, od7, .func (PySem.W.fnOf "_law_far" "_law_far" (defArgs s_far) (defBody s_far) (defScope s_far) .none kV7 dc7 pm7 an7 cd7 ct7), sl7⟩) (c7 : PySem.W.codeIn K cd7 "_law_far" = true) (k7 : PySem.W.keepIn K (.ref f7) = true)
    {f8 : Addr} {od8 an8 : Option Addr} {sl8 : Array (Option Value)} {oc8 kV8 dc8 pm8 cd8 ct8 : Value}
    (a8 : PySem.W.nsIn K mainGlobals "law" = some (some (.ref f8))) (l8 : K.lookup f8 = some ⟨oc8, od8, .func (PySem.W.fnOf "law" "law" (defArgs s_law) (defBody s_law) (defScope s_law) .none kV8 dc8 pm8 an8 cd8 ct8), sl8⟩) (c8 : PySem.W.codeIn K cd8 "law" = true) (k8 : PySem.W.keepIn K (.ref f8) = true)
    (z0 : PySem.W.nsIn K mainGlobals "abs" = some none)
    (z1 : PySem.W.nsIn K mainGlobals "divmod" = some none)
    (z2 : PySem.W.nsIn K mainGlobals "len" = some none)
    (z3 : PySem.W.nsIn K mainGlobals "min" = some none)
    (z4 : PySem.W.nsIn K mainGlobals "range" = some none)
    : ∃ fd : FuncData, (∀ (s : Shared) (v : Value), BindsTo s fd ⟨[v], []⟩ [("_law_script", v)]) ∧ ∀ base : Heap, K.In base → base.Ns mainGlobals mg → FnOk l.prog w K mg base CX0 3 fa fd ["_law_script"] (spLaw K) := by
  have e := hfa.symm.trans (PySem.W.mg_of X G a8)
  cases e
  have F0 := fun_mk (st := s_signs_of) l0 c0 k0
  have F1 := fun_mk (st := s_exponent_of) l1 c1 k1
  have F2 := fun_mk (st := s_first_sign) l2 c2 k2
  have F3 := fun_mk (st := s_noughts_of) l3 c3 k3
  have F4 := fun_mk (st := s_heap_of) l4 c4 k4
  have F5 := fun_mk (st := s_pen) l5 c5 k5
  have F6 := fun_mk (st := s_draw) l6 c6 k6
  have F7 := fun_mk (st := s_far) l7 c7 k7
  have F8 := fun_mk (st := s_law) l8 c8 k8
  have b0 := F0.binds (ps := ["number", "base"]) fun _ _ _ _ _ _ us hl => match us, hl with | [_, _], _ => rfl
  have b1 := F1.binds (ps := ["number", "base"]) fun _ _ _ _ _ _ us hl => match us, hl with | [_, _], _ => rfl
  have b2 := F2.binds (ps := ["number", "base"]) fun _ _ _ _ _ _ us hl => match us, hl with | [_, _], _ => rfl
  have b3 := F3.binds (ps := ["number", "base"]) fun _ _ _ _ _ _ us hl => match us, hl with | [_, _], _ => rfl
  have b4 := F4.binds (ps := ["number", "base"]) fun _ _ _ _ _ _ us hl => match us, hl with | [_, _], _ => rfl
  have b5 := F5.binds (ps := ["_law_script"]) fun _ _ _ _ _ _ us hl => match us, hl with | [_], _ => rfl
  have b6 := F6.binds (ps := ["_law_pen_here", "_law_many"]) fun _ _ _ _ _ _ us hl => match us, hl with | [_, _], _ => rfl
  have b7 := F7.binds (ps := ["_law_pen_here", "_law_figures"]) fun _ _ _ _ _ _ us hl => match us, hl with | [_, _], _ => rfl
  have T : Txt K mg := ⟨PySem.W.mg_none_of X G z0,
    PySem.W.mg_none_of X G z1,
    PySem.W.mg_none_of X G z2,
    PySem.W.mg_none_of X G z3,
    PySem.W.mg_none_of X G z4,
    ⟨_, _, F0, b0, PySem.W.mg_of X G a0⟩,
    ⟨_, _, F1, b1, PySem.W.mg_of X G a1⟩,
    ⟨_, _, F2, b2, PySem.W.mg_of X G a2⟩,
    ⟨_, _, F3, b3, PySem.W.mg_of X G a3⟩,
    ⟨_, _, F4, b4, PySem.W.mg_of X G a4⟩,
    ⟨_, _, F5, b5, PySem.W.mg_of X G a5⟩,
    ⟨_, _, F6, b6, PySem.W.mg_of X G a6⟩,
    ⟨_, _, F7, b7, PySem.W.mg_of X G a7⟩⟩
  exact ⟨PySem.W.fnOf "law" "law" (defArgs s_law) (defBody s_law) (defScope s_law) .none kV8 dc8 pm8 an8 cd8 ct8, fun s v => .of_eq rfl, fun base _ _ => ok_law T F8⟩
end Ab
open PySem PySem.W PyProof.Rows
set_option maxRecDepth 100000 in
set_option maxHeartbeats 0 in
theorem PySem.Challenge.cw_askback_k09_whole_signs_put_together_holds : PySem.Challenge.rw_askback_k09_whole_signs_put_together.Holds := by
  w_on; o_law; k_head; (case hw => w_witness2)
  k_fill
  refine L2.walk_of (l := PySem.Challenge.rw_askback_k09_whole_signs_put_together) (n := 63) (k := 3) (x := "_law_script") (CX := fun _ => L2.CX0) (sp := fun w => Ab.spLaw _) rfl (by decide) rfl ⟨rfl, by decide, by decide⟩ (fun w h Y => PySem.W.kIn_of Y) ?F (fun _ _ a ns hl _ hS => ⟨a, ns, rfl, hS, hl, fun _ => rfl⟩) (fun _ _ _ _ _ h => h)
  case F =>
    intro w mg fa h KX G hmg
    refine' Ab.all_mk KX G hmg ?a0 ?l0 ?c0 ?k0 ?a1 ?l1 ?c1 ?k1 ?a2 ?l2 ?c2 ?k2 ?a3 ?l3 ?c3 ?k3 ?a4 ?l4 ?c4 ?k4 ?a5 ?l5 ?c5 ?k5 ?a6 ?l6 ?c6 ?k6 ?a7 ?l7 ?c7 ?k7 ?a8 ?l8 ?c8 ?k8 ?z0 ?z1 ?z2 ?z3 ?z4
    (case a0 => k_is)
    (case l0 => k_is)
    (case c0 => k_is)
    (case k0 => k_is)
    (case a1 => k_is)
    (case l1 => k_is)
    (case c1 => k_is)
    (case k1 => k_is)
    (case a2 => k_is)
    (case l2 => k_is)
    (case c2 => k_is)
    (case k2 => k_is)
    (case a3 => k_is)
    (case l3 => k_is)
    (case c3 => k_is)
    (case k3 => k_is)
    (case a4 => k_is)
    (case l4 => k_is)
    (case c4 => k_is)
    (case k4 => k_is)
    (case a5 => k_is)
    (case l5 => k_is)
    (case c5 => k_is)
    (case k5 => k_is)
    (case a6 => k_is)
    (case l6 => k_is)
    (case c6 => k_is)
    (case k6 => k_is)
    (case a7 => k_is)
    (case l7 => k_is)
    (case c7 => k_is)
    (case k7 => k_is)
    (case a8 => k_is)
    (case l8 => k_is)
    (case c8 => k_is)
    (case k8 => k_is)
    (case z0 => k_is)
    (case z1 => k_is)
    (case z2 => k_is)
    (case z3 => k_is)
    (case z4 => k_is)
