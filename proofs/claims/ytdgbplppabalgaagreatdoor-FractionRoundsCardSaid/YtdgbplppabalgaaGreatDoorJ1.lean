/-
  Texts of one seat, joined: Plain Leaf Text.
-/
import Derived.Lib.ItoaNum
import Derived.Lib.ParseIntB
import Derived.Test.YtdgbplppabalgaaGreatDoorProg
import Derived.WalkKit
import Derived.WalkSpells
import Derived.WalkLawsBesides
import Derived.LoopTactic
import Derived.BigQuiet
import Derived.BigGuard
import Derived.Lib.Hide
import Derived.Lib.Bytealg
import Derived.Test.YtdgbplppabalgaaGreatDoorShelf
import Derived.Lib.ItoaMem
import Derived.Lib.ItoaLen
import Derived.Lib.AtoiErrMem
import Derived.Lib.AppendIntMem
import Derived.WalkSmall
import Derived.RegionTactic
import Derived.Deep.QuietTactic
namespace Go.Proofs.YtdgbplppabalgaaGreatDoor
open Go.Lib

/-- a decimal digit -/
def isD (c : UInt8) : Bool := decide (48 ≤ c.toNat) && decide (c.toNat ≤ 57)
/-- the value of a list of digits -/
def val (l : List UInt8) : Nat := l.foldl (fun n c => 10 * n + (c.toNat - 48)) 0
def headOk (l : List UInt8) : Bool := l == [48] || (!l.isEmpty && !(l.head? == some 48))
def canonL (l : List UInt8) : Bool := headOk l && l.all isD

theorem val_nil : val [] = 0 := rfl
theorem val_snoc (l : List UInt8) (c : UInt8) : val (l ++ [c]) = 10 * val l + (c.toNat - 48) := by
  unfold val; rw [List.foldl_append]; rfl
theorem foldl_val (l : List UInt8) : ∀ n, l.foldl (fun n c => 10 * n + (c.toNat - 48)) n = n * 10 ^ l.length + val l := by
  induction l with
  | nil => intro n; simp [val]
  | cons c l ih =>
    intro n
    have h1 := ih (10 * n + (c.toNat - 48))
    have h2 := ih (10 * 0 + (c.toNat - 48))
    unfold val
    rw [List.foldl_cons, List.foldl_cons, h1, h2, List.length_cons, Nat.pow_succ]
    rw [Nat.add_mul, Nat.add_mul]
    have : 10 * n * 10 ^ l.length = n * (10 ^ l.length * 10) := by
      rw [Nat.mul_comm 10 n, Nat.mul_assoc, Nat.mul_comm 10]
    rw [this]; omega
theorem val_append (l m : List UInt8) : val (l ++ m) = val l * 10 ^ m.length + val m := by
  rw [val, List.foldl_append, foldl_val m]; rfl
theorem val_cons (c : UInt8) (l : List UInt8) : val (c :: l) = (c.toNat - 48) * 10 ^ l.length + val l := by
  have := val_append [c] l
  simpa [val] using this
theorem isD_lt {c : UInt8} (h : isD c = true) : c.toNat - 48 < 10 ∧ 48 ≤ c.toNat ∧ c.toNat ≤ 57 := by
  simp [isD] at h; omega
theorem val_lt (l : List UInt8) (h : l.all isD = true) : val l < 10 ^ l.length := by
  induction l with
  | nil => simp [val]
  | cons c l ih =>
    simp only [List.all_cons, Bool.and_eq_true] at h
    have h1 := isD_lt h.1
    have h2 := ih h.2
    rw [val_cons, List.length_cons, Nat.pow_succ]
    have : (c.toNat - 48) * 10 ^ l.length ≤ 9 * 10 ^ l.length := Nat.mul_le_mul_right _ (by omega)
    omega
theorem dd_small {u : Nat} (h : u < 10) : decDigits u = [UInt8.ofNat (48 + u)] := decDigits_one h
theorem dd_big {u : Nat} (h : ¬ u < 10) : decDigits u = decDigits (u / 10) ++ [UInt8.ofNat (48 + u % 10)] := by
  rw [decDigits, dif_neg h]
theorem ofNat_dig {d : Nat} (h : d < 10) : (UInt8.ofNat (48 + d)).toNat = 48 + d := by
  simp; omega
theorem ofNat_isD {d : Nat} (h : d < 10) : isD (UInt8.ofNat (48 + d)) = true := by
  unfold isD; rw [ofNat_dig h]; simp; omega
theorem val_dd (u : Nat) : val (decDigits u) = u := by
  induction u using Nat.strongRecOn with
  | ind u ih =>
    by_cases h : u < 10
    · rw [dd_small h]; simp only [val, List.foldl]; rw [ofNat_dig h]; omega
    · rw [dd_big h, val_snoc, ih (u / 10) (by omega), ofNat_dig (Nat.mod_lt _ (by decide))]; omega
theorem all_dd (u : Nat) : (decDigits u).all isD = true := by
  induction u using Nat.strongRecOn with
  | ind u ih =>
    by_cases h : u < 10
    · rw [dd_small h, List.all_cons, ofNat_isD h]; rfl
    · rw [dd_big h, List.all_append, ih (u / 10) (by omega), List.all_cons, ofNat_isD (Nat.mod_lt u (by decide : 0 < 10))]; rfl
theorem dd_ne (u : Nat) : decDigits u ≠ [] := by
  intro h; have := decDigits_length u; have := nDigits_pos u; rw [h] at *; simp at *; omega
theorem dd_head (u : Nat) (h0 : 0 < u) : (decDigits u).head? ≠ some 48 := by
  induction u using Nat.strongRecOn with
  | ind u ih =>
    by_cases h : u < 10
    · rw [dd_small h]; simp only [List.head?_cons]; intro e
      have := congrArg UInt8.toNat (Option.some.inj e); rw [ofNat_dig h] at this; simp at this; omega
    · rw [dd_big h]
      have := ih (u / 10) (by omega) (by omega)
      have hne := dd_ne (u / 10)
      cases hd : decDigits (u / 10) with
      | nil => exact absurd hd hne
      | cons c l => rw [hd] at this; simpa using this
theorem canon_dd (u : Nat) : canonL (decDigits u) = true := by
  unfold canonL headOk
  rw [all_dd]
  by_cases h : u = 0
  · subst h; rw [dd_small (by decide)]; decide
  · have h1 := dd_ne u; have h2 := dd_head u (by omega)
    have h3 : (decDigits u).isEmpty = false := by simpa using h1
    have h4 : ((decDigits u).head? == some 48) = false := by simpa using h2
    rw [h3, h4]; simp
theorem dd_val_aux : ∀ (n : Nat) (l : List UInt8), l.length = n → canonL l = true → decDigits (val l) = l := by
  intro n
  induction n with
  | zero => intro l hl hc; have : l = [] := by simpa using hl
            subst this; simp [canonL, headOk] at hc
  | succ n ih =>
    intro l hl hc
    obtain ⟨m, c, rfl⟩ : ∃ m c, l = m ++ [c] := by
      refine ⟨l.dropLast, l.getLast (by intro h; rw [h] at hl; simp at hl), (List.dropLast_concat_getLast _).symm⟩
    have hm : m.length = n := by simpa using hl
    have hall : m.all isD = true ∧ isD c = true := by
      unfold canonL at hc; simp only [Bool.and_eq_true, List.all_append, List.all_cons, List.all_nil, Bool.and_true] at hc; exact hc.2
    have hcd := isD_lt hall.2
    have hcc : UInt8.ofNat (48 + (c.toNat - 48)) = c := by
      apply UInt8.toNat_inj.1; rw [ofNat_dig hcd.1]; omega
    rw [val_snoc]
    by_cases hm0 : m = []
    · subst hm0; simp only [val_nil, List.nil_append]
      rw [dd_small (by omega)]; rw [show 10 * 0 + (c.toNat - 48) = c.toNat - 48 by omega, hcc]
    · have hcm : canonL m = true ∧ m ≠ [48] := by
        unfold canonL headOk at hc ⊢
        rw [hall.1]
        cases m with
        | nil => exact absurd rfl hm0
        | cons d m =>
          simp at hc ⊢
          constructor
          · exact Or.inr hc.1
          · intro h; exact absurd h hc.1
      have h1 := ih m hm hcm.1
      have hv : 0 < val m := by
        apply Nat.pos_of_ne_zero; intro h0; rw [h0, dd_small (by decide)] at h1
        exact hcm.2 (by rw [← h1]; decide)
      rw [dd_big (by omega), show (10 * val m + (c.toNat - 48)) / 10 = val m by omega, h1, show (10 * val m + (c.toNat - 48)) % 10 = c.toNat - 48 by omega, hcc]
theorem dd_val {l : List UInt8} (h : canonL l = true) : decDigits (val l) = l := dd_val_aux _ l rfl h

/-- the text of a number -/
def str (a : Nat) : ByteArray := ⟨(decDigits a).toArray⟩
theorem str_list (a : Nat) : (str a).data.toList = decDigits a := by simp [str]
theorem str_of {s : ByteArray} (h : canonL s.data.toList = true) : s = str (val s.data.toList) := by
  unfold str; rw [dd_val h]
theorem str_eq {s : ByteArray} (a : Nat) (h : canonL s.data.toList = true) (hv : val s.data.toList = a) : s = str a := by rw [str_of h, hv]
theorem str_size (a : Nat) : (str a).size = nDigits a := by
  show (str a).data.size = _; rw [← Array.length_toList, str_list, decDigits_length]
theorem str_inj {a b : Nat} (h : str a = str b) : a = b := by
  have := congrArg (fun s : ByteArray => val s.data.toList) h
  simpa [str_list, val_dd] using this
theorem nDigits_le {k a : Nat} (hk : 0 < k) (h : a < 10 ^ k) : nDigits a ≤ k := by
  induction k generalizing a with
  | zero => omega
  | succ k ih =>
    by_cases hs : a < 10
    · rw [nDigits_small hs]; omega
    · rw [nDigits_big hs]
      have hk0 : 0 < k := by
        apply Nat.pos_of_ne_zero; intro e; subst e; simp at h; omega
      have := ih hk0 (a := a / 10) (by rw [Nat.pow_succ] at h; omega)
      omega
theorem pow_nDigits_le {a : Nat} (h0 : 0 < a) : 10 ^ (nDigits a - 1) ≤ a := by
  induction a using Nat.strongRecOn with
  | ind a ih =>
    by_cases hs : a < 10
    · rw [nDigits_small hs]; simp; omega
    · rw [nDigits_big hs]
      have h1 := ih (a / 10) (by omega) (by omega)
      have h2 := nDigits_pos (a / 10)
      rw [show nDigits (a / 10) + 1 - 1 = (nDigits (a / 10) - 1) + 1 by omega, Nat.pow_succ]; omega

/-- the value of pieces of nine digits, the lowest first -/
def pv : List Nat → Nat
  | [] => 0
  | x :: p => x + 1000000000 * pv p
def lt9 (p : List Nat) : Prop := ∀ x ∈ p, x < 1000000000
/-- no piece 0 at the top -/
def top (p : List Nat) : Prop := p.getLast? ≠ some 0
theorem pv_append (p q : List Nat) : pv (p ++ q) = pv p + 1000000000 ^ p.length * pv q := by
  induction p with
  | nil => simp [pv]
  | cons x p ih =>
    simp only [List.cons_append, pv, ih, List.length_cons, Nat.pow_succ]
    rw [Nat.mul_add, ← Nat.mul_assoc, Nat.mul_comm (1000000000 ^ p.length) 1000000000]; omega
theorem pv_snoc (p : List Nat) (x : Nat) : pv (p ++ [x]) = pv p + 1000000000 ^ p.length * x := by
  rw [pv_append]; simp [pv]
theorem pv_lt (p : List Nat) (h : lt9 p) : pv p < 1000000000 ^ p.length := by
  induction p with
  | nil => simp [pv]
  | cons x p ih =>
    have h1 := ih (fun y hy => h y (List.mem_cons_of_mem _ hy))
    have h2 := h x (List.mem_cons_self ..)
    simp only [pv, List.length_cons, Nat.pow_succ]
    have : 1000000000 * (pv p + 1) ≤ 1000000000 * 1000000000 ^ p.length := Nat.mul_le_mul_left _ h1
    omega
theorem lt9_snoc {p : List Nat} {x : Nat} (h : lt9 p) (hx : x < 1000000000) : lt9 (p ++ [x]) := by
  intro y hy; simp only [List.mem_append, List.mem_singleton] at hy
  rcases hy with hy | hy
  · exact h y hy
  · omega
/-- trim: the list without zeros at its end -/
def trimP (p : List Nat) : List Nat := (p.reverse.dropWhile (· == 0)).reverse
theorem trimP_snoc0 (p : List Nat) : trimP (p ++ [0]) = trimP p := by simp [trimP]
theorem trimP_snoc {p : List Nat} {x : Nat} (h : x ≠ 0) : trimP (p ++ [x]) = p ++ [x] := by
  simp only [trimP, List.reverse_append, List.reverse_cons, List.reverse_nil, List.nil_append, List.singleton_append, List.dropWhile]
  have : (x == 0) = false := by simpa using h
  rw [this]; simp
theorem snoc_cases (p : List Nat) : p = [] ∨ ∃ q x, p = q ++ [x] := by
  rcases List.eq_nil_or_concat p with h | ⟨q, x, h⟩
  · exact Or.inl h
  · exact Or.inr ⟨q, x, by simpa using h⟩
theorem trimP_props (p : List Nat) : pv (trimP p) = pv p ∧ top (trimP p) ∧ (lt9 p → lt9 (trimP p)) ∧ (trimP p).length ≤ p.length ∧ trimP p = p.take (trimP p).length := by
  generalize hn : p.length = n
  induction n generalizing p with
  | zero => have : p = [] := by simpa using hn
            subst this; simp [trimP, top]
  | succ n ih =>
    rcases snoc_cases p with rfl | ⟨q, x, rfl⟩
    · simp at hn
    · have hq : q.length = n := by simpa using hn
      by_cases hx : x = 0
      · subst hx
        obtain ⟨h1, h2, h3, h4, h5⟩ := ih q hq
        rw [trimP_snoc0]
        refine ⟨by rw [h1, pv_snoc]; omega, h2, fun h => h3 fun y hy => h y (by simp [hy]), by omega, ?_⟩
        rw [List.take_append_of_le_length (by omega)]; exact h5
      · rw [trimP_snoc hx]
        refine ⟨rfl, ?_, id, by simp; omega, (List.take_of_length_le (Nat.le_refl _)).symm⟩
        simp [top, hx]
theorem pv_zero {p : List Nat} (ht : top p) (h : pv p = 0) : p = [] := by
  rcases snoc_cases p with rfl | ⟨q, x, rfl⟩
  · rfl
  · rw [pv_snoc] at h
    have h1 : 1000000000 ^ q.length * x = 0 := by omega
    have h2 : 0 < 1000000000 ^ q.length := Nat.pow_pos (by decide)
    have h3 : x = 0 := by
      rcases Nat.mul_eq_zero.1 h1 with h | h
      · omega
      · exact h
    subst h3; simp [top] at ht
/-- pieces of a number -/
structure Pcs (p : List Nat) (a : Nat) : Prop where
  val : pv p = a
  lt : lt9 p
  top : top p
theorem Pcs.of_trim {p : List Nat} (h : lt9 p) : Pcs (trimP p) (pv p) := ⟨(trimP_props p).1, (trimP_props p).2.2.1 h, (trimP_props p).2.1⟩
theorem Pcs.nil : Pcs [] 0 := ⟨rfl, by simp [lt9], by simp [Go.Proofs.YtdgbplppabalgaaGreatDoor.top]⟩
theorem Pcs.len_lower {p : List Nat} {a : Nat} (h : Pcs p a) (hne : p ≠ []) : 1000000000 ^ (p.length - 1) ≤ a := by
  rcases snoc_cases p with rfl | ⟨q, x, rfl⟩
  · exact absurd rfl hne
  · rw [← h.val, pv_snoc]
    have ht := h.top
    have hx : x ≠ 0 := by intro e; subst e; simp [Go.Proofs.YtdgbplppabalgaaGreatDoor.top] at ht
    have : 1000000000 ^ q.length * 1 ≤ 1000000000 ^ q.length * x := Nat.mul_le_mul_left _ (by omega)
    simp at this ⊢; omega


theorem pow9 (k : Nat) : (10 : Nat) ^ (9 * k) = 1000000000 ^ k := by rw [Nat.pow_mul]
/-- a round of cut -/
theorem cut_step (l : List UInt8) (e : Nat) (he : e ≤ l.length) (p : List Nat) (hp : pv p = val (l.drop e)) (hk : l.length - e = 9 * p.length) :
    pv (p ++ [val ((l.take e).drop (e - 9))]) = val (l.drop (e - 9)) := by
  have h : l.drop (e - 9) = (l.take e).drop (e - 9) ++ l.drop e := by
    conv => lhs; rw [← List.take_append_drop e l]
    rw [List.drop_append_of_le_length (by rw [List.length_take]; omega)]
  rw [h, val_append, pv_snoc, hp, List.length_drop, hk, pow9, Nat.mul_comm]; omega
/-- the lowest j digits of x -/
def ld (x : Nat) : Nat → List UInt8
  | 0 => []
  | j + 1 => dg x j :: ld x j
theorem ld_len (x j : Nat) : (ld x j).length = j := by induction j with
  | zero => rfl
  | succ j ih => simp [ld, ih]
theorem dg_nat (x j : Nat) : (dg x j).toNat = 48 + x / 10 ^ j % 10 := ofNat_dig (Nat.mod_lt _ (by decide))
theorem dg_isD (x j : Nat) : isD (dg x j) = true := ofNat_isD (Nat.mod_lt _ (by decide))
theorem ld_val (x j : Nat) : val (ld x j) = x % 10 ^ j := by
  induction j with
  | zero => simp [ld, val]; omega
  | succ j ih =>
    rw [ld, val_cons, dg_nat, ld_len, ih, Nat.pow_succ, Nat.mod_mul]
    rw [show 48 + x / 10 ^ j % 10 - 48 = x / 10 ^ j % 10 by omega, Nat.mul_comm]; omega
theorem ld_all (x j : Nat) : (ld x j).all isD = true := by
  induction j with
  | zero => rfl
  | succ j ih => simp only [ld, List.all_cons, ih, dg_isD]; rfl
/-- all digits of pieces -/
def joinL : List Nat → List UInt8
  | [] => []
  | x :: p => joinL p ++ ld x 9
theorem joinL_len (p : List Nat) : (joinL p).length = 9 * p.length := by
  induction p with
  | nil => rfl
  | cons x p ih => simp [joinL, ih, ld_len]; omega
theorem joinL_val (p : List Nat) (h : lt9 p) : val (joinL p) = pv p := by
  induction p with
  | nil => rfl
  | cons x p ih =>
    have h2 := h x (List.mem_cons_self ..)
    rw [joinL, val_append, ld_len, ld_val, ih (fun y hy => h y (List.mem_cons_of_mem _ hy)), Nat.mod_eq_of_lt (by omega), pv]; omega
theorem joinL_all (p : List Nat) : (joinL p).all isD = true := by
  induction p with
  | nil => rfl
  | cons x p ih => simp only [joinL, List.all_append, ih, ld_all]; rfl
theorem joinL_snoc (p : List Nat) (x : Nat) : joinL (p ++ [x]) = ld x 9 ++ joinL p := by
  induction p with
  | nil => simp [joinL]
  | cons y p ih => simp only [List.cons_append, joinL, ih, List.append_assoc]
theorem val_drop0 (l : List UInt8) : val (l.dropWhile (· == 48)) = val l := by
  induction l with
  | nil => rfl
  | cons c l ih =>
    by_cases h : c = 48
    · subst h; rw [List.dropWhile_cons_of_pos (by simp), ih, val_cons]; simp
    · rw [List.dropWhile_cons_of_neg (by simpa using h)]
theorem all_drop0 (l : List UInt8) (h : l.all isD = true) : (l.dropWhile (· == 48)).all isD = true := by
  induction l with
  | nil => rfl
  | cons c l ih =>
    simp only [List.all_cons, Bool.and_eq_true] at h
    by_cases hc : c = 48
    · subst hc; rw [List.dropWhile_cons_of_pos (by simp)]; exact ih h.2
    · rw [List.dropWhile_cons_of_neg (by simpa using hc)]; simp only [List.all_cons, h.1, h.2]; rfl
theorem head_drop0 (l : List UInt8) : (l.dropWhile (· == 48)).head? ≠ some 48 := by
  induction l with
  | nil => simp
  | cons c l ih =>
    by_cases hc : c = 48
    · subst hc; rw [List.dropWhile_cons_of_pos (by simp)]; exact ih
    · rw [List.dropWhile_cons_of_neg (by simpa using hc)]; simpa using hc
theorem canon_drop0 {l : List UInt8} (h : l.all isD = true) (hv : 0 < val l) : l.dropWhile (· == 48) = decDigits (val l) := by
  rw [← val_drop0 l] at hv ⊢
  refine (dd_val ?_).symm
  unfold canonL headOk
  rw [all_drop0 l h]
  have h1 := head_drop0 l
  have h2 : (l.dropWhile (· == 48)).isEmpty = false := by
    cases e : l.dropWhile (· == 48) with
    | nil => rw [e] at hv; simp [val] at hv
    | cons _ _ => rfl
  have h3 : ((l.dropWhile (· == 48)).head? == some 48) = false := by simpa using h1
  rw [h2, h3]; simp
/-- join's digits, without the zeros at the beginning -/
theorem joinL_canon {p : List Nat} {a : Nat} (h : Pcs p a) (h0 : p ≠ []) : (joinL p).dropWhile (· == 48) = decDigits a := by
  have h1 := joinL_val p h.lt
  rw [h.val] at h1
  rw [← h1]
  refine canon_drop0 (joinL_all p) ?_
  rw [h1]
  apply Nat.pos_of_ne_zero; intro e
  exact h0 (pv_zero h.top (by rw [h.val, e]))

theorem pv_set {l : List Nat} {k : Nat} (v : Nat) (hk : k < l.length) : pv (l.set k v) + 1000000000 ^ k * l[k] = pv l + 1000000000 ^ k * v := by
  induction l generalizing k with
  | nil => simp at hk
  | cons x l ih =>
    cases k with
    | zero => simp [pv]; omega
    | succ k =>
      have h := ih (k := k) (by simpa using hk)
      simp only [List.set_cons_succ, pv, List.getElem_cons_succ, Nat.pow_succ]
      rw [Nat.mul_comm (1000000000 ^ k) 1000000000, Nat.mul_assoc, Nat.mul_assoc]; omega
theorem pv_take_succ {l : List Nat} {k : Nat} (hk : k < l.length) : pv (l.take (k + 1)) = pv (l.take k) + 1000000000 ^ k * l[k] := by
  rw [List.take_succ_eq_append_getElem hk, pv_snoc, List.length_take, Nat.min_eq_left (by omega)]
theorem pv_replicate (n : Nat) : pv (List.replicate n 0) = 0 := by
  induction n with
  | zero => rfl
  | succ n ih => rw [List.replicate_succ, pv, ih]
theorem lt9_replicate (n : Nat) : lt9 (List.replicate n 0) := by
  intro x hx; rw [List.mem_replicate] at hx; omega
theorem lt9_set {l : List Nat} {k v : Nat} (h : lt9 l) (hv : v < 1000000000) : lt9 (l.set k v) := by
  intro x hx
  rcases List.mem_or_eq_of_mem_set hx with h1 | h1
  · exact h x h1
  · omega
theorem lt9_at {l : List Nat} (h : lt9 l) (k : Nat) (hk : k < l.length) : l[k] < 1000000000 := h _ (List.getElem_mem hk)
theorem lt9_take {l : List Nat} (h : lt9 l) (k : Nat) : lt9 (l.take k) := fun x hx => h x (List.mem_of_mem_take hx)
theorem lt9_drop {l : List Nat} (h : lt9 l) (k : Nat) : lt9 (l.drop k) := fun x hx => h x (List.mem_of_mem_drop hx)
/-- division by a short number, from the highest piece on -/
def divS (n : Nat) : List Nat → List Nat × Nat
  | [] => ([], 0)
  | x :: p => (((divS n p).2 * 1000000000 + x) / n :: (divS n p).1, ((divS n p).2 * 1000000000 + x) % n)
theorem divS_len (n : Nat) (p : List Nat) : (divS n p).1.length = p.length := by
  induction p with
  | nil => rfl
  | cons x p ih => simp [divS, ih]
theorem divS_props (n : Nat) (hn : 0 < n) (p : List Nat) : pv (divS n p).1 * n + (divS n p).2 = pv p ∧ (divS n p).2 < n := by
  induction p with
  | nil => exact ⟨by simp [divS, pv], hn⟩
  | cons x p ih =>
    refine ⟨?_, Nat.mod_lt _ hn⟩
    simp only [divS, pv]
    have h1 := Nat.div_add_mod ((divS n p).2 * 1000000000 + x) n
    rw [Nat.add_mul]
    have h2 : 1000000000 * pv (divS n p).1 * n = 1000000000 * (pv (divS n p).1 * n) := Nat.mul_assoc ..
    rw [h2]
    have h3 : ((divS n p).2 * 1000000000 + x) / n * n = n * (((divS n p).2 * 1000000000 + x) / n) := Nat.mul_comm ..
    rw [h3]; omega
theorem divS_lt9 (n : Nat) (hn : 0 < n) (p : List Nat) (h : lt9 p) : lt9 (divS n p).1 := by
  induction p with
  | nil => intro x hx; simp [divS] at hx
  | cons x p ih =>
    have h1 := (divS_props n hn p).2
    have h2 := h x (List.mem_cons_self ..)
    have h3 := ih (fun y hy => h y (List.mem_cons_of_mem _ hy))
    intro y hy
    simp only [divS, List.mem_cons] at hy
    rcases hy with rfl | hy
    · rw [Nat.div_lt_iff_lt_mul hn]
      have : ((divS n p).2 + 1) * 1000000000 ≤ n * 1000000000 := Nat.mul_le_mul_right _ h1
      rw [Nat.mul_comm 1000000000 n]; omega
    · exact h3 y hy
theorem divS_drop (n : Nat) (p : List Nat) (k : Nat) (hk : k < p.length) :
    divS n (p.drop k) = (((divS n (p.drop (k + 1))).2 * 1000000000 + p[k]) / n :: (divS n (p.drop (k + 1))).1, ((divS n (p.drop (k + 1))).2 * 1000000000 + p[k]) % n) := by
  rw [List.drop_eq_getElem_cons hk]; rfl
theorem Pcs.short {p : List Nat} {a : Nat} (h : Pcs p a) (ha : a < 1000000000 ^ 2) : p.length ≤ 2 := by
  apply Nat.le_of_not_lt; intro hl
  have hne : p ≠ [] := by intro e; subst e; simp at hl
  have h1 := h.len_lower hne
  have h2 : (1000000000 : Nat) ^ 2 ≤ 1000000000 ^ (p.length - 1) := Nat.pow_le_pow_right (by decide) (by omega)
  omega

theorem pum : ∀ (l : List UInt8) (acc : Nat), l.all isD = true → acc < 18446744073709551616 →
    parseUintM (2 ^ 64 - 1) acc l = if acc * 10 ^ l.length + val l < 18446744073709551616 then .ok (acc * 10 ^ l.length + val l) else .range := by
  intro l
  induction l with
  | nil => intro acc _ ha; simp [parseUintM, val]; omega
  | cons c l ih =>
    intro acc hd ha
    simp only [List.all_cons, Bool.and_eq_true] at hd
    have hc := isD_lt hd.1
    have e1 : (c :: l).length = l.length + 1 := rfl
    have e2 : acc * 10 ^ (l.length + 1) + val (c :: l) = (acc * 10 + (c.toNat - 48)) * 10 ^ l.length + val l := by
      rw [val_cons, Nat.pow_succ, Nat.add_mul, Nat.mul_comm (10 ^ l.length) 10, ← Nat.mul_assoc]; omega
    have hp : 1 ≤ 10 ^ l.length := Nat.pow_pos (by decide)
    rw [e1, e2, parseUintM, if_pos ⟨hc.2.1, hc.2.2⟩]
    by_cases h1 : 1844674407370955162 ≤ acc
    · rw [if_pos h1, if_neg]
      have : (acc * 10 + (c.toNat - 48)) * 1 ≤ (acc * 10 + (c.toNat - 48)) * 10 ^ l.length := Nat.mul_le_mul_left _ hp
      omega
    · rw [if_neg h1]
      by_cases h2 : 2 ^ 64 - 1 < acc * 10 + (c.toNat - 48)
      · rw [if_pos h2, if_neg]
        have : (acc * 10 + (c.toNat - 48)) * 1 ≤ (acc * 10 + (c.toNat - 48)) * 10 ^ l.length := Nat.mul_le_mul_left _ hp
        omega
      · rw [if_neg h2]; exact ih _ hd.2 (by omega)
theorem parse_str (a : Nat) : parseUintB 64 (str a).data.toList = if a < 18446744073709551616 then .ok a else .range := by
  unfold parseUintB
  rw [str_list, if_neg (dd_ne a), pum _ _ (all_dd a) (by omega), val_dd]; simp
/-! the arithmetic of math/bits.Div64 -/
theorem dv_id {q a b r u : Nat} (h : q * a + r = u) : q * (a * 4294967296 + b) + r * 4294967296 = u * 4294967296 + q * b := by
  rw [← h, Nat.mul_add, Nat.add_mul, ← Nat.mul_assoc]; omega
/-- a guess of a digit: u: what is left, v: the next half word, a, b: the halves of the divisor -/
structure Dv (u v a b q r : Nat) : Prop where
  eq : q * a + r = u
  ge : (u * 4294967296 + v) / (a * 4294967296 + b) ≤ q
  le : q ≤ 4294967297
structure DvIn (u v a b : Nat) : Prop where
  a0 : 2147483648 ≤ a
  a1 : a < 4294967296
  b1 : b < 4294967296
  v1 : v < 4294967296
  u1 : u < a * 4294967296 + b
theorem Dv.start {u v a b : Nat} (h : DvIn u v a b) : Dv u v a b (u / a) (u - u / a * a) := by
  obtain ⟨h1, h2, h3, h4, h5⟩ := h
  have e := Nat.div_add_mod u a
  have m := Nat.mod_lt u (show 0 < a by omega)
  have c : u / a * a = a * (u / a) := Nat.mul_comm ..
  refine ⟨by omega, ?_, ?_⟩
  · apply Nat.le_of_lt_succ
    rw [Nat.div_lt_iff_lt_mul (by omega)]
    have k : (u / a + 1) * a = a * (u / a) + a := by rw [Nat.add_mul, c]; omega
    have k2 : (u + 1) * 4294967296 ≤ (u / a + 1) * a * 4294967296 := Nat.mul_le_mul_right _ (by omega)
    have k3 : (u / a + 1) * (a * 4294967296 + b) = (u / a + 1) * a * 4294967296 + (u / a + 1) * b := by rw [Nat.mul_add, Nat.mul_assoc]
    rw [Nat.succ_eq_add_one, k3]; omega
  · apply Nat.le_of_lt_succ
    rw [Nat.succ_eq_add_one, Nat.div_lt_iff_lt_mul (by omega)]; omega
theorem DvIn.lt {u v a b : Nat} (h : DvIn u v a b) : (u * 4294967296 + v) / (a * 4294967296 + b) < 4294967296 := by
  obtain ⟨h1, h2, h3, h4, h5⟩ := h
  rw [Nat.div_lt_iff_lt_mul (by omega)]; omega
theorem Dv.step {u v a b q r : Nat} (hi : DvIn u v a b) (h : Dv u v a b q r) (hc : 4294967296 ≤ q ∨ 4294967296 * r + v < q * b) :
    1 ≤ q ∧ Dv u v a b (q - 1) (r + a) := by
  have hl := hi.lt
  have id := dv_id (b := b) h.eq
  obtain ⟨h1, h2, h3⟩ := h
  have hq : 1 ≤ q := by
    rcases hc with h | h
    · omega
    · apply Nat.pos_of_ne_zero; intro e; rw [e] at h; omega
  obtain ⟨p, rfl⟩ : ∃ p, q = p + 1 := ⟨q - 1, by omega⟩
  refine ⟨hq, by rw [Nat.add_mul] at h1; simp; omega, ?_, by omega⟩
  rcases hc with h | h
  · simp; omega
  · have : (u * 4294967296 + v) / (a * 4294967296 + b) < p + 1 := by
      rw [Nat.div_lt_iff_lt_mul (by have := hi.a0; omega)]; omega
    simp; omega
theorem Dv.exit {u v a b q r : Nat} (hi : DvIn u v a b) (h : Dv u v a b q r) (hc : q * b ≤ 4294967296 * r + v) :
    q = (u * 4294967296 + v) / (a * 4294967296 + b) := by
  have id := dv_id (b := b) h.eq
  have h0 := hi.a0
  apply Nat.le_antisymm _ h.ge
  rw [Nat.le_div_iff_mul_le (by omega)]; omega
theorem Dv.exit2 {u v a b q r : Nat} (hi : DvIn u v a b) (h : Dv u v a b q r) (hq : q ≤ 4294967296) (hr : 4294967296 ≤ r) :
    q = (u * 4294967296 + v) / (a * 4294967296 + b) := by
  have h1 := hi.b1
  have h2 : q * b ≤ 4294967296 * b := Nat.mul_le_mul_right _ hq
  have h3 : 4294967296 * b ≤ 4294967296 * r := Nat.mul_le_mul_left _ (by omega)
  exact h.exit hi (by omega)
/-- both digits together -/
theorem dv_two {n w y : Nat} (hy : 0 < y) :
    n / y * 4294967296 + (n % y * 4294967296 + w) / y = (n * 4294967296 + w) / y ∧ (n % y * 4294967296 + w) % y = (n * 4294967296 + w) % y := by
  have e := Nat.div_add_mod n y
  have k : n * 4294967296 + w = (n % y * 4294967296 + w) + y * (n / y * 4294967296) := by
    conv => lhs; rw [← e]
    rw [Nat.add_mul, Nat.mul_assoc]; omega
  constructor
  · rw [k, Nat.add_mul_div_left _ _ hy]; exact Nat.add_comm _ _
  · rw [k, Nat.add_mul_mod_self_left]
theorem dv_shift {n y k : Nat} (hk : 0 < k) : n * k / (y * k) = n / y ∧ n * k % (y * k) / k = n % y := by
  refine ⟨Nat.mul_div_mul_right _ _ hk, ?_⟩
  rw [Nat.mul_mod_mul_right, Nat.mul_div_cancel _ hk]
end Go.Proofs.YtdgbplppabalgaaGreatDoor

namespace Go.Proofs.YtdgbplppabalgaaGreatDoor
open Go.RowKit

theorem ret_bool {a b : Bool} (h : a = b) : Ending.returned (.bool a) = Ending.returned (.bool b) := by rw [h]
theorem ret_int {k : IntKind} {a b : Int} (h : a = b) : Ending.returned (.int k a) = Ending.returned (.int k b) := by rw [h]
theorem ret_str {a b : ByteArray} (h : a = b) : Ending.returned (.string a) = Ending.returned (.string b) := by rw [h]
theorem tl (s : ByteArray) : s.toList = s.data.toList := Lib.toList_data s
theorem len_list (s : ByteArray) : s.data.toList.length = s.size := (Lib.size_eq s).symm
theorem at_list (s : ByteArray) (k : Nat) (h : k < s.size) : s.data.toList[k]'(by rw [len_list]; exact h) = s[k]'h := by simp; rfl
theorem hd1 {s : ByteArray} (h : 0 < s.size) : headOk s.data.toList = (s.toList == [48] || ((s[0]'h).toNat : Int) != 48) := by
  rw [tl]
  have e : s.data.toList[0]? = some (s[0]'h) := by rw [List.getElem?_eq_getElem (by rw [len_list]; exact h), at_list s 0 h]
  cases hl : s.data.toList with
  | nil => have := len_list s; rw [hl] at this; simp at this; omega
  | cons c l =>
    rw [hl] at e
    have e2 : c = s[0]'h := by simpa using e
    rw [← e2]
    unfold headOk
    have e3 : (((c.toNat : Int)) != 48) = !(c == 48) := by
      rw [Bool.eq_iff_iff]; simp [← UInt8.toNat_inj]; omega
    simp [e3]
theorem hd2 {s : ByteArray} (h : ¬ 0 < s.size) : headOk s.data.toList = (s.toList == [48]) := by
  rw [tl]
  cases hl : s.data.toList with
  | nil => rfl
  | cons c l => have := len_list s; rw [hl] at this; simp at this; omega
theorem hd0 {s : ByteArray} (h : s.toList = [48]) : headOk s.data.toList = true := by
  rw [tl] at h; rw [h]; rfl
theorem take_all (s : ByteArray) (k : Nat) (h : k < s.size) : (s.data.toList.take (k + 1)).all isD = ((s.data.toList.take k).all isD && isD (s[k]'h)) := by
  rw [List.take_succ_eq_append_getElem (by rw [len_list]; exact h), List.all_append, at_list s k h]; simp
theorem take_val (s : ByteArray) (k : Nat) (h : k < s.size) : val (s.data.toList.take (k + 1)) = 10 * val (s.data.toList.take k) + ((s[k]'h).toNat - 48) := by
  rw [List.take_succ_eq_append_getElem (by rw [len_list]; exact h), val_snoc, at_list s k h]
theorem take_all_len (s : ByteArray) (k : Nat) (h : s.size ≤ k) : s.data.toList.take k = s.data.toList := List.take_of_length_le (by rw [len_list]; exact h)
theorem all_take_false {s : ByteArray} {k : Nat} (h : k < s.size) (hd : isD (s[k]'h) = false) : s.data.toList.all isD = false := by
  rw [← List.take_append_drop (k + 1) s.data.toList, List.all_append, take_all s k h, hd]; simp
set_option maxHeartbeats 400000 in
theorem begins_any (s : ByteArray) (w : World) :
    Calls Tryz.prog 182 #[.string s] w fun e w' => e = .returned (.bool (headOk s.data.toList)) ∧ w = w' := by
  go_enter Tryz.func182, Tryz.ntmps182
  go_wp2
  all_goals go_ret
  · exact ⟨ret_bool (hd0 (by assumption)).symm, rfl⟩
  · exact ⟨ret_bool (hd1 (by assumption)).symm, rfl⟩
  · exact ⟨ret_bool (hd2 (by assumption)).symm, rfl⟩

set_option maxHeartbeats 800000 in
/-- the loop over the digits, for strings that begin well -/
theorem canonical_any (s : ByteArray) (w : World) (hs : s.size ≤ 9223372036854775806) :
    Calls Tryz.prog 150 #[.string s] w fun e w' => e = .returned (.bool (canonL s.data.toList)) ∧ w = w' := by
  cases hb : headOk s.data.toList with
  | false =>
    have hc : canonL s.data.toList = false := by unfold canonL; rw [hb]; rfl
    have HC := Lib.hid hc
    have HB := Lib.hid hb
    clear hc hb
    go_enter Tryz.func150, Tryz.ntmps150
    go_wp2_with (go_at_call 182; refine (begins_any _ _).mono ?_; rintro e w' ⟨rfl, rfl⟩; rw [HB.out])
    go_ret
    exact ⟨ret_bool HC.out.symm, rfl⟩
  | true =>
    have hc : canonL s.data.toList = s.data.toList.all isD := by unfold canonL; rw [hb]; simp
    have HC := Lib.hid hc
    have HB := Lib.hid hb
    clear hc hb
    go_enter Tryz.func150, Tryz.ntmps150
    go_wp2_with (go_at_call 182; refine (begins_any _ _).mono ?_; rintro e w' ⟨rfl, rfl⟩; rw [HB.out])
    go_loop [3, 9] (fun _ i => ∃ k : Nat, k ≤ s.size ∧ i = .int .i64 k ∧ Hid ((s.data.toList.take k).all isD = true)) (fun _ i => s.size - (intOf i).toNat)
    case atStart => exact ⟨0, Nat.zero_le _, rfl, rfl⟩
    case round =>
      obtain ⟨k, hk, rfl, HA⟩ := hrel
      by_cases hlt : k < s.size
      · have hta := take_all s k hlt
        cases hd : isD (s[k]'hlt) with
        | true =>
          have h1 := isD_lt hd
          have HT := Lib.hid hta
          have HD := Lib.hid hd
          have g1 : 48 ≤ (s[k].toNat : Int) := by omega
          have g2 : (s[k].toNat : Int) ≤ 57 := by omega
          clear hta hd h1
          go_wp2
          all_goals go_round
          case rel => exact ⟨k + 1, by omega, by go_num, by show _ = true; rw [HT.out, HA.out, HD.out]; rfl⟩
          case measure => simp [intOf]; omega
        | false =>
          have hf := all_take_false hlt hd
          have HF := Lib.hid hf
          have h1 : (s[k].toNat : Int) < 48 ∨ (57 : Int) < s[k].toNat := by simp [isD] at hd; omega
          clear hf hd hta
          rcases h1 with h1 | h1
          · go_wp2
            go_ret
            exact ⟨ret_bool (by rw [HC.out, HF.out]), rfl⟩
          · go_wp2
            go_ret
            exact ⟨ret_bool (by rw [HC.out, HF.out]), rfl⟩
      · go_wp2
        go_ret
        exact ⟨ret_bool (by rw [HC.out, ← take_all_len s k (by omega)]; exact HA.out.symm), rfl⟩
end Go.Proofs.YtdgbplppabalgaaGreatDoor

namespace Go.Proofs.YtdgbplppabalgaaGreatDoor
open Go.RowKit Go.Sort

theorem var_below {P : Program} {w w' : World} {n : String} {cs : Array Value} (h : w.var? P n = some cs) (hb : Below w.heap.size w w') : w'.var? P n = some cs := by
  unfold World.var? at h ⊢
  cases hg : P.globalNamed n with
  | none => rw [hg] at h; cases h
  | some g =>
    rw [hg] at h
    simp only [Option.bind_some] at h ⊢
    have hlt : g < w.heap.size := by
      apply Nat.lt_of_not_le; intro hle
      rw [Array.getElem?_eq_none hle] at h; simp at h
    rw [hb.block g hlt]; exact h
/-- what the contracts ask of the world: the table of powers, and the variable ErrRange -/
structure Std (w : World) : Prop where
  tab : Lib.TabIs Tryz.prog w "internal/strconv.uint64pow10" .u64 Lib.pow10Tab
  rng : ∃ tp p, w.var? Tryz.prog "strconv.ErrRange" = some #[.iface tp p]
theorem Std.below {w w' : World} (h : Std w) (hb : Below w.heap.size w w') : Std w' :=
  ⟨var_below h.tab hb, by obtain ⟨tp, p, h2⟩ := h.rng; exact ⟨tp, p, var_below h2 hb⟩⟩
theorem Std.alloc {w : World} (h : Std w) (o : Obj) : Std (w.alloc o) := h.below ((Below.refl _ _).alloc (Nat.le_refl _) o)

theorem zero_row (w : World) (T : TypeId) (nd : Nat) (hs : nd ≤ 24) : Holds (fun (b : UInt8) => Value.int .u8 (b.toNat : Int)) (w.alloc (.cells Lib.zeros24 T)) w.heap.size 0 (Array.replicate nd (0 : UInt8)) := fun j hj => by
  have hj' : j < nd := by simpa using hj
  refine ⟨?_, World.frozen?_alloc_new _ _ _ _⟩
  rw [World.cell?_alloc_new, Lib.zeros24_at _ (by omega), getElem!_pos _ j hj]
  simp
theorem fmt_fin (w : World) (o : Obj) (dk : Array UInt8) (k : Nat) : Below w.heap.size w ((putRow (fun (b : UInt8) => Value.int .u8 (b.toNat : Int)) (w.alloc o) w.heap.size 0 dk).drewN k) := by
  have e : ∃ os, (putRow (fun (b : UInt8) => Value.int .u8 (b.toNat : Int)) (w.alloc o) w.heap.size 0 dk).drewN k = grow (w.drewN k) os := by
    rw [alloc_eq_grow]
    obtain ⟨os', _, e⟩ := putRow_grow_new (fun (b : UInt8) => Value.int .u8 (b.toNat : Int)) w #[o] w.heap.size 0 dk (Nat.le_refl _)
    exact ⟨os', by rw [e]; rfl⟩
  obtain ⟨os, e⟩ := e
  rw [e]; exact Lib.below_grow _ _ (Nat.le_refl _) _ _

set_option maxHeartbeats 1600000 in
set_option maxRecDepth 100000 in
theorem formatUint_inner (u : Nat) (hu64 : u < 18446744073709551616) (w : World) (hs : Std w) :
    Calls Tryz.prog 204 #[.int .u64 u, .int .i64 10] w fun e w' => e = .returned (.string (str u)) ∧ Below w.heap.size w w' := by
  by_cases h100 : u < 100
  · go_enter Tryz.func204, Tryz.ntmps204
    go_wp2_with (go_at_call 191; refine (Tryz.internal_strconv_small u h100 _).mono ?_; rintro e w' ⟨rfl, rfl⟩)
    go_ret
    exact ⟨rfl, Below.refl _ _⟩
  · have hu1 : 1 ≤ u := by omega
    have htab := hs.tab
    have hnd20 : Lib.nDigits u ≤ 20 := Lib.nDigits_le20 u hu64
    have hal : Tryz.prog.arrayLen 197 = 24 := by kernel_rfl
    have hel : Tryz.prog.elem 197 = 5 := by kernel_rfl
    have hsl1 : ∀ W, (Instr.sliceAt 197 (.pointer (some ⟨w.heap.size, 0, none⟩)) none (some (.int .i64 (Lib.nDigits u : Int))) none).run Tryz.prog W = .ok (.slice (some ⟨w.heap.size, 0, none⟩) (Lib.nDigits u) 24) W := fun W => by
      rw [run_sliceAt_array_h W 197 ⟨w.heap.size, 0, none⟩ (by rw [hal, hel]; exact Tryz.underlying197) .i64 (Lib.nDigits u : Int) (by omega) (by rw [hal]; omega), hal]
      go_simp
    have hH0 := zero_row w 197 (Lib.nDigits u) (by omega)
    have hfmt := Tryz.internal_strconv_formatBase10 w.heap.size 0 24 u (Array.replicate (Lib.nDigits u) 0) (w.alloc (.cells Lib.zeros24 197)) hH0 (by rw [Array.size_replicate]; exact Lib.lt_pow_nDigits u) hu64 (by rw [Array.size_replicate]; omega)
    rw [Array.size_replicate] at hfmt
    have HH0 := Lib.hid hH0
    clear hH0 hal hel
    go_enter Tryz.func204, Tryz.ntmps204
    go_wp2_with (first
      | (go_at_call 192; refine (Tryz.internal_strconv_numDigits u hu1 hu64 _ (Lib.tabIs_alloc htab _)).mono ?_; rintro e w' ⟨rfl, rfl⟩))
    go_at_call 193
    refine hfmt.mono ?_
    rintro e w' ⟨rfl, k, v', dk, rfl, hF⟩
    have hcv : (convert 98 9 (.slice (some ⟨w.heap.size, 0, none⟩) (Lib.nDigits u) 24)).run Tryz.prog ((putRow (fun (b : UInt8) => Value.int .u8 (b.toNat : Int)) (w.alloc (.cells Lib.zeros24 197)) w.heap.size 0 dk).drewN k) = .ok (.string ⟨(Lib.decDigits u).toArray⟩) ((putRow (fun (b : UInt8) => Value.int .u8 (b.toNat : Int)) (w.alloc (.cells Lib.zeros24 197)) w.heap.size 0 dk).drewN k) := by
      have h := run_convert_bytes_back (P := Tryz.prog) ((putRow (fun (b : UInt8) => Value.int .u8 (b.toNat : Int)) (w.alloc (.cells Lib.zeros24 197)) w.heap.size 0 dk).drewN k) 98 9 5 ⟨w.heap.size, 0, none⟩ 24 (Lib.decDigits u) Tryz.underlying98 Tryz.underlying5 Tryz.underlying9 (fun j hj => by
        rw [Lib.row_is_numeral hF j hj, Lib.add_plain, World.cell?_drewN]
        exact cell?_putRow (fun (b : UInt8) => Value.int .u8 (b.toNat : Int)) _ w.heap.size 0 _ dk HH0.out (by rw [hF.size, Array.size_replicate]) j (by rw [hF.size]; rw [Lib.decDigits_length] at hj; exact hj))
      rw [Lib.decDigits_length] at h
      exact h
    go_wp2
    go_ret
    exact ⟨rfl, fmt_fin w _ dk k⟩

set_option maxHeartbeats 400000 in
theorem formatUint (u : Nat) (hu64 : u < 18446744073709551616) (w : World) (hs : Std w) :
    Calls Tryz.prog 183 #[.int .u64 u, .int .i64 10] w fun e w' => e = .returned (.string (str u)) ∧ Below w.heap.size w w' := by
  go_enter Tryz.func183, Tryz.ntmps183
  go_wp2_with (go_at_call 204; refine (formatUint_inner u hu64 _ hs).mono ?_; rintro e w' ⟨rfl, hb⟩)
  go_ret
  exact ⟨rfl, hb⟩
set_option maxHeartbeats 400000 in
theorem of_any (u : Nat) (hu64 : u < 18446744073709551616) (w : World) (hs : Std w) :
    Calls Tryz.prog 152 #[.int .u64 u] w fun e w' => e = .returned (.string (str u)) ∧ Below w.heap.size w w' := by
  go_enter Tryz.func152, Tryz.ntmps152
  go_wp2_with (go_at_call 183; refine (formatUint u hu64 _ hs).mono ?_; rintro e w' ⟨rfl, hb⟩)
  go_ret
  exact ⟨rfl, hb⟩

theorem nd20 {a : Nat} (h : a < 18446744073709551616) : (str a).size ≤ 20 := by rw [str_size]; exact Lib.nDigits_le20 a h
theorem str_big {a n : Nat} (h : a < 10 ^ n) (h0 : 0 < n) : (str a).size ≤ n := by rw [str_size]; exact nDigits_le h0 h

set_option maxHeartbeats 800000 in
/-- Small of a number that fits -/
theorem small_yes (a : Nat) (h : a < 18446744073709551616) (w : World) :
    Calls Tryz.prog 157 #[.string (str a)] w fun e w' => e = .returned (.tuple #[.int .u64 a, .bool true]) ∧ Below w.heap.size w w' := by
  have hl := nd20 h
  have hc := Lib.hid (show canonL (str a).data.toList = true by rw [str_list]; exact canon_dd a)
  have hp := Lib.hid (show Lib.parseUintB 64 (str a).data.toList = .ok a by rw [parse_str, if_pos h])
  go_enter Tryz.func157, Tryz.ntmps157
  go_wp2_with (first
    | (go_at_call 150; refine (canonical_any _ _ (by omega)).mono ?_; rintro e w' ⟨rfl, rfl⟩; rw [hc.out])
    | (go_at_call 190; refine (Tryz.strconv_ParseUint_10_at64_ok _ (by omega) a hp.out _).mono ?_; rintro e w' ⟨rfl, hw⟩))
  go_ret2
  refine ⟨rfl, ?_⟩
  rcases hw with rfl | rfl
  · exact Below.refl _ _
  · exact Lib.bytesWorld_below _ _ _
set_option maxHeartbeats 800000 in
/-- Small of a number that is too great -/
theorem small_no (a : Nat) (h : ¬ a < 18446744073709551616) (w : World) (hs : Std w) :
    Calls Tryz.prog 157 #[.string (str a)] w fun e w' => e = .returned (.tuple #[.int .u64 0, .bool false]) ∧ Below w.heap.size w w' := by
  have hc := Lib.hid (show canonL (str a).data.toList = true by rw [str_list]; exact canon_dd a)
  have hp := Lib.hid (show Lib.parseUintB 64 (str a).data.toList = .range by rw [parse_str, if_neg h])
  obtain ⟨tp, p, hr⟩ := hs.rng
  have HR := Lib.hid hr
  clear hs hr
  by_cases hl : (str a).size ≤ 20
  · go_enter Tryz.func157, Tryz.ntmps157
    go_wp2_with (first
      | (go_at_call 150; refine (canonical_any _ _ (by omega)).mono ?_; rintro e w' ⟨rfl, rfl⟩; rw [hc.out])
      | (go_at_call 190; refine (Tryz.strconv_ParseUint_10_at64_range_var _ (by omega) hp.out tp p _ HR.out).mono ?_; rintro e w' ⟨N, rfl, -, -, hb⟩))
    go_ret2
    exact ⟨rfl, hb⟩
  · go_enter Tryz.func157, Tryz.ntmps157
    go_wp2_with fail
    go_ret2
    exact ⟨rfl, Below.refl _ _⟩
set_option maxHeartbeats 800000 in
theorem both_yes (a b : Nat) (ha : a < 18446744073709551616) (hb : b < 18446744073709551616) (w : World) :
    Calls Tryz.prog 151 #[.string (str a), .string (str b)] w fun e w' => e = .returned (.tuple #[.int .u64 a, .int .u64 b, .bool true]) ∧ Below w.heap.size w w' := by
  go_enter Tryz.func151, Tryz.ntmps151
  go_wp2_with fail
  refine (small_yes a ha _).mono ?_
  rintro e w1 ⟨rfl, hb1⟩
  go_wp2_with fail
  refine (small_yes b hb _).mono ?_
  rintro e w2 ⟨rfl, hb2⟩
  go_wp2_with fail
  go_ret3
  exact ⟨rfl, hb1.trans (hb2.mono hb1.size)⟩
set_option maxHeartbeats 800000 in
theorem both_no (a b : Nat) (h : ¬ (a < 18446744073709551616 ∧ b < 18446744073709551616)) (w : World) (hs : Std w) :
    Calls Tryz.prog 151 #[.string (str a), .string (str b)] w fun e w' => ∃ x y : Nat, e = .returned (.tuple #[.int .u64 x, .int .u64 y, .bool false]) ∧ Below w.heap.size w w' := by
  by_cases ha : a < 18446744073709551616
  · have hb : ¬ b < 18446744073709551616 := fun hb => h ⟨ha, hb⟩
    clear h
    go_enter Tryz.func151, Tryz.ntmps151
    go_wp2_with fail
    refine (small_yes a ha _).mono ?_
    rintro e w1 ⟨rfl, hb1⟩
    go_wp2_with fail
    refine (small_no b hb _ (hs.below hb1)).mono ?_
    rintro e w2 ⟨rfl, hb2⟩
    go_wp2_with fail
    go_ret3
    exact ⟨a, 0, rfl, hb1.trans (hb2.mono hb1.size)⟩
  · clear h
    go_enter Tryz.func151, Tryz.ntmps151
    go_wp2_with fail
    refine (small_no a ha _ hs).mono ?_
    rintro e w1 ⟨rfl, hb1⟩
    go_wp2_with fail
    go_ret3
    exact ⟨0, 0, rfl, hb1⟩
end Go.Proofs.YtdgbplppabalgaaGreatDoor
