/-
  Texts of one seat, joined: Plain Leaf Text Row Cut Join Short Mul Num Pow Known Make Comp Refs.
-/
import Derived.Lib.ItoaNum
import Derived.Lib.ParseIntB
import Derived.Test.YtjebddpapbopnaaGreatDoorProg
import Derived.WalkKit
import Derived.WalkSpells
import Derived.WalkLawsBesides
import Derived.LoopTactic
import Derived.BigQuiet
import Derived.BigGuard
import Derived.Lib.Hide
import Derived.Lib.Bytealg
import Derived.Test.YtjebddpapbopnaaGreatDoorShelf
import Derived.Lib.ItoaMem
import Derived.Lib.ItoaLen
import Derived.Lib.AtoiErrMem
import Derived.Lib.AppendIntMem
import Derived.WalkSmall
import Derived.RegionTactic
import Derived.Deep.QuietTactic
import Derived.OwnWalk
import Derived.Laws.OwnMore
import Derived.OneCell
import Derived.Deep.Draws
import Derived.Laws.Bits64
import Derived.Lib.RabinKarpLaws
import Derived.OpenShut
namespace Go.Proofs.YtjebddpapbopnaaGreatDoor
open Go.Lib

/-- a decimal digit -/
def isD (c : UInt8) : Bool := decide (48 ≤ c.toNat) && decide (c.toNat ≤ 57)
/-- the value of a list of digits -/
def val (l : List UInt8) : Nat := l.foldl (fun n c => 10 * n + (c.toNat - 48)) 0
def headOk (l : List UInt8) : Bool := l == [48] || (!l.isEmpty && !(l.head? == some 48))
def canonL (l : List UInt8) : Bool := headOk l && l.all isD

theorem val_nil : val [] = 0 := rfl
theorem val_snoc (l : List UInt8) (c : UInt8) : val (l ++ [c]) = 10 * val l + (c.toNat - 48) := by
  unfold val; rw [List.foldl_append]; rfl
theorem foldl_val (l : List UInt8) : ∀ n, l.foldl (fun n c => 10 * n + (c.toNat - 48)) n = n * 10 ^ l.length + val l := by
  induction l with
  | nil => intro n; simp [val]
  | cons c l ih =>
    intro n
    have h1 := ih (10 * n + (c.toNat - 48))
    have h2 := ih (10 * 0 + (c.toNat - 48))
    unfold val
    rw [List.foldl_cons, List.foldl_cons, h1, h2, List.length_cons, Nat.pow_succ]
    rw [Nat.add_mul, Nat.add_mul]
    have : 10 * n * 10 ^ l.length = n * (10 ^ l.length * 10) := by
      rw [Nat.mul_comm 10 n, Nat.mul_assoc, Nat.mul_comm 10]
    rw [this]; omega
theorem val_append (l m : List UInt8) : val (l ++ m) = val l * 10 ^ m.length + val m := by
  rw [val, List.foldl_append, foldl_val m]; rfl
theorem val_cons (c : UInt8) (l : List UInt8) : val (c :: l) = (c.toNat - 48) * 10 ^ l.length + val l := by
  have := val_append [c] l
  simpa [val] using this
theorem isD_lt {c : UInt8} (h : isD c = true) : c.toNat - 48 < 10 ∧ 48 ≤ c.toNat ∧ c.toNat ≤ 57 := by
  simp [isD] at h; omega
theorem val_lt (l : List UInt8) (h : l.all isD = true) : val l < 10 ^ l.length := by
  induction l with
  | nil => simp [val]
  | cons c l ih =>
    simp only [List.all_cons, Bool.and_eq_true] at h
    have h1 := isD_lt h.1
    have h2 := ih h.2
    rw [val_cons, List.length_cons, Nat.pow_succ]
    have : (c.toNat - 48) * 10 ^ l.length ≤ 9 * 10 ^ l.length := Nat.mul_le_mul_right _ (by omega)
    omega
theorem dd_small {u : Nat} (h : u < 10) : decDigits u = [UInt8.ofNat (48 + u)] := decDigits_one h
theorem dd_big {u : Nat} (h : ¬ u < 10) : decDigits u = decDigits (u / 10) ++ [UInt8.ofNat (48 + u % 10)] := by
  rw [decDigits, dif_neg h]
theorem ofNat_dig {d : Nat} (h : d < 10) : (UInt8.ofNat (48 + d)).toNat = 48 + d := by
  simp; omega
theorem ofNat_isD {d : Nat} (h : d < 10) : isD (UInt8.ofNat (48 + d)) = true := by
  unfold isD; rw [ofNat_dig h]; simp; omega
theorem val_dd (u : Nat) : val (decDigits u) = u := by
  induction u using Nat.strongRecOn with
  | ind u ih =>
    by_cases h : u < 10
    · rw [dd_small h]; simp only [val, List.foldl]; rw [ofNat_dig h]; omega
    · rw [dd_big h, val_snoc, ih (u / 10) (by omega), ofNat_dig (Nat.mod_lt _ (by decide))]; omega
theorem all_dd (u : Nat) : (decDigits u).all isD = true := by
  induction u using Nat.strongRecOn with
  | ind u ih =>
    by_cases h : u < 10
    · rw [dd_small h, List.all_cons, ofNat_isD h]; rfl
    · rw [dd_big h, List.all_append, ih (u / 10) (by omega), List.all_cons, ofNat_isD (Nat.mod_lt u (by decide : 0 < 10))]; rfl
theorem dd_ne (u : Nat) : decDigits u ≠ [] := by
  intro h; have := decDigits_length u; have := nDigits_pos u; rw [h] at *; simp at *; omega
theorem dd_head (u : Nat) (h0 : 0 < u) : (decDigits u).head? ≠ some 48 := by
  induction u using Nat.strongRecOn with
  | ind u ih =>
    by_cases h : u < 10
    · rw [dd_small h]; simp only [List.head?_cons]; intro e
      have := congrArg UInt8.toNat (Option.some.inj e); rw [ofNat_dig h] at this; simp at this; omega
    · rw [dd_big h]
      have := ih (u / 10) (by omega) (by omega)
      have hne := dd_ne (u / 10)
      cases hd : decDigits (u / 10) with
      | nil => exact absurd hd hne
      | cons c l => rw [hd] at this; simpa using this
theorem canon_dd (u : Nat) : canonL (decDigits u) = true := by
  unfold canonL headOk
  rw [all_dd]
  by_cases h : u = 0
  · subst h; rw [dd_small (by decide)]; decide
  · have h1 := dd_ne u; have h2 := dd_head u (by omega)
    have h3 : (decDigits u).isEmpty = false := by simpa using h1
    have h4 : ((decDigits u).head? == some 48) = false := by simpa using h2
    rw [h3, h4]; simp
theorem dd_val_aux : ∀ (n : Nat) (l : List UInt8), l.length = n → canonL l = true → decDigits (val l) = l := by
  intro n
  induction n with
  | zero => intro l hl hc; have : l = [] := by simpa using hl
            subst this; simp [canonL, headOk] at hc
  | succ n ih =>
    intro l hl hc
    obtain ⟨m, c, rfl⟩ : ∃ m c, l = m ++ [c] := by
      refine ⟨l.dropLast, l.getLast (by intro h; rw [h] at hl; simp at hl), (List.dropLast_concat_getLast _).symm⟩
    have hm : m.length = n := by simpa using hl
    have hall : m.all isD = true ∧ isD c = true := by
      unfold canonL at hc; simp only [Bool.and_eq_true, List.all_append, List.all_cons, List.all_nil, Bool.and_true] at hc; exact hc.2
    have hcd := isD_lt hall.2
    have hcc : UInt8.ofNat (48 + (c.toNat - 48)) = c := by
      apply UInt8.toNat_inj.1; rw [ofNat_dig hcd.1]; omega
    rw [val_snoc]
    by_cases hm0 : m = []
    · subst hm0; simp only [val_nil, List.nil_append]
      rw [dd_small (by omega)]; rw [show 10 * 0 + (c.toNat - 48) = c.toNat - 48 by omega, hcc]
    · have hcm : canonL m = true ∧ m ≠ [48] := by
        unfold canonL headOk at hc ⊢
        rw [hall.1]
        cases m with
        | nil => exact absurd rfl hm0
        | cons d m =>
          simp at hc ⊢
          constructor
          · exact Or.inr hc.1
          · intro h; exact absurd h hc.1
      have h1 := ih m hm hcm.1
      have hv : 0 < val m := by
        apply Nat.pos_of_ne_zero; intro h0; rw [h0, dd_small (by decide)] at h1
        exact hcm.2 (by rw [← h1]; decide)
      rw [dd_big (by omega), show (10 * val m + (c.toNat - 48)) / 10 = val m by omega, h1, show (10 * val m + (c.toNat - 48)) % 10 = c.toNat - 48 by omega, hcc]
theorem dd_val {l : List UInt8} (h : canonL l = true) : decDigits (val l) = l := dd_val_aux _ l rfl h

/-- the text of a number -/
def str (a : Nat) : ByteArray := ⟨(decDigits a).toArray⟩
theorem str_list (a : Nat) : (str a).data.toList = decDigits a := by simp [str]
theorem str_of {s : ByteArray} (h : canonL s.data.toList = true) : s = str (val s.data.toList) := by
  unfold str; rw [dd_val h]
theorem str_eq {s : ByteArray} (a : Nat) (h : canonL s.data.toList = true) (hv : val s.data.toList = a) : s = str a := by rw [str_of h, hv]
theorem str_size (a : Nat) : (str a).size = nDigits a := by
  show (str a).data.size = _; rw [← Array.length_toList, str_list, decDigits_length]
theorem str_inj {a b : Nat} (h : str a = str b) : a = b := by
  have := congrArg (fun s : ByteArray => val s.data.toList) h
  simpa [str_list, val_dd] using this
theorem nDigits_le {k a : Nat} (hk : 0 < k) (h : a < 10 ^ k) : nDigits a ≤ k := by
  induction k generalizing a with
  | zero => omega
  | succ k ih =>
    by_cases hs : a < 10
    · rw [nDigits_small hs]; omega
    · rw [nDigits_big hs]
      have hk0 : 0 < k := by
        apply Nat.pos_of_ne_zero; intro e; subst e; simp at h; omega
      have := ih hk0 (a := a / 10) (by rw [Nat.pow_succ] at h; omega)
      omega
theorem pow_nDigits_le {a : Nat} (h0 : 0 < a) : 10 ^ (nDigits a - 1) ≤ a := by
  induction a using Nat.strongRecOn with
  | ind a ih =>
    by_cases hs : a < 10
    · rw [nDigits_small hs]; simp; omega
    · rw [nDigits_big hs]
      have h1 := ih (a / 10) (by omega) (by omega)
      have h2 := nDigits_pos (a / 10)
      rw [show nDigits (a / 10) + 1 - 1 = (nDigits (a / 10) - 1) + 1 by omega, Nat.pow_succ]; omega

/-- the value of pieces of nine digits, the lowest first -/
def pv : List Nat → Nat
  | [] => 0
  | x :: p => x + 1000000000 * pv p
def lt9 (p : List Nat) : Prop := ∀ x ∈ p, x < 1000000000
/-- no piece 0 at the top -/
def top (p : List Nat) : Prop := p.getLast? ≠ some 0
theorem pv_append (p q : List Nat) : pv (p ++ q) = pv p + 1000000000 ^ p.length * pv q := by
  induction p with
  | nil => simp [pv]
  | cons x p ih =>
    simp only [List.cons_append, pv, ih, List.length_cons, Nat.pow_succ]
    rw [Nat.mul_add, ← Nat.mul_assoc, Nat.mul_comm (1000000000 ^ p.length) 1000000000]; omega
theorem pv_snoc (p : List Nat) (x : Nat) : pv (p ++ [x]) = pv p + 1000000000 ^ p.length * x := by
  rw [pv_append]; simp [pv]
theorem pv_lt (p : List Nat) (h : lt9 p) : pv p < 1000000000 ^ p.length := by
  induction p with
  | nil => simp [pv]
  | cons x p ih =>
    have h1 := ih (fun y hy => h y (List.mem_cons_of_mem _ hy))
    have h2 := h x (List.mem_cons_self ..)
    simp only [pv, List.length_cons, Nat.pow_succ]
    have : 1000000000 * (pv p + 1) ≤ 1000000000 * 1000000000 ^ p.length := Nat.mul_le_mul_left _ h1
    omega
theorem lt9_snoc {p : List Nat} {x : Nat} (h : lt9 p) (hx : x < 1000000000) : lt9 (p ++ [x]) := by
  intro y hy; simp only [List.mem_append, List.mem_singleton] at hy
  rcases hy with hy | hy
  · exact h y hy
  · omega
/-- trim: the list without zeros at its end -/
def trimP (p : List Nat) : List Nat := (p.reverse.dropWhile (· == 0)).reverse
theorem trimP_snoc0 (p : List Nat) : trimP (p ++ [0]) = trimP p := by simp [trimP]
theorem trimP_snoc {p : List Nat} {x : Nat} (h : x ≠ 0) : trimP (p ++ [x]) = p ++ [x] := by
  simp only [trimP, List.reverse_append, List.reverse_cons, List.reverse_nil, List.nil_append, List.singleton_append, List.dropWhile]
  have : (x == 0) = false := by simpa using h
  rw [this]; simp
theorem snoc_cases (p : List Nat) : p = [] ∨ ∃ q x, p = q ++ [x] := by
  rcases List.eq_nil_or_concat p with h | ⟨q, x, h⟩
  · exact Or.inl h
  · exact Or.inr ⟨q, x, by simpa using h⟩
theorem trimP_props (p : List Nat) : pv (trimP p) = pv p ∧ top (trimP p) ∧ (lt9 p → lt9 (trimP p)) ∧ (trimP p).length ≤ p.length ∧ trimP p = p.take (trimP p).length := by
  generalize hn : p.length = n
  induction n generalizing p with
  | zero => have : p = [] := by simpa using hn
            subst this; simp [trimP, top]
  | succ n ih =>
    rcases snoc_cases p with rfl | ⟨q, x, rfl⟩
    · simp at hn
    · have hq : q.length = n := by simpa using hn
      by_cases hx : x = 0
      · subst hx
        obtain ⟨h1, h2, h3, h4, h5⟩ := ih q hq
        rw [trimP_snoc0]
        refine ⟨by rw [h1, pv_snoc]; omega, h2, fun h => h3 fun y hy => h y (by simp [hy]), by omega, ?_⟩
        rw [List.take_append_of_le_length (by omega)]; exact h5
      · rw [trimP_snoc hx]
        refine ⟨rfl, ?_, id, by simp; omega, (List.take_of_length_le (Nat.le_refl _)).symm⟩
        simp [top, hx]
theorem pv_zero {p : List Nat} (ht : top p) (h : pv p = 0) : p = [] := by
  rcases snoc_cases p with rfl | ⟨q, x, rfl⟩
  · rfl
  · rw [pv_snoc] at h
    have h1 : 1000000000 ^ q.length * x = 0 := by omega
    have h2 : 0 < 1000000000 ^ q.length := Nat.pow_pos (by decide)
    have h3 : x = 0 := by
      rcases Nat.mul_eq_zero.1 h1 with h | h
      · omega
      · exact h
    subst h3; simp [top] at ht
/-- pieces of a number -/
structure Pcs (p : List Nat) (a : Nat) : Prop where
  val : pv p = a
  lt : lt9 p
  top : top p
theorem Pcs.of_trim {p : List Nat} (h : lt9 p) : Pcs (trimP p) (pv p) := ⟨(trimP_props p).1, (trimP_props p).2.2.1 h, (trimP_props p).2.1⟩
theorem Pcs.nil : Pcs [] 0 := ⟨rfl, by simp [lt9], by simp [Go.Proofs.YtjebddpapbopnaaGreatDoor.top]⟩
theorem Pcs.len_lower {p : List Nat} {a : Nat} (h : Pcs p a) (hne : p ≠ []) : 1000000000 ^ (p.length - 1) ≤ a := by
  rcases snoc_cases p with rfl | ⟨q, x, rfl⟩
  · exact absurd rfl hne
  · rw [← h.val, pv_snoc]
    have ht := h.top
    have hx : x ≠ 0 := by intro e; subst e; simp [Go.Proofs.YtjebddpapbopnaaGreatDoor.top] at ht
    have : 1000000000 ^ q.length * 1 ≤ 1000000000 ^ q.length * x := Nat.mul_le_mul_left _ (by omega)
    simp at this ⊢; omega


theorem pow9 (k : Nat) : (10 : Nat) ^ (9 * k) = 1000000000 ^ k := by rw [Nat.pow_mul]
/-- a round of cut -/
theorem cut_step (l : List UInt8) (e : Nat) (he : e ≤ l.length) (p : List Nat) (hp : pv p = val (l.drop e)) (hk : l.length - e = 9 * p.length) :
    pv (p ++ [val ((l.take e).drop (e - 9))]) = val (l.drop (e - 9)) := by
  have h : l.drop (e - 9) = (l.take e).drop (e - 9) ++ l.drop e := by
    conv => lhs; rw [← List.take_append_drop e l]
    rw [List.drop_append_of_le_length (by rw [List.length_take]; omega)]
  rw [h, val_append, pv_snoc, hp, List.length_drop, hk, pow9, Nat.mul_comm]; omega
/-- the lowest j digits of x -/
def ld (x : Nat) : Nat → List UInt8
  | 0 => []
  | j + 1 => dg x j :: ld x j
theorem ld_len (x j : Nat) : (ld x j).length = j := by induction j with
  | zero => rfl
  | succ j ih => simp [ld, ih]
theorem dg_nat (x j : Nat) : (dg x j).toNat = 48 + x / 10 ^ j % 10 := ofNat_dig (Nat.mod_lt _ (by decide))
theorem dg_isD (x j : Nat) : isD (dg x j) = true := ofNat_isD (Nat.mod_lt _ (by decide))
theorem ld_val (x j : Nat) : val (ld x j) = x % 10 ^ j := by
  induction j with
  | zero => simp [ld, val]; omega
  | succ j ih =>
    rw [ld, val_cons, dg_nat, ld_len, ih, Nat.pow_succ, Nat.mod_mul]
    rw [show 48 + x / 10 ^ j % 10 - 48 = x / 10 ^ j % 10 by omega, Nat.mul_comm]; omega
theorem ld_all (x j : Nat) : (ld x j).all isD = true := by
  induction j with
  | zero => rfl
  | succ j ih => simp only [ld, List.all_cons, ih, dg_isD]; rfl
/-- all digits of pieces -/
def joinL : List Nat → List UInt8
  | [] => []
  | x :: p => joinL p ++ ld x 9
theorem joinL_len (p : List Nat) : (joinL p).length = 9 * p.length := by
  induction p with
  | nil => rfl
  | cons x p ih => simp [joinL, ih, ld_len]; omega
theorem joinL_val (p : List Nat) (h : lt9 p) : val (joinL p) = pv p := by
  induction p with
  | nil => rfl
  | cons x p ih =>
    have h2 := h x (List.mem_cons_self ..)
    rw [joinL, val_append, ld_len, ld_val, ih (fun y hy => h y (List.mem_cons_of_mem _ hy)), Nat.mod_eq_of_lt (by omega), pv]; omega
theorem joinL_all (p : List Nat) : (joinL p).all isD = true := by
  induction p with
  | nil => rfl
  | cons x p ih => simp only [joinL, List.all_append, ih, ld_all]; rfl
theorem joinL_snoc (p : List Nat) (x : Nat) : joinL (p ++ [x]) = ld x 9 ++ joinL p := by
  induction p with
  | nil => simp [joinL]
  | cons y p ih => simp only [List.cons_append, joinL, ih, List.append_assoc]
theorem val_drop0 (l : List UInt8) : val (l.dropWhile (· == 48)) = val l := by
  induction l with
  | nil => rfl
  | cons c l ih =>
    by_cases h : c = 48
    · subst h; rw [List.dropWhile_cons_of_pos (by simp), ih, val_cons]; simp
    · rw [List.dropWhile_cons_of_neg (by simpa using h)]
theorem all_drop0 (l : List UInt8) (h : l.all isD = true) : (l.dropWhile (· == 48)).all isD = true := by
  induction l with
  | nil => rfl
  | cons c l ih =>
    simp only [List.all_cons, Bool.and_eq_true] at h
    by_cases hc : c = 48
    · subst hc; rw [List.dropWhile_cons_of_pos (by simp)]; exact ih h.2
    · rw [List.dropWhile_cons_of_neg (by simpa using hc)]; simp only [List.all_cons, h.1, h.2]; rfl
theorem head_drop0 (l : List UInt8) : (l.dropWhile (· == 48)).head? ≠ some 48 := by
  induction l with
  | nil => simp
  | cons c l ih =>
    by_cases hc : c = 48
    · subst hc; rw [List.dropWhile_cons_of_pos (by simp)]; exact ih
    · rw [List.dropWhile_cons_of_neg (by simpa using hc)]; simpa using hc
theorem canon_drop0 {l : List UInt8} (h : l.all isD = true) (hv : 0 < val l) : l.dropWhile (· == 48) = decDigits (val l) := by
  rw [← val_drop0 l] at hv ⊢
  refine (dd_val ?_).symm
  unfold canonL headOk
  rw [all_drop0 l h]
  have h1 := head_drop0 l
  have h2 : (l.dropWhile (· == 48)).isEmpty = false := by
    cases e : l.dropWhile (· == 48) with
    | nil => rw [e] at hv; simp [val] at hv
    | cons _ _ => rfl
  have h3 : ((l.dropWhile (· == 48)).head? == some 48) = false := by simpa using h1
  rw [h2, h3]; simp
/-- join's digits, without the zeros at the beginning -/
theorem joinL_canon {p : List Nat} {a : Nat} (h : Pcs p a) (h0 : p ≠ []) : (joinL p).dropWhile (· == 48) = decDigits a := by
  have h1 := joinL_val p h.lt
  rw [h.val] at h1
  rw [← h1]
  refine canon_drop0 (joinL_all p) ?_
  rw [h1]
  apply Nat.pos_of_ne_zero; intro e
  exact h0 (pv_zero h.top (by rw [h.val, e]))

theorem pv_set {l : List Nat} {k : Nat} (v : Nat) (hk : k < l.length) : pv (l.set k v) + 1000000000 ^ k * l[k] = pv l + 1000000000 ^ k * v := by
  induction l generalizing k with
  | nil => simp at hk
  | cons x l ih =>
    cases k with
    | zero => simp [pv]; omega
    | succ k =>
      have h := ih (k := k) (by simpa using hk)
      simp only [List.set_cons_succ, pv, List.getElem_cons_succ, Nat.pow_succ]
      rw [Nat.mul_comm (1000000000 ^ k) 1000000000, Nat.mul_assoc, Nat.mul_assoc]; omega
theorem pv_take_succ {l : List Nat} {k : Nat} (hk : k < l.length) : pv (l.take (k + 1)) = pv (l.take k) + 1000000000 ^ k * l[k] := by
  rw [List.take_succ_eq_append_getElem hk, pv_snoc, List.length_take, Nat.min_eq_left (by omega)]
theorem pv_replicate (n : Nat) : pv (List.replicate n 0) = 0 := by
  induction n with
  | zero => rfl
  | succ n ih => rw [List.replicate_succ, pv, ih]
theorem lt9_replicate (n : Nat) : lt9 (List.replicate n 0) := by
  intro x hx; rw [List.mem_replicate] at hx; omega
theorem lt9_set {l : List Nat} {k v : Nat} (h : lt9 l) (hv : v < 1000000000) : lt9 (l.set k v) := by
  intro x hx
  rcases List.mem_or_eq_of_mem_set hx with h1 | h1
  · exact h x h1
  · omega
theorem lt9_at {l : List Nat} (h : lt9 l) (k : Nat) (hk : k < l.length) : l[k] < 1000000000 := h _ (List.getElem_mem hk)
theorem lt9_take {l : List Nat} (h : lt9 l) (k : Nat) : lt9 (l.take k) := fun x hx => h x (List.mem_of_mem_take hx)
theorem lt9_drop {l : List Nat} (h : lt9 l) (k : Nat) : lt9 (l.drop k) := fun x hx => h x (List.mem_of_mem_drop hx)
/-- division by a short number, from the highest piece on -/
def divS (n : Nat) : List Nat → List Nat × Nat
  | [] => ([], 0)
  | x :: p => (((divS n p).2 * 1000000000 + x) / n :: (divS n p).1, ((divS n p).2 * 1000000000 + x) % n)
theorem divS_len (n : Nat) (p : List Nat) : (divS n p).1.length = p.length := by
  induction p with
  | nil => rfl
  | cons x p ih => simp [divS, ih]
theorem divS_props (n : Nat) (hn : 0 < n) (p : List Nat) : pv (divS n p).1 * n + (divS n p).2 = pv p ∧ (divS n p).2 < n := by
  induction p with
  | nil => exact ⟨by simp [divS, pv], hn⟩
  | cons x p ih =>
    refine ⟨?_, Nat.mod_lt _ hn⟩
    simp only [divS, pv]
    have h1 := Nat.div_add_mod ((divS n p).2 * 1000000000 + x) n
    rw [Nat.add_mul]
    have h2 : 1000000000 * pv (divS n p).1 * n = 1000000000 * (pv (divS n p).1 * n) := Nat.mul_assoc ..
    rw [h2]
    have h3 : ((divS n p).2 * 1000000000 + x) / n * n = n * (((divS n p).2 * 1000000000 + x) / n) := Nat.mul_comm ..
    rw [h3]; omega
theorem divS_lt9 (n : Nat) (hn : 0 < n) (p : List Nat) (h : lt9 p) : lt9 (divS n p).1 := by
  induction p with
  | nil => intro x hx; simp [divS] at hx
  | cons x p ih =>
    have h1 := (divS_props n hn p).2
    have h2 := h x (List.mem_cons_self ..)
    have h3 := ih (fun y hy => h y (List.mem_cons_of_mem _ hy))
    intro y hy
    simp only [divS, List.mem_cons] at hy
    rcases hy with rfl | hy
    · rw [Nat.div_lt_iff_lt_mul hn]
      have : ((divS n p).2 + 1) * 1000000000 ≤ n * 1000000000 := Nat.mul_le_mul_right _ h1
      rw [Nat.mul_comm 1000000000 n]; omega
    · exact h3 y hy
theorem divS_drop (n : Nat) (p : List Nat) (k : Nat) (hk : k < p.length) :
    divS n (p.drop k) = (((divS n (p.drop (k + 1))).2 * 1000000000 + p[k]) / n :: (divS n (p.drop (k + 1))).1, ((divS n (p.drop (k + 1))).2 * 1000000000 + p[k]) % n) := by
  rw [List.drop_eq_getElem_cons hk]; rfl
theorem Pcs.short {p : List Nat} {a : Nat} (h : Pcs p a) (ha : a < 1000000000 ^ 2) : p.length ≤ 2 := by
  apply Nat.le_of_not_lt; intro hl
  have hne : p ≠ [] := by intro e; subst e; simp at hl
  have h1 := h.len_lower hne
  have h2 : (1000000000 : Nat) ^ 2 ≤ 1000000000 ^ (p.length - 1) := Nat.pow_le_pow_right (by decide) (by omega)
  omega

theorem pum : ∀ (l : List UInt8) (acc : Nat), l.all isD = true → acc < 18446744073709551616 →
    parseUintM (2 ^ 64 - 1) acc l = if acc * 10 ^ l.length + val l < 18446744073709551616 then .ok (acc * 10 ^ l.length + val l) else .range := by
  intro l
  induction l with
  | nil => intro acc _ ha; simp [parseUintM, val]; omega
  | cons c l ih =>
    intro acc hd ha
    simp only [List.all_cons, Bool.and_eq_true] at hd
    have hc := isD_lt hd.1
    have e1 : (c :: l).length = l.length + 1 := rfl
    have e2 : acc * 10 ^ (l.length + 1) + val (c :: l) = (acc * 10 + (c.toNat - 48)) * 10 ^ l.length + val l := by
      rw [val_cons, Nat.pow_succ, Nat.add_mul, Nat.mul_comm (10 ^ l.length) 10, ← Nat.mul_assoc]; omega
    have hp : 1 ≤ 10 ^ l.length := Nat.pow_pos (by decide)
    rw [e1, e2, parseUintM, if_pos ⟨hc.2.1, hc.2.2⟩]
    by_cases h1 : 1844674407370955162 ≤ acc
    · rw [if_pos h1, if_neg]
      have : (acc * 10 + (c.toNat - 48)) * 1 ≤ (acc * 10 + (c.toNat - 48)) * 10 ^ l.length := Nat.mul_le_mul_left _ hp
      omega
    · rw [if_neg h1]
      by_cases h2 : 2 ^ 64 - 1 < acc * 10 + (c.toNat - 48)
      · rw [if_pos h2, if_neg]
        have : (acc * 10 + (c.toNat - 48)) * 1 ≤ (acc * 10 + (c.toNat - 48)) * 10 ^ l.length := Nat.mul_le_mul_left _ hp
        omega
      · rw [if_neg h2]; exact ih _ hd.2 (by omega)
theorem parse_str (a : Nat) : parseUintB 64 (str a).data.toList = if a < 18446744073709551616 then .ok a else .range := by
  unfold parseUintB
  rw [str_list, if_neg (dd_ne a), pum _ _ (all_dd a) (by omega), val_dd]; simp
/-! the arithmetic of math/bits.Div64 -/
theorem dv_id {q a b r u : Nat} (h : q * a + r = u) : q * (a * 4294967296 + b) + r * 4294967296 = u * 4294967296 + q * b := by
  rw [← h, Nat.mul_add, Nat.add_mul, ← Nat.mul_assoc]; omega
/-- a guess of a digit: u: what is left, v: the next half word, a, b: the halves of the divisor -/
structure Dv (u v a b q r : Nat) : Prop where
  eq : q * a + r = u
  ge : (u * 4294967296 + v) / (a * 4294967296 + b) ≤ q
  le : q ≤ 4294967297
structure DvIn (u v a b : Nat) : Prop where
  a0 : 2147483648 ≤ a
  a1 : a < 4294967296
  b1 : b < 4294967296
  v1 : v < 4294967296
  u1 : u < a * 4294967296 + b
theorem Dv.start {u v a b : Nat} (h : DvIn u v a b) : Dv u v a b (u / a) (u - u / a * a) := by
  obtain ⟨h1, h2, h3, h4, h5⟩ := h
  have e := Nat.div_add_mod u a
  have m := Nat.mod_lt u (show 0 < a by omega)
  have c : u / a * a = a * (u / a) := Nat.mul_comm ..
  refine ⟨by omega, ?_, ?_⟩
  · apply Nat.le_of_lt_succ
    rw [Nat.div_lt_iff_lt_mul (by omega)]
    have k : (u / a + 1) * a = a * (u / a) + a := by rw [Nat.add_mul, c]; omega
    have k2 : (u + 1) * 4294967296 ≤ (u / a + 1) * a * 4294967296 := Nat.mul_le_mul_right _ (by omega)
    have k3 : (u / a + 1) * (a * 4294967296 + b) = (u / a + 1) * a * 4294967296 + (u / a + 1) * b := by rw [Nat.mul_add, Nat.mul_assoc]
    rw [Nat.succ_eq_add_one, k3]; omega
  · apply Nat.le_of_lt_succ
    rw [Nat.succ_eq_add_one, Nat.div_lt_iff_lt_mul (by omega)]; omega
theorem DvIn.lt {u v a b : Nat} (h : DvIn u v a b) : (u * 4294967296 + v) / (a * 4294967296 + b) < 4294967296 := by
  obtain ⟨h1, h2, h3, h4, h5⟩ := h
  rw [Nat.div_lt_iff_lt_mul (by omega)]; omega
theorem Dv.step {u v a b q r : Nat} (hi : DvIn u v a b) (h : Dv u v a b q r) (hc : 4294967296 ≤ q ∨ 4294967296 * r + v < q * b) :
    1 ≤ q ∧ Dv u v a b (q - 1) (r + a) := by
  have hl := hi.lt
  have id := dv_id (b := b) h.eq
  obtain ⟨h1, h2, h3⟩ := h
  have hq : 1 ≤ q := by
    rcases hc with h | h
    · omega
    · apply Nat.pos_of_ne_zero; intro e; rw [e] at h; omega
  obtain ⟨p, rfl⟩ : ∃ p, q = p + 1 := ⟨q - 1, by omega⟩
  refine ⟨hq, by rw [Nat.add_mul] at h1; simp; omega, ?_, by omega⟩
  rcases hc with h | h
  · simp; omega
  · have : (u * 4294967296 + v) / (a * 4294967296 + b) < p + 1 := by
      rw [Nat.div_lt_iff_lt_mul (by have := hi.a0; omega)]; omega
    simp; omega
theorem Dv.exit {u v a b q r : Nat} (hi : DvIn u v a b) (h : Dv u v a b q r) (hc : q * b ≤ 4294967296 * r + v) :
    q = (u * 4294967296 + v) / (a * 4294967296 + b) := by
  have id := dv_id (b := b) h.eq
  have h0 := hi.a0
  apply Nat.le_antisymm _ h.ge
  rw [Nat.le_div_iff_mul_le (by omega)]; omega
theorem Dv.exit2 {u v a b q r : Nat} (hi : DvIn u v a b) (h : Dv u v a b q r) (hq : q ≤ 4294967296) (hr : 4294967296 ≤ r) :
    q = (u * 4294967296 + v) / (a * 4294967296 + b) := by
  have h1 := hi.b1
  have h2 : q * b ≤ 4294967296 * b := Nat.mul_le_mul_right _ hq
  have h3 : 4294967296 * b ≤ 4294967296 * r := Nat.mul_le_mul_left _ (by omega)
  exact h.exit hi (by omega)
/-- both digits together -/
theorem dv_two {n w y : Nat} (hy : 0 < y) :
    n / y * 4294967296 + (n % y * 4294967296 + w) / y = (n * 4294967296 + w) / y ∧ (n % y * 4294967296 + w) % y = (n * 4294967296 + w) % y := by
  have e := Nat.div_add_mod n y
  have k : n * 4294967296 + w = (n % y * 4294967296 + w) + y * (n / y * 4294967296) := by
    conv => lhs; rw [← e]
    rw [Nat.add_mul, Nat.mul_assoc]; omega
  constructor
  · rw [k, Nat.add_mul_div_left _ _ hy]; exact Nat.add_comm _ _
  · rw [k, Nat.add_mul_mod_self_left]
theorem dv_shift {n y k : Nat} (hk : 0 < k) : n * k / (y * k) = n / y ∧ n * k % (y * k) / k = n % y := by
  refine ⟨Nat.mul_div_mul_right _ _ hk, ?_⟩
  rw [Nat.mul_mod_mul_right, Nat.mul_div_cancel _ hk]
end Go.Proofs.YtjebddpapbopnaaGreatDoor

namespace Go.Proofs.YtjebddpapbopnaaGreatDoor
open Go.RowKit

theorem ret_bool {a b : Bool} (h : a = b) : Ending.returned (.bool a) = Ending.returned (.bool b) := by rw [h]
theorem ret_int {k : IntKind} {a b : Int} (h : a = b) : Ending.returned (.int k a) = Ending.returned (.int k b) := by rw [h]
theorem ret_str {a b : ByteArray} (h : a = b) : Ending.returned (.string a) = Ending.returned (.string b) := by rw [h]
theorem tl (s : ByteArray) : s.toList = s.data.toList := Lib.toList_data s
theorem len_list (s : ByteArray) : s.data.toList.length = s.size := (Lib.size_eq s).symm
theorem at_list (s : ByteArray) (k : Nat) (h : k < s.size) : s.data.toList[k]'(by rw [len_list]; exact h) = s[k]'h := by simp; rfl
theorem hd1 {s : ByteArray} (h : 0 < s.size) : headOk s.data.toList = (s.toList == [48] || ((s[0]'h).toNat : Int) != 48) := by
  rw [tl]
  have e : s.data.toList[0]? = some (s[0]'h) := by rw [List.getElem?_eq_getElem (by rw [len_list]; exact h), at_list s 0 h]
  cases hl : s.data.toList with
  | nil => have := len_list s; rw [hl] at this; simp at this; omega
  | cons c l =>
    rw [hl] at e
    have e2 : c = s[0]'h := by simpa using e
    rw [← e2]
    unfold headOk
    have e3 : (((c.toNat : Int)) != 48) = !(c == 48) := by
      rw [Bool.eq_iff_iff]; simp [← UInt8.toNat_inj]; omega
    simp [e3]
theorem hd2 {s : ByteArray} (h : ¬ 0 < s.size) : headOk s.data.toList = (s.toList == [48]) := by
  rw [tl]
  cases hl : s.data.toList with
  | nil => rfl
  | cons c l => have := len_list s; rw [hl] at this; simp at this; omega
theorem hd0 {s : ByteArray} (h : s.toList = [48]) : headOk s.data.toList = true := by
  rw [tl] at h; rw [h]; rfl
theorem take_all (s : ByteArray) (k : Nat) (h : k < s.size) : (s.data.toList.take (k + 1)).all isD = ((s.data.toList.take k).all isD && isD (s[k]'h)) := by
  rw [List.take_succ_eq_append_getElem (by rw [len_list]; exact h), List.all_append, at_list s k h]; simp
theorem take_val (s : ByteArray) (k : Nat) (h : k < s.size) : val (s.data.toList.take (k + 1)) = 10 * val (s.data.toList.take k) + ((s[k]'h).toNat - 48) := by
  rw [List.take_succ_eq_append_getElem (by rw [len_list]; exact h), val_snoc, at_list s k h]
theorem take_all_len (s : ByteArray) (k : Nat) (h : s.size ≤ k) : s.data.toList.take k = s.data.toList := List.take_of_length_le (by rw [len_list]; exact h)
theorem all_take_false {s : ByteArray} {k : Nat} (h : k < s.size) (hd : isD (s[k]'h) = false) : s.data.toList.all isD = false := by
  rw [← List.take_append_drop (k + 1) s.data.toList, List.all_append, take_all s k h, hd]; simp
set_option maxHeartbeats 400000 in
theorem begins_any (s : ByteArray) (w : World) :
    Calls Tryz.prog 107 #[.string s] w fun e w' => e = .returned (.bool (headOk s.data.toList)) ∧ w = w' := by
  go_enter Tryz.func107, Tryz.ntmps107
  go_wp2
  all_goals go_ret
  · exact ⟨ret_bool (hd0 (by assumption)).symm, rfl⟩
  · exact ⟨ret_bool (hd1 (by assumption)).symm, rfl⟩
  · exact ⟨ret_bool (hd2 (by assumption)).symm, rfl⟩

set_option maxHeartbeats 800000 in
/-- the loop over the digits, for strings that begin well -/
theorem canonical_any (s : ByteArray) (w : World) (hs : s.size ≤ 9223372036854775806) :
    Calls Tryz.prog 82 #[.string s] w fun e w' => e = .returned (.bool (canonL s.data.toList)) ∧ w = w' := by
  cases hb : headOk s.data.toList with
  | false =>
    have hc : canonL s.data.toList = false := by unfold canonL; rw [hb]; rfl
    have HC := Lib.hid hc
    have HB := Lib.hid hb
    clear hc hb
    go_enter Tryz.func82, Tryz.ntmps82
    go_wp2_with (go_at_call 107; refine (begins_any _ _).mono ?_; rintro e w' ⟨rfl, rfl⟩; rw [HB.out])
    go_ret
    exact ⟨ret_bool HC.out.symm, rfl⟩
  | true =>
    have hc : canonL s.data.toList = s.data.toList.all isD := by unfold canonL; rw [hb]; simp
    have HC := Lib.hid hc
    have HB := Lib.hid hb
    clear hc hb
    go_enter Tryz.func82, Tryz.ntmps82
    go_wp2_with (go_at_call 107; refine (begins_any _ _).mono ?_; rintro e w' ⟨rfl, rfl⟩; rw [HB.out])
    go_loop [3, 9] (fun _ i => ∃ k : Nat, k ≤ s.size ∧ i = .int .i64 k ∧ Hid ((s.data.toList.take k).all isD = true)) (fun _ i => s.size - (intOf i).toNat)
    case atStart => exact ⟨0, Nat.zero_le _, rfl, rfl⟩
    case round =>
      obtain ⟨k, hk, rfl, HA⟩ := hrel
      by_cases hlt : k < s.size
      · have hta := take_all s k hlt
        cases hd : isD (s[k]'hlt) with
        | true =>
          have h1 := isD_lt hd
          have HT := Lib.hid hta
          have HD := Lib.hid hd
          have g1 : 48 ≤ (s[k].toNat : Int) := by omega
          have g2 : (s[k].toNat : Int) ≤ 57 := by omega
          clear hta hd h1
          go_wp2
          all_goals go_round
          case rel => exact ⟨k + 1, by omega, by go_num, by show _ = true; rw [HT.out, HA.out, HD.out]; rfl⟩
          case measure => simp [intOf]; omega
        | false =>
          have hf := all_take_false hlt hd
          have HF := Lib.hid hf
          have h1 : (s[k].toNat : Int) < 48 ∨ (57 : Int) < s[k].toNat := by simp [isD] at hd; omega
          clear hf hd hta
          rcases h1 with h1 | h1
          · go_wp2
            go_ret
            exact ⟨ret_bool (by rw [HC.out, HF.out]), rfl⟩
          · go_wp2
            go_ret
            exact ⟨ret_bool (by rw [HC.out, HF.out]), rfl⟩
      · go_wp2
        go_ret
        exact ⟨ret_bool (by rw [HC.out, ← take_all_len s k (by omega)]; exact HA.out.symm), rfl⟩
end Go.Proofs.YtjebddpapbopnaaGreatDoor

namespace Go.Proofs.YtjebddpapbopnaaGreatDoor
open Go.RowKit Go.Sort

theorem var_below {P : Program} {w w' : World} {n : String} {cs : Array Value} (h : w.var? P n = some cs) (hb : Below w.heap.size w w') : w'.var? P n = some cs := by
  unfold World.var? at h ⊢
  cases hg : P.globalNamed n with
  | none => rw [hg] at h; cases h
  | some g =>
    rw [hg] at h
    simp only [Option.bind_some] at h ⊢
    have hlt : g < w.heap.size := by
      apply Nat.lt_of_not_le; intro hle
      rw [Array.getElem?_eq_none hle] at h; simp at h
    rw [hb.block g hlt]; exact h
/-- what the contracts ask of the world: the table of powers, and the variable ErrRange -/
structure Std (w : World) : Prop where
  tab : Lib.TabIs Tryz.prog w "internal/strconv.uint64pow10" .u64 Lib.pow10Tab
  rng : ∃ tp p, w.var? Tryz.prog "strconv.ErrRange" = some #[.iface tp p]
theorem Std.below {w w' : World} (h : Std w) (hb : Below w.heap.size w w') : Std w' :=
  ⟨var_below h.tab hb, by obtain ⟨tp, p, h2⟩ := h.rng; exact ⟨tp, p, var_below h2 hb⟩⟩
theorem Std.alloc {w : World} (h : Std w) (o : Obj) : Std (w.alloc o) := h.below ((Below.refl _ _).alloc (Nat.le_refl _) o)

theorem zero_row (w : World) (T : TypeId) (nd : Nat) (hs : nd ≤ 24) : Holds (fun (b : UInt8) => Value.int .u8 (b.toNat : Int)) (w.alloc (.cells Lib.zeros24 T)) w.heap.size 0 (Array.replicate nd (0 : UInt8)) := fun j hj => by
  have hj' : j < nd := by simpa using hj
  refine ⟨?_, World.frozen?_alloc_new _ _ _ _⟩
  rw [World.cell?_alloc_new, Lib.zeros24_at _ (by omega), getElem!_pos _ j hj]
  simp
theorem fmt_fin (w : World) (o : Obj) (dk : Array UInt8) (k : Nat) : Below w.heap.size w ((putRow (fun (b : UInt8) => Value.int .u8 (b.toNat : Int)) (w.alloc o) w.heap.size 0 dk).drewN k) := by
  have e : ∃ os, (putRow (fun (b : UInt8) => Value.int .u8 (b.toNat : Int)) (w.alloc o) w.heap.size 0 dk).drewN k = grow (w.drewN k) os := by
    rw [alloc_eq_grow]
    obtain ⟨os', _, e⟩ := putRow_grow_new (fun (b : UInt8) => Value.int .u8 (b.toNat : Int)) w #[o] w.heap.size 0 dk (Nat.le_refl _)
    exact ⟨os', by rw [e]; rfl⟩
  obtain ⟨os, e⟩ := e
  rw [e]; exact Lib.below_grow _ _ (Nat.le_refl _) _ _

set_option maxHeartbeats 1600000 in
set_option maxRecDepth 100000 in
theorem formatUint_inner (u : Nat) (hu64 : u < 18446744073709551616) (w : World) (hs : Std w) :
    Calls Tryz.prog 138 #[.int .u64 u, .int .i64 10] w fun e w' => e = .returned (.string (str u)) ∧ Below w.heap.size w w' := by
  by_cases h100 : u < 100
  · go_enter Tryz.func138, Tryz.ntmps138
    go_wp2_with (go_at_call 131; refine (Tryz.internal_strconv_small u h100 _).mono ?_; rintro e w' ⟨rfl, rfl⟩)
    go_ret
    exact ⟨rfl, Below.refl _ _⟩
  · have hu1 : 1 ≤ u := by omega
    have htab := hs.tab
    have hnd20 : Lib.nDigits u ≤ 20 := Lib.nDigits_le20 u hu64
    have hal : Tryz.prog.arrayLen 137 = 24 := by kernel_rfl
    have hel : Tryz.prog.elem 137 = 5 := by kernel_rfl
    have hsl1 : ∀ W, (Instr.sliceAt 137 (.pointer (some ⟨w.heap.size, 0, none⟩)) none (some (.int .i64 (Lib.nDigits u : Int))) none).run Tryz.prog W = .ok (.slice (some ⟨w.heap.size, 0, none⟩) (Lib.nDigits u) 24) W := fun W => by
      rw [run_sliceAt_array_h W 137 ⟨w.heap.size, 0, none⟩ (by rw [hal, hel]; exact Tryz.underlying137) .i64 (Lib.nDigits u : Int) (by omega) (by rw [hal]; omega), hal]
      go_simp
    have hH0 := zero_row w 137 (Lib.nDigits u) (by omega)
    have hfmt := Tryz.internal_strconv_formatBase10 w.heap.size 0 24 u (Array.replicate (Lib.nDigits u) 0) (w.alloc (.cells Lib.zeros24 137)) hH0 (by rw [Array.size_replicate]; exact Lib.lt_pow_nDigits u) hu64 (by rw [Array.size_replicate]; omega)
    rw [Array.size_replicate] at hfmt
    have HH0 := Lib.hid hH0
    clear hH0 hal hel
    go_enter Tryz.func138, Tryz.ntmps138
    go_wp2_with (first
      | (go_at_call 132; refine (Tryz.internal_strconv_numDigits u hu1 hu64 _ (Lib.tabIs_alloc htab _)).mono ?_; rintro e w' ⟨rfl, rfl⟩))
    go_at_call 133
    refine hfmt.mono ?_
    rintro e w' ⟨rfl, k, v', dk, rfl, hF⟩
    have hcv : (convert 31 9 (.slice (some ⟨w.heap.size, 0, none⟩) (Lib.nDigits u) 24)).run Tryz.prog ((putRow (fun (b : UInt8) => Value.int .u8 (b.toNat : Int)) (w.alloc (.cells Lib.zeros24 137)) w.heap.size 0 dk).drewN k) = .ok (.string ⟨(Lib.decDigits u).toArray⟩) ((putRow (fun (b : UInt8) => Value.int .u8 (b.toNat : Int)) (w.alloc (.cells Lib.zeros24 137)) w.heap.size 0 dk).drewN k) := by
      have h := run_convert_bytes_back (P := Tryz.prog) ((putRow (fun (b : UInt8) => Value.int .u8 (b.toNat : Int)) (w.alloc (.cells Lib.zeros24 137)) w.heap.size 0 dk).drewN k) 31 9 5 ⟨w.heap.size, 0, none⟩ 24 (Lib.decDigits u) Tryz.underlying31 Tryz.underlying5 Tryz.underlying9 (fun j hj => by
        rw [Lib.row_is_numeral hF j hj, Lib.add_plain, World.cell?_drewN]
        exact cell?_putRow (fun (b : UInt8) => Value.int .u8 (b.toNat : Int)) _ w.heap.size 0 _ dk HH0.out (by rw [hF.size, Array.size_replicate]) j (by rw [hF.size]; rw [Lib.decDigits_length] at hj; exact hj))
      rw [Lib.decDigits_length] at h
      exact h
    go_wp2
    go_ret
    exact ⟨rfl, fmt_fin w _ dk k⟩

set_option maxHeartbeats 400000 in
theorem formatUint (u : Nat) (hu64 : u < 18446744073709551616) (w : World) (hs : Std w) :
    Calls Tryz.prog 115 #[.int .u64 u, .int .i64 10] w fun e w' => e = .returned (.string (str u)) ∧ Below w.heap.size w w' := by
  go_enter Tryz.func115, Tryz.ntmps115
  go_wp2_with (go_at_call 138; refine (formatUint_inner u hu64 _ hs).mono ?_; rintro e w' ⟨rfl, hb⟩)
  go_ret
  exact ⟨rfl, hb⟩
set_option maxHeartbeats 400000 in
theorem of_any (u : Nat) (hu64 : u < 18446744073709551616) (w : World) (hs : Std w) :
    Calls Tryz.prog 95 #[.int .u64 u] w fun e w' => e = .returned (.string (str u)) ∧ Below w.heap.size w w' := by
  go_enter Tryz.func95, Tryz.ntmps95
  go_wp2_with (go_at_call 115; refine (formatUint u hu64 _ hs).mono ?_; rintro e w' ⟨rfl, hb⟩)
  go_ret
  exact ⟨rfl, hb⟩

theorem nd20 {a : Nat} (h : a < 18446744073709551616) : (str a).size ≤ 20 := by rw [str_size]; exact Lib.nDigits_le20 a h
theorem str_big {a n : Nat} (h : a < 10 ^ n) (h0 : 0 < n) : (str a).size ≤ n := by rw [str_size]; exact nDigits_le h0 h

set_option maxHeartbeats 800000 in
/-- Small of a number that fits -/
theorem small_yes (a : Nat) (h : a < 18446744073709551616) (w : World) :
    Calls Tryz.prog 52 #[.string (str a)] w fun e w' => e = .returned (.tuple #[.int .u64 a, .bool true]) ∧ Below w.heap.size w w' := by
  have hl := nd20 h
  have hc := Lib.hid (show canonL (str a).data.toList = true by rw [str_list]; exact canon_dd a)
  have hp := Lib.hid (show Lib.parseUintB 64 (str a).data.toList = .ok a by rw [parse_str, if_pos h])
  go_enter Tryz.func52, Tryz.ntmps52
  go_wp2_with (first
    | (go_at_call 82; refine (canonical_any _ _ (by omega)).mono ?_; rintro e w' ⟨rfl, rfl⟩; rw [hc.out])
    | (go_at_call 83; refine (Tryz.strconv_ParseUint_10_at64_ok _ (by omega) a hp.out _).mono ?_; rintro e w' ⟨rfl, hw⟩))
  go_ret2
  refine ⟨rfl, ?_⟩
  rcases hw with rfl | rfl
  · exact Below.refl _ _
  · exact Lib.bytesWorld_below _ _ _
set_option maxHeartbeats 800000 in
/-- Small of a number that is too great -/
theorem small_no (a : Nat) (h : ¬ a < 18446744073709551616) (w : World) (hs : Std w) :
    Calls Tryz.prog 52 #[.string (str a)] w fun e w' => e = .returned (.tuple #[.int .u64 0, .bool false]) ∧ Below w.heap.size w w' := by
  have hc := Lib.hid (show canonL (str a).data.toList = true by rw [str_list]; exact canon_dd a)
  have hp := Lib.hid (show Lib.parseUintB 64 (str a).data.toList = .range by rw [parse_str, if_neg h])
  obtain ⟨tp, p, hr⟩ := hs.rng
  have HR := Lib.hid hr
  clear hs hr
  by_cases hl : (str a).size ≤ 20
  · go_enter Tryz.func52, Tryz.ntmps52
    go_wp2_with (first
      | (go_at_call 82; refine (canonical_any _ _ (by omega)).mono ?_; rintro e w' ⟨rfl, rfl⟩; rw [hc.out])
      | (go_at_call 83; refine (Tryz.strconv_ParseUint_10_at64_range_var _ (by omega) hp.out tp p _ HR.out).mono ?_; rintro e w' ⟨N, rfl, -, -, hb⟩))
    go_ret2
    exact ⟨rfl, hb⟩
  · go_enter Tryz.func52, Tryz.ntmps52
    go_wp2_with fail
    go_ret2
    exact ⟨rfl, Below.refl _ _⟩
set_option maxHeartbeats 800000 in
theorem both_yes (a b : Nat) (ha : a < 18446744073709551616) (hb : b < 18446744073709551616) (w : World) :
    Calls Tryz.prog 93 #[.string (str a), .string (str b)] w fun e w' => e = .returned (.tuple #[.int .u64 a, .int .u64 b, .bool true]) ∧ Below w.heap.size w w' := by
  go_enter Tryz.func93, Tryz.ntmps93
  go_wp2_with fail
  refine (small_yes a ha _).mono ?_
  rintro e w1 ⟨rfl, hb1⟩
  go_wp2_with fail
  refine (small_yes b hb _).mono ?_
  rintro e w2 ⟨rfl, hb2⟩
  go_wp2_with fail
  go_ret3
  exact ⟨rfl, hb1.trans (hb2.mono hb1.size)⟩
set_option maxHeartbeats 800000 in
theorem both_no (a b : Nat) (h : ¬ (a < 18446744073709551616 ∧ b < 18446744073709551616)) (w : World) (hs : Std w) :
    Calls Tryz.prog 93 #[.string (str a), .string (str b)] w fun e w' => ∃ x y : Nat, e = .returned (.tuple #[.int .u64 x, .int .u64 y, .bool false]) ∧ Below w.heap.size w w' := by
  by_cases ha : a < 18446744073709551616
  · have hb : ¬ b < 18446744073709551616 := fun hb => h ⟨ha, hb⟩
    clear h
    go_enter Tryz.func93, Tryz.ntmps93
    go_wp2_with fail
    refine (small_yes a ha _).mono ?_
    rintro e w1 ⟨rfl, hb1⟩
    go_wp2_with fail
    refine (small_no b hb _ (hs.below hb1)).mono ?_
    rintro e w2 ⟨rfl, hb2⟩
    go_wp2_with fail
    go_ret3
    exact ⟨a, 0, rfl, hb1.trans (hb2.mono hb1.size)⟩
  · clear h
    go_enter Tryz.func93, Tryz.ntmps93
    go_wp2_with fail
    refine (small_no a ha _ hs).mono ?_
    rintro e w1 ⟨rfl, hb1⟩
    go_wp2_with fail
    go_ret3
    exact ⟨0, 0, rfl, hb1⟩
end Go.Proofs.YtjebddpapbopnaaGreatDoor

namespace Go.Proofs.YtjebddpapbopnaaGreatDoor
open Go.RowKit

/-- numbers as cells -/
def c64 (l : List Nat) : List Value := l.map fun n : Nat => Value.int .u64 (n : Int)
theorem c64_len (l : List Nat) : (c64 l).length = l.length := by simp [c64]
theorem c64_at (l : List Nat) (i : Nat) (h : i < l.length) : (c64 l)[i]? = some (.int .u64 ((l[i]'h : Nat) : Int)) := by simp [c64, h]
theorem c64_take (l : List Nat) (k : Nat) : (c64 l).take k = c64 (l.take k) := by simp [c64, List.map_take]
theorem c64_append (l m : List Nat) : c64 (l ++ m) = c64 l ++ c64 m := by simp [c64]
theorem c64_set (l : List Nat) (k v : Nat) : (c64 l).set k (.int .u64 (v : Int)) = c64 (l.set k v) := by simp [c64, List.map_set]

/-- block g, from B on, is a row of the call's own that holds l, with room for cap -/
def Row (w : World) (B g cap : Nat) (l : List Nat) : Prop := w.ownsRow B 61 1 (.slice (some ⟨g, 0, none⟩) l.length cap) l.length (c64 l)
theorem Row.cell {w : World} {B g cap : Nat} {l : List Nat} (h : Row w B g cap l) (i : Nat) (hi : i < l.length) : w.cell? ⟨g, i, none⟩ = some (.int .u64 ((l[i]'hi : Nat) : Int)) := by
  rw [World.ownsRow.cellAt h i (by omega), c64_at l i hi]
theorem Row.free {w : World} {B g cap : Nat} {l : List Nat} (h : Row w B g cap l) (i : Nat) : w.frozen? ⟨g, i, none⟩ = false := World.ownsRow.frozenAt h i
theorem Row.below {w w' : World} {B g cap : Nat} {l : List Nat} (h : Row w B g cap l) (hb : Below w.heap.size w w') : Row w' B g cap l :=
  World.ownsRow.kept (row := none) h ⟨hb.os, hb.tape, hb.output, hb.size, fun j hj _ => hb.block j hj⟩ (.inr (by simp [Value.ownBlock]))
theorem Row.lt {w : World} {B g cap : Nat} {l : List Nat} (h : Row w B g cap l) : B ≤ g ∧ g < w.heap.size := World.ownsRow.lt h g rfl
theorem Row.mono {w : World} {B B' g cap : Nat} {l : List Nat} (h : Row w B g cap l) (hB : B' ≤ B) : Row w B' g cap l := by
  obtain ⟨h1, h2⟩ := h
  refine ⟨h1, ?_⟩
  rcases h2 with h2 | ⟨g', cap', cur, e, hg, r⟩
  · exact .inl h2
  · exact .inr ⟨g', cap', cur, e, by omega, r⟩
theorem Row.len_cap {w : World} {B g cap : Nat} {l : List Nat} (h : Row w B g cap l) : l.length ≤ cap ∧ cap ≤ maxLen := by
  rcases h.2 with ⟨h0, _⟩ | ⟨g', cap', cur, e, hg, hh, h1, h2, _⟩
  · cases h0
  · cases e; exact ⟨h1, h2⟩
theorem Row.take {w : World} {B g cap : Nat} {l : List Nat} (h : Row w B g cap l) (k : Nat) (hk : k ≤ l.length) : Row w B g cap (l.take k) := by
  have e : (l.take k).length = k := by rw [List.length_take]; omega
  obtain ⟨h1, h2⟩ := h
  rcases h2 with ⟨h0, _⟩ | ⟨g', cap', cur, e', hg, hh, hn, hcap, hsz, htake⟩
  · cases h0
  · cases e'
    refine ⟨by rw [c64_len, e]; omega, .inr ⟨g, cap, cur, by rw [e], hg, hh, by omega, hcap, hsz, ?_⟩⟩
    rw [e, ← c64_take, ← htake, List.take_take, Nat.mul_one, Nat.mul_one, Nat.min_eq_left (by omega)]
theorem Row.set {w : World} {B g cap : Nat} {l : List Nat} (h : Row w B g cap l) (k v : Nat) : Row (w.setCell ⟨g, k, none⟩ (.int .u64 (v : Int))) B g cap (l.set k v) := by
  have h1 := (World.ownsRow.stored h k (.int .u64 (v : Int))).1
  rw [c64_set] at h1
  unfold Row; rw [List.length_set]; exact h1
theorem Row.drew {w : World} {B g cap : Nat} {l : List Nat} (h : Row w B g cap l) : Row w.drew B g cap l := h
theorem Row.alloc {w : World} {B g cap : Nat} {l : List Nat} (h : Row w B g cap l) (o : Obj) : Row (w.alloc o) B g cap l := World.ownsRow.alloc h o

theorem ret_int2 {k : IntKind} {a b : Nat} {v : Value} (h : a = b) : Ending.returned (.tuple #[.int k a, v]) = Ending.returned (.tuple #[.int k b, v]) := by rw [h]
theorem ret_slice {g cap n m : Nat} (h : n = m) : Ending.returned (.slice (some ⟨g, 0, none⟩) n cap) = Ending.returned (.slice (some ⟨g, 0, none⟩) m cap) := by rw [h]
theorem trimP_take {l : List Nat} {j : Nat} (hj : j < l.length) (h0 : l[j] = 0) : trimP (l.take (j + 1)) = trimP (l.take j) := by
  rw [List.take_succ_eq_append_getElem hj, h0, trimP_snoc0]
theorem trimP_take' {l : List Nat} {j : Nat} (hj : j < l.length) (h0 : l[j] ≠ 0) : trimP (l.take (j + 1)) = l.take (j + 1) := by
  rw [List.take_succ_eq_append_getElem hj, trimP_snoc h0]

set_option maxHeartbeats 800000 in
theorem value_any (s : ByteArray) (w : World) (hs : s.size ≤ 9) (hd : s.data.toList.all isD = true) :
    Calls Tryz.prog 139 #[.string s] w fun e w' => e = .returned (.tuple #[.int .u64 (val s.data.toList), .bool true]) ∧ w = w' := by
  have HD : ∀ k (h : k < s.size), isD (s[k]'h) = true := fun k h => by
    rw [← at_list s k h]; exact List.all_eq_true.1 hd _ (List.getElem_mem _)
  have HB : ∀ k, val (s.data.toList.take k) < 10 ^ k := fun k => by
    have h1 := val_lt (s.data.toList.take k) (List.all_eq_true.2 fun x hx => List.all_eq_true.1 hd x (List.mem_of_mem_take hx))
    have h2 : 10 ^ (s.data.toList.take k).length ≤ 10 ^ k := Nat.pow_le_pow_right (by decide) (by rw [List.length_take]; omega)
    omega
  have HD' := Lib.hid HD
  have HB' := Lib.hid HB
  clear HD HB hd
  go_enter Tryz.func139, Tryz.ntmps139
  go_wp2
  go_loop [4, 5, 8] (fun n _ i => ∃ k v : Nat, k ≤ s.size ∧ i = .int .i64 k ∧ n = .int .u64 v ∧ Hid (v = val (s.data.toList.take k))) (fun _ _ i => s.size - (intOf i).toNat)
  case atStart => exact ⟨0, 0, Nat.zero_le _, rfl, rfl, rfl⟩
  case round =>
    obtain ⟨k, v, hk, rfl, rfl, HV⟩ := hrel
    by_cases hlt : k < s.size
    · have h1 := isD_lt (HD'.out k hlt)
      have h2 := HB'.out k
      have h3 : 10 ^ k ≤ 10 ^ 8 := Nat.pow_le_pow_right (by decide) (by omega)
      have hv0 := HV.out
      have g0 : v < 100000000 := by rw [hv0]; omega
      have g1 : 48 ≤ (s[k].toNat : Int) := by omega
      have g2 : (s[k].toNat : Int) ≤ 57 := by omega
      have HT := Lib.hid (take_val s k hlt)
      clear h1 h2 h3 hv0
      go_wp2
      all_goals go_round
      case rel => exact ⟨k + 1, 10 * v + (s[k].toNat - 48), by omega, by go_num, by go_num, by show _ = _; rw [HT.out, HV.out]⟩
      case measure => simp [intOf]; omega
    · go_wp2
      go_ret2
      exact ⟨ret_int2 (by rw [HV.out, take_all_len s k (by omega)]), rfl⟩

set_option maxHeartbeats 800000 in
theorem trim_any (B g cap : Nat) (l : List Nat) (w : World) (h : Row w B g cap l) :
    Calls Tryz.prog 118 #[.slice (some ⟨g, 0, none⟩) l.length cap] w fun e w' => e = .returned (.slice (some ⟨g, 0, none⟩) (trimP l).length cap) ∧ w = w' := by
  have hlc := h.len_cap
  unfold maxLen at hlc
  have HR := Lib.hid h
  have HP := Lib.hid (trimP_props l).2.2.2.2
  have HL := Lib.hid (trimP_props l).2.2.2.1
  clear h
  go_enter Tryz.func118, Tryz.ntmps118
  go_wp2
  go_loop [0] (fun v => ∃ k : Nat, k ≤ l.length ∧ v = .slice (some ⟨g, 0, none⟩) k cap ∧ Hid (trimP (l.take k) = trimP l)) (fun v => match v with | .slice _ n _ => n | _ => 0)
  case atStart => exact ⟨l.length, Nat.le_refl _, rfl, by show _ = _; rw [List.take_length]⟩
  case round =>
    obtain ⟨k, hk, rfl, HT⟩ := hrel
    by_cases hk0 : k = 0
    · subst hk0
      go_wp2
      go_ret
      exact ⟨ret_slice (by rw [← HT.out]; rfl), rfl⟩
    · obtain ⟨j, rfl⟩ : ∃ j, k = j + 1 := ⟨k - 1, by omega⟩
      have hj : j < l.length := by omega
      have hcell := HR.out.cell j hj
      by_cases h0 : l[j] = 0
      · have HT2 := Lib.hid (trimP_take hj h0)
        rw [h0] at hcell
        clear h0
        go_wp2
        all_goals go_round
        case rel => exact ⟨j, by omega, rfl, by show _ = _; rw [← HT2.out]; exact HT.out⟩
        case measure => simp
      · have HT2 := Lib.hid (trimP_take' hj h0)
        have hb : (((l[j] : Nat) : Int) == 0) = false := by rw [beq_eq_false_iff_ne]; omega
        have hpos : 0 < l[j] := by omega
        clear h0
        go_wp2
        go_ret
        exact ⟨ret_slice (by rw [← HT.out, HT2.out, List.length_take]; omega), rfl⟩
end Go.Proofs.YtjebddpapbopnaaGreatDoor

namespace Go.Proofs.YtjebddpapbopnaaGreatDoor
open Go.RowKit

theorem len2 (l : List Nat) (h : l.length ≤ 2) : l = [] ∨ (∃ x, l = [x]) ∨ ∃ x y, l = [x, y] := by
  match l, h with
  | [], _ => exact .inl rfl
  | [x], _ => exact .inr (.inl ⟨x, rfl⟩)
  | [x, y], _ => exact .inr (.inr ⟨x, y, rfl⟩)
theorem ret_val2 {a b : Value} {v : Value} (h : a = b) : Ending.returned (.tuple #[a, v]) = Ending.returned (.tuple #[b, v]) := by rw [h]

set_option maxHeartbeats 800000 in
theorem short_yes (B g cap : Nat) (l : List Nat) (w : World) (h : Row w B g cap l) (hl : l.length ≤ 2) (h9 : lt9 l) :
    Calls Tryz.prog 121 #[.slice (some ⟨g, 0, none⟩) l.length cap] w fun e w' => e = .returned (.tuple #[.int .u64 (pv l), .bool true]) ∧ Below w.heap.size w w' := by
  have hlc := h.len_cap
  unfold maxLen at hlc
  rcases len2 l hl with rfl | ⟨x, rfl⟩ | ⟨x, y, rfl⟩
  · clear h
    go_enter Tryz.func121, Tryz.ntmps121
    go_wp2
    go_ret2
    exact ⟨rfl, Below.refl _ _⟩
  · have hc : w.cell? ⟨g, 0, none⟩ = some (.int .u64 (x : Int)) := h.cell 0 (by simp)
    clear h
    go_enter Tryz.func121, Tryz.ntmps121
    go_wp2
    go_ret2
    exact ⟨ret_val2 (by simp [pv]), Below.refl _ _⟩
  · have hc : w.cell? ⟨g, 0, none⟩ = some (.int .u64 (x : Int)) := h.cell 0 (by simp)
    have hc1 : w.cell? ⟨g, 1, none⟩ = some (.int .u64 (y : Int)) := h.cell 1 (by simp)
    have k0 : x < 1000000000 := h9 x (by simp)
    have k1 : y < 1000000000 := h9 y (by simp)
    simp only [List.length_cons, List.length_nil] at hlc
    clear h h9 hl
    go_enter Tryz.func121, Tryz.ntmps121
    go_wp2
    go_quiet (fail)
    go_wp2
    go_ret2
    refine ⟨ret_val2 (by simp [pv]; omega), below_drewN (Below.refl _ _) _⟩
set_option maxHeartbeats 800000 in
theorem short_no (B g cap : Nat) (l : List Nat) (w : World) (h : Row w B g cap l) (hl : 2 < l.length) :
    Calls Tryz.prog 121 #[.slice (some ⟨g, 0, none⟩) l.length cap] w fun e w' => e = .returned (.tuple #[.int .u64 0, .bool false]) ∧ w = w' := by
  have hlc := h.len_cap
  unfold maxLen at hlc
  have b0 : ((l.length : Int) == 0) = false := by rw [beq_eq_false_iff_ne]; omega
  have b1 : ((l.length : Int) == 1) = false := by rw [beq_eq_false_iff_ne]; omega
  have b2 : ((l.length : Int) == 2) = false := by rw [beq_eq_false_iff_ne]; omega
  clear h
  go_enter Tryz.func121, Tryz.ntmps121
  go_wp2
  go_ret2
  exact ⟨rfl, rfl⟩

theorem own_some {w : World} {B : Nat} {e : TypeId} {v : Value} {n : Nat} {xs : List Value} (h : w.ownsRow B e 1 v n xs) (hn : 0 < n) : ∃ g cap, v = .slice (some ⟨g, 0, none⟩) n cap := by
  rcases h.2 with ⟨_, h0⟩ | ⟨g, cap, cur, hv, _⟩
  · omega
  · exact ⟨g, cap, hv⟩
theorem Row.of {w : World} {B g cap n : Nat} {l : List Nat} {xs : List Value} (h : w.ownsRow B 61 1 (.slice (some ⟨g, 0, none⟩) n cap) n xs) (hl : l.length = n) (hx : xs = c64 l) : Row w B g cap l := by
  unfold Row; rw [hl, ← hx]; exact h
theorem all_sub {l : List UInt8} (h : l.all isD = true) (a e : Nat) : ((l.take e).drop a).all isD = true :=
  List.all_eq_true.2 fun x hx => List.all_eq_true.1 h x (List.mem_of_mem_take (List.mem_of_mem_drop hx))
theorem info64 : (Tryz.prog.info? 61).map (fun i => (i.zero, i.size, i.bytes)) = some (some (.int .u64 0), 1, 8) := by kernel_rfl
theorem ext_list (s : ByteArray) (a e : Nat) : (s.extract a e).data.toList = (s.data.toList.take e).drop a := by rw [Lib.extract_data, List.drop_take]

set_option maxHeartbeats 1600000 in
set_option maxRecDepth 100000 in
theorem cut_any (s : ByteArray) (w : World) (hs : s.size ≤ 1000000) (hc : canonL s.data.toList = true) :
    Calls Tryz.prog 116 #[.string s] w fun e w' => ∃ (g cap : Nat) (p : List Nat), e = .returned (.tuple #[.slice (some ⟨g, 0, none⟩) p.length cap, .bool true]) ∧ Pcs p (val s.data.toList) ∧ Row w' w.heap.size g cap p ∧ Below w.heap.size w w' := by
  obtain ⟨i0, hi, hz0, hz1, hz2⟩ := info_parts info64
  have hb : headOk s.data.toList = true := by unfold canonL at hc; simp only [Bool.and_eq_true] at hc; exact hc.1
  have ha : s.data.toList.all isD = true := by unfold canonL at hc; simp only [Bool.and_eq_true] at hc; exact hc.2
  have HB := Lib.hid hb
  have HA := Lib.hid ha
  clear hb ha hc
  go_enter Tryz.func116, Tryz.ntmps116
  go_wp2_with (first
    | (go_at_call 107; refine (begins_any _ _).mono ?_; rintro e w' ⟨rfl, rfl⟩; rw [HB.out])
    | (at_make; go_loud (refine wpList_make_own _ rfl _ _ 103 rfl w.heap.size 61 i0 (.int .u64 0) 1 Tryz.underlying103 hi hz0 hz1 .i64 .i64 _ (s.size / 9 + 2) rfl rfl (by omega) (by rw [hz2]; omega) (by unfold maxLen; omega) (Nat.le_refl _) ?_); intro w0 hown0 hgrow0))
  have hb0 : Below w.heap.size w w0 := (Below.refl _ _).grown hgrow0 (Nat.le_refl _) (by intro k hk; cases hk)
  have hr0 : Row w0 w.heap.size w.heap.size (s.size / 9 + 2) [] := hown0
  clear hown0 hgrow0
  go_wp2
  go_loopw [4, 5, 6, 7] (fun v ev _ _ wr => ∃ (k g cap : Nat) (p : List Nat) (E : Int), v = .slice (some ⟨g, 0, none⟩) p.length cap ∧ ev = .int .i64 E ∧ -9 < E ∧ E ≤ s.size ∧ Row wr w.heap.size g cap p ∧ Below w.heap.size w wr ∧ Hid (p.length = k ∧ E = (s.size : Int) - 9 * k ∧ lt9 p ∧ pv p = val (s.data.toList.drop (s.size - 9 * k)))) (fun _ ev _ _ _ => (intOf ev).toNat)
  case atStart => exact ⟨0, w.heap.size, s.size / 9 + 2, [], s.size, rfl, rfl, by omega, by omega, hr0, hb0, rfl, by simp, by simp [lt9], by rw [List.drop_of_length_le (by rw [len_list]; omega)]; rfl⟩
  case round =>
    obtain ⟨k, g, cap, p, E, rfl, rfl, hE1, hE2, hrow, hbel, HH⟩ := hrel
    by_cases hE : 0 < E
    · obtain ⟨e, rfl⟩ : ∃ e : Nat, E = e := ⟨E.toNat, by omega⟩
      have hlen := hrow.len_cap
      unfold maxLen at hlen
      obtain ⟨hk, hEk, h9, hpv⟩ := HH.out
      have hkb : p.length < 200000 := by omega
      have hsz : (s.extract (e - 9) e).size ≤ 9 := by rw [ByteArray.size_extract]; omega
      have hdg : (s.extract (e - 9) e).data.toList.all isD = true := by rw [ext_list]; exact all_sub HA.out _ _
      have hval := value_any (s.extract (e - 9) e) wr hsz hdg
      rw [ext_list] at hval
      have hlt := val_lt _ (all_sub HA.out (e - 9) e)
      have hll : ((s.data.toList.take e).drop (e - 9)).length ≤ 9 := by rw [List.length_drop, List.length_take]; omega
      have hpw : 10 ^ ((s.data.toList.take e).drop (e - 9)).length ≤ 10 ^ 9 := Nat.pow_le_pow_right (by decide) hll
      have hstep := cut_step s.data.toList e (by rw [len_list]; omega) p (by rw [hpv]; congr 2; omega) (by rw [len_list]; omega)
      obtain ⟨x, hx⟩ : ∃ x, x = val ((s.data.toList.take e).drop (e - 9)) := ⟨_, rfl⟩
      rw [← hx] at hval hlt hstep
      have hx9 : x < 1000000000 := by omega
      have HX : Hid (p.length = k ∧ (e : Int) = (s.size : Int) - 9 * k ∧ lt9 p ∧ pv (p ++ [x]) = val (s.data.toList.drop (e - 9))) := ⟨hk, hEk, h9, hstep⟩
      have HV := Lib.hid hval
      have HR := Lib.hid hrow
      clear hval hlt hll hpw hstep hx hk hEk h9 hpv HH hsz hdg
      go_wp2_with fail
      rw [show (max 0 ((e : Int) - 9)).toNat = e - 9 from by omega]
      refine HV.out.mono ?_
      rintro e' w1 ⟨rfl, rfl⟩
      go_wp2_with (first
        | (at_builtin; refine wpList_append_own _ rfl _ _ 103 rfl w.heap.size 61 i0 (.int .u64 0) 1 8 Tryz.underlying103 hi hz0 hz1 hz2 rfl (by decide) _ _ _ rfl (World.ownsRow.alloc HR.out _) ⟨wr.heap.size, 0, none⟩ 1 1 [.int .u64 (x : Int)] rfl rfl ?c1 ?c2 ?c3 ?c4 ?c5 ?_)
        | fail)
      case c1 =>
        intro j u hj
        match j, hj with
        | 0, hj => simp at hj; subst hj; simp [Addr.add]
      case c2 => intro u hu; simp at hu; subst hu; rfl
      case c3 => unfold maxLen; omega
      case c4 => omega
      case c5 => have := hbel.size; simp; omega
      · intro v' w2 hown' hgrow _
        obtain ⟨g', cap', rfl⟩ := own_some hown' (by omega)
        have hrow' : Row w2 w.heap.size g' cap' (p ++ [x]) := Row.of hown' (by simp) (by rw [c64_append]; rfl)
        have hbel' : Below w.heap.size w w2 := ((hbel.alloc (by have := hbel.size; omega) _).grown hgrow (by have := hbel.size; simp; omega) (by intro q hq; simp [Value.ownBlock] at hq; have := HR.out.lt; omega))
        have hlen' : (p ++ [x]).length = p.length + 1 := by simp
        clear hown' hgrow
        go_wp2_with fail
        all_goals go_roundw
        case rel =>
          obtain ⟨hk, hEk, h9, hstep⟩ := HX
          refine ⟨k + 1, g', cap', p ++ [x], (e : Int) - 9, by rw [hlen'], rfl, by omega, by omega, hrow', hbel', by rw [hlen', hk], by omega, lt9_snoc h9 hx9, ?_⟩
          rw [hstep]; congr 2; omega
        case measure => simp [intOf]; omega
    · go_wp2_with fail
      refine (trim_any _ g cap p _ hrow).mono ?_
      rintro e' w1 ⟨rfl, rfl⟩
      go_wp2_with fail
      go_ret2
      obtain ⟨hk, hEk, h9, hpv⟩ := HH.out
      have hz : s.size - 9 * k = 0 := by omega
      rw [hz, List.drop_zero] at hpv
      refine ⟨g, cap, trimP p, rfl, ?_, ?_, hbel⟩
      · rw [← hpv]; exact Pcs.of_trim h9
      · have := hrow.take (trimP p).length (trimP_props p).2.2.2.1
        rw [← (trimP_props p).2.2.2.2] at this; exact this

theorem canon_str (a : Nat) : canonL (str a).data.toList = true := by rw [str_list]; exact canon_dd a
theorem val_str (a : Nat) : val (str a).data.toList = a := by rw [str_list, val_dd]

set_option maxHeartbeats 1600000 in
theorem cutBoth_any (a b : Nat) (w : World) (ha : (str a).size ≤ 1000000) (hb : (str b).size ≤ 1000000) :
    Calls Tryz.prog 96 #[.string (str a), .string (str b)] w fun e w' => ∃ (g cap : Nat) (p : List Nat) (g' cap' : Nat) (q : List Nat), e = .returned (.tuple #[.slice (some ⟨g, 0, none⟩) p.length cap, .slice (some ⟨g', 0, none⟩) q.length cap', .bool true]) ∧ Pcs p a ∧ Pcs q b ∧ Row w' w.heap.size g cap p ∧ Row w' w.heap.size g' cap' q ∧ g < g' ∧ Below w.heap.size w w' := by
  go_enter Tryz.func96, Tryz.ntmps96
  go_wp2_with fail
  refine (cut_any _ _ ha (canon_str a)).mono ?_
  rintro e w1 ⟨g, cap, p, rfl, hp, hr, hb1⟩
  rw [val_str] at hp
  have HR := Lib.hid hr
  have HP := Lib.hid hp
  clear hr hp
  go_wp2_with fail
  refine (cut_any _ _ hb (canon_str b)).mono ?_
  rintro e w2 ⟨g', cap', q, rfl, hq, hr2, hb2⟩
  rw [val_str] at hq
  have HR2 := Lib.hid hr2
  have HQ := Lib.hid hq
  clear hr2 hq
  go_wp2_with fail
  go_ret3
  exact ⟨g, cap, p, g', cap', q, rfl, HP.out, HQ.out, HR.out.below hb2, HR2.out.mono hb1.size, by have h1 := HR.out.lt; have h2 := HR2.out.lt; omega, hb1.trans (hb2.mono hb1.size)⟩
end Go.Proofs.YtjebddpapbopnaaGreatDoor

namespace Go.Proofs.YtjebddpapbopnaaGreatDoor
open Go.RowKit

/-- bytes as cells -/
def c8 (l : List UInt8) : List Value := l.map fun c : UInt8 => Value.int .u8 (c.toNat : Int)
theorem c8_len (l : List UInt8) : (c8 l).length = l.length := by simp [c8]
theorem c8_at (l : List UInt8) (i : Nat) (h : i < l.length) : (c8 l)[i]? = some (.int .u8 (((l[i]'h).toNat : Nat) : Int)) := by simp [c8, h]
theorem c8_set (l : List UInt8) (k : Nat) (c : UInt8) : (c8 l).set k (.int .u8 (c.toNat : Int)) = c8 (l.set k c) := by simp [c8, List.map_set]
def RowB (w : World) (B g cap n : Nat) (l : List UInt8) : Prop := l.length = n ∧ w.ownsRow B 5 1 (.slice (some ⟨g, 0, none⟩) n cap) n (c8 l)
theorem RowB.cell {w : World} {B g cap n : Nat} {l : List UInt8} (h : RowB w B g cap n l) (i : Nat) (hi : i < l.length) : w.cell? ⟨g, i, none⟩ = some (.int .u8 (((l[i]'hi).toNat : Nat) : Int)) := by
  rw [World.ownsRow.cellAt h.2 i (by have := h.1; omega), c8_at l i hi]
theorem RowB.free {w : World} {B g cap n : Nat} {l : List UInt8} (h : RowB w B g cap n l) (i : Nat) : w.frozen? ⟨g, i, none⟩ = false := World.ownsRow.frozenAt h.2 i
theorem RowB.set {w : World} {B g cap n : Nat} {l : List UInt8} (h : RowB w B g cap n l) (k : Nat) (c : UInt8) : RowB (w.setCell ⟨g, k, none⟩ (.int .u8 (c.toNat : Int))) B g cap n (l.set k c) := by
  have h1 := (World.ownsRow.stored h.2 k (.int .u8 (c.toNat : Int))).1
  rw [c8_set] at h1
  exact ⟨by rw [List.length_set]; exact h.1, h1⟩
theorem RowB.lt {w : World} {B g cap n : Nat} {l : List UInt8} (h : RowB w B g cap n l) : B ≤ g ∧ g < w.heap.size := World.ownsRow.lt h.2 g rfl
theorem RowB.len_cap {w : World} {B g cap n : Nat} {l : List UInt8} (h : RowB w B g cap n l) : n ≤ cap ∧ cap ≤ maxLen := by
  rcases h.2.2 with ⟨h0, _⟩ | ⟨g', cap', cur, e, hg, hh, h1, h2, _⟩
  · cases h0
  · cases e; exact ⟨h1, h2⟩
theorem info8 : (Tryz.prog.info? 5).map (fun i => (i.zero, i.size, i.bytes)) = some (some (.int .u8 0), 1, 1) := by kernel_rfl
/-- zeros, then what has been written -/
def dig0 (m : Nat) (s : List UInt8) : List UInt8 := List.replicate m 0 ++ s
theorem dig0_set (m : Nat) (s : List UInt8) (c : UInt8) : (dig0 (m + 1) s).set m c = dig0 m (c :: s) := by
  unfold dig0
  rw [List.replicate_succ', List.append_assoc, List.set_append_right _ _ (by simp)]
  simp
theorem dig0_len (m : Nat) (s : List UInt8) : (dig0 m s).length = m + s.length := by simp [dig0]
theorem joinL_take (p : List Nat) (k : Nat) (hk : k < p.length) : joinL (p.take (k + 1)) = ld (p[k]'hk) 9 ++ joinL (p.take k) := by
  rw [List.take_succ_eq_append_getElem hk, joinL_snoc]

theorem RowB.bytesAt {w : World} {B g cap n : Nat} {l : List UInt8} (h : RowB w B g cap n l) : Lib.BytesAt w (some ⟨g, 0, none⟩) n l := by
  intro h0
  refine ⟨g, 0, rfl, fun i hi => ?_⟩
  have hl : i < l.length := by rw [h.1]; exact hi
  rw [Nat.zero_add, h.cell i hl]
  simp [List.getD_eq_getElem?_getD, hl]
theorem left_val {g n a : Nat} {l : List UInt8} (hl : l.length = n) (hd : l.dropWhile (· == 48) = Lib.decDigits a) :
    Lib.leftV (some ⟨g, 0, none⟩) n n (n - (Lib.trimLeftS l [48]).length) = .slice (some ⟨g, n - (Lib.decDigits a).length, none⟩) (Lib.decDigits a).length (Lib.decDigits a).length ∧
    (∀ j (hj : j < (Lib.decDigits a).length), ∃ h : n - (Lib.decDigits a).length + j < l.length, l[n - (Lib.decDigits a).length + j]'h = (Lib.decDigits a)[j]) := by
  have e : Lib.trimLeftS l [48] = Lib.decDigits a := by rw [Lib.trimLeftS_one]; exact hd
  have hs : Lib.decDigits a <:+ l := by rw [← hd]; exact List.dropWhile_suffix _
  have hle : (Lib.decDigits a).length ≤ l.length := hs.length_le
  have hpos : 0 < (Lib.decDigits a).length := List.length_pos_iff.2 (dd_ne a)
  have hdr : Lib.decDigits a = l.drop (l.length - (Lib.decDigits a).length) := (List.suffix_iff_eq_drop.1 hs)
  rw [e]
  constructor
  · unfold Lib.leftV Lib.fromV
    rw [if_neg (by omega), if_neg (by omega)]
    simp only [Option.map_some, Lib.add_plain, Nat.zero_add]
    rw [show n - (n - (Lib.decDigits a).length) = (Lib.decDigits a).length by omega]
  · intro j hj
    refine ⟨by omega, ?_⟩
    have h1 : (Lib.decDigits a)[j]? = (l.drop (l.length - (Lib.decDigits a).length))[j]? := by rw [← hdr]
    rw [List.getElem?_drop, List.getElem?_eq_getElem hj, List.getElem?_eq_getElem (by omega)] at h1
    have h2 := Option.some.inj h1
    rw [h2]; simp only [hl]

set_option maxHeartbeats 3200000 in
set_option maxRecDepth 100000 in
theorem join_any (B g cap : Nat) (p : List Nat) (a : Nat) (w : World) (h : Row w B g cap p) (hp : Pcs p a) (hn : p.length ≤ 200000) :
    Calls Tryz.prog 97 #[.slice (some ⟨g, 0, none⟩) p.length cap] w fun e w' => e = .returned (.string (str a)) ∧ Below w.heap.size w w' := by
  by_cases h0 : p = []
  · subst h0
    have ha : a = 0 := hp.val.symm
    have hs : str a = ⟨#[48]⟩ := by rw [ha]; exact (str_eq 0 (by decide) (by decide)).symm
    rw [hs]
    clear hs ha h hp
    go_enter Tryz.func97, Tryz.ntmps97
    go_wp2_with fail
    go_ret
    exact ⟨rfl, Below.refl _ _⟩
  · have hlc := h.len_cap
    unfold maxLen at hlc
    obtain ⟨i0, hi, hz0, hz1, hz2⟩ := info_parts info8
    have hpos : 0 < p.length := List.length_pos_iff.2 h0
    have hb0 : ((p.length : Int) == 0) = false := by rw [beq_eq_false_iff_ne]; omega
    have HH := Lib.hid h
    have HP := Lib.hid (joinL_canon hp h0)
    have HA := Lib.hid hp
    clear h hp h0
    go_enter Tryz.func97, Tryz.ntmps97
    go_wp2_with (at_make; refine wpList_make_full _ rfl _ _ 31 rfl w.heap.size 5 i0 (.int .u8 0) 1 Tryz.underlying31 hi hz0 hz1 .i64 .i64 _ _ (9 * p.length) rfl rfl (by omega) (by omega) (by rw [hz2]; omega) (by unfold maxLen; omega) (Nat.le_refl _) ?_; intro w0 hown0 hgrow0)
    have hbel0 : Below w.heap.size w w0 := (Below.refl _ _).grown hgrow0 (Nat.le_refl _) (by intro k hk; cases hk)
    have hrow0 : RowB w0 w.heap.size w.heap.size (9 * p.length) (9 * p.length) (dig0 (9 * p.length) []) := by
      refine ⟨by rw [dig0_len]; simp, ?_⟩
      have e : c8 (dig0 (9 * p.length) []) = (madeCells (Value.int .u8 0).cells (9 * p.length * 1)).toList := by
        rw [show (Value.int .u8 0).cells = #[.int .u8 0] from rfl, toList_madeCells_one, Nat.mul_one]; simp [c8, dig0]
      rw [e]; exact hown0
    clear hown0 hgrow0
    go_wp2_with fail
    go_loopw [4, 6, 18, 22] (fun av _ iv _ wr => ∃ k m : Nat, iv = .int .i64 k ∧ k ≤ p.length ∧ av = .int .i64 m ∧ Hid (m + 9 * k = 9 * p.length) ∧ RowB wr w.heap.size w.heap.size (9 * p.length) (9 * p.length) (dig0 m (joinL (p.take k))) ∧ Below w.heap.size w wr) (fun _ _ iv _ _ => p.length - (intOf iv).toNat)
    case atStart => exact ⟨0, 9 * p.length, rfl, Nat.zero_le _, by go_num, by show _ = _; omega, hrow0, hbel0⟩
    case round =>
      obtain ⟨k, m, rfl, hk, rfl, HM, hrow, hbel⟩ := hrel
      by_cases hlt : k < p.length
      · have hcell := (HH.out.below hbel).cell k hlt
        obtain ⟨wo, rfl⟩ : ∃ wo : World, wo = wr := ⟨_, rfl⟩
        have hx9 := lt9_at HA.out.lt k hlt
        obtain ⟨x, hx⟩ : ∃ x : Nat, x = p[k] := ⟨_, rfl⟩
        rw [← hx] at hcell hx9
        have HX := Lib.hid hx
        have HJ := Lib.hid (joinL_take p k hlt)
        clear hx
        have HR := Lib.hid hrow
        have HB := Lib.hid hbel
        clear hrow hbel
        go_wp2_with fail
        go_loopw [4, 6, 22] (fun av xv jv wr => ∃ j m y : Nat, jv = .int .i64 j ∧ j ≤ 9 ∧ av = .int .i64 m ∧ xv = .int .u64 y ∧ y < 1000000000 ∧ Hid (m + j + 9 * k = 9 * p.length ∧ y = x / 10 ^ j) ∧ RowB wr w.heap.size w.heap.size (9 * p.length) (9 * p.length) (dig0 m (ld x j ++ joinL (p.take k))) ∧ Below w.heap.size w wr) (fun _ _ jv _ => 9 - (intOf jv).toNat)
        case atStart => exact ⟨0, m, x, rfl, by omega, rfl, rfl, hx9, ⟨by have := HM.out; omega, by simp⟩, HR.out, HB.out⟩
        case round =>
          obtain ⟨j, m', y, rfl, hj, rfl, rfl, hy, HI, hrow, hbel⟩ := hrel
          by_cases hj9 : j < 9
          · have hi1 := HI.out.1
            obtain ⟨q, rfl⟩ : ∃ q, m' = q + 1 := ⟨m' - 1, by omega⟩
            have hl : (ld x j ++ joinL (p.take k)).length = j + 9 * k := by rw [List.length_append, ld_len, joinL_len, List.length_take]; omega
            have hq : q < (dig0 (q + 1) (ld x j ++ joinL (p.take k))).length := by rw [dig0_len]; omega
            obtain ⟨c0, hc0⟩ : ∃ c0 : Int, wr.cell? ⟨w.heap.size, q, none⟩ = some (.int .u8 c0) := ⟨_, hrow.cell q hq⟩
            have hf0 := hrow.free q
            have hqb : q < 9 * p.length := by omega
            have HR2 := Lib.hid hrow
            have HB2 := Lib.hid hbel
            clear hrow hbel hq hl hi1
            go_wp2_with fail
            all_goals go_roundw
            case rel =>
              have hy2 := HI.2
              have ed : 48 + (y : Int) % 10 = ((Lib.dg x j).toNat : Int) := by rw [dg_nat, ← hy2]; omega
              have e2 := HR2.out.set q (Lib.dg x j)
              rw [dig0_set, ← ed] at e2
              refine ⟨j + 1, q, y / 10, by go_num, by omega, rfl, by go_num, by omega, ⟨by have := HI.1; omega, by rw [hy2, Nat.pow_succ, Nat.div_div_eq_div_mul]⟩, e2, HB2.out.setCell (Nat.le_refl _) _⟩
            case measure => simp [intOf]; omega
          · have HR2 := Lib.hid hrow
            have HB2 := Lib.hid hbel
            clear hrow hbel
            go_wp2_with fail
            all_goals go_roundw
            case rel =>
              have hj' : j = 9 := by omega
              subst hj'
              have e2 := HR2.out
              rw [HX.out, ← HJ.out] at e2
              exact ⟨k + 1, m', by go_num, by omega, rfl, by show _ = _; have := HI.1; omega, e2, HB2.out⟩
            case measure => simp [intOf]; omega
      · have hk' : k = p.length := by omega
        subst hk'
        have hm0 : m = 0 := by have := HM.out; omega
        subst hm0
        have hjl : (joinL p).length = 9 * p.length := joinL_len p
        have hrow2 : RowB wr w.heap.size w.heap.size (9 * p.length) (9 * p.length) (joinL p) := by
          have := hrow; rw [List.take_length] at this; exact this
        obtain ⟨hv, hcs⟩ := left_val (g := w.heap.size) hjl HP.out
        have htr := Tryz.bytes_TrimLeft_one (some ⟨w.heap.size, 0, none⟩) (9 * p.length) (9 * p.length) (joinL p) 48 wr hjl (Nat.le_refl _) (by omega) hrow2.bytesAt (by omega) (by decide)
        rw [hv] at htr
        have hcv := run_convert_bytes_back (P := Tryz.prog) wr 31 25 5 ⟨w.heap.size, 9 * p.length - (Lib.decDigits a).length, none⟩ (Lib.decDigits a).length (Lib.decDigits a) Tryz.underlying31 Tryz.underlying5 Tryz.underlying25 (fun j hj => by
          obtain ⟨h1, h2⟩ := hcs j hj
          rw [Lib.add_plain, hrow2.cell _ h1, h2])
        have HT := Lib.hid htr
        have HB2 := Lib.hid hbel
        clear htr hv hcs hrow hbel hrow2 hjl hlt
        generalize 9 * p.length - (Lib.decDigits a).length = z at *
        generalize (Lib.decDigits a).length = L at *
        go_wp2_with fail
        refine HT.out.mono ?_
        rintro e w' ⟨rfl, rfl⟩
        go_wp2_with fail
        go_ret
        exact ⟨rfl, HB2.out⟩
end Go.Proofs.YtjebddpapbopnaaGreatDoor

namespace Go.Proofs.YtjebddpapbopnaaGreatDoor
open Go.RowKit

theorem ret_two {a b c d : Value} (h : a = b) (k : c = d) : Ending.returned (.tuple #[a, c]) = Ending.returned (.tuple #[b, d]) := by rw [h, k]

set_option maxHeartbeats 400000 in
theorem div64_small (lo y : Nat) (hy : 0 < y) (hlo : lo < 18446744073709551616) (w : World) :
    Calls Tryz.prog 145 #[.int .u64 0, .int .u64 lo, .int .u64 y] w fun e w' => e = .returned (.tuple #[.int .u64 ((lo / y : Nat) : Int), .int .u64 ((lo % y : Nat) : Int)]) ∧ Below w.heap.size w w' := by
  have hy0 : ((y : Int) == 0) = false := by rw [beq_eq_false_iff_ne]; omega
  have hwr : IntKind.u64.wrap ((lo : Int) / (y : Int)) = (lo : Int) / (y : Int) := by
    have hq := Nat.div_le_self lo y
    rw [← Int.natCast_ediv, IntKind.wrap_u64]; generalize lo / y = q at hq ⊢; omega
  clear hlo
  go_enter Tryz.func145, Tryz.ntmps145
  go_wp2
  go_quiet (fail)
  go_wp2
  go_ret2
  exact ⟨ret_two (a := .int .u64 ((lo : Int) / (y : Int))) (c := .int .u64 ((lo : Int) % (y : Int))) (by rw [Int.natCast_ediv]) (by rw [Int.natCast_emod]), below_drewN (Below.refl _ _) _⟩

set_option maxHeartbeats 800000 in
set_option maxRecDepth 100000 in
theorem takeShort_small (rest piece n : Nat) (hr : rest < n) (hp : piece < 1000000000) (hn : n ≤ 18446744072) (w : World) :
    Calls Tryz.prog 124 #[.int .u64 rest, .int .u64 piece, .int .u64 n] w fun e w' => e = .returned (.tuple #[.int .u64 (((rest * 1000000000 + piece) / n : Nat) : Int), .int .u64 (((rest * 1000000000 + piece) % n : Nat) : Int)]) ∧ Below w.heap.size w w' := by
  have hm := Tryz.bits_Mul64 rest 1000000000 (by omega) (by omega) w
  obtain ⟨v, hv⟩ : ∃ v : Nat, v = rest * 1000000000 := ⟨_, rfl⟩
  rw [← hv] at hm ⊢
  rw [Nat.div_eq_of_lt (show v < 18446744073709551616 by omega), Nat.mod_eq_of_lt (show v < 18446744073709551616 by omega)] at hm
  obtain ⟨u, hu⟩ : ∃ u : Nat, u = v + piece := ⟨_, rfl⟩
  have ha := fun wx => Tryz.bits_Add64 v piece 0 (by omega) wx
  have ha' : ∀ wx, (callFunc 94 #[.int .u64 (v : Int), .int .u64 (piece : Int), .int .u64 0]).run Tryz.prog wx = .ok (.value (.tuple #[.int .u64 (u : Int), .int .u64 0])) wx := fun wx => by
    have h := ha wx
    rw [Nat.add_zero, ← hu, Nat.div_eq_of_lt (show u < 18446744073709551616 by omega), Nat.mod_eq_of_lt (show u < 18446744073709551616 by omega)] at h
    exact h
  clear ha
  have hd := fun wx => div64_small u n (by omega) (by omega) wx
  rw [hu] at hd
  rw [← hu] at hd ⊢
  have HM := Lib.hid hm
  have HD := Lib.hid hd
  clear hm hd hv hu
  go_enter Tryz.func124, Tryz.ntmps124
  go_wp2_with (first
    | (go_at_call 100; refine HM.out.mono ?_; rintro e w' ⟨rfl, rfl⟩)
    | (go_at_call 145; refine (HD.out _).mono ?_; rintro e w' ⟨rfl, hb⟩))
  go_ret2
  exact ⟨rfl, hb⟩

/-- zeros, then what has been written -/
def z0 (m : Nat) (s : List Nat) : List Nat := List.replicate m 0 ++ s
theorem z0_set (m : Nat) (s : List Nat) (c : Nat) : (z0 (m + 1) s).set m c = z0 m (c :: s) := by
  unfold z0
  rw [List.replicate_succ', List.append_assoc, List.set_append_right _ _ (by simp)]
  simp
theorem z0_len (m : Nat) (s : List Nat) : (z0 m s).length = m + s.length := by simp [z0]
theorem Row.made {w : World} {B g n : Nat} (h : w.ownsRow B 61 1 (.slice (some ⟨g, 0, none⟩) n n) n (madeCells (Value.int .u64 0).cells (n * 1)).toList) : Row w B g n (z0 n []) := by
  refine Row.of h (by rw [z0_len]; rfl) ?_
  rw [show (Value.int .u64 0).cells = #[.int .u64 0] from rfl, toList_madeCells_one, Nat.mul_one]; simp [c64, z0]

set_option maxHeartbeats 3200000 in
set_option maxRecDepth 100000 in
theorem divideShort_small (B g cap : Nat) (p : List Nat) (n : Nat) (w : World) (h : Row w B g cap p) (h9 : lt9 p) (hn0 : 0 < n) (hn1 : n ≤ 18446744072) (hl : p.length ≤ 200000) :
    Calls Tryz.prog 122 #[.slice (some ⟨g, 0, none⟩) p.length cap, .int .u64 n] w fun e w' => ∃ (g' cap' : Nat) (q : List Nat), e = .returned (.tuple #[.slice (some ⟨g', 0, none⟩) q.length cap', .int .u64 ((pv p % n : Nat) : Int)]) ∧ Pcs q (pv p / n) ∧ Row w' w.heap.size g' cap' q ∧ Below w.heap.size w w' := by
  have hlc := h.len_cap
  unfold maxLen at hlc
  obtain ⟨i0, hi, hz0, hz1, hz2⟩ := info_parts info64
  have HH := Lib.hid h
  have H9 := Lib.hid h9
  clear h h9
  go_enter Tryz.func122, Tryz.ntmps122
  go_wp2_with (at_make; refine wpList_make_full _ rfl _ _ 103 rfl w.heap.size 61 i0 (.int .u64 0) 1 Tryz.underlying103 hi hz0 hz1 .i64 .i64 _ _ p.length rfl rfl (by omega) (by omega) (by rw [hz2]; omega) (by unfold maxLen; omega) (Nat.le_refl _) ?_; intro w0 hown0 hgrow0)
  have hbel0 : Below w.heap.size w w0 := (Below.refl _ _).grown hgrow0 (Nat.le_refl _) (by intro k hk; cases hk)
  have hrow0 := Row.made hown0
  clear hown0 hgrow0
  go_wp2_with fail
  go_loopw [5, 6] (fun rv iv wr => ∃ (k r : Nat) (E : Int), iv = .int .i64 E ∧ k ≤ p.length ∧ -1 ≤ E ∧ E < p.length ∧ rv = .int .u64 r ∧ r < n ∧ Hid (E = (k : Int) - 1 ∧ r = (divS n (p.drop k)).2) ∧ Row wr w.heap.size w.heap.size p.length (z0 k (divS n (p.drop k)).1) ∧ Below w.heap.size w wr) (fun _ iv _ => (intOf iv + 1).toNat)
  case atStart =>
    refine ⟨p.length, 0, (p.length : Int) - 1, rfl, Nat.le_refl _, by omega, by omega, rfl, hn0, ⟨rfl, ?_⟩, ?_, hbel0⟩
    · rw [List.drop_length]; rfl
    · rw [List.drop_length]; exact hrow0
  case round =>
    obtain ⟨k, r, E, rfl, hk, hE1, hE2, rfl, hr, HI, hrow, hbel⟩ := hrel
    have hkE := HI.1
    by_cases hE : 0 ≤ E
    · obtain ⟨j, rfl⟩ : ∃ j : Nat, E = j := ⟨E.toNat, by omega⟩
      obtain rfl : k = j + 1 := by omega
      have hj : j < p.length := by omega
      have hcell := (HH.out.below hbel).cell j hj
      have hx9 := lt9_at H9.out j hj
      have hds := divS_drop n p j hj
      obtain ⟨x, hx⟩ : ∃ x : Nat, x = p[j] := ⟨_, rfl⟩
      rw [← hx] at hcell hx9 hds
      have hts := takeShort_small r x n hr hx9 hn1 wr
      rw [← HI.2] at hds
      obtain ⟨d, hd⟩ : ∃ d : Nat, d = (r * 1000000000 + x) / n := ⟨_, rfl⟩
      obtain ⟨m, hm⟩ : ∃ m : Nat, m = (r * 1000000000 + x) % n := ⟨_, rfl⟩
      have hmn : m < n := by rw [hm]; exact Nat.mod_lt _ hn0
      rw [← hd, ← hm] at hts hds
      have HD := Lib.hid hds
      have HT := Lib.hid hts
      have HR2 := Lib.hid hrow
      have HB2 := Lib.hid hbel
      have hlen : j < (z0 (j + 1) (divS n (p.drop (j + 1))).1).length := by rw [z0_len]; omega
      obtain ⟨c0, hc0⟩ : ∃ c0 : Int, ∀ w1, Below wr.heap.size wr w1 → w1.cell? ⟨w.heap.size, j, none⟩ = some (.int .u64 c0) ∧ w1.frozen? ⟨w.heap.size, j, none⟩ = false := ⟨_, fun w1 hb => ⟨(hrow.below hb).cell j hlen, (hrow.below hb).free j⟩⟩
      have HC := Lib.hid hc0
      clear hds hts hd hm hx hrow hbel hlen hc0 hkE
      go_wp2_with fail
      refine HT.out.mono ?_
      rintro e w1 ⟨rfl, hb1⟩
      have hcz := (HC.out w1 hb1).1
      have hfz := (HC.out w1 hb1).2
      have HB1 := Lib.hid hb1
      clear hb1
      go_wp2_with fail
      all_goals go_roundw
      case rel =>
        have h1 := (HR2.out.below HB1.out).set j d
        rw [z0_set] at h1
        refine ⟨j, m, (j : Int) - 1, rfl, by omega, by omega, by omega, rfl, hmn, ⟨rfl, by rw [HD.out]⟩, by rw [HD.out]; exact h1, (HB2.out.trans (HB1.out.mono HB2.out.size)).setCell (Nat.le_refl _) _⟩
      case measure => simp [intOf] <;> omega
    · obtain rfl : k = 0 := by omega
      have hdr := HI.2
      rw [List.drop_zero] at hdr
      have hrow2 : Row wr w.heap.size w.heap.size p.length (divS n p).1 := by have := hrow; rw [List.drop_zero] at this; exact this
      have hlen := divS_len n p
      have hprops := divS_props n hn0 p
      have hq : pv (divS n p).1 = pv p / n ∧ r = pv p % n := by
        rw [hdr, ← hprops.1]
        constructor
        · rw [Nat.mul_comm, Nat.mul_add_div hn0, Nat.div_eq_of_lt hprops.2, Nat.add_zero]
        · rw [Nat.mul_comm, Nat.mul_add_mod, Nat.mod_eq_of_lt hprops.2]
      have ht := trim_any w.heap.size w.heap.size p.length (divS n p).1 wr hrow2
      rw [hlen] at ht
      have HT := Lib.hid ht
      have HQ := Lib.hid hq
      have HR2 := Lib.hid hrow2
      have HB2 := Lib.hid hbel
      have HP := Lib.hid hprops
      clear ht hq hrow2 hbel hrow hdr hprops HI
      go_wp2_with fail
      refine HT.out.mono ?_
      rintro e w1 ⟨rfl, rfl⟩
      go_wp2_with fail
      go_ret2
      refine ⟨w.heap.size, p.length, trimP (divS n p).1, ret_two (c := .int .u64 (r : Int)) rfl (by rw [HQ.out.2]), ?_, ?_, HB2.out⟩
      · rw [← HQ.out.1]; exact Pcs.of_trim (divS_lt9 n hn0 p H9.out)
      · have := HR2.out.take (trimP (divS n p).1).length (trimP_props _).2.2.2.1
        rw [← (trimP_props (divS n p).1).2.2.2.2] at this; exact this
end Go.Proofs.YtjebddpapbopnaaGreatDoor

namespace Go.Proofs.YtjebddpapbopnaaGreatDoor
open Go.RowKit

theorem mul_inner {L : List Nat} {k j c x y P0 pb : Nat} (hk : k + j < L.length) (h : pv L + 1000000000 ^ (k + j) * c = P0 + 1000000000 ^ k * (x * pb)) :
    pv (L.set (k + j) ((c + (L[k + j] + x * y)) % 1000000000)) + 1000000000 ^ (k + j + 1) * ((c + (L[k + j] + x * y)) / 1000000000) = P0 + 1000000000 ^ k * (x * (pb + 1000000000 ^ j * y)) := by
  have h1 := pv_set ((c + (L[k + j] + x * y)) % 1000000000) hk
  have h2 : 1000000000 ^ (k + j + 1) * ((c + (L[k + j] + x * y)) / 1000000000) + 1000000000 ^ (k + j) * ((c + (L[k + j] + x * y)) % 1000000000) = 1000000000 ^ (k + j) * (c + (L[k + j] + x * y)) := by
    rw [Nat.pow_succ, Nat.mul_assoc, ← Nat.mul_add, Nat.div_add_mod]
  have h3 : 1000000000 ^ (k + j) * (c + (L[k + j] + x * y)) = 1000000000 ^ (k + j) * c + 1000000000 ^ (k + j) * L[k + j] + 1000000000 ^ (k + j) * (x * y) := by
    rw [Nat.mul_add, Nat.mul_add]; omega
  have h4 : 1000000000 ^ k * (x * (pb + 1000000000 ^ j * y)) = 1000000000 ^ k * (x * pb) + 1000000000 ^ (k + j) * (x * y) := by
    rw [Nat.mul_add, Nat.mul_add, Nat.pow_add]
    congr 1
    rw [Nat.mul_assoc, Nat.mul_left_comm x]
  rw [h4]; omega
theorem mul_outer {L : List Nat} {k lb c x P0 pb pa : Nat} (hk : k + lb < L.length) (h0 : L[k + lb] = 0) (hP : P0 = pa * pb) (h : pv L + 1000000000 ^ (k + lb) * c = P0 + 1000000000 ^ k * (x * pb)) :
    pv (L.set (k + lb) c) = (pa + 1000000000 ^ k * x) * pb := by
  have h1 := pv_set c hk
  rw [h0] at h1
  rw [Nat.add_mul, Nat.mul_assoc]; omega
theorem mul_carry {c l x y : Nat} (hc : c < 1000000000) (hl : l < 1000000000) (hx : x < 1000000000) (hy : y < 1000000000) : c + (l + x * y) < 1000000000000000000 ∧ (c + (l + x * y)) / 1000000000 < 1000000000 := by
  have h1 : x * y ≤ 999999999 * 999999999 := Nat.mul_le_mul (by omega) (by omega)
  omega

set_option maxHeartbeats 6400000 in
set_option maxRecDepth 100000 in
theorem multiply_any (B g cap g' cap' : Nat) (a b : List Nat) (w : World) (ha : Row w B g cap a) (hb : Row w B g' cap' b) (ha9 : lt9 a) (hb9 : lt9 b) (hla : a.length ≤ 200000) (hlb : b.length ≤ 200000) :
    Calls Tryz.prog 101 #[.slice (some ⟨g, 0, none⟩) a.length cap, .slice (some ⟨g', 0, none⟩) b.length cap'] w fun e w' => ∃ (h cap'' : Nat) (q : List Nat), e = .returned (.slice (some ⟨h, 0, none⟩) q.length cap'') ∧ Pcs q (pv a * pv b) ∧ Row w' w.heap.size h cap'' q ∧ Below w.heap.size w w' := by
  have hlc := ha.len_cap
  have hlc' := hb.len_cap
  unfold maxLen at hlc hlc'
  obtain ⟨i0, hi, hz0, hz1, hz2⟩ := info_parts info64
  have HA := Lib.hid ha
  have HB := Lib.hid hb
  have H9A := Lib.hid ha9
  have H9B := Lib.hid hb9
  clear ha hb ha9 hb9
  go_enter Tryz.func101, Tryz.ntmps101
  go_wp2_with (at_make; refine wpList_make_full _ rfl _ _ 103 rfl w.heap.size 61 i0 (.int .u64 0) 1 Tryz.underlying103 hi hz0 hz1 .i64 .i64 _ _ (a.length + b.length) rfl rfl (by omega) (by omega) (by rw [hz2]; omega) (by unfold maxLen; omega) (Nat.le_refl _) ?_; intro w0 hown0 hgrow0)
  have hbel0 : Below w.heap.size w w0 := (Below.refl _ _).grown hgrow0 (Nat.le_refl _) (by intro k hk; cases hk)
  have hrow0 := Row.made hown0
  clear hown0 hgrow0
  go_wp2_with fail
  go_loopw [6, 7, 8, 9, 10, 19, 26] (fun _ _ _ _ _ iv _ wr => ∃ (k : Nat) (L : List Nat), iv = .int .i64 k ∧ k ≤ a.length ∧ Hid (L.length = a.length + b.length ∧ lt9 L ∧ pv L = pv (a.take k) * pv b ∧ (∀ t (h : t < L.length), k + b.length ≤ t → L[t] = 0)) ∧ Row wr w.heap.size w.heap.size (a.length + b.length) L ∧ Below w.heap.size w wr) (fun _ _ _ _ _ iv _ _ => a.length - (intOf iv).toNat)
  case atStart =>
    refine ⟨0, z0 (a.length + b.length) [], rfl, Nat.zero_le _, ⟨by rw [z0_len]; rfl, ?_, ?_, ?_⟩, hrow0, hbel0⟩
    · unfold z0; rw [List.append_nil]; exact lt9_replicate _
    · unfold z0; rw [List.append_nil, pv_replicate]; simp [pv]
    · intro t ht _; simp [z0]
  case round =>
    obtain ⟨k, L, rfl, hk, HI, hrow, hbel⟩ := hrel
    by_cases hlt : k < a.length
    · have hcell := (HA.out.below hbel).cell k hlt
      have hx9 := lt9_at H9A.out k hlt
      have hts := pv_take_succ hlt
      obtain ⟨x, hx⟩ : ∃ x : Nat, x = a[k] := ⟨_, rfl⟩
      rw [← hx] at hcell hx9 hts
      have HTS := Lib.hid hts
      have HR := Lib.hid hrow
      have HBL := Lib.hid hbel
      clear hx hts hrow hbel
      obtain ⟨wo, rfl⟩ : ∃ wo : World, wo = wr := ⟨_, rfl⟩
      go_wp2_with fail
      go_loopw [8, 9, 10, 26] (fun cv _ _ jv wr => ∃ (j c : Nat) (L : List Nat), jv = .int .i64 j ∧ j ≤ b.length ∧ cv = .int .u64 c ∧ c < 1000000000 ∧ Hid (L.length = a.length + b.length ∧ lt9 L ∧ pv L + 1000000000 ^ (k + j) * c = pv (a.take k) * pv b + 1000000000 ^ k * (x * pv (b.take j)) ∧ (∀ t (h : t < L.length), k + b.length ≤ t → L[t] = 0)) ∧ Row wr w.heap.size w.heap.size (a.length + b.length) L ∧ Below w.heap.size w wr) (fun _ _ _ jv _ => b.length - (intOf jv).toNat)
      case atStart =>
        obtain ⟨h1, h2, h3, h4⟩ := HI
        exact ⟨0, 0, L, rfl, Nat.zero_le _, rfl, by omega, ⟨h1, h2, by rw [h3]; simp [pv], h4⟩, HR.out, HBL.out⟩
      case round =>
        obtain ⟨j, c, L', rfl, hj, rfl, hc, HJ, hrow, hbel⟩ := hrel
        have hL' := HJ.1
        by_cases hjt : j < b.length
        · have hcb := (HB.out.below hbel).cell j hjt
          have hy9 := lt9_at H9B.out j hjt
          have htsb := pv_take_succ hjt
          obtain ⟨y, hy⟩ : ∃ y : Nat, y = b[j] := ⟨_, rfl⟩
          rw [← hy] at hcb hy9 htsb
          have hkj : k + j < L'.length := by omega
          have hcp := hrow.cell (k + j) hkj
          have hfp := hrow.free (k + j)
          have hl9 := lt9_at HJ.2.1 (k + j) hkj
          have hin := mul_inner (y := y) hkj HJ.2.2.1
          obtain ⟨l, hl⟩ : ∃ l : Nat, l = L'[k + j] := ⟨_, rfl⟩
          rw [← hl] at hcp hl9 hin
          have hmc := mul_carry hc hl9 hx9 hy9
          obtain ⟨z, hz⟩ : ∃ z : Nat, z = x * y := ⟨_, rfl⟩
          have hxy : (x : Int) * (y : Int) = (z : Int) := by rw [hz]; simp
          rw [← hz] at hin hmc
          have hm1 := hmc.1
          have HC2 := Lib.hid hmc.2
          have HIN := Lib.hid hin
          have HTB := Lib.hid htsb
          have HR2 := Lib.hid hrow
          have HB2 := Lib.hid hbel
          clear hy htsb hl hmc hz hin hrow hbel hkj
          go_wp2_with fail
          all_goals go_roundw
          case rel =>
            have e := HR2.out.set (k + j) ((c + (l + z)) % 1000000000)
            have e2 : (((c + (l + z)) % 1000000000 : Nat) : Int) = ((c : Int) + ((l : Int) + (z : Int))) % 1000000000 := by omega
            rw [e2] at e
            refine ⟨j + 1, (c + (l + z)) / 1000000000, L'.set (k + j) ((c + (l + z)) % 1000000000), by go_num, by omega, by go_num, HC2.out, ⟨by rw [List.length_set]; exact hL', lt9_set HJ.2.1 (Nat.mod_lt _ (by decide)), ?_, ?_⟩, e, HB2.out.setCell (Nat.le_refl _) _⟩
            · rw [HTB.out]; exact HIN.out
            · intro t ht hkt
              rw [List.getElem_set_ne (by omega)]
              exact HJ.2.2.2 t (by rw [List.length_set] at ht; exact ht) hkt
          case measure => simp [intOf] <;> omega
        · obtain rfl : j = b.length := by omega
          have hkj : k + b.length < L'.length := by omega
          have hl0 := HJ.2.2.2 (k + b.length) hkj (Nat.le_refl _)
          have hcp := hrow.cell (k + b.length) hkj
          rw [hl0] at hcp
          have hfp := hrow.free (k + b.length)
          have heq := HJ.2.2.1
          rw [List.take_length] at heq
          have hou := mul_outer hkj hl0 rfl heq
          rw [← HTS.out] at hou
          have HOU := Lib.hid hou
          have HR2 := Lib.hid hrow
          have HB2 := Lib.hid hbel
          clear hl0 heq hou hrow hbel hkj
          go_wp2_with fail
          all_goals go_roundw
          case rel =>
            refine ⟨k + 1, L'.set (k + b.length) c, by go_num, by omega, ⟨by rw [List.length_set]; exact hL', lt9_set HJ.2.1 hc, HOU.out, ?_⟩, HR2.out.set (k + b.length) c, HB2.out.setCell (Nat.le_refl _) _⟩
            intro t ht hkt
            rw [List.getElem_set_ne (by omega)]
            exact HJ.2.2.2 t (by rw [List.length_set] at ht; exact ht) (by omega)
          case measure => simp [intOf] <;> omega
    · obtain rfl : k = a.length := by omega
      have hpv := HI.2.2.1
      rw [List.take_length] at hpv
      have ht := trim_any w.heap.size w.heap.size (a.length + b.length) L wr hrow
      rw [HI.1] at ht
      have HT := Lib.hid ht
      have HPV := Lib.hid hpv
      have HR2 := Lib.hid hrow
      have HB2 := Lib.hid hbel
      clear ht hpv hrow hbel
      go_wp2_with fail
      refine HT.out.mono ?_
      rintro e w1 ⟨rfl, rfl⟩
      go_wp2_with fail
      go_ret
      refine ⟨w.heap.size, a.length + b.length, trimP L, rfl, ?_, ?_, HB2.out⟩
      · rw [← HPV.out]; exact Pcs.of_trim HI.2.1
      · have := HR2.out.take (trimP L).length (trimP_props _).2.2.2.1
        rw [← (trimP_props L).2.2.2.2] at this; exact this
end Go.Proofs.YtjebddpapbopnaaGreatDoor

namespace Go.Proofs.YtjebddpapbopnaaGreatDoor
open Go.RowKit

theorem Pcs.len_of_lt {p : List Nat} {a n : Nat} (h : Pcs p a) (ha : a < 1000000000 ^ n) : p.length ≤ n := by
  by_cases hp : p = []
  · subst hp; simp
  · have h1 := h.len_lower hp
    have h2 : (1000000000 : Nat) ^ (p.length - 1) < 1000000000 ^ n := by omega
    have h3 := (Nat.pow_lt_pow_iff_right (a := 1000000000) (by decide)).1 h2
    omega
theorem lt_of_size {a n : Nat} (hs : (str a).size ≤ n) : a < 10 ^ n := by
  have h1 := Lib.lt_pow_nDigits a
  rw [str_size] at hs
  have h2 : 10 ^ Lib.nDigits a ≤ 10 ^ n := Nat.pow_le_pow_right (by decide) hs
  omega
theorem Pcs.len_le {p : List Nat} {a n : Nat} (h : Pcs p a) (hs : (str a).size ≤ 9 * n) : p.length ≤ n :=
  h.len_of_lt (by have := lt_of_size hs; rw [pow9] at this; exact this)
theorem Pcs.mul_len {p q r : List Nat} {a b c : Nat} (hp : Pcs p a) (hq : Pcs q b) (hr : Pcs r c) (hc : c = a * b) : r.length ≤ p.length + q.length := by
  refine hr.len_of_lt ?_
  have h1 := pv_lt p hp.lt
  have h2 := pv_lt q hq.lt
  rw [hp.val] at h1
  rw [hq.val] at h2
  rw [hc, Nat.pow_add]
  exact Nat.mul_lt_mul'' h1 h2

set_option maxHeartbeats 1600000 in
theorem mul_any (a b : Nat) (w : World) (hs : Std w) (ha : (str a).size ≤ 450000) (hb : (str b).size ≤ 450000) :
    Calls Tryz.prog 73 #[.string (str a), .string (str b)] w fun e w' => e = .returned (.string (str (a * b))) ∧ Below w.heap.size w w' := by
  have HCUT := Lib.hid (fun wx => cutBoth_any a b wx (by omega) (by omega))
  by_cases h64 : a < 18446744073709551616 ∧ b < 18446744073709551616
  · have hm := fun wx => Tryz.bits_Mul64 a b h64.1 h64.2 wx
    have hby := both_yes a b h64.1 h64.2 w
    by_cases hhi : a * b < 18446744073709551616
    · rw [Nat.div_eq_of_lt hhi, Nat.mod_eq_of_lt hhi] at hm
      obtain ⟨v, hv⟩ : ∃ v : Nat, v = a * b := ⟨_, rfl⟩
      rw [← hv] at hm hhi ⊢
      have hof := fun wx hx => of_any v hhi wx hx
      have HM := Lib.hid hm
      have HBY := Lib.hid hby
      have HOF := Lib.hid hof
      clear hm hby hof hhi hv h64
      go_enter Tryz.func73, Tryz.ntmps73
      go_wp2_with fail
      refine HBY.out.mono ?_
      rintro e w1 ⟨rfl, hb1⟩
      go_wp2_with fail
      refine (HM.out _).mono ?_
      rintro e w2 ⟨rfl, rfl⟩
      go_wp2_with fail
      refine (HOF.out _ (hs.below hb1)).mono ?_
      rintro e w3 ⟨rfl, hb3⟩
      go_wp2_with fail
      go_ret
      exact ⟨rfl, hb1.trans (hb3.mono hb1.size)⟩
    · have hdv : 0 < a * b / 18446744073709551616 := Nat.div_pos (by omega) (by decide)
      obtain ⟨h, hh⟩ : ∃ h : Nat, h = a * b / 18446744073709551616 := ⟨_, rfl⟩
      obtain ⟨l, hl⟩ : ∃ l : Nat, l = a * b % 18446744073709551616 := ⟨_, rfl⟩
      rw [← hh, ← hl] at hm
      rw [← hh] at hdv
      have hb0 : ((h : Int) == 0) = false := by rw [beq_eq_false_iff_ne]; omega
      have HM := Lib.hid hm
      have HBY := Lib.hid hby
      clear hm hby hhi hh hl h64
      go_enter Tryz.func73, Tryz.ntmps73
      go_wp2_with fail
      refine HBY.out.mono ?_
      rintro e w1 ⟨rfl, hb1⟩
      go_wp2_with fail
      refine (HM.out _).mono ?_
      rintro e w2 ⟨rfl, rfl⟩
      go_wp2_with fail
      refine (HCUT.out _).mono ?_
      rintro e w3 ⟨g, cap, p, g', cap', q, rfl, hp, hq, hrp, hrq, hgg, hb3⟩
      have hlp := hp.len_le (n := 50000) (by omega)
      have hlq := hq.len_le (n := 50000) (by omega)
      have HMU := Lib.hid (multiply_any _ g cap g' cap' p q w3 hrp hrq hp.lt hq.lt (by omega) (by omega))
      have HP := Lib.hid hp
      have HQ := Lib.hid hq
      clear hp hq hrp hrq hgg
      go_wp2_with fail
      refine HMU.out.mono ?_
      rintro e w4 ⟨g2, cap2, r, rfl, hr, hrr, hb4⟩
      rw [HP.out.val, HQ.out.val] at hr
      have hlr := HP.out.mul_len HQ.out hr rfl
      have HJ := Lib.hid (join_any _ g2 cap2 r (a * b) w4 hrr hr (by omega))
      clear hr hrr
      go_wp2_with fail
      refine HJ.out.mono ?_
      rintro e w5 ⟨rfl, hb5⟩
      go_wp2_with fail
      go_ret
      exact ⟨rfl, ((hb1.trans (hb3.mono hb1.size)).trans (hb4.mono (Nat.le_trans hb1.size hb3.size))).trans (hb5.mono (Nat.le_trans (Nat.le_trans hb1.size hb3.size) hb4.size))⟩
  · have hbn := both_no a b h64 w hs
    have HBN := Lib.hid hbn
    clear hbn h64
    go_enter Tryz.func73, Tryz.ntmps73
    go_wp2_with fail
    refine HBN.out.mono ?_
    rintro e w1 ⟨x, y, rfl, hb1⟩
    go_wp2_with fail
    refine (HCUT.out _).mono ?_
    rintro e w3 ⟨g, cap, p, g', cap', q, rfl, hp, hq, hrp, hrq, hgg, hb3⟩
    have hlp := hp.len_le (n := 50000) (by omega)
    have hlq := hq.len_le (n := 50000) (by omega)
    have HMU := Lib.hid (multiply_any _ g cap g' cap' p q w3 hrp hrq hp.lt hq.lt (by omega) (by omega))
    have HP := Lib.hid hp
    have HQ := Lib.hid hq
    clear hp hq hrp hrq hgg
    go_wp2_with fail
    refine HMU.out.mono ?_
    rintro e w4 ⟨g2, cap2, r, rfl, hr, hrr, hb4⟩
    rw [HP.out.val, HQ.out.val] at hr
    have hlr := HP.out.mul_len HQ.out hr rfl
    have HJ := Lib.hid (join_any _ g2 cap2 r (a * b) w4 hrr hr (by omega))
    clear hr hrr
    go_wp2_with fail
    refine HJ.out.mono ?_
    rintro e w5 ⟨rfl, hb5⟩
    go_wp2_with fail
    go_ret
    exact ⟨rfl, ((hb1.trans (hb3.mono hb1.size)).trans (hb4.mono (Nat.le_trans hb1.size hb3.size))).trans (hb5.mono (Nat.le_trans (Nat.le_trans hb1.size hb3.size) hb4.size))⟩

/-- a new row of two numbers -/
theorem Row.two (w : World) (x y : Nat) : Row (w.alloc (.cells #[.int .u64 (x : Int), .int .u64 (y : Int)] 61)) w.heap.size w.heap.size 2 [x, y] :=
  ⟨rfl, .inr ⟨w.heap.size, 2, _, rfl, Nat.le_refl _, heap_alloc_new w _, Nat.le_refl _, by unfold maxLen; decide, rfl, rfl⟩⟩

set_option maxHeartbeats 1600000 in
set_option maxRecDepth 100000 in
theorem divide_small (B g cap g' cap' : Nat) (a b : List Nat) (w : World) (ha : Row w B g cap a) (hb : Row w B g' cap' b) (ha9 : lt9 a) (hb9 : lt9 b) (hla : a.length ≤ 200000) (hlb : b.length ≤ 2) (hb0 : 0 < pv b) (hb1 : pv b ≤ 18446744072) :
    Calls Tryz.prog 103 #[.slice (some ⟨g, 0, none⟩) a.length cap, .slice (some ⟨g', 0, none⟩) b.length cap'] w fun e w' => ∃ (h c : Nat) (q : List Nat) (h' c' : Nat) (r : List Nat), e = .returned (.tuple #[.slice (some ⟨h, 0, none⟩) q.length c, .slice (some ⟨h', 0, none⟩) r.length c']) ∧ Pcs q (pv a / pv b) ∧ Pcs r (pv a % pv b) ∧ Row w' w.heap.size h c q ∧ Row w' w.heap.size h' c' r ∧ Below w.heap.size w w' := by
  have hlc := ha.len_cap
  have hlc' := hb.len_cap
  unfold maxLen at hlc hlc'
  have HS := Lib.hid (short_yes B g' cap' b w hb hlb hb9)
  have HD := Lib.hid (fun wx (hw : Below w.heap.size w wx) => divideShort_small B g cap a (pv b) wx (ha.below hw) ha9 hb0 hb1 hla)
  have hm : pv a % pv b < pv b := Nat.mod_lt _ hb0
  obtain ⟨n, hn⟩ : ∃ n : Nat, n = pv b := ⟨_, rfl⟩
  obtain ⟨m, hme⟩ : ∃ m : Nat, m = pv a % pv b := ⟨_, rfl⟩
  rw [← hme] at HD hm ⊢
  rw [← hn] at HD hm HS hb1 hb0 ⊢
  clear ha hb ha9 hb9 hn hme
  go_enter Tryz.func103, Tryz.ntmps103
  go_wp2_with fail
  refine HS.out.mono ?_
  rintro e w1 ⟨rfl, hb1'⟩
  go_wp2_with fail
  refine (HD.out _ hb1').mono ?_
  rintro e w2 ⟨h, c, q, rfl, hq, hr, hb2⟩
  have hrt := Row.two w2 (m % 1000000000) (m / 1000000000)
  have e1 : ((m % 1000000000 : Nat) : Int) = (m : Int) % 1000000000 := by omega
  have e2 : ((m / 1000000000 : Nat) : Int) = (m : Int) / 1000000000 := by omega
  rw [e1, e2] at hrt
  have htr := trim_any w2.heap.size w2.heap.size 2 [m % 1000000000, m / 1000000000] _ hrt
  have h9r : lt9 [m % 1000000000, m / 1000000000] := by
    intro z hz; simp at hz; omega
  have hpr : pv [m % 1000000000, m / 1000000000] = m := by simp [pv]; omega
  have HT := Lib.hid htr
  have HRT := Lib.hid hrt
  have HQ := Lib.hid hq
  have HR := Lib.hid hr
  have H9R := Lib.hid h9r
  have HPR := Lib.hid hpr
  clear hq hr htr hrt e1 e2 h9r hpr
  go_wp2_with fail
  refine HT.out.mono ?_
  rintro e w3 ⟨rfl, rfl⟩
  go_wp2_with fail
  go_ret2
  have hbz : Below w2.heap.size w2 (w2.alloc (.cells #[.int .u64 ((m : Int) % 1000000000), .int .u64 ((m : Int) / 1000000000)] 61)) := (Below.refl _ _).alloc (Nat.le_refl _) _
  refine ⟨h, c, q, w2.heap.size, 2, trimP [m % 1000000000, m / 1000000000], rfl, HQ.out, ?_, ((HR.out.mono hb1'.size).below hbz), ?_, (hb1'.trans (hb2.mono hb1'.size)).trans (hbz.mono (Nat.le_trans hb1'.size hb2.size))⟩
  · have := Pcs.of_trim H9R.out
    rw [HPR.out] at this; exact this
  · have := HRT.out.take (trimP [m % 1000000000, m / 1000000000]).length (trimP_props _).2.2.2.1
    rw [← (trimP_props [m % 1000000000, m / 1000000000]).2.2.2.2] at this
    exact this.mono (Nat.le_trans hb1'.size hb2.size)

theorem pcs_short {q : List Nat} {b : Nat} (hq : Pcs q b) (hb : b < 1000000000000000000) : q.length ≤ 2 := hq.short (by omega)
theorem Pcs.div_len {q : List Nat} {a b n : Nat} (h : Pcs q (a / b)) (hs : (str a).size ≤ 9 * n) : q.length ≤ n :=
  h.len_of_lt (Nat.lt_of_le_of_lt (Nat.div_le_self a b) (by have := lt_of_size hs; rw [pow9] at this; exact this))
theorem pcs_pos {q : List Nat} {b : Nat} (hq : Pcs q b) (hb : 0 < b) : 0 < q.length := by
  apply Nat.pos_of_ne_zero; intro e
  rw [List.eq_nil_of_length_eq_zero e] at hq; have := hq.val; simp [pv] at this; omega

set_option maxHeartbeats 1600000 in
theorem divmod_small (a b : Nat) (w : World) (hs : Std w) (ha : (str a).size ≤ 450000) (ha64 : ¬ a < 18446744073709551616) (hb0 : 0 < b) (hb1 : b ≤ 18446744072) :
    Calls Tryz.prog 77 #[.string (str a), .string (str b)] w fun e w' => e = .returned (.tuple #[.string (str (a / b)), .string (str (a % b)), .int .i64 0]) ∧ Below w.heap.size w w' := by
  have hbs : (str b).size ≤ 20 := nd20 (by omega)
  have HCUT := Lib.hid (fun wx => cutBoth_any a b wx (by omega) (by omega))
  have HBN := Lib.hid (both_no a b (fun h => ha64 h.1) w hs)
  obtain ⟨dq, dr, hdq⟩ : ∃ d r : Nat, d = a / b ∧ r = a % b := ⟨_, _, rfl, rfl⟩
  rw [← hdq.1, ← hdq.2]
  have HDQ := Lib.hid hdq
  clear ha64 hdq
  go_enter Tryz.func77, Tryz.ntmps77
  go_wp2_with fail
  refine HBN.out.mono ?_
  rintro e w1 ⟨x, y, rfl, hb1'⟩
  go_wp2_with fail
  refine (HCUT.out _).mono ?_
  rintro e w3 ⟨g, cap, p, g', cap', q, rfl, hp, hq, hrp, hrq, hgg, hb3⟩
  have hlp := hp.len_le (n := 50000) (by omega)
  have hlq := pcs_short hq (by omega)
  have hlq0 := pcs_pos hq hb0
  have hqn : ((q.length : Int) == 0) = false := by rw [beq_eq_false_iff_ne]; omega
  have HDV := Lib.hid (divide_small _ g cap g' cap' p q w3 hrp hrq hp.lt hq.lt (by omega) hlq (by rw [hq.val]; exact hb0) (by rw [hq.val]; exact hb1))
  rw [hp.val, hq.val] at HDV
  have hlen : ∀ q', Pcs q' dq → q'.length ≤ 200000 := fun q' hq' => by
    rw [HDQ.out.1] at hq'
    have h1 := hq'.div_len (n := 50000) (by omega)
    omega
  have hlen' : ∀ q', Pcs q' dr → q'.length ≤ 200000 := fun q' hq' => by
    have h1 := hq'.len_of_lt (n := 2) (by have := Nat.mod_lt a hb0; rw [HDQ.out.2]; omega)
    omega
  rw [← HDQ.out.1, ← HDQ.out.2] at HDV
  have HL := Lib.hid hlen
  have HL' := Lib.hid hlen'
  have hsz := hrp.len_cap
  have hsz' := hrq.len_cap
  unfold maxLen at hsz hsz'
  clear hp hq hrp hrq hgg hlen hlen'
  go_wp2_with fail
  refine HDV.out.mono ?_
  rintro e w4 ⟨h, c, q1, h', c', r1, rfl, hq1, hr1, hrq1, hrr1, hb4⟩
  have HJ1 := Lib.hid (join_any _ h c q1 dq w4 hrq1 hq1 (HL.out q1 hq1))
  have HJ2 := Lib.hid (fun wx (hw : Below w4.heap.size w4 wx) => join_any _ h' c' r1 dr wx (hrr1.below hw) hr1 (HL'.out r1 hr1))
  clear hq1 hr1 hrq1 hrr1
  clear HL HL' HDV HCUT HBN
  go_wp2_with fail
  refine HJ1.out.mono ?_
  rintro e w5 ⟨rfl, hb5⟩
  go_wp2_with fail
  refine (HJ2.out _ hb5).mono ?_
  rintro e w6 ⟨rfl, hb6⟩
  go_wp2_with fail
  go_ret3
  have s1 := hb1'.size
  have s3 := hb3.size
  have s4 := hb4.size
  have s5 := hb5.size
  exact ⟨rfl, (((hb1'.trans (hb3.mono s1)).trans (hb4.mono (by omega))).trans (hb5.mono (by omega))).trans (hb6.mono (by omega))⟩

end Go.Proofs.YtjebddpapbopnaaGreatDoor

namespace Go.Proofs.YtjebddpapbopnaaGreatDoor
open Go.RowKit

theorem nDigits_mono {a b : Nat} (h : a ≤ b) : Lib.nDigits a ≤ Lib.nDigits b := by
  refine nDigits_le (Lib.nDigits_pos b) ?_
  have := Lib.lt_pow_nDigits b; omega
theorem size_mono {a b : Nat} (h : a ≤ b) : (str a).size ≤ (str b).size := by rw [str_size, str_size]; exact nDigits_mono h
theorem size_pow {a m n : Nat} (hm : m ≤ n) (h : 20000 < (str (a ^ m)).size) : 20000 < (str (a ^ n)).size := by
  by_cases ha : a = 0
  · subst ha
    have : 0 ^ m < 10 ^ 1 := by cases m <;> simp
    have := str_big this (by decide); omega
  · exact Nat.lt_of_lt_of_le h (size_mono (Nat.pow_le_pow_right (by omega) hm))
theorem size_mul {a b n m : Nat} (ha : (str a).size ≤ n) (hb : (str b).size ≤ m) (h0 : 0 < n + m) : (str (a * b)).size ≤ n + m := by
  refine str_big ?_ h0
  rw [Nat.pow_add]
  exact Nat.mul_lt_mul'' (lt_of_size ha) (lt_of_size hb)
theorem pow_step {a n e v : Nat} (hv : v = a ^ (n / 2 ^ (e + 1))) : v * v * a ^ (n / 2 ^ e % 2) = a ^ (n / 2 ^ e) := by
  have h := Nat.div_add_mod (n / 2 ^ e) 2
  rw [Nat.div_div_eq_div_mul, ← Nat.pow_succ] at h
  conv => rhs; rw [← h]
  rw [Nat.pow_add, Nat.two_mul, Nat.pow_add, ← hv]
theorem bitLen_facts {n : Nat} (h0 : 0 < n) (h : n < 9223372036854775808) : 1 ≤ Lib.bitLen n ∧ Lib.bitLen n ≤ 63 ∧ n / 2 ^ (Lib.bitLen n - 1) = 1 := by
  have h1 := Lib.bitLenAux_bounds 64 n (by omega) (by omega)
  have e : Lib.bitLen n = Lib.bitLenAux 64 n := rfl
  rw [← e] at h1
  refine ⟨h1.1, Lib.bitLen_le n 63 (by decide) h, ?_⟩
  have h2 : 2 ^ Lib.bitLen n = 2 * 2 ^ (Lib.bitLen n - 1) := by
    conv => lhs; rw [show Lib.bitLen n = Lib.bitLen n - 1 + 1 by omega]
    rw [Nat.pow_succ]; omega
  have h3 : 0 < 2 ^ (Lib.bitLen n - 1) := Nat.pow_pos (by decide)
  apply Nat.le_antisymm
  · apply Nat.le_of_lt_succ
    rw [Nat.div_lt_iff_lt_mul h3]; omega
  · rw [Nat.le_div_iff_mul_le h3]; omega
theorem bit_is (n e : Nat) (hn : n < 9223372036854775808) : bits BinOp.and IntKind.i64 ((n : Int) / 2 ^ e) 1 = ((n / 2 ^ e % 2 : Nat) : Int) := by
  have e1 : ((n : Int) / 2 ^ e) = ((n / 2 ^ e : Nat) : Int) := by rw [Int.natCast_ediv]; simp
  have h2 := Nat.div_le_self n (2 ^ e)
  rw [e1]; exact Go.Proofs.and_one _ (by omega)
theorem bit_yes {n e : Nat} (hn : n < 9223372036854775808) (h : n / 2 ^ e % 2 = 1) : (bits BinOp.and IntKind.i64 ((n : Int) / 2 ^ e) 1 == 1) = true := by
  rw [bit_is n e hn, h]; rfl
theorem bit_no {n e : Nat} (hn : n < 9223372036854775808) (h : n / 2 ^ e % 2 = 0) : (bits BinOp.and IntKind.i64 ((n : Int) / 2 ^ e) 1 == 1) = false := by
  rw [bit_is n e hn, h]; rfl
def PowEnd (a n : Nat) (e : Ending) : Prop := ((str (a ^ n)).size ≤ 20000 ∧ e = .returned (.tuple #[.string (str (a ^ n)), .int .i64 0])) ∨ (20000 < (str (a ^ n)).size ∧ e = .returned (.tuple #[.string ⟨#[]⟩, .int .i64 4]))

set_option maxHeartbeats 3200000 in
set_option maxRecDepth 100000 in
theorem power_any (a n : Nat) (w : World) (hs : Std w) (ha : (str a).size ≤ 20000) (hn0 : 0 < n) (hn : n < 9223372036854775808) :
    Calls Tryz.prog 75 #[.string (str a), .int .i64 n] w fun e w' => PowEnd a n e ∧ Below w.heap.size w w' := by
  have hbf := bitLen_facts hn0 hn
  have hcan := Lib.hid (canon_str a)
  have hbl := fun wx => Tryz.bits_Len (n : Int) wx (by omega) (by omega)
  rw [Int.toNat_natCast] at hbl
  obtain ⟨L, hL⟩ : ∃ L : Nat, L = Lib.bitLen n := ⟨_, rfl⟩
  rw [← hL] at hbl hbf
  have hL1 := hbf.1
  have hL2 := hbf.2.1
  have HL3 := Lib.hid hbf.2.2
  have HBL := Lib.hid hbl
  have hnz : ((n : Int) == 0) = false := by rw [beq_eq_false_iff_ne]; omega
  have HS := Lib.hid hs
  have hn' : (n : Int) ≤ 9223372036854775807 := by omega
  have HN := Lib.hid hn
  clear hbl hL hbf hs hn
  go_enter Tryz.func75, Tryz.ntmps75
  go_wp2_with (first
    | (go_at_call 82; refine (canonical_any _ _ (by omega)).mono ?_; rintro e w' ⟨rfl, rfl⟩; rw [hcan.out])
    | (go_at_call 102; refine (HBL.out _).mono ?_; rintro e w' ⟨rfl, hw⟩; obtain rfl := hw.symm))
  go_loopw [6, 7] (fun pvv bv wr => ∃ (E : Int) (v k : Nat), bv = .int .i64 E ∧ -1 ≤ E ∧ E ≤ 61 ∧ pvv = .string (str v) ∧ (str v).size ≤ 20000 ∧ Hid (E = (k : Int) - 1 ∧ v = a ^ (n / 2 ^ k)) ∧ Below w.heap.size w wr) (fun _ bv _ => (intOf bv + 1).toNat)
  case atStart => exact ⟨(L : Int) - 2, a, L - 1, rfl, by omega, by omega, rfl, ha, ⟨by omega, by rw [HL3.out, Nat.pow_one]⟩, Below.refl _ _⟩
  case round =>
    obtain ⟨E, v, k, rfl, hE1, hE2, rfl, hvs, HI, hbel⟩ := hrel
    have hkE := HI.1
    by_cases hE : 0 ≤ E
    · obtain ⟨e, rfl⟩ : ∃ e : Nat, E = e := ⟨E.toNat, by omega⟩
      obtain rfl : k = e + 1 := by omega
      have HM := Lib.hid (mul_any v v wr (HS.out.below hbel) (by omega) (by omega))
      have hst := pow_step HI.2
      have hvv := size_mul hvs hvs (by omega)
      have HST := Lib.hid hst
      have HB := Lib.hid hbel
      clear hst hbel hkE
      go_wp2_with fail
      refine HM.out.mono ?_
      rintro e' w1 ⟨rfl, hb1⟩
      have hb := HB.out.trans (hb1.mono HB.out.size)
      have HB1 := Lib.hid hb
      clear hb hb1
      rcases (show n / 2 ^ e % 2 = 1 ∨ n / 2 ^ e % 2 = 0 by omega) with hbit | hbit
      · have hby := bit_yes HN.out hbit
        have HST2 := HST.out
        rw [hbit, Nat.pow_one] at HST2
        have HM2 := Lib.hid (mul_any (v * v) a w1 (HS.out.below HB1.out) (by omega) (by omega))
        obtain ⟨v2, hv2⟩ : ∃ v2 : Nat, v2 = v * v * a := ⟨_, rfl⟩
        rw [← hv2] at HST2 HM2
        have HST3 := Lib.hid HST2
        clear hbit HST2 hv2
        go_wp2_with fail
        refine HM2.out.mono ?_
        rintro e' w2 ⟨rfl, hb2⟩
        have hb3 := HB1.out.trans (hb2.mono HB1.out.size)
        have HB3 := Lib.hid hb3
        clear hb2 hb3
        by_cases hsz : 20000 < (str v2).size
        · go_wp2_with fail
          go_ret2
          refine ⟨.inr ⟨?_, rfl⟩, HB3.out⟩
          rw [HST3.out] at hsz
          exact size_pow (Nat.div_le_self n _) hsz
        · go_wp2_with fail
          all_goals go_roundw
          case rel => exact ⟨(e : Int) - 1, v2, e, rfl, by omega, by omega, rfl, by omega, ⟨rfl, HST3.out⟩, HB3.out⟩
          case measure => simp [intOf] <;> omega
      · have hby := bit_no HN.out hbit
        have HST2 := HST.out
        rw [hbit, Nat.pow_zero, Nat.mul_one] at HST2
        obtain ⟨v2, hv2⟩ : ∃ v2 : Nat, v2 = v * v := ⟨_, rfl⟩
        rw [← hv2] at HST2 ⊢
        have HST3 := Lib.hid HST2
        clear hbit HST2 hv2 hvv
        by_cases hsz : 20000 < (str v2).size
        · go_wp2_with fail
          go_ret2
          refine ⟨.inr ⟨?_, rfl⟩, HB1.out⟩
          rw [HST3.out] at hsz
          exact size_pow (Nat.div_le_self n _) hsz
        · go_wp2_with fail
          all_goals go_roundw
          case rel => exact ⟨(e : Int) - 1, v2, e, rfl, by omega, by omega, rfl, by omega, ⟨rfl, HST3.out⟩, HB1.out⟩
          case measure => simp [intOf] <;> omega
    · obtain rfl : k = 0 := by omega
      have HV := Lib.hid (show v = a ^ n by rw [HI.2]; simp)
      have HB := Lib.hid hbel
      clear hbel
      go_wp2_with fail
      go_ret2
      refine ⟨.inl ⟨?_, ?_⟩, HB.out⟩
      · rw [← HV.out]; exact hvs
      · rw [← HV.out]; rfl
end Go.Proofs.YtjebddpapbopnaaGreatDoor

namespace Go.Proofs.YtjebddpapbopnaaGreatDoor
open Go.RowKit

set_option maxRecDepth 100000 in
theorem known_divmod (w : World) (hs : Std w) :
    Calls Tryz.prog 77 #[.string ⟨#[49, 48, 48, 48, 48, 48, 48, 48, 48, 48, 48, 48, 48, 48, 48, 48, 48, 48, 48, 48, 48, 48]⟩, .string ⟨#[55]⟩] w fun e w' => e = .returned (.tuple #[.string ⟨#[49, 52, 50, 56, 53, 55, 49, 52, 50, 56, 53, 55, 49, 52, 50, 56, 53, 55, 49, 52, 50]⟩, .string ⟨#[54]⟩, .int .i64 0]) ∧ Below w.heap.size w w' := by
  have e1 : (⟨#[49, 48, 48, 48, 48, 48, 48, 48, 48, 48, 48, 48, 48, 48, 48, 48, 48, 48, 48, 48, 48, 48]⟩ : ByteArray) = str 1000000000000000000000 := str_eq _ (by decide +kernel) (by decide +kernel)
  have e2 : (⟨#[55]⟩ : ByteArray) = str 7 := str_eq _ (by decide +kernel) (by decide +kernel)
  have e3 : (⟨#[49, 52, 50, 56, 53, 55, 49, 52, 50, 56, 53, 55, 49, 52, 50, 56, 53, 55, 49, 52, 50]⟩ : ByteArray) = str (1000000000000000000000 / 7) := str_eq _ (by decide +kernel) (by decide +kernel)
  have e4 : (⟨#[54]⟩ : ByteArray) = str (1000000000000000000000 % 7) := str_eq _ (by decide +kernel) (by decide +kernel)
  rw [e1, e2, e3, e4]
  exact divmod_small 1000000000000000000000 7 w hs (Nat.le_trans (str_big (n := 22) (by decide) (by decide)) (by decide)) (by decide) (by decide) (by decide)

set_option maxRecDepth 100000 in
theorem known_small (w : World) (hs : Std w) :
    Calls Tryz.prog 52 #[.string ⟨#[49, 56, 52, 52, 54, 55, 52, 52, 48, 55, 51, 55, 48, 57, 53, 53, 49, 54, 49, 54]⟩] w fun e w' => e = .returned (.tuple #[.int .u64 0, .bool false]) ∧ Below w.heap.size w w' := by
  have e1 : (⟨#[49, 56, 52, 52, 54, 55, 52, 52, 48, 55, 51, 55, 48, 57, 53, 53, 49, 54, 49, 54]⟩ : ByteArray) = str 18446744073709551616 := str_eq _ (by decide +kernel) (by decide +kernel)
  rw [e1]
  exact small_no 18446744073709551616 (by decide) w hs

set_option maxRecDepth 100000 in
theorem known_power (w : World) (hs : Std w) :
    Calls Tryz.prog 75 #[.string ⟨#[50]⟩, .int .i64 64] w fun e w' => e = .returned (.tuple #[.string ⟨#[49, 56, 52, 52, 54, 55, 52, 52, 48, 55, 51, 55, 48, 57, 53, 53, 49, 54, 49, 54]⟩, .int .i64 0]) ∧ Below w.heap.size w w' := by
  have e1 : (⟨#[50]⟩ : ByteArray) = str 2 := str_eq _ (by decide +kernel) (by decide +kernel)
  have e2 : (⟨#[49, 56, 52, 52, 54, 55, 52, 52, 48, 55, 51, 55, 48, 57, 53, 53, 49, 54, 49, 54]⟩ : ByteArray) = str (2 ^ 64) := str_eq _ (by decide +kernel) (by decide +kernel)
  rw [e1, e2]
  refine (power_any 2 64 w hs (Nat.le_trans (str_big (n := 1) (by decide) (by decide)) (by decide)) (by decide) (by decide)).mono ?_
  rintro e w' ⟨h, hb⟩
  refine ⟨?_, hb⟩
  rcases h with ⟨_, h⟩ | ⟨h, _⟩
  · exact h
  · have := str_big (a := 2 ^ 64) (n := 20) (by decide) (by decide)
    omega



theorem known_007 (w : World) :
    Calls Tryz.prog 82 #[.string ⟨#[48, 48, 55]⟩] w fun e w' => e = .returned (.bool false) ∧ w = w' :=
  canonical_any ⟨#[48, 48, 55]⟩ w (by decide)

end Go.Proofs.YtjebddpapbopnaaGreatDoor

namespace Go.Proofs.YtjebddpapbopnaaGreatDoor
open Go.RowKit

/-- what the walk is told of a slice of integers that came in -/
def IsRow (k : IntKind) (w : World) (a : Option Addr) (len cap : Nat) (zs : List Int) : Prop :=
  (a = none ∧ len = 0 ∧ cap = 0 ∧ zs = []) ∨
  ∃ x, a = some x ∧ len ≤ cap ∧ cap ≤ maxLen ∧ zs.length = cap ∧ (∀ i, i < zs.length → w.cell? (x.add i) = some (.int k (zs.getD i 0))) ∧ ∀ n ∈ zs, (Lit.int k n).wf = true
theorem IsRow.below {k : IntKind} {w w' : World} {a : Option Addr} {len cap : Nat} {zs : List Int} (h : IsRow k w a len cap zs) (hb : Below w.heap.size w w') : IsRow k w' a len cap zs := by
  rcases h with h | ⟨x, h1, h2, h3, h4, h5, h6⟩
  · exact .inl h
  · refine .inr ⟨x, h1, h2, h3, h4, fun i hi => ?_, h6⟩
    have hc := h5 i hi
    have hlt : (x.add i).block < w.heap.size := by
      apply Nat.lt_of_not_le; intro hle
      unfold World.cell? at hc
      rw [Array.getElem?_eq_none hle] at hc; simp at hc
    rw [hb.cell hlt]; exact hc
/-- the first len cells are bytes -/
theorem IsRow.cells {w : World} {a : Option Addr} {len cap : Nat} {zs : List Int} (h : IsRow .u8 w a len cap zs) (h0 : 0 < len) :
    ∃ b off, a = some ⟨b, off, none⟩ ∧ len ≤ cap ∧ cap ≤ maxLen ∧ ∀ i, i < len → ∃ z : Nat, z ≤ 255 ∧ w.cell? ⟨b, off + i, none⟩ = some (.int .u8 (z : Int)) := by
  rcases h with ⟨_, h, _⟩ | ⟨x, rfl, h2, h3, h4, h5, h6⟩
  · omega
  · obtain ⟨b, off, spot⟩ := x
    have hc := h5 0 (by omega)
    have hspot : spot = none := by simpa [Addr.add] using World.cell?_spot hc
    subst hspot
    refine ⟨b, off, rfl, h2, h3, fun i hi => ?_⟩
    have hi' : i < zs.length := by omega
    have hm : zs.getD i 0 ∈ zs := by rw [List.getD_eq_getElem?_getD, List.getElem?_eq_getElem hi']; exact List.getElem_mem _
    have hbd := bounds_u8 (h6 _ hm)
    refine ⟨(zs.getD i 0).toNat, by omega, ?_⟩
    have := h5 i hi'
    rw [Lib.add_plain] at this
    rw [this, Int.toNat_of_nonneg hbd.1]

theorem c8_append (l m : List UInt8) : c8 (l ++ m) = c8 l ++ c8 m := by simp [c8]
structure Digs (k : Nat) (L : List UInt8) : Prop where
  all : L.all isD = true
  head : L = [] ∨ L.head? ≠ some 48
  len : L.length ≤ k
theorem Digs.canon {k : Nat} {L : List UInt8} (h : Digs k L) (h0 : L ≠ []) : canonL L = true := by
  rcases h.head with h1 | h1
  · exact absurd h1 h0
  · unfold canonL headOk
    have h2 : L.isEmpty = false := by simpa using h0
    have h3 : (L.head? == some 48) = false := by simpa using h1
    rw [h.all, h2, h3]; simp
theorem Digs.snoc {k : Nat} {L : List UInt8} (h : Digs k L) (d : Nat) (hd : d < 10) (h0 : 0 < d ∨ L ≠ []) : Digs (k + 1) (L ++ [UInt8.ofNat (48 + d)]) := by
  refine ⟨?_, .inr ?_, by have := h.len; simp; omega⟩
  · rw [List.all_append, h.all, List.all_cons, ofNat_isD hd]; rfl
  · cases L with
    | nil =>
      intro e
      have e1 : UInt8.ofNat (48 + d) = 48 := by simpa using e
      have := congrArg UInt8.toNat e1
      rw [ofNat_dig hd] at this; simp at this; simp at h0; omega
    | cons c l => rcases h.head with h1 | h1
                  · cases h1
                  · simpa using h1
theorem Digs.mono {k k' : Nat} {L : List UInt8} (h : Digs k L) (hk : k ≤ k') : Digs k' L := ⟨h.all, h.head, by have := h.len; omega⟩
theorem Digs.lt {k : Nat} {L : List UInt8} (h : Digs k L) : val L < 10 ^ k := by
  have h1 := val_lt L h.all
  have h2 : 10 ^ L.length ≤ 10 ^ k := Nat.pow_le_pow_right (by decide) h.len
  omega

end Go.Proofs.YtjebddpapbopnaaGreatDoor

namespace Go.Proofs.YtjebddpapbopnaaGreatDoor
open Go.RowKit

def cmpN (a b : Nat) : Int := if a < b then -1 else if b < a then 1 else 0
theorem cmp_lt {a b : Nat} (h : a < b) : cmpN a b = -1 := by unfold cmpN; rw [if_pos h]
theorem cmp_gt {a b : Nat} (h : b < a) : cmpN a b = 1 := by unfold cmpN; rw [if_neg (by omega), if_pos h]
theorem cmp_eq (a : Nat) : cmpN a a = 0 := by unfold cmpN; rw [if_neg (by omega), if_neg (by omega)]
theorem val_cons_lt {c d : UInt8} {l m : List UInt8} (hl : l.length = m.length) (ha : l.all isD = true) (hc : isD c = true) (hd : isD d = true) (h : c < d) : val (c :: l) < val (d :: m) := by
  have h1 := val_lt l ha
  have h2 := isD_lt hc
  have h3 := isD_lt hd
  have h4 : c.toNat < d.toNat := h
  rw [val_cons, val_cons, ← hl]
  have : (c.toNat - 48 + 1) * 10 ^ l.length ≤ (d.toNat - 48) * 10 ^ l.length := Nat.mul_le_mul_right _ (by omega)
  rw [Nat.add_mul] at this; omega
theorem less_val : ∀ (l m : List UInt8), l.length = m.length → l.all isD = true → m.all isD = true →
    Op.bytesLess l m = decide (val l < val m) ∧ Lib.compareBytes l m = cmpN (val l) (val m) := by
  intro l
  induction l with
  | nil =>
    intro m hl _ _
    obtain rfl : m = [] := List.eq_nil_of_length_eq_zero (by simpa using hl.symm)
    exact ⟨by simp [Op.bytesLess], by simp [Lib.compareBytes, cmpN]⟩
  | cons c l ih =>
    intro m hl ha hb
    cases m with
    | nil => simp at hl
    | cons d m =>
      have hl' : l.length = m.length := by simpa using hl
      simp only [List.all_cons, Bool.and_eq_true] at ha hb
      obtain ⟨h1, h2⟩ := ih m hl' ha.2 hb.2
      rcases Nat.lt_trichotomy c.toNat d.toNat with h | h | h
      · have hcd : c < d := h
        have hv := val_cons_lt hl' ha.2 ha.1 hb.1 hcd
        rw [cmp_lt hv]
        exact ⟨by simp [Op.bytesLess, hcd, hv], by simp [Lib.compareBytes, hcd]⟩
      · obtain rfl : c = d := UInt8.toNat_inj.1 h
        have hv : val (c :: l) < val (c :: m) ↔ val l < val m := by rw [val_cons, val_cons, hl']; omega
        have hv' : val (c :: m) < val (c :: l) ↔ val m < val l := by rw [val_cons, val_cons, hl']; omega
        have hcc : ¬ c < c := UInt8.lt_irrefl c
        constructor
        · simp only [Op.bytesLess, h1, hv]; simp
        · simp only [Lib.compareBytes, if_neg hcc, h2, cmpN, hv, hv']
      · have hcd : d < c := h
        have hn : ¬ c < d := by intro h'; have h3 : c.toNat < d.toNat := h'; omega
        have hne : (c == d) = false := by rw [beq_eq_false_iff_ne]; intro e; subst e; omega
        have hv := val_cons_lt hl'.symm hb.2 hb.1 ha.1 hcd
        rw [cmp_gt hv]
        exact ⟨by simp [Op.bytesLess, hn, hne]; omega, by simp [Lib.compareBytes, hn, hcd]⟩
theorem str_less {a b : Nat} (h : Lib.nDigits a = Lib.nDigits b) : Op.bytesLess (str a).toList (str b).toList = decide (a < b) ∧ Lib.compareBytes (str a).data.toList (str b).data.toList = cmpN a b := by
  rw [tl, tl, str_list, str_list]
  have := less_val (Lib.decDigits a) (Lib.decDigits b) (by rw [Lib.decDigits_length, Lib.decDigits_length, h]) (all_dd a) (all_dd b)
  rw [val_dd, val_dd] at this; exact this
theorem str_beq (a b : Nat) : ((str a).toList == (str b).toList) = decide (a = b) := by
  rw [Bool.eq_iff_iff, beq_iff_eq, decide_eq_true_iff]
  constructor
  · intro h
    have h2 := congrArg val h
    rw [tl, tl, str_list, str_list, val_dd, val_dd] at h2; exact h2
  · intro h; rw [h]
theorem size_lt {a b : Nat} (h : (str a).size < (str b).size) : a < b := by
  apply Nat.lt_of_not_le; intro hle
  have := size_mono hle; omega

set_option maxHeartbeats 800000 in
theorem compare_any (a b : Nat) (w : World) :
    Calls Tryz.prog 59 #[.string (str a), .string (str b)] w fun e w' => e = .returned (.int .i64 (cmpN a b)) ∧ w = w' := by
  by_cases hs : (str a).size = (str b).size
  · have hn : (((str a).size : Int) != ((str b).size : Int)) = false := by simp [hs]
    have hl := (str_less (a := a) (b := b) (by rw [str_size, str_size] at hs; exact hs)).2
    have HC := Lib.hid (fun wx => Tryz.strings_Compare (str a) (str b) wx)
    rw [hl] at HC
    clear hs hl
    go_enter Tryz.func59, Tryz.ntmps59
    go_wp2_with fail
    refine (HC.out _).mono ?_
    rintro e w1 ⟨rfl, rfl⟩
    go_wp2_with fail
    go_ret
    exact ⟨rfl, rfl⟩
  · have hn : (((str a).size : Int) != ((str b).size : Int)) = true := by simp; omega
    have HC := Lib.hid (fun wx => Tryz.cmp_Compare_int ((str a).size : Int) ((str b).size : Int) wx)
    have hc : Lib.compareInt ((str a).size : Int) ((str b).size : Int) = cmpN a b := by
      unfold Lib.compareInt
      rcases Nat.lt_or_gt_of_ne hs with h | h
      · rw [if_pos (by omega), cmp_lt (size_lt h)]
      · rw [if_neg (by omega), if_pos (by omega), cmp_gt (size_lt h)]
    rw [hc] at HC
    clear hs hc
    go_enter Tryz.func59, Tryz.ntmps59
    go_wp2_with fail
    refine (HC.out _).mono ?_
    rintro e w1 ⟨rfl, rfl⟩
    go_wp2_with fail
    go_ret
    exact ⟨rfl, rfl⟩



end Go.Proofs.YtjebddpapbopnaaGreatDoor

namespace Go.Proofs.YtjebddpapbopnaaGreatDoor
open Go.RowKit

theorem take_le (l : List UInt8) (k : Nat) : val (l.take k) ≤ val l := by
  conv => rhs; rw [← List.take_append_drop k l]
  rw [val_append]
  have : val (l.take k) * 1 ≤ val (l.take k) * 10 ^ (l.drop k).length := Nat.mul_le_mul_left _ (Nat.pow_pos (by decide))
  omega
def maxU : ByteArray := ⟨#[49, 56, 52, 52, 54, 55, 52, 52, 48, 55, 51, 55, 48, 57, 53, 53, 49, 54, 49, 53]⟩
theorem maxU_eq : maxU = str 18446744073709551615 := str_eq _ (by decide +kernel) (by decide +kernel)



def zeros20 : Array Value := #[.int .u8 0, .int .u8 0, .int .u8 0, .int .u8 0, .int .u8 0, .int .u8 0, .int .u8 0, .int .u8 0, .int .u8 0, .int .u8 0, .int .u8 0, .int .u8 0, .int .u8 0, .int .u8 0, .int .u8 0, .int .u8 0, .int .u8 0, .int .u8 0, .int .u8 0, .int .u8 0]






theorem ld_dd {u j : Nat} (hu : u < 10 ^ (j + 1)) (h0 : j = 0 ∨ 0 < u / 10 ^ j) : ld u (j + 1) = Lib.decDigits u := by
  have hv : val (ld u (j + 1)) = u := by rw [ld_val, Nat.mod_eq_of_lt hu]
  have hd : u / 10 ^ j < 10 := by rw [Nat.div_lt_iff_lt_mul (Nat.pow_pos (by decide)), Nat.mul_comm, ← Nat.pow_succ]; exact hu
  have hc : canonL (ld u (j + 1)) = true := by
    unfold canonL
    rw [ld_all]
    rcases h0 with h0 | h0
    · subst h0
      have hu10 : u < 10 := by simpa using hu
      have e : ld u 1 = Lib.decDigits u := by
        rw [dd_small hu10]; simp [ld, Lib.dg, Nat.mod_eq_of_lt hu10]
      have := canon_dd u
      rw [← e] at this; unfold canonL at this
      simp only [Bool.and_eq_true] at this
      rw [this.1]; rfl
    · unfold headOk
      have hne : (Lib.dg u j == 48) = false := by
        rw [beq_eq_false_iff_ne]; intro e
        have := congrArg UInt8.toNat e
        rw [dg_nat, Nat.mod_eq_of_lt hd, show (48 : UInt8).toNat = 48 from rfl] at this; omega
      simp [ld, hne]
  rw [← dd_val hc, hv]

end Go.Proofs.YtjebddpapbopnaaGreatDoor
