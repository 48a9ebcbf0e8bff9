/-
  Comparing: decimal.Compare, the reference's Compare, quick, Small, Of.
-/
import Derived.Test.YtfhmdlpjeiockaaDoorPow
import Derived.Test.YtfhmdlpjeiockaaDoorMake
namespace Go.Proofs.YtfhmdlpjeiockaaDoor
open Go.RowKit

def cmpN (a b : Nat) : Int := if a < b then -1 else if b < a then 1 else 0
theorem cmp_lt {a b : Nat} (h : a < b) : cmpN a b = -1 := by unfold cmpN; rw [if_pos h]
theorem cmp_gt {a b : Nat} (h : b < a) : cmpN a b = 1 := by unfold cmpN; rw [if_neg (by omega), if_pos h]
theorem cmp_eq (a : Nat) : cmpN a a = 0 := by unfold cmpN; rw [if_neg (by omega), if_neg (by omega)]
theorem val_cons_lt {c d : UInt8} {l m : List UInt8} (hl : l.length = m.length) (ha : l.all isD = true) (hc : isD c = true) (hd : isD d = true) (h : c < d) : val (c :: l) < val (d :: m) := by
  have h1 := val_lt l ha
  have h2 := isD_lt hc
  have h3 := isD_lt hd
  have h4 : c.toNat < d.toNat := h
  rw [val_cons, val_cons, ← hl]
  have : (c.toNat - 48 + 1) * 10 ^ l.length ≤ (d.toNat - 48) * 10 ^ l.length := Nat.mul_le_mul_right _ (by omega)
  rw [Nat.add_mul] at this; omega
theorem less_val : ∀ (l m : List UInt8), l.length = m.length → l.all isD = true → m.all isD = true →
    Op.bytesLess l m = decide (val l < val m) ∧ Lib.compareBytes l m = cmpN (val l) (val m) := by
  intro l
  induction l with
  | nil =>
    intro m hl _ _
    obtain rfl : m = [] := List.eq_nil_of_length_eq_zero (by simpa using hl.symm)
    exact ⟨by simp [Op.bytesLess], by simp [Lib.compareBytes, cmpN]⟩
  | cons c l ih =>
    intro m hl ha hb
    cases m with
    | nil => simp at hl
    | cons d m =>
      have hl' : l.length = m.length := by simpa using hl
      simp only [List.all_cons, Bool.and_eq_true] at ha hb
      obtain ⟨h1, h2⟩ := ih m hl' ha.2 hb.2
      rcases Nat.lt_trichotomy c.toNat d.toNat with h | h | h
      · have hcd : c < d := h
        have hv := val_cons_lt hl' ha.2 ha.1 hb.1 hcd
        rw [cmp_lt hv]
        exact ⟨by simp [Op.bytesLess, hcd, hv], by simp [Lib.compareBytes, hcd]⟩
      · obtain rfl : c = d := UInt8.toNat_inj.1 h
        have hv : val (c :: l) < val (c :: m) ↔ val l < val m := by rw [val_cons, val_cons, hl']; omega
        have hv' : val (c :: m) < val (c :: l) ↔ val m < val l := by rw [val_cons, val_cons, hl']; omega
        have hcc : ¬ c < c := UInt8.lt_irrefl c
        constructor
        · simp only [Op.bytesLess, h1, hv]; simp
        · simp only [Lib.compareBytes, if_neg hcc, h2, cmpN, hv, hv']
      · have hcd : d < c := h
        have hn : ¬ c < d := by intro h'; have h3 : c.toNat < d.toNat := h'; omega
        have hne : (c == d) = false := by rw [beq_eq_false_iff_ne]; intro e; subst e; omega
        have hv := val_cons_lt hl'.symm hb.2 hb.1 ha.1 hcd
        rw [cmp_gt hv]
        exact ⟨by simp [Op.bytesLess, hn, hne]; omega, by simp [Lib.compareBytes, hn, hcd]⟩
theorem str_less {a b : Nat} (h : Lib.nDigits a = Lib.nDigits b) : Op.bytesLess (str a).toList (str b).toList = decide (a < b) ∧ Lib.compareBytes (str a).data.toList (str b).data.toList = cmpN a b := by
  rw [tl, tl, str_list, str_list]
  have := less_val (Lib.decDigits a) (Lib.decDigits b) (by rw [Lib.decDigits_length, Lib.decDigits_length, h]) (all_dd a) (all_dd b)
  rw [val_dd, val_dd] at this; exact this
theorem str_beq (a b : Nat) : ((str a).toList == (str b).toList) = decide (a = b) := by
  rw [Bool.eq_iff_iff, beq_iff_eq, decide_eq_true_iff]
  constructor
  · intro h
    have h2 := congrArg val h
    rw [tl, tl, str_list, str_list, val_dd, val_dd] at h2; exact h2
  · intro h; rw [h]
theorem size_lt {a b : Nat} (h : (str a).size < (str b).size) : a < b := by
  apply Nat.lt_of_not_le; intro hle
  have := size_mono hle; omega


set_option maxHeartbeats 800000 in
theorem compareR_any (a b : Nat) (w : World) (_ha : (str a).size ≤ 1000000) (hb : (str b).size ≤ 1000000) :
    Calls Tryd.prog 10 #[.string (str a), .string (str b)] w fun e w' => e = .returned (.int .i64 (cmpN a b)) ∧ w = w' := by
  by_cases hs : (str a).size = (str b).size
  · have hn : (((str a).size : Int) != ((str b).size : Int)) = false := by simp [hs]
    have hl := (str_less (a := a) (b := b) (by rw [str_size, str_size] at hs; exact hs)).1
    have he := str_beq a b
    rcases Nat.lt_trichotomy a b with h | h | h
    · have hl' : Op.bytesLess (str a).toList (str b).toList = true := by rw [hl]; simpa using h
      have he' : ((str a).toList == (str b).toList) = false := by rw [he]; simp; omega
      have HR := Lib.hid (cmp_lt h)
      clear hs hl he h
      go_enter Tryd.func10, Tryd.ntmps10
      go_wp2
      go_ret
      exact ⟨ret_int HR.out.symm, rfl⟩
    · subst h
      have HR := Lib.hid (cmp_eq a)
      have he' : ((str a).toList == (str a).toList) = true := by simp
      clear hs hl he hn
      go_enter Tryd.func10, Tryd.ntmps10
      go_wp2
      go_ret
      exact ⟨ret_int HR.out.symm, rfl⟩
    · have hl' : Op.bytesLess (str a).toList (str b).toList = false := by rw [hl]; simp; omega
      have he' : ((str a).toList == (str b).toList) = false := by rw [he]; simp; omega
      have HR := Lib.hid (cmp_gt h)
      clear hs hl he h
      go_enter Tryd.func10, Tryd.ntmps10
      go_wp2
      go_ret
      exact ⟨ret_int HR.out.symm, rfl⟩
  · have hn : (((str a).size : Int) != ((str b).size : Int)) = true := by simp; omega
    rcases Nat.lt_or_gt_of_ne hs with h | h
    · have h' : ((str a).size : Int) < ((str b).size : Int) := by omega
      have HR := Lib.hid (cmp_lt (size_lt h))
      clear hs h
      go_enter Tryd.func10, Tryd.ntmps10
      go_wp2
      go_ret
      exact ⟨ret_int HR.out.symm, rfl⟩
    · have h' : ¬ ((str a).size : Int) < ((str b).size : Int) := by omega
      have HR := Lib.hid (cmp_gt (size_lt h))
      clear hs h
      go_enter Tryd.func10, Tryd.ntmps10
      go_wp2
      go_ret
      exact ⟨ret_int HR.out.symm, rfl⟩

set_option maxHeartbeats 800000 in
/-- the value of a row of digits, read from the left: as uint64 -/
theorem quick_yes (a : Nat) (w : World) (h : (str a).size ≤ 18) :
    Calls Tryd.prog 26 #[.string (str a)] w fun e w' => e = .returned (.tuple #[.int .u64 a, .bool true]) ∧ w = w' := by
  obtain ⟨s, hs⟩ : ∃ s, s = str a := ⟨_, rfl⟩
  have hv : val s.data.toList = a := by rw [hs, val_str]
  have hd : s.data.toList.all isD = true := by rw [hs, str_list]; exact all_dd a
  rw [← hs] at h ⊢
  have HD : ∀ k (h : k < s.size), isD (s[k]'h) = true := fun k h => by
    rw [← at_list s k h]; exact List.all_eq_true.1 hd _ (List.getElem_mem _)
  have HB : ∀ k, val (s.data.toList.take k) < 10 ^ k := fun k => by
    have h1 := val_lt (s.data.toList.take k) (List.all_eq_true.2 fun x hx => List.all_eq_true.1 hd x (List.mem_of_mem_take hx))
    have h2 : 10 ^ (s.data.toList.take k).length ≤ 10 ^ k := Nat.pow_le_pow_right (by decide) (by rw [List.length_take]; omega)
    omega
  have HD' := Lib.hid HD
  have HB' := Lib.hid HB
  have HV := Lib.hid hv
  clear HD HB hd hs hv
  go_enter Tryd.func26, Tryd.ntmps26
  go_wp2
  go_loop [4, 5] (fun n i => ∃ k v : Nat, k ≤ s.size ∧ i = .int .i64 k ∧ n = .int .u64 v ∧ Hid (v = val (s.data.toList.take k))) (fun _ i => s.size - (intOf i).toNat)
  case atStart => exact ⟨0, 0, Nat.zero_le _, rfl, rfl, rfl⟩
  case round =>
    obtain ⟨k, v, hk, rfl, rfl, HW⟩ := hrel
    by_cases hlt : k < s.size
    · have h1 := isD_lt (HD'.out k hlt)
      have h2 := HB'.out k
      have h3 : 10 ^ k ≤ 10 ^ 17 := Nat.pow_le_pow_right (by decide) (by omega)
      have hv0 := HW.out
      have g0 : v < 100000000000000000 := by rw [hv0]; omega
      have g1 : 48 ≤ (s[k].toNat : Int) := by omega
      have g2 : (s[k].toNat : Int) ≤ 57 := by omega
      have HT := Lib.hid (take_val s k hlt)
      clear h1 h2 h3 hv0
      go_wp2
      all_goals go_round
      case rel => exact ⟨k + 1, v * 10 + (s[k].toNat - 48), by omega, by go_num, by go_num, by show _ = _; rw [HT.out, HW.out, Nat.mul_comm]⟩
      case measure => simp [intOf] <;> omega
    · go_wp2
      go_ret2
      exact ⟨ret_int2 (by rw [HW.out, take_all_len s k (by omega), HV.out]), rfl⟩
set_option maxHeartbeats 400000 in
theorem quick_no (a : Nat) (w : World) (h : 18 < (str a).size) :
    Calls Tryd.prog 26 #[.string (str a)] w fun e w' => e = .returned (.tuple #[.int .u64 0, .bool false]) ∧ w = w' := by
  go_enter Tryd.func26, Tryd.ntmps26
  go_wp2
  go_ret2
  exact ⟨rfl, rfl⟩
end Go.Proofs.YtfhmdlpjeiockaaDoor
