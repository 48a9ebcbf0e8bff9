/-
  The contract of Power.
-/
import Derived.Test.YtfhmdlpjeiockaaDoorNum
import Derived.Laws.Bits64
import Derived.Lib.RabinKarpLaws
namespace Go.Proofs.YtfhmdlpjeiockaaDoor
open Go.RowKit

theorem nDigits_mono {a b : Nat} (h : a ≤ b) : Lib.nDigits a ≤ Lib.nDigits b := by
  refine nDigits_le (Lib.nDigits_pos b) ?_
  have := Lib.lt_pow_nDigits b; omega
theorem size_mono {a b : Nat} (h : a ≤ b) : (str a).size ≤ (str b).size := by rw [str_size, str_size]; exact nDigits_mono h
theorem size_pow {a m n : Nat} (hm : m ≤ n) (h : 20000 < (str (a ^ m)).size) : 20000 < (str (a ^ n)).size := by
  by_cases ha : a = 0
  · subst ha
    have : 0 ^ m < 10 ^ 1 := by cases m <;> simp
    have := str_big this (by decide); omega
  · exact Nat.lt_of_lt_of_le h (size_mono (Nat.pow_le_pow_right (by omega) hm))
theorem size_mul {a b n m : Nat} (ha : (str a).size ≤ n) (hb : (str b).size ≤ m) (h0 : 0 < n + m) : (str (a * b)).size ≤ n + m := by
  refine str_big ?_ h0
  rw [Nat.pow_add]
  exact Nat.mul_lt_mul'' (lt_of_size ha) (lt_of_size hb)
theorem pow_step {a n e v : Nat} (hv : v = a ^ (n / 2 ^ (e + 1))) : v * v * a ^ (n / 2 ^ e % 2) = a ^ (n / 2 ^ e) := by
  have h := Nat.div_add_mod (n / 2 ^ e) 2
  rw [Nat.div_div_eq_div_mul, ← Nat.pow_succ] at h
  conv => rhs; rw [← h]
  rw [Nat.pow_add, Nat.two_mul, Nat.pow_add, ← hv]
theorem bitLen_facts {n : Nat} (h0 : 0 < n) (h : n < 9223372036854775808) : 1 ≤ Lib.bitLen n ∧ Lib.bitLen n ≤ 63 ∧ n / 2 ^ (Lib.bitLen n - 1) = 1 := by
  have h1 := Lib.bitLenAux_bounds 64 n (by omega) (by omega)
  have e : Lib.bitLen n = Lib.bitLenAux 64 n := rfl
  rw [← e] at h1
  refine ⟨h1.1, Lib.bitLen_le n 63 (by decide) h, ?_⟩
  have h2 : 2 ^ Lib.bitLen n = 2 * 2 ^ (Lib.bitLen n - 1) := by
    conv => lhs; rw [show Lib.bitLen n = Lib.bitLen n - 1 + 1 by omega]
    rw [Nat.pow_succ]; omega
  have h3 : 0 < 2 ^ (Lib.bitLen n - 1) := Nat.pow_pos (by decide)
  apply Nat.le_antisymm
  · apply Nat.le_of_lt_succ
    rw [Nat.div_lt_iff_lt_mul h3]; omega
  · rw [Nat.le_div_iff_mul_le h3]; omega
theorem bit_is (n e : Nat) (hn : n < 9223372036854775808) : bits BinOp.and IntKind.i64 ((n : Int) / 2 ^ e) 1 = ((n / 2 ^ e % 2 : Nat) : Int) := by
  have e1 : ((n : Int) / 2 ^ e) = ((n / 2 ^ e : Nat) : Int) := by rw [Int.natCast_ediv]; simp
  have h2 := Nat.div_le_self n (2 ^ e)
  rw [e1]; exact Go.Proofs.and_one _ (by omega)
theorem bit_yes {n e : Nat} (hn : n < 9223372036854775808) (h : n / 2 ^ e % 2 = 1) : (bits BinOp.and IntKind.i64 ((n : Int) / 2 ^ e) 1 == 1) = true := by
  rw [bit_is n e hn, h]; rfl
theorem bit_no {n e : Nat} (hn : n < 9223372036854775808) (h : n / 2 ^ e % 2 = 0) : (bits BinOp.and IntKind.i64 ((n : Int) / 2 ^ e) 1 == 1) = false := by
  rw [bit_is n e hn, h]; rfl
def PowEnd (a n : Nat) (e : Ending) : Prop := ((str (a ^ n)).size ≤ 20000 ∧ e = .returned (.tuple #[.string (str (a ^ n)), .int .i64 0])) ∨ (20000 < (str (a ^ n)).size ∧ e = .returned (.tuple #[.string ⟨#[]⟩, .int .i64 4]))

set_option maxHeartbeats 3200000 in
set_option maxRecDepth 100000 in
theorem power_any (a n : Nat) (w : World) (hs : Std w) (ha : (str a).size ≤ 20000) (hn0 : 0 < n) (hn : n < 9223372036854775808) :
    Calls Tryd.prog 18 #[.string (str a), .int .i64 n] w fun e w' => PowEnd a n e ∧ Below w.heap.size w w' := by
  have hbf := bitLen_facts hn0 hn
  have hcan := Lib.hid (canon_str a)
  have hbl := fun wx => Tryd.bits_Len (n : Int) wx (by omega) (by omega)
  rw [Int.toNat_natCast] at hbl
  obtain ⟨L, hL⟩ : ∃ L : Nat, L = Lib.bitLen n := ⟨_, rfl⟩
  rw [← hL] at hbl hbf
  have hL1 := hbf.1
  have hL2 := hbf.2.1
  have HL3 := Lib.hid hbf.2.2
  have HBL := Lib.hid hbl
  have hnz : ((n : Int) == 0) = false := by rw [beq_eq_false_iff_ne]; omega
  have HS := Lib.hid hs
  have hn' : (n : Int) ≤ 9223372036854775807 := by omega
  have HN := Lib.hid hn
  clear hbl hL hbf hs hn
  go_enter Tryd.func18, Tryd.ntmps18
  go_wp2_with (first
    | (go_at_call 20; refine (canonical_any _ _ (by omega)).mono ?_; rintro e w' ⟨rfl, rfl⟩; rw [hcan.out])
    | (go_at_call 37; refine (HBL.out _).mono ?_; rintro e w' ⟨rfl, hw⟩; obtain rfl := hw.symm))
  go_loopw [6, 7] (fun pvv bv wr => ∃ (E : Int) (v k : Nat), bv = .int .i64 E ∧ -1 ≤ E ∧ E ≤ 61 ∧ pvv = .string (str v) ∧ (str v).size ≤ 20000 ∧ Hid (E = (k : Int) - 1 ∧ v = a ^ (n / 2 ^ k)) ∧ Below w.heap.size w wr) (fun _ bv _ => (intOf bv + 1).toNat)
  case atStart => exact ⟨(L : Int) - 2, a, L - 1, rfl, by omega, by omega, rfl, ha, ⟨by omega, by rw [HL3.out, Nat.pow_one]⟩, Below.refl _ _⟩
  case round =>
    obtain ⟨E, v, k, rfl, hE1, hE2, rfl, hvs, HI, hbel⟩ := hrel
    have hkE := HI.1
    by_cases hE : 0 ≤ E
    · obtain ⟨e, rfl⟩ : ∃ e : Nat, E = e := ⟨E.toNat, by omega⟩
      obtain rfl : k = e + 1 := by omega
      have HM := Lib.hid (mul_any v v wr (HS.out.below hbel) (by omega) (by omega))
      have hst := pow_step HI.2
      have hvv := size_mul hvs hvs (by omega)
      have HST := Lib.hid hst
      have HB := Lib.hid hbel
      clear hst hbel hkE
      go_wp2_with fail
      refine HM.out.mono ?_
      rintro e' w1 ⟨rfl, hb1⟩
      have hb := HB.out.trans (hb1.mono HB.out.size)
      have HB1 := Lib.hid hb
      clear hb hb1
      rcases (show n / 2 ^ e % 2 = 1 ∨ n / 2 ^ e % 2 = 0 by omega) with hbit | hbit
      · have hby := bit_yes HN.out hbit
        have HST2 := HST.out
        rw [hbit, Nat.pow_one] at HST2
        have HM2 := Lib.hid (mul_any (v * v) a w1 (HS.out.below HB1.out) (by omega) (by omega))
        obtain ⟨v2, hv2⟩ : ∃ v2 : Nat, v2 = v * v * a := ⟨_, rfl⟩
        rw [← hv2] at HST2 HM2
        have HST3 := Lib.hid HST2
        clear hbit HST2 hv2
        go_wp2_with fail
        refine HM2.out.mono ?_
        rintro e' w2 ⟨rfl, hb2⟩
        have hb3 := HB1.out.trans (hb2.mono HB1.out.size)
        have HB3 := Lib.hid hb3
        clear hb2 hb3
        by_cases hsz : 20000 < (str v2).size
        · go_wp2_with fail
          go_ret2
          refine ⟨.inr ⟨?_, rfl⟩, HB3.out⟩
          rw [HST3.out] at hsz
          exact size_pow (Nat.div_le_self n _) hsz
        · go_wp2_with fail
          all_goals go_roundw
          case rel => exact ⟨(e : Int) - 1, v2, e, rfl, by omega, by omega, rfl, by omega, ⟨rfl, HST3.out⟩, HB3.out⟩
          case measure => simp [intOf] <;> omega
      · have hby := bit_no HN.out hbit
        have HST2 := HST.out
        rw [hbit, Nat.pow_zero, Nat.mul_one] at HST2
        obtain ⟨v2, hv2⟩ : ∃ v2 : Nat, v2 = v * v := ⟨_, rfl⟩
        rw [← hv2] at HST2 ⊢
        have HST3 := Lib.hid HST2
        clear hbit HST2 hv2 hvv
        by_cases hsz : 20000 < (str v2).size
        · go_wp2_with fail
          go_ret2
          refine ⟨.inr ⟨?_, rfl⟩, HB1.out⟩
          rw [HST3.out] at hsz
          exact size_pow (Nat.div_le_self n _) hsz
        · go_wp2_with fail
          all_goals go_roundw
          case rel => exact ⟨(e : Int) - 1, v2, e, rfl, by omega, by omega, rfl, by omega, ⟨rfl, HST3.out⟩, HB1.out⟩
          case measure => simp [intOf] <;> omega
    · obtain rfl : k = 0 := by omega
      have HV := Lib.hid (show v = a ^ n by rw [HI.2]; simp)
      have HB := Lib.hid hbel
      clear hbel
      go_wp2_with fail
      go_ret2
      refine ⟨.inl ⟨?_, ?_⟩, HB.out⟩
      · rw [← HV.out]; exact hvs
      · rw [← HV.out]; rfl
end Go.Proofs.YtfhmdlpjeiockaaDoor
