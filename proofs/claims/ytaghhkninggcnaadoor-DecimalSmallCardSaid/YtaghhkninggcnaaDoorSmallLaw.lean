/-
  The walk of the law DecimalSmall.
-/
import Derived.Test.YtaghhkninggcnaaDoorKnown
import Derived.Test.YtaghhkninggcnaaDoorRefs
namespace Go.Proofs.YtaghhkninggcnaaDoor
open Go.RowKit

theorem IsRow.len_bd {k : IntKind} {w : World} {a : Option Addr} {len cap : Nat} {zs : List Int} (h : IsRow k w a len cap zs) : len ≤ 9223372036854775807 := by
  rcases h with ⟨_, h, _⟩ | ⟨x, _, h2, h3, _⟩
  · omega
  · unfold maxLen at h3; omega
theorem size120 {n m : Nat} (h : n < 10 ^ (min m 120)) : (str n).size ≤ 120 :=
  str_big (Nat.lt_of_lt_of_le h (Nat.pow_le_pow_right (by decide) (Nat.min_le_right _ _))) (by decide)

set_option maxHeartbeats 3200000 in
theorem small_law (u : Int) (a : Option Addr) (len cap : Nat) (zs : List Int) (w : World) (hs : Std w) (hu : (Lit.int .u64 u).wf = true) (hr : IsRow .u8 w a len cap zs) :
    Calls Tryd.prog 5 #[.int .u64 u, .slice a len cap] w fun e w' => e = .returned (.bool true) ∧ Below w.heap.size w w' := by
  have hbu := bounds_u64 hu
  obtain ⟨n, rfl⟩ : ∃ n : Nat, u = n := ⟨u.toNat, by omega⟩
  have hn : n < 18446744073709551616 := by omega
  have hlb := hr.len_bd
  have HS := Lib.hid hs
  have HR := Lib.hid hr
  have HOF := Lib.hid (fun wx hx => of_any n hn wx hx)
  have HSM := Lib.hid (fun wx => small_yes n hn wx)
  have HOR := Lib.hid (fun wx => ofR_any n wx hn)
  have e1 : ((n : Int) == (n : Int)) = true := beq_self_eq_true _
  have e2 : ((str n).toList == (str n).toList) = true := beq_self_eq_true _
  clear hs hr hu hbu hn
  by_cases hl : len ≤ 120
  · go_enter Tryd.func5, Tryd.ntmps5
    go_wp2_with fail
    refine (known_any _ HS.out).mono ?_
    rintro e w1 ⟨rfl, h1⟩
    have B1 := Lib.hid h1
    clear h1
    go_wp2_with fail
    refine (HOF.out _ (HS.out.below B1.out)).mono ?_
    rintro e w2 ⟨rfl, h2⟩
    have B2 := Lib.hid (B1.out.trans (h2.mono B1.out.size))
    clear h2
    go_wp2_with fail
    refine (HSM.out _).mono ?_
    rintro e w3 ⟨rfl, h3⟩
    have B3 := Lib.hid (B2.out.trans (h3.mono B2.out.size))
    clear h3
    go_wp2_with fail
    refine (make_any a len cap zs _ (HR.out.below B3.out)).mono ?_
    rintro e w4 ⟨m, rfl, hm, h4⟩
    have B4 := Lib.hid (B3.out.trans (h4.mono B3.out.size))
    have HM := Lib.hid hm
    clear h4 hm
    by_cases hm64 : m < 18446744073709551616
    · have HA := Lib.hid (fun wx => small_yes m hm64 wx)
      have HB := Lib.hid (fun wx => smallR_yes m wx hm64)
      have e3 : ((m : Int) == (m : Int)) = true := beq_self_eq_true _
      clear hm64
      go_wp2_with fail
      refine (HA.out _).mono ?_
      rintro e w5 ⟨rfl, h5⟩
      have B5 := Lib.hid (B4.out.trans (h5.mono B4.out.size))
      clear h5
      go_wp2_with fail
      refine (HB.out _).mono ?_
      rintro e w6 ⟨rfl, rfl⟩
      go_wp2_with fail
      refine (HOR.out _).mono ?_
      rintro e w7 ⟨rfl, h7⟩
      have B7 := Lib.hid (B5.out.trans (h7.mono B5.out.size))
      clear h7
      go_wp2_with fail
      go_ret
      exact ⟨rfl, B7.out⟩
    · have HA := Lib.hid (fun wx hx => small_no m hm64 wx hx)
      have HB := Lib.hid (fun wx => smallR_no m wx hm64 (Nat.le_trans (size120 HM.out) (by decide)))
      clear hm64
      go_wp2_with fail
      refine (HA.out _ (HS.out.below B4.out)).mono ?_
      rintro e w5 ⟨rfl, h5⟩
      have B5 := Lib.hid (B4.out.trans (h5.mono B4.out.size))
      clear h5
      go_wp2_with fail
      refine (HB.out _).mono ?_
      rintro e w6 ⟨rfl, rfl⟩
      go_wp2_with fail
      refine (HOR.out _).mono ?_
      rintro e w7 ⟨rfl, h7⟩
      have B7 := Lib.hid (B5.out.trans (h7.mono B5.out.size))
      clear h7
      go_wp2_with fail
      go_ret
      exact ⟨rfl, B7.out⟩
  · go_enter Tryd.func5, Tryd.ntmps5
    go_wp2_with fail
    refine (known_any _ HS.out).mono ?_
    rintro e w1 ⟨rfl, h1⟩
    have HS1 := Lib.hid (HS.out.below h1)
    have B1 := Lib.hid h1
    clear h1
    go_wp2_with fail
    refine (known_any _ HS1.out).mono ?_
    rintro e w2 ⟨rfl, h2⟩
    have B2 := Lib.hid (B1.out.trans (h2.mono B1.out.size))
    clear h2
    go_wp2_with fail
    go_ret
    exact ⟨rfl, B2.out⟩
end Go.Proofs.YtaghhkninggcnaaDoor
