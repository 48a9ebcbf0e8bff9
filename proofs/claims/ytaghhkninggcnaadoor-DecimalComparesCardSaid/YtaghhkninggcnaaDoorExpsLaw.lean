/-
  The walk of the law DecimalExponents.
-/
import Derived.Test.YtaghhkninggcnaaDoorTools
import Derived.Test.YtaghhkninggcnaaDoorBitLen
import Derived.OpenShut
namespace Go.Proofs.YtaghhkninggcnaaDoor
open Go.RowKit

set_option maxHeartbeats 800000 in
set_option maxRecDepth 100000 in
theorem pow_ok (a n : Nat) (w : World) (hs : Std w) (ha : (str a).size ≤ 20000) (hn : n < 9223372036854775808) (hsz : (str (a ^ n)).size ≤ 20000) :
    Calls Tryd.prog 35 #[.string (str a), .int .i64 n] w fun e w' => e = .returned (.tuple #[.string (str (a ^ n)), .int .i64 0]) ∧ Below w.heap.size w w' := by
  by_cases h0 : n = 0
  · subst h0
    have h1 : str (a ^ 0) = ⟨#[49]⟩ := by rw [Nat.pow_zero]; exact (str_eq 1 (by decide) (by decide)).symm
    have hcan := Lib.hid (canon_str a)
    rw [h1]
    clear h1
    go_enter Tryd.func35, Tryd.ntmps35
    go_wp2_with (go_at_call 16; refine (canonical_any _ _ (by omega)).mono ?_; rintro e w' ⟨rfl, rfl⟩; rw [hcan.out])
    go_ret2
    exact ⟨rfl, Below.refl _ _⟩
  · refine (power_any a n w hs ha (by omega) hn).mono ?_
    rintro e w' ⟨h, hb⟩
    refine ⟨?_, hb⟩
    rcases h with ⟨_, h⟩ | ⟨h, _⟩
    · exact h
    · omega
theorem powTo {a n m z : Nat} {i : Int} (hi : i = (n : Int)) (h : a ^ n = z) (w : World) (hs : Std w) (ha : (str a).size ≤ m) (hm : m ≤ 20000) (hn : n ≤ 2000) (hsz : (str z).size ≤ 20000) :
    Calls Tryd.prog 35 #[.string (str a), .int .i64 i] w fun e w' => e = .returned (.tuple #[.string (str z), .int .i64 0]) ∧ Below w.heap.size w w' := by
  rw [hi, ← h]; exact pow_ok a n w hs (by omega) (by omega) (by rw [h]; exact hsz)
theorem size_pow_le {a s : Nat} (ha : (str a).size ≤ s) (n : Nat) : (str (a ^ n)).size ≤ s * n + 1 := by
  refine str_big ?_ (by omega)
  have h1 := lt_of_size ha
  have h2 : a ^ n ≤ (10 ^ s) ^ n := Nat.pow_le_pow_left (Nat.le_of_lt h1) n
  rw [← Nat.pow_mul] at h2
  rw [Nat.pow_succ]
  have : 0 < 10 ^ (s * n) := Nat.pow_pos (by decide)
  omega
theorem bits_bound' {z k s : Nat} (h : BitsOf z k) (hs : (str z).size ≤ s) : k ≤ 4 * s + 1 := by
  rcases h.2 with h0 | h0
  · omega
  · have h1 := lt_of_size hs
    have h2 : (10 : Nat) ^ s ≤ (2 ^ 4) ^ s := Nat.pow_le_pow_left (by decide) _
    rw [← Nat.pow_mul] at h2
    have h3 : 2 ^ (k - 1) < 2 ^ (4 * s) := by omega
    have := (Nat.pow_lt_pow_iff_right (a := 2) (by decide)).1 h3
    omega
theorem bits_bound {z k : Nat} (h : BitsOf z k) (hs : (str z).size ≤ 301) : k ≤ 1205 := bits_bound' h hs
theorem str0 : str 0 = ⟨#[48]⟩ := (str_eq 0 (by decide) (by decide)).symm
theorem str2 : str 2 = ⟨#[50]⟩ := (str_eq 2 (by decide) (by decide)).symm

set_option maxHeartbeats 6400000 in
set_option maxRecDepth 100000 in
theorem exps_law (a1 : Option Addr) (l1 c1 : Nat) (z1 : List Int) (m n : Int) (w : World) (hs : Std w) (r1 : IsRow .u8 w a1 l1 c1 z1) (wm : (Lit.int .u8 m).wf = true) (wn : (Lit.int .u8 n).wf = true) :
    Calls Tryd.prog 12 #[.slice a1 l1 c1, .int .u8 m, .int .u8 n] w fun e w' => e = .returned (.bool true) ∧ Below w.heap.size w w' := by
  have bm := bounds_u8 wm
  have bn := bounds_u8 wn
  obtain ⟨i, hi⟩ : ∃ i : Nat, m % 16 = (i : Int) := ⟨(m % 16).toNat, by omega⟩
  obtain ⟨k, hk⟩ : ∃ k : Nat, n % 16 = (k : Int) := ⟨(n % 16).toNat, by omega⟩
  have hi2 : i < 16 := by omega
  have hk2 : k < 16 := by omega
  have hlb := r1.len_bd
  have HS := Lib.hid hs
  have R1 := Lib.hid r1
  clear hs r1 wm wn
  by_cases hl : l1 ≤ 10
  · go_enter Tryd.func12, Tryd.ntmps12
    go_wp2_with fail
    refine (known_any _ HS.out).mono ?_
    rintro e w1 ⟨rfl, h1⟩
    have B1 := Lib.hid h1
    clear h1
    go_wp2_with fail
    refine (make_any a1 l1 c1 z1 _ (R1.out.below B1.out)).mono ?_
    rintro e w2 ⟨a, rfl, hn2, h2⟩
    have B2 := Lib.hid (B1.out.trans (h2.mono B1.out.size))
    have HN2 := Lib.hid hn2
    clear h2 hn2
    have SA : (str a).size ≤ 10 := str_big (Nat.lt_of_lt_of_le HN2.out (Nat.pow_le_pow_right (by decide) (by omega))) (by decide)
    have SI := Nat.le_trans (size_pow_le SA i) (show 10 * i + 1 ≤ 151 by omega)
    have SK := Nat.le_trans (size_pow_le SA k) (show 10 * k + 1 ≤ 151 by omega)
    have SZ := Nat.le_trans (size_pow_le SA (i + k)) (show 10 * (i + k) + 1 ≤ 301 by omega)
    obtain ⟨x, Ex⟩ : ∃ x, a ^ i = x := ⟨_, rfl⟩
    obtain ⟨y, Ey⟩ : ∃ y, a ^ k = y := ⟨_, rfl⟩
    obtain ⟨z, Ez⟩ : ∃ z, a ^ (i + k) = z := ⟨_, rfl⟩
    have Exy : x * y = z := by rw [← Ex, ← Ey, ← Ez, Nat.pow_add]
    rw [Ex] at SI
    rw [Ey] at SK
    rw [Ez] at SZ
    have HEx := Lib.hid Ex
    have HEy := Lib.hid Ey
    have HEz := Lib.hid Ez
    have HExy := Lib.hid Exy
    have HSA := Lib.hid SA
    have HSI := Lib.hid SI
    have HSK := Lib.hid SK
    have HSZ := Lib.hid SZ
    clear Ex Ey Ez Exy SA SI SK SZ
    go_wp2_with fail
    refine (powTo rfl HEx.out _ (HS.out.below B2.out) HSA.out (by decide) (by omega) (Nat.le_trans HSI.out (by decide))).mono ?_
    rintro e w3 ⟨rfl, h3⟩
    have B3 := Lib.hid (B2.out.trans (h3.mono B2.out.size))
    clear h3
    go_wp2_with fail
    refine (powTo rfl HEy.out _ (HS.out.below B3.out) HSA.out (by decide) (by omega) (Nat.le_trans HSK.out (by decide))).mono ?_
    rintro e w4 ⟨rfl, h4⟩
    have B4 := Lib.hid (B3.out.trans (h4.mono B3.out.size))
    clear h4
    go_wp2_with fail
    refine (powTo (by omega) HEz.out _ (HS.out.below B4.out) HSA.out (by decide) (by omega) (Nat.le_trans HSZ.out (by decide))).mono ?_
    rintro e w5 ⟨rfl, h5⟩
    have B5 := Lib.hid (B4.out.trans (h5.mono B4.out.size))
    clear h5
    go_wp2_with fail
    refine (mulTo HExy.out _ (HS.out.below B5.out) (Nat.le_trans HSI.out (by decide)) (Nat.le_trans HSK.out (by decide))).mono ?_
    rintro e w6 ⟨rfl, h6⟩
    have B6 := Lib.hid (B5.out.trans (h6.mono B5.out.size))
    clear h6
    go_wp2_with fail
    refine (bits_any z _ (HS.out.below B6.out) (Nat.le_trans HSZ.out (by decide))).mono ?_
    rintro e wb ⟨b, rfl, hb, hbb⟩
    have HBB := Lib.hid (B6.out.trans (hbb.mono B6.out.size))
    have HBO := Lib.hid hb
    have hb1 := bits_bound hb HSZ.out
    clear hb hbb
    by_cases hz : z = 0
    · subst hz
      have hb0 : b = 0 := HBO.out.unique BitsOf.zero
      subst hb0
      have HZ0 := Lib.hid str0
      have hzz : ((str 0).toList == [48]) = true := by rw [str0, tl]; decide
      go_wp2_with fail
      go_ret
      exact ⟨rfl, HBB.out⟩
    · have hbpos : 1 ≤ b := by
        apply Nat.pos_of_ne_zero; intro e0
        have h1 := HBO.out.1
        rw [e0] at h1; omega
      have hzz : ((str z).toList == [48]) = false := by
        have := str_beq z 0
        rw [str0] at this
        have e48 : (⟨#[48]⟩ : ByteArray).toList = [48] := by rw [tl]
        rw [e48] at this; rw [this]; simpa using hz
      obtain ⟨d, rfl⟩ : ∃ d, b = d + 1 := ⟨b - 1, by omega⟩
      obtain ⟨low, hlow⟩ : ∃ low, 2 ^ d = low := ⟨_, rfl⟩
      have HLOW := Lib.hid hlow
      clear hlow
      have hle : low ≤ z := by
        rcases HBO.out.2 with h | h
        · omega
        · rw [← HLOW.out]; exact h
      have hlt : z < low + low := by
        have h := HBO.out.1
        rw [Nat.pow_succ, HLOW.out] at h; omega
      have HSL := Lib.hid (Nat.le_trans (size_mono hle) HSZ.out)
      have hc1 : cmpN low z ≤ 0 := by
        unfold cmpN
        by_cases h : low < z
        · rw [if_pos h]; decide
        · rw [if_neg h, if_neg (by omega)]; decide
      have HP2 := Lib.hid (fun wx hx => powTo (i := (d : Int)) rfl HLOW.out wx hx (show (str 2).size ≤ 1 by rw [str2]; decide) (by decide) (by omega) (Nat.le_trans HSL.out (by decide)))
      rw [str2] at HP2
      have HC1 := Lib.hid (fun wx => compare_any low z wx)
      have HC2 := Lib.hid (fun wx => compare_any z (low + low) wx)
      rw [cmp_lt hlt] at HC2
      obtain ⟨cc, hcc⟩ : ∃ cc, cc = cmpN low z := ⟨_, rfl⟩
      rw [← hcc] at HC1 hc1
      clear hcc hle hlt hz
      go_wp2_with fail
      refine (HP2.out _ (HS.out.below HBB.out)).mono ?_
      rintro e wp ⟨rfl, hp⟩
      have HBP := Lib.hid (HBB.out.trans (hp.mono HBB.out.size))
      clear hp
      go_wp2_with fail
      refine (HC1.out _).mono ?_
      rintro e wq ⟨rfl, rfl⟩
      go_wp2_with fail
      refine (addTo (z := low + low) rfl _ (HS.out.below HBP.out) (Nat.le_trans HSL.out (by decide)) (Nat.le_trans HSL.out (by decide))).mono ?_
      rintro e wr ⟨rfl, hr⟩
      have HBR := Lib.hid (HBP.out.trans (hr.mono HBP.out.size))
      clear hr
      go_wp2_with fail
      refine (HC2.out _).mono ?_
      rintro e ws ⟨rfl, rfl⟩
      go_wp2_with fail
      go_ret
      exact ⟨rfl, HBR.out⟩
  · go_enter Tryd.func12, Tryd.ntmps12
    go_wp2_with fail
    refine (known_any _ HS.out).mono ?_
    rintro e w1 ⟨rfl, h1⟩
    have B1 := Lib.hid h1
    clear h1
    go_wp2_with fail
    refine (known_any _ (HS.out.below B1.out)).mono ?_
    rintro e w2 ⟨rfl, h2⟩
    have B2 := Lib.hid (B1.out.trans (h2.mono B1.out.size))
    clear h2
    go_wp2_with fail
    go_ret
    exact ⟨rfl, B2.out⟩
end Go.Proofs.YtaghhkninggcnaaDoor
