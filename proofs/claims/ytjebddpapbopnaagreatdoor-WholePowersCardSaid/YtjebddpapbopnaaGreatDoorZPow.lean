/-
  The reference of package whole: Power.
-/
import Derived.Test.YtjebddpapbopnaaGreatDoorZRMul
namespace Go.Proofs.YtjebddpapbopnaaGreatDoor
open Go.RowKit

theorem neg_pow (a n : Nat) : (-(a : Int)) ^ n = if n % 2 = 1 then -((a ^ n : Nat) : Int) else ((a ^ n : Nat) : Int) := by
  induction n with
  | zero => simp
  | succ n ih =>
    rw [Int.pow_succ, ih]
    by_cases h : n % 2 = 1
    · rw [if_pos h, if_neg (by omega), Nat.pow_succ]; push_cast; rw [Int.neg_mul_neg]
    · rw [if_neg h, if_pos (by omega), Nat.pow_succ]; push_cast; rw [Int.mul_neg]
theorem pow_val (z : Int) (n : Nat) : (if (decide (z < 0) && decide (n % 2 = 1)) = true then -((z.natAbs ^ n : Nat) : Int) else ((z.natAbs ^ n : Nat) : Int)) = z ^ n := by
  by_cases h : z < 0
  · have hz : z = -(z.natAbs : Int) := by omega
    have hp := neg_pow z.natAbs n
    rw [← hz] at hp
    rw [decide_eq_true h, hp, Bool.true_and]
    by_cases h2 : n % 2 = 1
    · rw [decide_eq_true h2, if_pos rfl, if_pos h2]
    · rw [decide_eq_false h2, if_neg (by decide), if_neg h2]
  · have hz : z = (z.natAbs : Int) := by omega
    rw [decide_eq_false h, Bool.false_and, if_neg (by decide)]
    conv => rhs; rw [hz]
    push_cast; rfl
theorem pow_lt10 {a d : Nat} (h : a < 10 ^ d) (n : Nat) (h0 : 0 < n) : a ^ n < 10 ^ (d * n) := by
  rw [Nat.pow_mul]; exact Nat.pow_lt_pow_left h (by omega)
theorem sz_pow {a d k : Nat} (h : a < 10 ^ d) (hdk : d ≤ k) (hk : 0 < k) : (str a).size ≤ k := str_big (Nat.lt_of_lt_of_le h (Nat.pow_le_pow_right (by decide) hdk)) hk
theorem pow_sz {a n : Nat} (h : (str a).size * n ≤ 4000) : (str (a ^ n)).size ≤ 4001 := by
  rcases Nat.eq_zero_or_pos n with h0 | h0
  · subst h0
    rw [Nat.pow_zero]
    exact Nat.le_trans (str_big (n := 1) (by decide) (by decide)) (by decide)
  · have h1 := pow_lt10 (lt_of_size (Nat.le_refl (str a).size)) n h0
    exact sz_pow h1 (by omega) (by decide)
set_option maxHeartbeats 800000 in
theorem dpow_zero (a : Nat) (w : World) (ha : (str a).size ≤ 20000) :
    Calls Tryz.prog 75 #[.string (str a), .int .i64 0] w fun e w' => e = .returned (.tuple #[.string ⟨#[49]⟩, .int .i64 0]) ∧ w = w' := by
  have hcan := Lib.hid (canon_str a)
  go_enter Tryz.func75, Tryz.ntmps75
  go_wp2_with (go_at_call 82; refine (canonical_any _ _ (by omega)).mono ?_; rintro e w' ⟨rfl, rfl⟩; rw [hcan.out])
  go_ret2
  exact ⟨rfl, rfl⟩
theorem dpow_any (a n : Nat) (w : World) (hs : Std w) (h : (str a).size * n ≤ 4000) (ha : (str a).size ≤ 20000) (hn : n ≤ 4000) :
    Calls Tryz.prog 75 #[.string (str a), .int .i64 (n : Int)] w fun e w' => e = .returned (.tuple #[.string (str (a ^ n)), .int .i64 0]) ∧ Below w.heap.size w w' := by
  rcases Nat.eq_zero_or_pos n with h0 | h0
  · subst h0
    rw [Nat.pow_zero, ← one_str]
    exact (dpow_zero a w ha).mono fun e w' h => ⟨h.1, by rw [← h.2]; exact Below.refl _ _⟩
  · refine (power_any a n w hs ha h0 (by omega)).mono ?_
    rintro e w' ⟨hp, hb⟩
    have hsz := pow_sz h
    rcases hp with ⟨_, hp⟩ | ⟨hp, _⟩
    · exact ⟨hp, hb⟩
    · omega
set_option maxHeartbeats 1600000 in
theorem powW_neg (z : Int) (n : Int) (w : World) (hn : n < 0) (hz : (str z.natAbs).size ≤ 10000) :
    Calls Tryz.prog 39 #[.string (zS z), .int .i64 n] w fun e w' => e = .returned (.tuple #[.string ⟨#[]⟩, .int .i64 3]) ∧ Below w.heap.size w w' := by
  have HX := Lib.hid (fun wx => split_any z wx (by omega))
  have HD := Lib.hid (fun wx => digitsN_any (str z.natAbs) wx)
  obtain ⟨s, hs⟩ : ∃ s, s = zS z := ⟨_, rfl⟩
  obtain ⟨d, hd⟩ : ∃ s, s = str z.natAbs := ⟨_, rfl⟩
  obtain ⟨b, hb⟩ : ∃ b, b = decide (z < 0) := ⟨_, rfl⟩
  rw [← hs] at HX ⊢
  rw [← hd] at HX HD
  rw [← hb] at HX
  have hnd : decide (n < 0) = true := decide_eq_true hn
  clear hs hd hb hz
  go_enter Tryz.func39, Tryz.ntmps39
  go_wp2_with fail
  refine (HX.out _).mono ?_
  rintro e w1 ⟨rfl, h1⟩
  have B1 := Lib.hid h1
  clear h1
  go_wp2_with fail
  refine (HD.out _).mono ?_
  rintro e w2 ⟨rfl, rfl⟩
  go_wp2_with fail
  go_ret2
  exact ⟨rfl, B1.out⟩
set_option maxHeartbeats 1600000 in
theorem powW_big (z : Int) (n : Nat) (w : World) (hz : (str z.natAbs).size ≤ 10000) (hb : 4000 / (str z.natAbs).size < n) :
    Calls Tryz.prog 39 #[.string (zS z), .int .i64 (n : Int)] w fun e w' => e = .returned (.tuple #[.string ⟨#[]⟩, .int .i64 4]) ∧ Below w.heap.size w w' := by
  have HX := Lib.hid (fun wx => split_any z wx (by omega))
  have HD := Lib.hid (fun wx => digitsN_any (str z.natAbs) wx)
  have hp := str_pos z.natAbs
  have hq := nat_tdiv 4000 (str z.natAbs).size
  obtain ⟨q, hqq⟩ : ∃ q, q = 4000 / (str z.natAbs).size := ⟨_, rfl⟩
  rw [← hqq] at hq hb
  have hq4 : q ≤ 4000 := by rw [hqq]; exact Nat.div_le_self _ _
  obtain ⟨s, hs⟩ : ∃ s, s = zS z := ⟨_, rfl⟩
  obtain ⟨d, hd⟩ : ∃ s, s = str z.natAbs := ⟨_, rfl⟩
  obtain ⟨b, hbb⟩ : ∃ b, b = decide (z < 0) := ⟨_, rfl⟩
  rw [← hs] at HX ⊢
  rw [← hd] at HX HD hz hp hq
  rw [← hbb] at HX
  have hq' : (4000 : Int).tdiv (d.size : Int) = (q : Int) := hq
  have hz0 : ((d.size : Int) == 0) = false := by rw [beq_eq_false_iff_ne]; omega
  have hgt : decide ((n : Int) > (q : Int)) = true := decide_eq_true (by omega)
  have hgt2 : decide (q < n) = true := decide_eq_true hb
  have wq := IntWalk.i64_in (q : Int) ⟨by omega, by omega⟩
  clear hs hd hbb hq hqq
  go_enter Tryz.func39, Tryz.ntmps39
  go_wp2_with fail
  refine (HX.out _).mono ?_
  rintro e w1 ⟨rfl, h1⟩
  have B1 := Lib.hid h1
  clear h1
  go_wp2_with fail
  refine (HD.out _).mono ?_
  rintro e w2 ⟨rfl, rfl⟩
  go_wp2_with fail
  go_ret2
  exact ⟨rfl, B1.out⟩
set_option maxHeartbeats 3200000 in
theorem powW_ok (z : Int) (n : Nat) (w : World) (hs : Std w) (hz : (str z.natAbs).size ≤ 10000) (hb : n ≤ 4000 / (str z.natAbs).size) :
    Calls Tryz.prog 39 #[.string (zS z), .int .i64 (n : Int)] w fun e w' => e = .returned (.tuple #[.string (zS (z ^ n)), .int .i64 0]) ∧ Below w.heap.size w w' := by
  have HX := Lib.hid (fun wx => split_any z wx (by omega))
  have HD := Lib.hid (fun wx => digitsN_any (str z.natAbs) wx)
  have hp := str_pos z.natAbs
  have hq := nat_tdiv 4000 (str z.natAbs).size
  have hmul : (str z.natAbs).size * n ≤ 4000 := by
    have := Nat.mul_le_mul_left (str z.natAbs).size hb
    exact Nat.le_trans this (Nat.mul_div_le _ _)
  obtain ⟨q, hqq⟩ : ∃ q, q = 4000 / (str z.natAbs).size := ⟨_, rfl⟩
  rw [← hqq] at hq hb
  have hq4 : q ≤ 4000 := by rw [hqq]; exact Nat.div_le_self _ _
  have HP := Lib.hid (fun wx hw => dpow_any z.natAbs n wx hw hmul (by omega) (by omega))
  have hsz := pow_sz hmul
  have hsg := fun b wx => signed_any b (z.natAbs ^ n) wx (by omega)
  have hpv := pow_val z n
  have HS := Lib.hid hs
  obtain ⟨v, hv⟩ : ∃ v, v = z ^ n := ⟨_, rfl⟩
  rw [← hv] at hpv ⊢
  obtain ⟨s, hs2⟩ : ∃ s, s = zS z := ⟨_, rfl⟩
  obtain ⟨d, hd⟩ : ∃ s, s = str z.natAbs := ⟨_, rfl⟩
  obtain ⟨P, hP⟩ : ∃ s, s = z.natAbs ^ n := ⟨_, rfl⟩
  rw [← hP] at HP hsg hpv
  obtain ⟨ps, hps⟩ : ∃ s, s = str P := ⟨_, rfl⟩
  rw [← hs2] at HX ⊢
  rw [← hd] at HX HD HP hz hp hq
  rw [← hps] at HP hsg
  have hq' : (4000 : Int).tdiv (d.size : Int) = (q : Int) := hq
  have hz0 : ((d.size : Int) == 0) = false := by rw [beq_eq_false_iff_ne]; omega
  have hgt : decide ((n : Int) > (q : Int)) = false := decide_eq_false (by omega)
  have hgt2 : decide (q < n) = false := decide_eq_false (by omega)
  have wq := IntWalk.i64_in (q : Int) ⟨by omega, by omega⟩
  obtain ⟨r, hr⟩ : ∃ r, r = n % 2 := ⟨_, rfl⟩
  have hri : (n : Int).tmod 2 = (r : Int) := by rw [Int.tmod_eq_emod_of_nonneg (by omega)]; omega
  have hrm : (n : Int) % 2 = (r : Int) := by omega
  have hr2 : r = 0 ∨ r = 1 := by omega
  rw [← hr] at hpv
  clear hs2 hd hq hqq hmul hsz hv hP hps hs hr
  by_cases hzn : z < 0
  · rw [decide_eq_true hzn] at HX hpv
    rcases hr2 with rfl | rfl
    · have hV := hpv
      rw [show (true && decide (0 = 1)) = false from rfl, if_neg (by decide)] at hV
      have HSG := Lib.hid (hsg false)
      rw [if_neg (by decide), hV] at HSG
      clear hpv hV hsg hzn
      go_enter Tryz.func39, Tryz.ntmps39
      go_wp2_with fail
      refine (HX.out _).mono ?_
      rintro e w1 ⟨rfl, h1⟩
      have B1 := Lib.hid h1
      clear h1
      go_wp2_with fail
      refine (HD.out _).mono ?_
      rintro e w2 ⟨rfl, rfl⟩
      go_wp2_with fail
      refine (HP.out _ (HS.out.below B1.out)).mono ?_
      rintro e w3 ⟨rfl, h3⟩
      have B3 := Lib.hid (B1.out.trans (h3.mono B1.out.size))
      clear h3
      go_wp2_with fail
      refine (HSG.out _).mono ?_
      rintro e w4 ⟨rfl, rfl⟩
      go_wp2_with fail
      go_ret2
      exact ⟨rfl, B3.out⟩
    · have hV := hpv
      rw [show (true && decide (1 = 1)) = true from rfl, if_pos rfl] at hV
      have HSG := Lib.hid (hsg true)
      rw [if_pos rfl, hV] at HSG
      clear hpv hV hsg hzn
      go_enter Tryz.func39, Tryz.ntmps39
      go_wp2_with fail
      refine (HX.out _).mono ?_
      rintro e w1 ⟨rfl, h1⟩
      have B1 := Lib.hid h1
      clear h1
      go_wp2_with fail
      refine (HD.out _).mono ?_
      rintro e w2 ⟨rfl, rfl⟩
      go_wp2_with fail
      refine (HP.out _ (HS.out.below B1.out)).mono ?_
      rintro e w3 ⟨rfl, h3⟩
      have B3 := Lib.hid (B1.out.trans (h3.mono B1.out.size))
      clear h3
      go_wp2_with fail
      refine (HSG.out _).mono ?_
      rintro e w4 ⟨rfl, rfl⟩
      go_wp2_with fail
      go_ret2
      exact ⟨rfl, B3.out⟩
  · rw [decide_eq_false hzn] at HX hpv
    have hV := hpv
    rw [Bool.false_and, if_neg (by decide)] at hV
    have HSG := Lib.hid (hsg false)
    rw [if_neg (by decide), hV] at HSG
    clear hpv hV hsg hzn hri hrm hr2
    go_enter Tryz.func39, Tryz.ntmps39
    go_wp2_with fail
    refine (HX.out _).mono ?_
    rintro e w1 ⟨rfl, h1⟩
    have B1 := Lib.hid h1
    clear h1
    go_wp2_with fail
    refine (HD.out _).mono ?_
    rintro e w2 ⟨rfl, rfl⟩
    go_wp2_with fail
    refine (HP.out _ (HS.out.below B1.out)).mono ?_
    rintro e w3 ⟨rfl, h3⟩
    have B3 := Lib.hid (B1.out.trans (h3.mono B1.out.size))
    clear h3
    go_wp2_with fail
    refine (HSG.out _).mono ?_
    rintro e w4 ⟨rfl, rfl⟩
    go_wp2_with fail
    go_ret2
    exact ⟨rfl, B3.out⟩
theorem pw_size {z : Int} (h : z.natAbs < 10 ^ 20) (k : Nat) (hk : k ≤ 40) : (str (z ^ k).natAbs).size ≤ 801 := by
  have h1 : (z ^ k).natAbs = z.natAbs ^ k := Int.natAbs_pow z k
  rw [h1]
  rcases Nat.eq_zero_or_pos k with h0 | h0
  · subst h0; rw [Nat.pow_zero]; exact Nat.le_trans (str_big (n := 1) (by decide) (by decide)) (by decide)
  · exact sz_pow (pow_lt10 h k h0) (by omega) (by decide)
set_option maxHeartbeats 3200000 in
set_option maxRecDepth 100000 in
theorem powZR_any (z : Int) (n : Nat) (w : World) (hs : Std w) (hz : z.natAbs < 10 ^ 20) (hn : n ≤ 40) :
    Calls Tryz.prog 40 #[.string (zS z), .int .i64 (n : Int)] w fun e w' => e = .returned (.string (zS (z ^ n))) ∧ Below w.heap.size w w' := by
  have HS := Lib.hid hs
  have E1 := Lib.hid (show (⟨#[49]⟩ : ByteArray) = zS (z ^ 0) by rw [Int.pow_zero]; exact zl_1)
  have HZ := Lib.hid (fun k hk => pw_size hz k hk)
  have HM := Lib.hid (fun (a b : Nat) wx hw (ha : a ≤ 40) (hb : b ≤ 40) => (show Calls Tryz.prog 38 #[.string (zS (z ^ a)), .string (zS (z ^ b))] wx fun e w' => e = .returned (.string (zS (z ^ (a + b)))) ∧ Below wx.heap.size wx w' by
    rw [Int.pow_add]; exact mulZR_any (z ^ a) (z ^ b) wx hw (Nat.le_trans (pw_size hz a ha) (by decide)) (Nat.le_trans (pw_size hz b hb) (by decide))))
  have HP1 := Lib.hid (show zS z = zS (z ^ 1) by rw [Int.pow_succ, Int.pow_zero, Int.one_mul])
  clear hs hz
  go_enter Tryz.func40, Tryz.ntmps40
  go_wp2_with fail
  go_loopw [0, 1, 5] (fun av ev ov wr => ∃ k m e : Nat, av = .string (zS (z ^ m)) ∧ ev = .int .i64 (e : Int) ∧ ov = .string (zS (z ^ k)) ∧ e ≤ 40 ∧ Hid (k + m * e = n ∧ (0 < e → m ≤ n)) ∧ Hid (Below w.heap.size w wr)) (fun _ ev _ _ => (intOf ev).toNat)
  case atStart => exact ⟨0, 1, n, by rw [HP1.out], rfl, by rw [E1.out], hn, ⟨by omega, fun h => h⟩, Below.refl _ _⟩
  case round =>
    obtain ⟨k, m, e, rfl, rfl, rfl, he, HI, HB⟩ := hrel
    by_cases he0 : e = 0
    · have hk : k = n := by have := HI.out.1; rw [he0, Nat.mul_zero] at this; omega
      subst hk
      have hgt : ¬ (0 : Int) < (e : Int) := by omega
      clear he0
      go_wp2_with fail
      go_ret
      exact ⟨rfl, HB.out⟩
    · have hgt : (0 : Int) < (e : Int) := by omega
      obtain ⟨r, hr⟩ : ∃ r, r = e % 2 := ⟨_, rfl⟩
      obtain ⟨h, hh⟩ : ∃ r, r = e / 2 := ⟨_, rfl⟩
      have hri : (e : Int).tmod 2 = (r : Int) := by rw [Int.tmod_eq_emod_of_nonneg (by omega)]; omega
      have hrm : (e : Int) % 2 = (r : Int) := by omega
      have hhi : (e : Int).tdiv 2 = (h : Int) := by rw [Int.tdiv_eq_ediv_of_nonneg (by omega)]; omega
      have hhm : (e : Int) / 2 = (h : Int) := by omega
      have wh := IntWalk.i64_in (h : Int) ⟨by omega, by omega⟩
      have hmn := HI.out.2 (by omega)
      have hkn : k ≤ n := by have := HI.out.1; omega
      have hme : m * e = m * r + m * h + m * h := by rw [show e = r + h + h by omega, Nat.mul_add, Nat.mul_add]
      have hsum : k + (m * r + m * h + m * h) = n := by rw [← hme]; exact HI.out.1
      have hhe : h < e := by omega
      have hmh : 0 < h → m ≤ m * h := fun q => by
        have := Nat.mul_le_mul_left m (show 1 ≤ h from q); omega
      have HAA := Lib.hid (fun wx hw => HM.out m m wx hw (by omega) (by omega))
      have HOA := Lib.hid (fun wx hw => HM.out k m wx hw (by omega) (by omega))
      have hr2 : r = 0 ∨ r = 1 := by omega
      have HEE := Lib.hid (show e = r + h + h ∧ 0 < e by omega)
      have HSUM := Lib.hid hsum
      have HMH := Lib.hid hmh
      clear hr hh hme hsum hmh HI he0
      rcases hr2 with rfl | rfl
      · by_cases hh0 : h = 0
        · exfalso; have := HEE.out; omega
        · have hgh : (0 : Int) < (h : Int) := by omega
          have HI2 := Lib.hid (show k + (m + m) * h = n ∧ (0 < h → m + m ≤ n) from ⟨by have := HSUM.out; rw [Nat.add_mul]; omega, fun q => by have := HSUM.out; have := HMH.out q; omega⟩)
          obtain ⟨ats, has⟩ : ∃ s, s = zS (z ^ m) := ⟨_, rfl⟩
          obtain ⟨os, hos⟩ : ∃ s, s = zS (z ^ k) := ⟨_, rfl⟩
          obtain ⟨bs, hbs⟩ : ∃ s, s = zS (z ^ (m + m)) := ⟨_, rfl⟩
          have HB3 := Lib.hid hbs
          have HO3 := Lib.hid hos
          rw [← has] at HAA ⊢
          rw [← hos]
          rw [← hbs] at HAA
          clear hh0 has hos hbs
          go_wp2_with fail
          refine (HAA.out _ (HS.out.below HB.out)).mono ?_
          rintro e w2 ⟨rfl, h2⟩
          have B2 := Lib.hid (HB.out.trans (h2.mono HB.out.size))
          clear h2
          go_wp2_with fail
          all_goals go_roundw
          case rel => exact ⟨k, m + m, h, by rw [HB3.out], rfl, by rw [HO3.out], by omega, HI2, B2⟩
          case measure => simp [intOf] <;> omega
      · by_cases hh0 : h = 0
        · have hgh : ¬ (0 : Int) < (h : Int) := by omega
          have HI2 := Lib.hid (show k + m + m * h = n ∧ (0 < h → m ≤ n) from ⟨by have := HSUM.out; rw [hh0] at this ⊢; omega, fun _ => hmn⟩)
          obtain ⟨ats, has⟩ : ∃ s, s = zS (z ^ m) := ⟨_, rfl⟩
          obtain ⟨os, hos⟩ : ∃ s, s = zS (z ^ k) := ⟨_, rfl⟩
          obtain ⟨cs, hcs⟩ : ∃ s, s = zS (z ^ (k + m)) := ⟨_, rfl⟩
          have HA3 := Lib.hid has
          have HC3 := Lib.hid hcs
          rw [← has, ← hos] at HOA ⊢
          rw [← hcs] at HOA
          clear hh0 has hos hcs
          go_wp2_with fail
          refine (HOA.out _ (HS.out.below HB.out)).mono ?_
          rintro e w2 ⟨rfl, h2⟩
          have B2 := Lib.hid (HB.out.trans (h2.mono HB.out.size))
          clear h2
          go_wp2_with fail
          all_goals go_roundw
          case rel => exact ⟨k + m, m, h, by rw [HA3.out], rfl, by rw [HC3.out], by omega, HI2, B2⟩
          case measure => simp [intOf] <;> omega
        · have hgh : (0 : Int) < (h : Int) := by omega
          have HI2 := Lib.hid (show k + m + (m + m) * h = n ∧ (0 < h → m + m ≤ n) from ⟨by have := HSUM.out; rw [Nat.add_mul]; omega, fun q => by have := HSUM.out; have := HMH.out q; omega⟩)
          obtain ⟨ats, has⟩ : ∃ s, s = zS (z ^ m) := ⟨_, rfl⟩
          obtain ⟨os, hos⟩ : ∃ s, s = zS (z ^ k) := ⟨_, rfl⟩
          obtain ⟨cs, hcs⟩ : ∃ s, s = zS (z ^ (k + m)) := ⟨_, rfl⟩
          obtain ⟨bs, hbs⟩ : ∃ s, s = zS (z ^ (m + m)) := ⟨_, rfl⟩
          have HB3 := Lib.hid hbs
          have HC3 := Lib.hid hcs
          rw [← has] at HAA HOA ⊢
          rw [← hos] at HOA ⊢
          rw [← hcs] at HOA
          rw [← hbs] at HAA
          clear hh0 has hos hcs hbs
          go_wp2_with fail
          refine (HOA.out _ (HS.out.below HB.out)).mono ?_
          rintro e w2 ⟨rfl, h2⟩
          have B2 := Lib.hid (HB.out.trans (h2.mono HB.out.size))
          clear h2
          go_wp2_with fail
          refine (HAA.out _ (HS.out.below B2.out)).mono ?_
          rintro e w3 ⟨rfl, h3⟩
          have B3 := Lib.hid (B2.out.trans (h3.mono B2.out.size))
          clear h3
          go_wp2_with fail
          all_goals go_roundw
          case rel => exact ⟨k + m, m + m, h, by rw [HB3.out], rfl, by rw [HC3.out], by omega, HI2, B3⟩
          case measure => simp [intOf] <;> omega
end Go.Proofs.YtjebddpapbopnaaGreatDoor
