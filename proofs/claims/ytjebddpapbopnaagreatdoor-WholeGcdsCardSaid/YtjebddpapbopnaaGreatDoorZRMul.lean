/-
  The reference of package whole: Mul.
-/
import Derived.Test.YtjebddpapbopnaaGreatDoorZTimes
namespace Go.Proofs.YtjebddpapbopnaaGreatDoor
open Go.RowKit

theorem mul_sign (x y : Int) : (if (decide (x < 0) != decide (y < 0)) = true then -((x.natAbs * y.natAbs : Nat) : Int) else ((x.natAbs * y.natAbs : Nat) : Int)) = x * y := by
  rw [← Int.natAbs_mul]
  by_cases h1 : x < 0 <;> by_cases h2 : y < 0
  · rw [decide_eq_true h1, decide_eq_true h2]
    have := Int.mul_pos_of_neg_of_neg h1 h2
    simp; omega
  · rw [decide_eq_true h1, decide_eq_false h2]
    have := Int.mul_nonpos_of_nonpos_of_nonneg (show x ≤ 0 by omega) (show 0 ≤ y by omega)
    simp; omega
  · rw [decide_eq_false h1, decide_eq_true h2]
    have := Int.mul_nonpos_of_nonneg_of_nonpos (show 0 ≤ x by omega) (show y ≤ 0 by omega)
    simp; omega
  · rw [decide_eq_false h1, decide_eq_false h2]
    have := Int.mul_nonneg (show 0 ≤ x by omega) (show 0 ≤ y by omega)
    simp; omega
set_option maxHeartbeats 3200000 in
set_option maxRecDepth 100000 in
theorem mulZR_any (x y : Int) (w : World) (hs : Std w) (hx : (str x.natAbs).size ≤ 10000) (hy : (str y.natAbs).size ≤ 10000) :
    Calls Tryz.prog 38 #[.string (zS x), .string (zS y)] w fun e w' => e = .returned (.string (zS (x * y))) ∧ Below w.heap.size w w' := by
  have HDX := Lib.hid (fun wx => digitsR_any x wx (by omega))
  have HDY := Lib.hid (fun wx => digitsR_any y wx (by omega))
  have HS := Lib.hid hs
  by_cases hq : (str x.natAbs).size + (str y.natAbs).size ≤ 18
  · have HQ1 := Lib.hid (fun wx => quickZ_yes x wx (by omega))
    have HQ2 := Lib.hid (fun wx => quickZ_yes y wx (by omega))
    have hbx := lt_of_size (Nat.le_refl (str x.natAbs).size)
    have hby := lt_of_size (Nat.le_refl (str y.natAbs).size)
    have hm : (x * y).natAbs < 10 ^ 18 := by
      rw [Int.natAbs_mul]
      have h1 : x.natAbs * y.natAbs < 10 ^ (str x.natAbs).size * 10 ^ (str y.natAbs).size := by
        rcases Nat.eq_zero_or_pos x.natAbs with h | h
        · rw [h, Nat.zero_mul]; exact Nat.mul_pos (Nat.pow_pos (by decide)) (Nat.pow_pos (by decide))
        · exact Nat.mul_lt_mul'' hbx hby
      rw [← Nat.pow_add] at h1
      exact Nat.lt_of_lt_of_le h1 (Nat.pow_le_pow_right (by decide) hq)
    have hm2 : (x * y).natAbs < 1000000000000000000 := Nat.lt_of_lt_of_le hm (by decide)
    have hw := IntWalk.i64_in (x * y) ⟨by omega, by omega⟩
    have HO := Lib.hid (fun wx hw => ofR2_any (x * y) wx hw (by omega) (by omega))
    obtain ⟨z, hz⟩ : ∃ z, z = x * y := ⟨_, rfl⟩
    have hz2 := hz.symm
    rw [← hz] at HO hw ⊢
    obtain ⟨s, hs2⟩ : ∃ d, d = zS x := ⟨_, rfl⟩
    obtain ⟨t, ht⟩ : ∃ d, d = zS y := ⟨_, rfl⟩
    obtain ⟨ds, hds⟩ : ∃ d, d = str x.natAbs := ⟨_, rfl⟩
    obtain ⟨es, hes⟩ : ∃ d, d = str y.natAbs := ⟨_, rfl⟩
    rw [← hs2] at HQ1 HDX ⊢
    rw [← ht] at HQ2 HDY ⊢
    rw [← hds] at HDX hq
    rw [← hes] at HDY hq
    have hle : decide ((ds.size : Int) + es.size ≤ 18) = true := decide_eq_true (by omega)
    have hle2 : (ds.size : Int) + es.size ≤ 18 := by omega
    clear hs hx hy hbx hby hm hm2 hz hs2 ht hds hes
    go_enter Tryz.func38, Tryz.ntmps38
    go_wp2_with fail
    refine (HDX.out _).mono ?_
    rintro e w1 ⟨rfl, rfl⟩
    go_wp2_with fail
    refine (HDY.out _).mono ?_
    rintro e w2 ⟨rfl, rfl⟩
    go_wp2_with fail
    refine (HQ1.out _).mono ?_
    rintro e w3 ⟨rfl, rfl⟩
    go_wp2_with fail
    refine (HQ2.out _).mono ?_
    rintro e w4 ⟨rfl, rfl⟩
    go_wp2_with fail
    refine (HO.out _ HS.out).mono ?_
    rintro e w5 ⟨rfl, h5⟩
    have B5 := Lib.hid h5
    clear h5
    go_wp2_with fail
    go_ret
    exact ⟨rfl, B5.out⟩
  · have HSX := Lib.hid (fun wx => splitN_any x.natAbs wx (by omega))
    have HSY := Lib.hid (fun wx => splitN_any y.natAbs wx (by omega))
    have HLX := Lib.hid (fun p (h : Pcs p x.natAbs) => pcs_len h hx)
    have HLY := Lib.hid (fun p (h : Pcs p y.natAbs) => pcs_len h hy)
    have hsx := fun wx => sideR_any x wx (by omega)
    have hsy := fun wx => sideR_any y wx (by omega)
    have HMS := Lib.hid (mul_sign x y)
    obtain ⟨z, hz⟩ : ∃ z, z = x * y := ⟨_, rfl⟩
    rw [← hz] at HMS ⊢
    obtain ⟨a, ha⟩ : ∃ a, a = x.natAbs := ⟨_, rfl⟩
    obtain ⟨b, hb⟩ : ∃ a, a = y.natAbs := ⟨_, rfl⟩
    rw [← ha] at HDX HSX HLX hq HMS hx
    rw [← hb] at HDY HSY HLY hq HMS hy
    have HRL := Lib.hid (fun r (h : Pcs r (a * b)) => pcs_len (k := 20000) h (zsz_mul (n := 10000) hx hy (by decide)))
    obtain ⟨s, hs2⟩ : ∃ d, d = zS x := ⟨_, rfl⟩
    obtain ⟨t, ht⟩ : ∃ d, d = zS y := ⟨_, rfl⟩
    obtain ⟨ds, hds⟩ : ∃ d, d = str a := ⟨_, rfl⟩
    obtain ⟨es, hes⟩ : ∃ d, d = str b := ⟨_, rfl⟩
    rw [← hs2] at HDX hsx ⊢
    rw [← ht] at HDY hsy ⊢
    rw [← hds] at HDX HSX hq hx
    rw [← hes] at HDY HSY hq hy
    have hle : decide ((ds.size : Int) + es.size ≤ 18) = false := decide_eq_false (by omega)
    have hle2 : ¬ (ds.size : Int) + es.size ≤ 18 := by omega
    clear hs hz ha hb hs2 ht hds hes
    by_cases hxn : x < 0
    · rw [if_pos hxn] at hsx
      rw [decide_eq_true hxn] at HMS
      by_cases hyn : y < 0
      · rw [if_pos hyn] at hsy
        rw [decide_eq_true hyn] at HMS
        have HE := Lib.hid (show ((a * b : Nat) : Int) = z by have h := HMS.out; rw [if_neg (by decide)] at h; exact h)
        have HSDX := Lib.hid hsx
        have HSDY := Lib.hid hsy
        clear hsx hsy hxn hyn HMS
        go_enter Tryz.func38, Tryz.ntmps38
        go_wp2_with fail
        refine (HDX.out _).mono ?_
        rintro e w1 ⟨rfl, rfl⟩
        go_wp2_with fail
        refine (HDY.out _).mono ?_
        rintro e w1 ⟨rfl, rfl⟩
        go_wp2_with fail
        refine (HSDX.out _).mono ?_
        rintro e w1 ⟨rfl, rfl⟩
        go_wp2_with fail
        refine (HSDY.out _).mono ?_
        rintro e w1 ⟨rfl, rfl⟩
        go_wp2_with fail
        refine (HDX.out _).mono ?_
        rintro e w1 ⟨rfl, rfl⟩
        go_wp2_with fail
        refine (HSX.out _).mono ?_
        rintro e w1 ⟨o1, c1, p, rfl, hp1, hp2, h1⟩
        have B1 := Lib.hid h1
        have P1 := Lib.hid hp1
        have P2 := Lib.hid hp2
        have hpl := HLX.out p hp2
        clear h1 hp1 hp2
        go_wp2_with fail
        refine (HDY.out _).mono ?_
        rintro e w2 ⟨rfl, rfl⟩
        go_wp2_with fail
        refine (HSY.out _).mono ?_
        rintro e w2 ⟨o2, c2, q, rfl, hp1, hp2, h2⟩
        have B2 := Lib.hid (B1.out.trans (h2.mono B1.out.size))
        have Q1 := Lib.hid hp1
        have Q2 := Lib.hid hp2
        have P3 := Lib.hid (P1.out.below h2)
        have hql := HLY.out q hp2
        clear h2 hp1 hp2
        have HP := Lib.hid (fun wx h1 h2 => timesZ_any o1 c1 p o2 c2 q wx h1 h2 (by omega) (by omega))
        obtain ⟨m, hm⟩ : ∃ m, m = p.length := ⟨_, rfl⟩
        obtain ⟨n, hn⟩ : ∃ m, m = q.length := ⟨_, rfl⟩
        rw [← hm] at HP ⊢
        rw [← hn] at HP ⊢
        clear hm hn hpl hql
        go_wp2_with fail
        refine (HP.out _ P3.out Q1.out).mono ?_
        rintro e w4 ⟨o3, c3, r, rfl, hr1, hr2, h4⟩
        have B4 := Lib.hid (B2.out.trans (h4.mono B2.out.size))
        rw [P2.out.val, Q2.out.val] at hr2
        have hrl := HRL.out r hr2
        have hg := fun wx hw h => signedZ_any false o3 c3 r wx hw h (by omega)
        rw [hr2.val, if_neg (by decide), HE.out] at hg
        have HSG := Lib.hid hg
        have R1 := Lib.hid hr1
        obtain ⟨k, hk⟩ : ∃ m, m = r.length := ⟨_, rfl⟩
        rw [← hk] at HSG ⊢
        clear h4 hg hr1 hr2 hrl hk
        go_wp2_with fail
        refine (HSG.out _ (HS.out.below B4.out) R1.out).mono ?_
        rintro e w5 ⟨rfl, h5⟩
        have B5 := Lib.hid (B4.out.trans (h5.mono B4.out.size))
        clear h5
        go_wp2_with fail
        go_ret
        exact ⟨rfl, B5.out⟩
      · rw [if_neg hyn] at hsy
        rw [decide_eq_false hyn] at HMS
        have HE := Lib.hid (show -((a * b : Nat) : Int) = z by have h := HMS.out; rw [if_pos (by decide)] at h; exact h)
        have HSDX := Lib.hid hsx
        have HSDY := Lib.hid hsy
        clear hsx hsy hxn hyn HMS
        go_enter Tryz.func38, Tryz.ntmps38
        go_wp2_with fail
        refine (HDX.out _).mono ?_
        rintro e w1 ⟨rfl, rfl⟩
        go_wp2_with fail
        refine (HDY.out _).mono ?_
        rintro e w1 ⟨rfl, rfl⟩
        go_wp2_with fail
        refine (HSDX.out _).mono ?_
        rintro e w1 ⟨rfl, rfl⟩
        go_wp2_with fail
        refine (HSDY.out _).mono ?_
        rintro e w1 ⟨rfl, rfl⟩
        go_wp2_with fail
        refine (HDX.out _).mono ?_
        rintro e w1 ⟨rfl, rfl⟩
        go_wp2_with fail
        refine (HSX.out _).mono ?_
        rintro e w1 ⟨o1, c1, p, rfl, hp1, hp2, h1⟩
        have B1 := Lib.hid h1
        have P1 := Lib.hid hp1
        have P2 := Lib.hid hp2
        have hpl := HLX.out p hp2
        clear h1 hp1 hp2
        go_wp2_with fail
        refine (HDY.out _).mono ?_
        rintro e w2 ⟨rfl, rfl⟩
        go_wp2_with fail
        refine (HSY.out _).mono ?_
        rintro e w2 ⟨o2, c2, q, rfl, hp1, hp2, h2⟩
        have B2 := Lib.hid (B1.out.trans (h2.mono B1.out.size))
        have Q1 := Lib.hid hp1
        have Q2 := Lib.hid hp2
        have P3 := Lib.hid (P1.out.below h2)
        have hql := HLY.out q hp2
        clear h2 hp1 hp2
        have HP := Lib.hid (fun wx h1 h2 => timesZ_any o1 c1 p o2 c2 q wx h1 h2 (by omega) (by omega))
        obtain ⟨m, hm⟩ : ∃ m, m = p.length := ⟨_, rfl⟩
        obtain ⟨n, hn⟩ : ∃ m, m = q.length := ⟨_, rfl⟩
        rw [← hm] at HP ⊢
        rw [← hn] at HP ⊢
        clear hm hn hpl hql
        go_wp2_with fail
        refine (HP.out _ P3.out Q1.out).mono ?_
        rintro e w4 ⟨o3, c3, r, rfl, hr1, hr2, h4⟩
        have B4 := Lib.hid (B2.out.trans (h4.mono B2.out.size))
        rw [P2.out.val, Q2.out.val] at hr2
        have hrl := HRL.out r hr2
        have hg := fun wx hw h => signedZ_any true o3 c3 r wx hw h (by omega)
        rw [hr2.val, if_pos rfl, HE.out] at hg
        have HSG := Lib.hid hg
        have R1 := Lib.hid hr1
        obtain ⟨k, hk⟩ : ∃ m, m = r.length := ⟨_, rfl⟩
        rw [← hk] at HSG ⊢
        clear h4 hg hr1 hr2 hrl hk
        go_wp2_with fail
        refine (HSG.out _ (HS.out.below B4.out) R1.out).mono ?_
        rintro e w5 ⟨rfl, h5⟩
        have B5 := Lib.hid (B4.out.trans (h5.mono B4.out.size))
        clear h5
        go_wp2_with fail
        go_ret
        exact ⟨rfl, B5.out⟩
    · rw [if_neg hxn] at hsx
      rw [decide_eq_false hxn] at HMS
      by_cases hyn : y < 0
      · rw [if_pos hyn] at hsy
        rw [decide_eq_true hyn] at HMS
        have HE := Lib.hid (show -((a * b : Nat) : Int) = z by have h := HMS.out; rw [if_pos (by decide)] at h; exact h)
        have HSDX := Lib.hid hsx
        have HSDY := Lib.hid hsy
        clear hsx hsy hxn hyn HMS
        go_enter Tryz.func38, Tryz.ntmps38
        go_wp2_with fail
        refine (HDX.out _).mono ?_
        rintro e w1 ⟨rfl, rfl⟩
        go_wp2_with fail
        refine (HDY.out _).mono ?_
        rintro e w1 ⟨rfl, rfl⟩
        go_wp2_with fail
        refine (HSDX.out _).mono ?_
        rintro e w1 ⟨rfl, rfl⟩
        go_wp2_with fail
        refine (HSDY.out _).mono ?_
        rintro e w1 ⟨rfl, rfl⟩
        go_wp2_with fail
        refine (HDX.out _).mono ?_
        rintro e w1 ⟨rfl, rfl⟩
        go_wp2_with fail
        refine (HSX.out _).mono ?_
        rintro e w1 ⟨o1, c1, p, rfl, hp1, hp2, h1⟩
        have B1 := Lib.hid h1
        have P1 := Lib.hid hp1
        have P2 := Lib.hid hp2
        have hpl := HLX.out p hp2
        clear h1 hp1 hp2
        go_wp2_with fail
        refine (HDY.out _).mono ?_
        rintro e w2 ⟨rfl, rfl⟩
        go_wp2_with fail
        refine (HSY.out _).mono ?_
        rintro e w2 ⟨o2, c2, q, rfl, hp1, hp2, h2⟩
        have B2 := Lib.hid (B1.out.trans (h2.mono B1.out.size))
        have Q1 := Lib.hid hp1
        have Q2 := Lib.hid hp2
        have P3 := Lib.hid (P1.out.below h2)
        have hql := HLY.out q hp2
        clear h2 hp1 hp2
        have HP := Lib.hid (fun wx h1 h2 => timesZ_any o1 c1 p o2 c2 q wx h1 h2 (by omega) (by omega))
        obtain ⟨m, hm⟩ : ∃ m, m = p.length := ⟨_, rfl⟩
        obtain ⟨n, hn⟩ : ∃ m, m = q.length := ⟨_, rfl⟩
        rw [← hm] at HP ⊢
        rw [← hn] at HP ⊢
        clear hm hn hpl hql
        go_wp2_with fail
        refine (HP.out _ P3.out Q1.out).mono ?_
        rintro e w4 ⟨o3, c3, r, rfl, hr1, hr2, h4⟩
        have B4 := Lib.hid (B2.out.trans (h4.mono B2.out.size))
        rw [P2.out.val, Q2.out.val] at hr2
        have hrl := HRL.out r hr2
        have hg := fun wx hw h => signedZ_any true o3 c3 r wx hw h (by omega)
        rw [hr2.val, if_pos rfl, HE.out] at hg
        have HSG := Lib.hid hg
        have R1 := Lib.hid hr1
        obtain ⟨k, hk⟩ : ∃ m, m = r.length := ⟨_, rfl⟩
        rw [← hk] at HSG ⊢
        clear h4 hg hr1 hr2 hrl hk
        go_wp2_with fail
        refine (HSG.out _ (HS.out.below B4.out) R1.out).mono ?_
        rintro e w5 ⟨rfl, h5⟩
        have B5 := Lib.hid (B4.out.trans (h5.mono B4.out.size))
        clear h5
        go_wp2_with fail
        go_ret
        exact ⟨rfl, B5.out⟩
      · rw [if_neg hyn] at hsy
        rw [decide_eq_false hyn] at HMS
        have HE := Lib.hid (show ((a * b : Nat) : Int) = z by have h := HMS.out; rw [if_neg (by decide)] at h; exact h)
        have HSDX := Lib.hid hsx
        have HSDY := Lib.hid hsy
        clear hsx hsy hxn hyn HMS
        go_enter Tryz.func38, Tryz.ntmps38
        go_wp2_with fail
        refine (HDX.out _).mono ?_
        rintro e w1 ⟨rfl, rfl⟩
        go_wp2_with fail
        refine (HDY.out _).mono ?_
        rintro e w1 ⟨rfl, rfl⟩
        go_wp2_with fail
        refine (HSDX.out _).mono ?_
        rintro e w1 ⟨rfl, rfl⟩
        go_wp2_with fail
        refine (HSDY.out _).mono ?_
        rintro e w1 ⟨rfl, rfl⟩
        go_wp2_with fail
        refine (HDX.out _).mono ?_
        rintro e w1 ⟨rfl, rfl⟩
        go_wp2_with fail
        refine (HSX.out _).mono ?_
        rintro e w1 ⟨o1, c1, p, rfl, hp1, hp2, h1⟩
        have B1 := Lib.hid h1
        have P1 := Lib.hid hp1
        have P2 := Lib.hid hp2
        have hpl := HLX.out p hp2
        clear h1 hp1 hp2
        go_wp2_with fail
        refine (HDY.out _).mono ?_
        rintro e w2 ⟨rfl, rfl⟩
        go_wp2_with fail
        refine (HSY.out _).mono ?_
        rintro e w2 ⟨o2, c2, q, rfl, hp1, hp2, h2⟩
        have B2 := Lib.hid (B1.out.trans (h2.mono B1.out.size))
        have Q1 := Lib.hid hp1
        have Q2 := Lib.hid hp2
        have P3 := Lib.hid (P1.out.below h2)
        have hql := HLY.out q hp2
        clear h2 hp1 hp2
        have HP := Lib.hid (fun wx h1 h2 => timesZ_any o1 c1 p o2 c2 q wx h1 h2 (by omega) (by omega))
        obtain ⟨m, hm⟩ : ∃ m, m = p.length := ⟨_, rfl⟩
        obtain ⟨n, hn⟩ : ∃ m, m = q.length := ⟨_, rfl⟩
        rw [← hm] at HP ⊢
        rw [← hn] at HP ⊢
        clear hm hn hpl hql
        go_wp2_with fail
        refine (HP.out _ P3.out Q1.out).mono ?_
        rintro e w4 ⟨o3, c3, r, rfl, hr1, hr2, h4⟩
        have B4 := Lib.hid (B2.out.trans (h4.mono B2.out.size))
        rw [P2.out.val, Q2.out.val] at hr2
        have hrl := HRL.out r hr2
        have hg := fun wx hw h => signedZ_any false o3 c3 r wx hw h (by omega)
        rw [hr2.val, if_neg (by decide), HE.out] at hg
        have HSG := Lib.hid hg
        have R1 := Lib.hid hr1
        obtain ⟨k, hk⟩ : ∃ m, m = r.length := ⟨_, rfl⟩
        rw [← hk] at HSG ⊢
        clear h4 hg hr1 hr2 hrl hk
        go_wp2_with fail
        refine (HSG.out _ (HS.out.below B4.out) R1.out).mono ?_
        rintro e w5 ⟨rfl, h5⟩
        have B5 := Lib.hid (B4.out.trans (h5.mono B4.out.size))
        clear h5
        go_wp2_with fail
        go_ret
        exact ⟨rfl, B5.out⟩
end Go.Proofs.YtjebddpapbopnaaGreatDoor
