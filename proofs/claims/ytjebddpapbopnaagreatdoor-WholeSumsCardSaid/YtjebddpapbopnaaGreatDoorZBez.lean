/-
  Package whole: combineFew, combine, Bezout.
-/
import Derived.Test.YtjebddpapbopnaaGreatDoorG4
namespace Go.Proofs.YtjebddpapbopnaaGreatDoor
open Go.RowKit

theorem nat_fdiv (A B : Nat) : (A : Int).fdiv (B : Int) = ((A / B : Nat) : Int) := by
  rw [Int.fdiv_eq_ediv_of_nonneg _ (by omega)]; exact (Int.natCast_ediv A B).symm
theorem nat_fmod (A B : Nat) : (A : Int).fmod (B : Int) = ((A % B : Nat) : Int) := by
  rw [Int.fmod_eq_emod_of_nonneg _ (by omega)]; exact (Int.natCast_emod A B).symm
theorem nat_tdiv (A B : Nat) : (A : Int).tdiv (B : Int) = ((A / B : Nat) : Int) := by
  rw [Int.tdiv_eq_ediv_of_nonneg (by omega)]; exact (Int.natCast_ediv A B).symm
theorem nat_tmod (A B : Nat) : (A : Int).tmod (B : Int) = ((A % B : Nat) : Int) := by
  rw [Int.tmod_eq_emod_of_nonneg (by omega)]; exact (Int.natCast_emod A B).symm
/-- the next number's size -/
theorem BzI.qx {m n : Int} {A B : Nat} {f x : Int} (h : BzI m n A B f x) (hB : 0 < B) : (A / B) * x.natAbs ≤ m.natAbs ∧ (f - ((A / B : Nat) : Int) * x).natAbs ≤ m.natAbs := by
  have h1 := abs_sub_mul (A / B) h.sign
  have h2 := (h.step hB).ab
  omega
set_option maxHeartbeats 1600000 in
theorem combFew_any (n m : Nat) (w : World) (hm : 0 < m) (hm2 : m < 1000000000000000000) (hn : n < 1000000000000000000) :
    Calls Tryz.prog 104 #[.int .i64 (n : Int), .int .i64 (m : Int)] w fun e w' => (∃ (g : Nat) (x : Int), e = .returned (.tuple #[.int .i64 (g : Int), .int .i64 x]) ∧ g = Nat.gcd m n ∧ IsX m n x) ∧ Below w.heap.size w w' := by
  have HI0 := Lib.hid (BzI.start (m := m) (n := n) hm)
  go_enter Tryz.func104, Tryz.ntmps104
  go_wp2_with fail
  go_loopw [6, 7, 8, 9, 10] (fun av bv fv xv _ wr => ∃ (A B : Nat) (f x : Int), av = .int .i64 (A : Int) ∧ bv = .int .i64 (B : Int) ∧ fv = .int .i64 f ∧ xv = .int .i64 x ∧ A < 1000000000000000000 ∧ B < 1000000000000000000 ∧ Hid (BzI m n A B f x) ∧ Below w.heap.size w wr) (fun _ bv _ _ _ _ => (intOf bv).toNat)
  case atStart => exact ⟨m, n, 0, 1, rfl, rfl, rfl, rfl, hm2, hn, HI0, Below.refl _ _⟩
  case round =>
    obtain ⟨A, B, f, x, rfl, rfl, rfl, rfl, hA, hB, HI, hbel⟩ := hrel
    have HBL := Lib.hid hbel
    clear hbel HI0
    by_cases hB0 : B = 0
    · subst hB0
      obtain ⟨hd1, hd2, hd3⟩ := HI.out.done
      have hfb := HI.out.fb
      have hA0 := HI.out.apos
      rw [Int.natAbs_natCast] at hd2 hd3 hfb
      rw [Int.natAbs_natCast, Int.natAbs_natCast] at hd1
      have hPm : m / A ≤ m := Nat.div_le_self _ _
      have hquo := nat_tdiv m A
      have hAz : ((A : Int) == 0) = false := by rw [beq_eq_false_iff_ne]; omega
      obtain ⟨P, hP⟩ : ∃ P, P = m / A := ⟨_, rfl⟩
      rw [← hP] at hd2 hd3 hPm hquo
      have hP0 : (P : Int) ≠ 0 := by omega
      have hD := fun wx => downW_any f (P : Int) wx hP0 (by omega) (by omega) (by omega) (by omega)
      rw [(dn_eq f hP0).1, (dn_eq f hP0).2] at hD
      have HD := Lib.hid hD
      have wP := IntWalk.i64_in (P : Int) ⟨by omega, by omega⟩
      have H1 := Lib.hid hd1
      have H3 := Lib.hid hd3
      obtain ⟨u, hu⟩ : ∃ u, u = f.fdiv (P : Int) := ⟨_, rfl⟩
      obtain ⟨v, hv⟩ : ∃ u, u = f.fmod (P : Int) := ⟨_, rfl⟩
      rw [← hu, ← hv] at HD
      rw [← hv] at H3
      clear hd1 hd3 hP hu hv hD hfb HI
      go_wp2_with fail
      refine (HD.out _).mono ?_
      rintro e w1 ⟨rfl, h1⟩
      have B1 := Lib.hid (HBL.out.trans (h1.mono HBL.out.size))
      clear h1
      go_wp2_with fail
      go_ret2
      exact ⟨⟨A, v, rfl, H1.out, H3.out⟩, B1.out⟩
    · have hBp : 0 < B := Nat.pos_of_ne_zero hB0
      have hyz : ((B : Int) == 0) = false := by rw [beq_eq_false_iff_ne]; omega
      have hstep := HI.out.step hBp
      obtain ⟨hq1, hq2⟩ := HI.out.qx hBp
      rw [Int.natAbs_natCast] at hq1 hq2
      have hqm := Int.natAbs_mul ((A / B : Nat) : Int) x
      rw [Int.natAbs_natCast] at hqm
      have hri := nat_tmod A B
      have hqi := nat_tdiv A B
      have hrB : A % B < B := Nat.mod_lt _ hBp
      have hqA : A / B ≤ A := Nat.div_le_self _ _
      obtain ⟨r, hr⟩ : ∃ r, r = A % B := ⟨_, rfl⟩
      obtain ⟨q, hq⟩ : ∃ q, q = A / B := ⟨_, rfl⟩
      rw [← hr] at hstep hri hrB
      rw [← hq] at hstep hq1 hq2 hqm hqi hqA
      have w0 := IntWalk.i64_in (q : Int) ⟨by omega, by omega⟩
      have w1 := IntWalk.i64_in ((q : Int) * x) ⟨by omega, by omega⟩
      have w2 := IntWalk.i64_in (f - (q : Int) * x) ⟨by omega, by omega⟩
      have HI2 := Lib.hid hstep
      clear hr hq hB0 hstep hq1 hq2 hqm HI
      go_wp2_with fail
      go_quiet (fail)
      go_wp2_with fail
      refine ⟨⟨B, r, x, f - (q : Int) * x, rfl, rfl, rfl, rfl, hB, by omega, HI2, below_drewN HBL.out _⟩, ?_⟩
      simp [intOf] <;> omega
set_option maxHeartbeats 1600000 in
theorem comb_few (n m : Nat) (w : World) (hs : Std w) (hm : 0 < m) (hm2 : m < 1000000000000000000) (hn : n < 1000000000000000000) :
    Calls Tryz.prog 79 #[.string (str n), .string (str m)] w fun e w' => (∃ (g : Nat) (x : Int), e = .returned (.tuple #[.string (str g), .string (zS x)]) ∧ g = Nat.gcd m n ∧ IsX m n x) ∧ Below w.heap.size w w' := by
  have hsn : (str n).size ≤ 18 := str_big (n := 18) hn (by decide)
  have hsm : (str m).size ≤ 18 := str_big (n := 18) hm2 (by decide)
  have hB := both_any (n : Int) (m : Int) w hs (by rw [Int.natAbs_natCast]; omega) (by rw [Int.natAbs_natCast]; omega)
  have hf : (fewB (n : Int) && fewB (m : Int)) = true := by
    unfold fewB
    rw [decide_eq_true (by omega), decide_eq_true (by omega), decide_eq_true (by omega), decide_eq_true (by omega)]; rfl
  rw [hf, zS_of_nat, zS_of_nat] at hB
  have HB := Lib.hid hB
  have HC := Lib.hid (fun wx => combFew_any n m wx hm hm2 hn)
  have HO := Lib.hid (fun (z : Int) wx hw h1 h2 => ofW_any z wx hw h1 h2)
  have HS := Lib.hid hs
  have HG := Lib.hid (show Nat.gcd m n ≤ m from Nat.gcd_le_left _ hm)
  have HX := Lib.hid (show ∀ x, IsX m n x → 0 ≤ x ∧ x < 1000000000000000000 from fun x h => by
    obtain ⟨a1, a2, -⟩ := h
    have : (m : Int).natAbs / Nat.gcd (m : Int).natAbs (n : Int).natAbs ≤ (m : Int).natAbs := Nat.div_le_self _ _
    omega)
  have HM2 := Lib.hid hm2
  obtain ⟨s, hs2⟩ : ∃ s, s = str n := ⟨_, rfl⟩
  obtain ⟨t, ht⟩ : ∃ t, t = str m := ⟨_, rfl⟩
  rw [← hs2] at HB ⊢
  rw [← ht] at HB ⊢
  clear hs hm hm2 hn hsn hsm hB hf hs2 ht
  go_enter Tryz.func79, Tryz.ntmps79
  go_wp2_with fail
  refine HB.out.mono ?_
  rintro e w1 ⟨⟨a, b, rfl, huv⟩, h1⟩
  obtain ⟨rfl, rfl⟩ := huv trivial
  have B1 := Lib.hid h1
  clear h1 huv
  go_wp2_with fail
  refine (HC.out _).mono ?_
  rintro e w2 ⟨⟨g, x, rfl, hg, hx⟩, h2⟩
  have B2 := Lib.hid (B1.out.trans (h2.mono B1.out.size))
  have HGG := Lib.hid hg
  have HXX := Lib.hid hx
  have hg2 : (g : Int) < 1000000000000000000 := by have := HG.out; have := HM2.out; omega
  obtain ⟨hx1, hx2⟩ := HX.out x hx
  have HO1 := Lib.hid (fun wx hw => HO.out (g : Int) wx hw (by omega) (by omega))
  rw [zS_of_nat] at HO1
  have HO2 := Lib.hid (fun wx hw => HO.out x wx hw (by omega) (by omega))
  obtain ⟨u, hu⟩ : ∃ u, u = str g := ⟨_, rfl⟩
  obtain ⟨v, hv⟩ : ∃ u, u = zS x := ⟨_, rfl⟩
  have HU := Lib.hid hu
  have HV := Lib.hid hv
  rw [← hu] at HO1
  rw [← hv] at HO2
  clear h2 hg hx hu hv
  go_wp2_with fail
  refine (HO1.out _ (HS.out.below B2.out)).mono ?_
  rintro e w3 ⟨rfl, h3⟩
  have B3 := Lib.hid (B2.out.trans (h3.mono B2.out.size))
  clear h3
  go_wp2_with fail
  refine (HO2.out _ (HS.out.below B3.out)).mono ?_
  rintro e w4 ⟨rfl, h4⟩
  have B4 := Lib.hid (B3.out.trans (h4.mono B3.out.size))
  clear h4
  go_wp2_with fail
  go_ret2
  exact ⟨⟨g, x, by rw [← HU.out, ← HV.out]; rfl, HGG.out, HXX.out⟩, B4.out⟩
theorem sz_le {a b k : Nat} (h : a ≤ b) (hb : (str b).size ≤ k) : (str a).size ≤ k := zsz_le hb h
set_option maxHeartbeats 3200000 in
set_option maxRecDepth 100000 in
theorem comb_far (n m : Nat) (w : World) (hs : Std w) (hm : 0 < m) (hsn : (str n).size ≤ 200000) (hsm : (str m).size ≤ 200000) (hf : (fewB (n : Int) && fewB (m : Int)) = false) :
    Calls Tryz.prog 79 #[.string (str n), .string (str m)] w fun e w' => (∃ (g : Nat) (x : Int), e = .returned (.tuple #[.string (str g), .string (zS x)]) ∧ g = Nat.gcd m n ∧ IsX m n x) ∧ Below w.heap.size w w' := by
  have hB := both_any (n : Int) (m : Int) w hs (by rw [Int.natAbs_natCast]; omega) (by rw [Int.natAbs_natCast]; omega)
  rw [hf, zS_of_nat, zS_of_nat] at hB
  have HB := Lib.hid hB
  have HI0 := Lib.hid (BzI.start (m := m) (n := n) hm)
  have HS := Lib.hid hs
  have HN := Lib.hid hsn
  have HM := Lib.hid hsm
  have e0 : (⟨#[48]⟩ : ByteArray) = zS 0 := zS_zero.symm
  have e1 : (⟨#[49]⟩ : ByteArray) = zS 1 := by rw [one_str]; exact (zS_of_nat 1).symm
  have E0 := Lib.hid e0
  have E1 := Lib.hid e1
  clear hB hf hs e0 e1
  go_enter Tryz.func79, Tryz.ntmps79
  go_wp2_with fail
  refine HB.out.mono ?_
  rintro e w1 ⟨⟨a, b, rfl, -⟩, h1⟩
  have B1 := Lib.hid h1
  clear h1 HB
  go_wp2_with fail
  go_loopw [11, 12, 13, 14, 15, 16, 17] (fun av bv fv xv _ _ _ wr => ∃ (A B : Nat) (f x : Int), av = .string (str A) ∧ bv = .string (str B) ∧ fv = .string (zS f) ∧ xv = .string (zS x) ∧ Hid ((str A).size ≤ 200000 ∧ (str B).size ≤ 200000) ∧ Hid (BzI m n A B f x) ∧ Below w.heap.size w wr) (fun _ bv _ _ _ _ _ _ => match bv with | .string s => val s.data.toList | _ => 0)
  case atStart => exact ⟨m, n, 0, 1, rfl, rfl, by rw [E0.out], by rw [E1.out], ⟨HM.out, HN.out⟩, HI0, B1.out⟩
  case round =>
    obtain ⟨A, B, f, x, rfl, rfl, rfl, rfl, HZ, HI, hbel⟩ := hrel
    have HBL := Lib.hid hbel
    have i0 := rest_zero B (by have := HZ.out.2; omega)
    clear hbel HI0 B1
    by_cases hB0 : B = 0
    · subst hB0
      rw [decide_eq_true rfl] at i0
      obtain ⟨hd1, hd2, hd3⟩ := HI.out.done
      have hfb := HI.out.fb
      have hA0 := HI.out.apos
      rw [Int.natAbs_natCast] at hd2 hd3 hfb
      rw [Int.natAbs_natCast, Int.natAbs_natCast] at hd1
      have hPm : m / A ≤ m := Nat.div_le_self _ _
      have hP1 := fun wx hw => divW_any (m : Int) (A : Int) wx hw (by rw [Int.natAbs_natCast]; omega) (by rw [Int.natAbs_natCast]; have := HZ.out.1; omega) (by omega)
      rw [nat_fdiv, nat_fmod, zS_of_nat, zS_of_nat, zS_of_nat, zS_of_nat] at hP1
      obtain ⟨P, hP⟩ : ∃ P, P = m / A := ⟨_, rfl⟩
      rw [← hP] at hd2 hd3 hPm hP1
      have hszP := sz_le hPm hsm
      have hszf := sz_le hfb hsm
      have hP2 := fun wx hw => divW_any f (P : Int) wx hw (by omega) (by rw [Int.natAbs_natCast]; omega) (by omega)
      rw [zS_of_nat] at hP2
      have HP1 := Lib.hid hP1
      have HP2 := Lib.hid hP2
      have H1 := Lib.hid hd1
      have H3 := Lib.hid hd3
      obtain ⟨R, hR⟩ : ∃ R, R = str (m % A) := ⟨_, rfl⟩
      obtain ⟨t, ht⟩ : ∃ R, R = str m := ⟨_, rfl⟩
      obtain ⟨p, hp⟩ : ∃ R, R = str P := ⟨_, rfl⟩
      obtain ⟨a, ha⟩ : ∃ R, R = str A := ⟨_, rfl⟩
      obtain ⟨fs, hfs⟩ : ∃ R, R = zS f := ⟨_, rfl⟩
      obtain ⟨U, hU⟩ : ∃ R, R = zS (f.fdiv (P : Int)) := ⟨_, rfl⟩
      obtain ⟨V, hV⟩ : ∃ R, R = zS (f.fmod (P : Int)) := ⟨_, rfl⟩
      have HA := Lib.hid ha
      have HV := Lib.hid hV
      rw [← hR] at HP1
      rw [← ht] at HP1 ⊢
      rw [← hp] at HP1 HP2
      rw [← ha] at HP1 ⊢
      rw [← hfs] at HP2 ⊢
      rw [← hU, ← hV] at HP2
      clear hd1 hd3 hP hfb HI hP1 hP2 hR ht hp ha hfs hU hV hszP hszf hsm hsn HZ hPm
      go_wp2_with fail
      refine (HP1.out _ (HS.out.below HBL.out)).mono ?_
      rintro e w2 ⟨rfl, h2⟩
      have B2 := Lib.hid (HBL.out.trans (h2.mono HBL.out.size))
      clear h2
      go_wp2_with fail
      refine (HP2.out _ (HS.out.below B2.out)).mono ?_
      rintro e w3 ⟨rfl, h3⟩
      have B3 := Lib.hid (B2.out.trans (h3.mono B2.out.size))
      clear h3
      go_wp2_with fail
      go_ret2
      exact ⟨⟨A, f.fmod (P : Int), by rw [← HA.out, ← HV.out]; rfl, H1.out, H3.out⟩, B3.out⟩
    · rw [decide_eq_false hB0] at i0
      have hBp : 0 < B := Nat.pos_of_ne_zero hB0
      have hstep := HI.out.step hBp
      obtain ⟨hq1, hq2⟩ := HI.out.qx hBp
      rw [Int.natAbs_natCast] at hq1 hq2
      have hqm := Int.natAbs_mul ((A / B : Nat) : Int) x
      rw [Int.natAbs_natCast] at hqm
      have hfb := HI.out.fb
      have hab := HI.out.ab
      rw [Int.natAbs_natCast] at hfb hab
      have hrB : A % B < B := Nat.mod_lt _ hBp
      have hqA : A / B ≤ A := Nat.div_le_self _ _
      have hP1 := fun wx hw => divW_any (A : Int) (B : Int) wx hw (by rw [Int.natAbs_natCast]; have := HZ.out.1; omega) (by rw [Int.natAbs_natCast]; have := HZ.out.2; omega) (by omega)
      rw [nat_fdiv, nat_fmod, zS_of_nat, zS_of_nat, zS_of_nat, zS_of_nat] at hP1
      have hzr := sz_le (Nat.le_of_lt hrB) HZ.out.2
      have HZ2 := Lib.hid (show (str B).size ≤ 200000 ∧ (str (A % B)).size ≤ 200000 from ⟨HZ.out.2, hzr⟩)
      have hzq := sz_le hqA HZ.out.1
      obtain ⟨r, hr⟩ : ∃ r, r = A % B := ⟨_, rfl⟩
      obtain ⟨q, hq⟩ : ∃ q, q = A / B := ⟨_, rfl⟩
      rw [← hr] at hstep hrB hP1 HZ2
      rw [← hq] at hstep hq1 hq2 hqm hqA hP1 hzq
      have hzx := sz_le hab hsm
      have hzf := sz_le hfb hsm
      have hzqx := sz_le (a := ((q : Int) * x).natAbs) (by omega) hsm
      have hM := fun wx hw => mulW_any (q : Int) x wx hw (by rw [Int.natAbs_natCast]; omega) (by omega)
      rw [zS_of_nat] at hM
      have hS := fun wx hw => subW_any f ((q : Int) * x) wx hw (by omega) (by omega)
      have HI2 := Lib.hid hstep
      have HP1 := Lib.hid hP1
      have HMM := Lib.hid hM
      have HSS := Lib.hid hS
      have HLT := Lib.hid (show val (str r).data.toList < val (str B).data.toList by rw [val_str, val_str]; exact hrB)
      obtain ⟨ats, ha⟩ : ∃ R, R = str A := ⟨_, rfl⟩
      obtain ⟨bs, hb⟩ : ∃ R, R = str B := ⟨_, rfl⟩
      obtain ⟨qs, hqs⟩ : ∃ R, R = str q := ⟨_, rfl⟩
      obtain ⟨rs, hrs⟩ : ∃ R, R = str r := ⟨_, rfl⟩
      obtain ⟨fs, hfs⟩ : ∃ R, R = zS f := ⟨_, rfl⟩
      obtain ⟨xs, hxs⟩ : ∃ R, R = zS x := ⟨_, rfl⟩
      obtain ⟨ps, hps⟩ : ∃ R, R = zS ((q : Int) * x) := ⟨_, rfl⟩
      obtain ⟨ds, hds⟩ : ∃ R, R = zS (f - (q : Int) * x) := ⟨_, rfl⟩
      have HBs := Lib.hid hb
      have HRs := Lib.hid hrs
      have HXs := Lib.hid hxs
      have HDs := Lib.hid hds
      rw [← ha] at HP1 ⊢
      rw [← hb] at HP1 HLT i0 ⊢
      rw [← hqs] at HP1 HMM
      rw [← hrs] at HP1 HLT
      rw [← hfs] at HSS ⊢
      rw [← hxs] at HMM ⊢
      rw [← hps] at HMM HSS
      rw [← hds] at HSS
      clear hr hq hB0 hstep hq1 hq2 hqm HI ha hb hqs hrs hfs hxs hps hds hP1 hM hS hzx hzf hzqx hzq hzr hqA hrB hfb hab HZ
      go_wp2_with fail
      refine (HP1.out _ (HS.out.below HBL.out)).mono ?_
      rintro e w2 ⟨rfl, h2⟩
      have B2 := Lib.hid (HBL.out.trans (h2.mono HBL.out.size))
      clear h2
      go_wp2_with fail
      refine (HMM.out _ (HS.out.below B2.out)).mono ?_
      rintro e w3 ⟨rfl, h3⟩
      have B3 := Lib.hid (B2.out.trans (h3.mono B2.out.size))
      clear h3
      go_wp2_with fail
      refine (HSS.out _ (HS.out.below B3.out)).mono ?_
      rintro e w4 ⟨rfl, h4⟩
      have B4 := Lib.hid (B3.out.trans (h4.mono B3.out.size))
      clear h4
      go_wp2_with fail
      refine ⟨⟨B, r, x, f - (q : Int) * x, by rw [← HBs.out], by rw [← HRs.out], by rw [← HXs.out], by rw [← HDs.out], HZ2, HI2, B4.out⟩, ?_⟩
      exact HLT.out
theorem comb_any (n m : Nat) (w : World) (hs : Std w) (hm : 0 < m) (hsn : (str n).size ≤ 200000) (hsm : (str m).size ≤ 200000) :
    Calls Tryz.prog 79 #[.string (str n), .string (str m)] w fun e w' => (∃ (g : Nat) (x : Int), e = .returned (.tuple #[.string (str g), .string (zS x)]) ∧ g = Nat.gcd m n ∧ IsX m n x) ∧ Below w.heap.size w w' := by
  cases hf : (fewB (n : Int) && fewB (m : Int)) with
  | false => exact comb_far n m w hs hm hsn hsm hf
  | true =>
    unfold fewB at hf; simp at hf
    exact comb_few n m w hs hm (by omega) (by omega)
end Go.Proofs.YtjebddpapbopnaaGreatDoor
