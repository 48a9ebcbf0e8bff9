/-
  The law WholeRemainders.
-/
import Derived.Test.YtjebddpapbopnaaGreatDoorZBox
namespace Go.Proofs.YtjebddpapbopnaaGreatDoor
open Go.RowKit

theorem bz_size {a b x y : Int} (h : IsBz a b x y) (ha : a.natAbs < 10 ^ 30) (hb : b.natAbs < 10 ^ 30) : x.natAbs < 10 ^ 31 ∧ y.natAbs < 10 ^ 61 := by
  by_cases h0 : b = 0
  · obtain ⟨h1, h2⟩ := h.none h0
    refine ⟨?_, by rw [h2]; decide⟩
    rcases sgnI_ways a with ⟨_, e⟩ | ⟨_, e⟩ | ⟨_, e⟩ <;> rw [h1, e] <;> decide
  · have h1 := isX_lt (h.some h0)
    have h2 := h.sum
    have h3 : (b * y).natAbs ≤ Nat.gcd a.natAbs b.natAbs + (a * x).natAbs := by omega
    have h4 : (a * x).natAbs ≤ 10 ^ 30 * 10 ^ 30 := by
      rw [Int.natAbs_mul]; exact Nat.mul_le_mul (by omega) (by omega)
    have h5 := gcd_le_add a.natAbs b.natAbs
    have h6 : y.natAbs ≤ (b * y).natAbs := by
      rw [Int.natAbs_mul]
      calc y.natAbs = 1 * y.natAbs := (Nat.one_mul _).symm
        _ ≤ _ := Nat.mul_le_mul_right _ (by omega)
    have h7 : (10 : Nat) ^ 30 * 10 ^ 30 = 10 ^ 60 := by decide +kernel
    rw [h7] at h4
    have h8 : (10 : Nat) ^ 60 + 10 ^ 31 < 10 ^ 61 := by decide +kernel
    have h9 : (10 : Nat) ^ 30 * 2 < 10 ^ 31 := by decide +kernel
    exact ⟨by omega, by omega⟩
theorem rem_sign {x y : Int} (hy : y ≠ 0) : x.fmod y = 0 ∨ (sgnI (x.fmod y) = sgnI y ∧ cmpN (x.fmod y).natAbs y.natAbs = -1) := by
  obtain ⟨-, h⟩ := fl_range x hy
  by_cases h0 : x.fmod y = 0
  · exact .inl h0
  · right
    refine ⟨?_, cmp_lt (by omega)⟩
    rcases sgnI_ways (x.fmod y) with ⟨h1, e1⟩ | ⟨h1, e1⟩ | ⟨h1, e1⟩ <;> rcases sgnI_ways y with ⟨h2, e2⟩ | ⟨h2, e2⟩ | ⟨h2, e2⟩ <;> rw [e1, e2] <;> omega
theorem str_cmp (a b : Nat) (w : World) (ha : (str a).size ≤ 1000000) (hb : (str b).size ≤ 1000000) :
    Calls Tryz.prog 26 #[.string (str a), .string (str b)] w fun e w' => e = .returned (.int .i64 (cmpN a b)) ∧ Below w.heap.size w w' := by
  have h := cmpW_any (a : Int) (b : Int) w (by rw [Int.natAbs_natCast]; exact ha) (by rw [Int.natAbs_natCast]; exact hb)
  rw [zS_of_nat, zS_of_nat] at h
  have e : cmpZ (a : Int) (b : Int) = cmpN a b := by
    rcases cmpZ_ways (a : Int) (b : Int) with ⟨h1, e1⟩ | ⟨h1, e1⟩ | ⟨h1, e1⟩ <;> rcases cmpN_ways a b with ⟨h2, e2⟩ | ⟨h2, e2⟩ | ⟨h2, e2⟩ <;> rw [e1, e2] <;> omega
  rw [e] at h
  exact h
set_option maxHeartbeats 3200000 in
set_option maxRecDepth 100000 in
theorem remZ (b1 : Bool) (a1 : Option Addr) (l1 c1 : Nat) (z1 : List Int) (b2 : Bool) (a2 : Option Addr) (l2 c2 : Nat) (z2 : List Int) (w : World) (hs : Std w) (h1 : IsRow .u8 w a1 l1 c1 z1) (h2 : IsRow .u8 w a2 l2 c2 z2) :
    Calls Tryz.prog 13 #[.agg #[.bool b1, .slice a1 l1 c1], .agg #[.bool b2, .slice a2 l2 c2]] w fun e w' => e = .returned (.bool true) ∧ Below w.heap.size w w' := by
  have HS := Lib.hid hs
  have HX := Lib.hid (bx2 w b1 a1 l1 c1 b2 a2 l2 c2)
  have HM := Lib.hid (fun v wx hv hx => make2 (b1 := b1) (b2 := b2) h1 h2 30 (by decide) v wx hv hx)
  clear hs h1 h2
  go_enter Tryz.func13, Tryz.ntmps13
  go_wp2_with fail
  obtain ⟨W0, hW0⟩ : ∃ W0, W0 = (w.alloc (numO b1 a1 l1 c1)).alloc (numO b2 a2 l2 c2) := ⟨_, rfl⟩
  rw [← hW0] at HX ⊢
  clear hW0
  refine (knownZ_any _ (HS.out.below HX.out.below)).mono ?_
  rintro e w1 ⟨rfl, h1⟩
  have X1 := HX.out.to h1
  clear h1 HX
  go_upto_region 3 with fail
  go_cut [5, 6] from 15 to 18 (fun s t wx => ∃ x y : Int, s = .string (zS x) ∧ t = .string (zS y) ∧ x.natAbs < 10 ^ 30 ∧ y.natAbs < 10 ^ 30 ∧ Bx2 w wx b1 a1 l1 c1 b2 a2 l2 c2)
  case first =>
    have X2 := X1.to (Below.drew (Below.refl _ _))
    have p0 := X1.one.neg
    have p1 := X1.one.dig
    have q0 := X1.two.neg
    have q1 := X1.two.dig
    go_region_with (go_at_call 20; refine (HM.out _ _ ?hv ?hb).mono ?_; (case hb => assumption); (case hv => first | exact .inl rfl | exact .inr rfl); rintro e w' ⟨⟨z, rfl, hz⟩, hbx⟩; have hc0 := hbx.one.neg; have hc1 := hbx.one.dig; have hc2 := hbx.two.neg; have hc3 := hbx.two.dig)
    all_goals (go_wp2_with fail; go_meet; exact ⟨_, _, rfl, rfl, by assumption, by assumption, by assumption⟩)
  case rest =>
    obtain ⟨x, y, rfl, rfl, hx, hy, hbx⟩ := hcut
    clear X1 HM
    have X := Lib.hid hbx.below
    have HX2 := Lib.hid hbx
    have hsx := pow_size hx (by decide)
    have hsy := pow_size hy (by decide)
    clear hbx
    have HZ := Lib.hid (fun wx hw => bezW_any x y wx hw (by omega) (by omega))
    have HSZ := Lib.hid (fun (u v : Int) (h : IsBz x y u v) => bz_size h hx hy)
    have HY := Lib.hid (show ((zS y).toList == [48]) = decide (y = 0) from (zF y (by omega)).zero)
    obtain ⟨s, hs⟩ : ∃ s, s = zS x := ⟨_, rfl⟩
    obtain ⟨t, ht⟩ : ∃ s, s = zS y := ⟨_, rfl⟩
    obtain ⟨g, hg⟩ : ∃ s, s = str (Nat.gcd x.natAbs y.natAbs) := ⟨_, rfl⟩
    have HSS := Lib.hid hs
    have HTT := Lib.hid ht
    have HGG := Lib.hid hg
    rw [← hs] at HZ ⊢
    rw [← ht] at HZ HY ⊢
    rw [← hg] at HZ
    clear hs ht hg
    go_wp2_with fail
    refine (HZ.out _ (HS.out.below X.out)).mono ?_
    rintro e w2 ⟨⟨u, v, rfl, hbz⟩, h2⟩
    have B2 := Lib.hid (X.out.trans (h2.mono X.out.size))
    clear h2
    obtain ⟨hu, hv⟩ := HSZ.out u v hbz
    have hsu := pow_size hu (by decide)
    have hsv := pow_size hv (by decide)
    have hm1 : (str (x * u).natAbs).size ≤ 62 := by rw [Int.natAbs_mul]; exact zsz_mul (n := 31) (by omega) (by omega) (by decide)
    have hm2 : (str (y * v).natAbs).size ≤ 122 := by rw [Int.natAbs_mul]; exact zsz_mul (n := 61) (by omega) (by omega) (by decide)
    have HM1 := Lib.hid (fun wx hw => mulW_any x u wx hw (by omega) (by omega))
    have HM2 := Lib.hid (fun wx hw => mulW_any y v wx hw (by omega) (by omega))
    have hA := fun wx hw => addW_any (x * u) (y * v) wx hw (by omega) (by omega)
    rw [hbz.sum, zS_of_nat] at hA
    have HA := Lib.hid hA
    have HG := Lib.hid (fun wx hw => gcdW_any x y wx hw (by omega) (by omega))
    have hD := fun wx hw (h0 : y ≠ 0) => divW_any x y wx hw (by omega) (by omega) h0
    have HD := Lib.hid hD
    have HEX := Lib.hid (show y ≠ 0 → y * x.fdiv y + x.fmod y = x from fun h0 => (fl_range x h0).1.symm)
    have hq1 : y ≠ 0 → (str (x.fdiv y).natAbs).size ≤ 31 ∧ (str (x.fmod y).natAbs).size ≤ 31 := fun h0 => by
      obtain ⟨r1, r2⟩ := fl_range x h0
      have hdv : (x.fdiv y).natAbs ≤ (y * x.fdiv y).natAbs := by
        rw [Int.natAbs_mul]
        calc (x.fdiv y).natAbs = 1 * (x.fdiv y).natAbs := (Nat.one_mul _).symm
          _ ≤ _ := Nat.mul_le_mul_right _ (by omega)
      have h9 : (10 : Nat) ^ 30 * 2 < 10 ^ 31 := by decide +kernel
      exact ⟨pow_size (N := 31) (by omega) (by decide), pow_size (N := 31) (by omega) (by decide)⟩
    have HMQ := Lib.hid (fun wx hw (h0 : y ≠ 0) => mulW_any y (x.fdiv y) wx hw (by omega) (by have := hq1 h0; omega))
    have HAQ := Lib.hid (fun wx hw (h0 : y ≠ 0) => addW_any (y * x.fdiv y) (x.fmod y) wx hw (by
      rw [Int.natAbs_mul]; exact Nat.le_trans (zsz_mul (n := 31) (by omega) (hq1 h0).1 (by decide)) (by decide)) (by have := hq1 h0; omega))
    have HSR := Lib.hid (fun wx (h0 : y ≠ 0) => sign_any (x.fmod y) wx (by have := hq1 h0; omega))
    have HSY := Lib.hid (fun wx => sign_any y wx (by omega))
    have HAR := Lib.hid (fun wx (h0 : y ≠ 0) => abs_any (x.fmod y) wx (by have := hq1 h0; omega))
    have HAY := Lib.hid (fun wx => abs_any y wx (by omega))
    have HC := Lib.hid (fun wx (h0 : y ≠ 0) => str_cmp (x.fmod y).natAbs y.natAbs wx (by have := hq1 h0; omega) (by omega))
    have HRZ := Lib.hid (fun (h0 : y ≠ 0) => (zF (x.fmod y) (by have := hq1 h0; omega)).zero)
    have HRS := Lib.hid (fun (h0 : y ≠ 0) => rem_sign (x := x) h0)
    have hS := HSS.out
    have hT := HTT.out
    have hG := HGG.out
    rw [← hG] at HA HG
    rw [← hS] at HM1 HD
    rw [← hT] at HM2 HD HMQ HSY HAY
    rw [← hS, ← hT] at HG
    obtain ⟨us, hus⟩ : ∃ s, s = zS u := ⟨_, rfl⟩
    obtain ⟨vs, hvs⟩ : ∃ s, s = zS v := ⟨_, rfl⟩
    obtain ⟨a, ha⟩ : ∃ s, s = zS (x * u) := ⟨_, rfl⟩
    obtain ⟨b, hb⟩ : ∃ s, s = zS (y * v) := ⟨_, rfl⟩
    rw [← hus] at HM1 ⊢
    rw [← hvs] at HM2 ⊢
    rw [← ha] at HM1 HA
    rw [← hb] at HM2 HA
    have e1 : (g.toList == g.toList) = true := beq_self_eq_true _
    have e1b : (g.toList != g.toList) = false := by rw [bne, e1]; rfl
    have e2 : (s.toList == s.toList) = true := beq_self_eq_true _
    have e2b : (s.toList != s.toList) = false := by rw [bne, e2]; rfl
    clear hus hvs ha hb hS hT hG hq1 hD hA hm1 hm2 hsu hsv hu hv hbz hx hy hsx hsy
    by_cases hy0 : y = 0
    · have hyz := HY.out
      rw [decide_eq_true hy0] at hyz
      clear hy0
      go_wp2_with fail
      refine (HM1.out _ (HS.out.below B2.out)).mono ?_
      rintro e w3 ⟨rfl, h3⟩
      have B3 := Lib.hid (B2.out.trans (h3.mono B2.out.size))
      clear h3
      go_wp2_with fail
      refine (HM2.out _ (HS.out.below B3.out)).mono ?_
      rintro e w4 ⟨rfl, h4⟩
      have B4 := Lib.hid (B3.out.trans (h4.mono B3.out.size))
      clear h4
      go_wp2_with fail
      refine (HA.out _ (HS.out.below B4.out)).mono ?_
      rintro e w5 ⟨rfl, h5⟩
      have B5 := Lib.hid (B4.out.trans (h5.mono B4.out.size))
      clear h5
      go_wp2_with fail
      refine (HG.out _ (HS.out.below B5.out)).mono ?_
      rintro e w6 ⟨rfl, h6⟩
      have B6 := Lib.hid (B5.out.trans (h6.mono B5.out.size))
      clear h6
      go_wp2_with fail
      go_ret
      exact ⟨rfl, B6.out⟩
    · have hyz := HY.out
      rw [decide_eq_false hy0] at hyz
      have HD2 := Lib.hid (fun wx hw => HD.out wx hw hy0)
      have HMQ2 := Lib.hid (fun wx hw => HMQ.out wx hw hy0)
      have hAQ2 := fun wx hw => HAQ.out wx hw hy0
      rw [HEX.out hy0, ← HSS.out] at hAQ2
      have HAQ2 := Lib.hid hAQ2
      have HSR2 := Lib.hid (fun wx => HSR.out wx hy0)
      have HAR2 := Lib.hid (fun wx => HAR.out wx hy0)
      have HC2 := Lib.hid (fun wx => HC.out wx hy0)
      have hrz := HRZ.out hy0
      have hrs := HRS.out hy0
      obtain ⟨q, hq⟩ : ∃ s, s = zS (x.fdiv y) := ⟨_, rfl⟩
      obtain ⟨r, hr⟩ : ∃ s, s = zS (x.fmod y) := ⟨_, rfl⟩
      obtain ⟨m, hm⟩ : ∃ s, s = zS (y * x.fdiv y) := ⟨_, rfl⟩
      obtain ⟨ra, hra⟩ : ∃ s, s = str (x.fmod y).natAbs := ⟨_, rfl⟩
      obtain ⟨ya, hya⟩ : ∃ s, s = str y.natAbs := ⟨_, rfl⟩
      rw [← hq] at HD2 HMQ2
      rw [← hr] at HD2 HAQ2 HSR2 HAR2 hrz
      rw [← hm] at HMQ2 HAQ2
      rw [← hra] at HAR2 HC2
      rw [← hya] at HAY HC2
      clear hq hr hm hra hya hAQ2 HD HMQ HAQ HSR HAR HC HRZ HRS
      by_cases hr0 : x.fmod y = 0
      · rw [decide_eq_true hr0] at hrz
        clear hr0 hrs hy0
        go_wp2_with fail
        refine (HM1.out _ (HS.out.below B2.out)).mono ?_
        rintro e w3 ⟨rfl, h3⟩
        have B3 := Lib.hid (B2.out.trans (h3.mono B2.out.size))
        clear h3
        go_wp2_with fail
        refine (HM2.out _ (HS.out.below B3.out)).mono ?_
        rintro e w4 ⟨rfl, h4⟩
        have B4 := Lib.hid (B3.out.trans (h4.mono B3.out.size))
        clear h4
        go_wp2_with fail
        refine (HA.out _ (HS.out.below B4.out)).mono ?_
        rintro e w5 ⟨rfl, h5⟩
        have B5 := Lib.hid (B4.out.trans (h5.mono B4.out.size))
        clear h5
        go_wp2_with fail
        refine (HG.out _ (HS.out.below B5.out)).mono ?_
        rintro e w6 ⟨rfl, h6⟩
        have B6 := Lib.hid (B5.out.trans (h6.mono B5.out.size))
        clear h6
        go_wp2_with fail
        refine (HD2.out _ (HS.out.below B6.out)).mono ?_
        rintro e w7 ⟨rfl, h7⟩
        have B7 := Lib.hid (B6.out.trans (h7.mono B6.out.size))
        clear h7
        go_wp2_with fail
        refine (HMQ2.out _ (HS.out.below B7.out)).mono ?_
        rintro e w8 ⟨rfl, h8⟩
        have B8 := Lib.hid (B7.out.trans (h8.mono B7.out.size))
        clear h8
        go_wp2_with fail
        refine (HAQ2.out _ (HS.out.below B8.out)).mono ?_
        rintro e w9 ⟨rfl, h9⟩
        have B9 := Lib.hid (B8.out.trans (h9.mono B8.out.size))
        clear h9
        go_wp2_with fail
        go_ret
        exact ⟨rfl, B9.out⟩
      · rw [decide_eq_false hr0] at hrz
        obtain ⟨k1, k2⟩ : sgnI (x.fmod y) = sgnI y ∧ cmpN (x.fmod y).natAbs y.natAbs = -1 := by
          rcases hrs with q | q
          · exact absurd q hr0
          · exact q
        rw [k1] at HSR2
        rw [k2] at HC2
        obtain ⟨k, hk⟩ : ∃ k, k = sgnI y := ⟨_, rfl⟩
        rw [← hk] at HSR2 HSY
        have e3 : (k == k) = true := beq_self_eq_true _
        clear hr0 hrs hy0 k1 k2 hk
        go_wp2_with fail
        refine (HM1.out _ (HS.out.below B2.out)).mono ?_
        rintro e w3 ⟨rfl, h3⟩
        have B3 := Lib.hid (B2.out.trans (h3.mono B2.out.size))
        clear h3
        go_wp2_with fail
        refine (HM2.out _ (HS.out.below B3.out)).mono ?_
        rintro e w4 ⟨rfl, h4⟩
        have B4 := Lib.hid (B3.out.trans (h4.mono B3.out.size))
        clear h4
        go_wp2_with fail
        refine (HA.out _ (HS.out.below B4.out)).mono ?_
        rintro e w5 ⟨rfl, h5⟩
        have B5 := Lib.hid (B4.out.trans (h5.mono B4.out.size))
        clear h5
        go_wp2_with fail
        refine (HG.out _ (HS.out.below B5.out)).mono ?_
        rintro e w6 ⟨rfl, h6⟩
        have B6 := Lib.hid (B5.out.trans (h6.mono B5.out.size))
        clear h6
        go_wp2_with fail
        refine (HD2.out _ (HS.out.below B6.out)).mono ?_
        rintro e w7 ⟨rfl, h7⟩
        have B7 := Lib.hid (B6.out.trans (h7.mono B6.out.size))
        clear h7
        go_wp2_with fail
        refine (HMQ2.out _ (HS.out.below B7.out)).mono ?_
        rintro e w8 ⟨rfl, h8⟩
        have B8 := Lib.hid (B7.out.trans (h8.mono B7.out.size))
        clear h8
        go_wp2_with fail
        refine (HAQ2.out _ (HS.out.below B8.out)).mono ?_
        rintro e w9 ⟨rfl, h9⟩
        have B9 := Lib.hid (B8.out.trans (h9.mono B8.out.size))
        clear h9
        go_wp2_with fail
        refine (HSR2.out _).mono ?_
        rintro e w10 ⟨rfl, rfl⟩
        go_wp2_with fail
        refine (HSY.out _).mono ?_
        rintro e w11 ⟨rfl, rfl⟩
        go_wp2_with fail
        refine (HAR2.out _).mono ?_
        rintro e w12 ⟨rfl, h12⟩
        have B12 := Lib.hid (B9.out.trans (h12.mono B9.out.size))
        clear h12
        go_wp2_with fail
        refine (HAY.out _).mono ?_
        rintro e w13 ⟨rfl, h13⟩
        have B13 := Lib.hid (B12.out.trans (h13.mono B12.out.size))
        clear h13
        go_wp2_with fail
        refine (HC2.out _).mono ?_
        rintro e w14 ⟨rfl, h14⟩
        have B14 := Lib.hid (B13.out.trans (h14.mono B13.out.size))
        clear h14
        go_wp2_with fail
        go_ret
        exact ⟨rfl, B14.out⟩
end Go.Proofs.YtjebddpapbopnaaGreatDoor
