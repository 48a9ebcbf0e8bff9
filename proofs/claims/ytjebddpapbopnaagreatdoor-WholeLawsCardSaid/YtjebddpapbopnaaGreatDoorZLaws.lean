/-
  The law WholeLaws.
-/
import Derived.Test.YtjebddpapbopnaaGreatDoorZBox3
namespace Go.Proofs.YtjebddpapbopnaaGreatDoor
open Go.RowKit

theorem cmpZ_add (x y z : Int) : cmpZ (x + z) (y + z) = cmpZ x y := by
  unfold cmpZ
  by_cases h1 : x < y
  · rw [if_pos h1, if_pos (by omega)]
  · by_cases h2 : y < x
    · rw [if_neg h1, if_pos h2, if_neg (by omega), if_pos (by omega)]
    · rw [if_neg h1, if_neg h2, if_neg (by omega), if_neg (by omega)]
theorem gcd_lcm (x y : Int) : Nat.gcd x.natAbs y.natAbs * lcmZ x y = (x * y).natAbs := by
  unfold lcmZ
  rw [← Nat.mul_assoc, Nat.mul_div_cancel' (Nat.gcd_dvd_left _ _), Int.natAbs_mul]
set_option maxHeartbeats 3200000 in
set_option maxRecDepth 100000 in
theorem lawsZ (b1 : Bool) (a1 : Option Addr) (l1 c1 : Nat) (z1 : List Int) (b2 : Bool) (a2 : Option Addr) (l2 c2 : Nat) (z2 : List Int) (b3 : Bool) (a3 : Option Addr) (l3 c3 : Nat) (z3 : List Int) (w : World) (hs : Std w) (h1 : IsRow .u8 w a1 l1 c1 z1) (h2 : IsRow .u8 w a2 l2 c2 z2) (h3 : IsRow .u8 w a3 l3 c3 z3) :
    Calls Tryz.prog 12 #[.agg #[.bool b1, .slice a1 l1 c1], .agg #[.bool b2, .slice a2 l2 c2], .agg #[.bool b3, .slice a3 l3 c3]] w fun e w' => e = .returned (.bool true) ∧ Below w.heap.size w w' := by
  have HS := Lib.hid hs
  have HX := Lib.hid (bx3 w b1 a1 l1 c1 b2 a2 l2 c2 b3 a3 l3 c3)
  have HM := Lib.hid (fun v wx hv hx => make3 (b1 := b1) (b2 := b2) (b3 := b3) h1 h2 h3 24 (by decide) v wx hv hx)
  clear hs h1 h2 h3
  go_enter Tryz.func12, Tryz.ntmps12
  go_wp2_with fail
  obtain ⟨W0, hW0⟩ : ∃ W0, W0 = ((w.alloc (numO b1 a1 l1 c1)).alloc (numO b2 a2 l2 c2)).alloc (numO b3 a3 l3 c3) := ⟨_, rfl⟩
  rw [← hW0] at HX ⊢
  clear hW0
  refine (knownZ_any _ (HS.out.below HX.out.below)).mono ?_
  rintro e w1 ⟨rfl, h1⟩
  have X1 := HX.out.to h1
  clear h1 HX
  go_upto_region 3 with fail
  go_cut [7, 8, 9] from 14 to 19 (fun s t r wx => ∃ x y z : Int, s = .string (zS x) ∧ t = .string (zS y) ∧ r = .string (zS z) ∧ x.natAbs < 10 ^ 24 ∧ y.natAbs < 10 ^ 24 ∧ z.natAbs < 10 ^ 24 ∧ Bx3 w wx b1 a1 l1 c1 b2 a2 l2 c2 b3 a3 l3 c3)
  case first =>
    have X2 := X1.to (Below.drew (Below.refl _ _))
    have p0 := X1.one.neg
    have p1 := X1.one.dig
    have q0 := X1.two.neg
    have q1 := X1.two.dig
    have r0 := X1.three.neg
    have r1 := X1.three.dig
    go_region_with (go_at_call 20; refine (HM.out _ _ ?hv ?hb).mono ?_; (case hb => assumption); (case hv => first | exact .inl rfl | exact .inr (.inl rfl) | exact .inr (.inr rfl)); rintro e w' ⟨⟨z, rfl, hz⟩, hbx⟩; have hc0 := hbx.one.neg; have hc1 := hbx.one.dig; have hc2 := hbx.two.neg; have hc3 := hbx.two.dig; have hc4 := hbx.three.neg; have hc5 := hbx.three.dig)
    all_goals (go_wp2_with fail; go_meet; exact ⟨_, _, _, rfl, rfl, rfl, by assumption, by assumption, by assumption, by assumption⟩)
  case rest =>
    obtain ⟨x, y, z, rfl, rfl, rfl, hx, hy, hz, hbx⟩ := hcut
    clear X1 HM
    have X := Lib.hid hbx.below
    have hsx := pow_size hx (by decide)
    have hsy := pow_size hy (by decide)
    have hsz := pow_size hz (by decide)
    have hxy : (str (x * y).natAbs).size ≤ 48 := by rw [Int.natAbs_mul]; exact zsz_mul hsx hsy (by decide)
    have hxz : (str (x * z).natAbs).size ≤ 48 := by rw [Int.natAbs_mul]; exact zsz_mul hsx hsz (by decide)
    have hax : (str (x + y).natAbs).size ≤ 25 := sz_le (b := x.natAbs + y.natAbs) (by omega) (zsz_add hsx hsy (by decide))
    have hay : (str (y + z).natAbs).size ≤ 25 := sz_le (b := y.natAbs + z.natAbs) (by omega) (zsz_add hsy hsz (by decide))
    have haz : (str (x + z).natAbs).size ≤ 25 := sz_le (b := x.natAbs + z.natAbs) (by omega) (zsz_add hsx hsz (by decide))
    have hgs : (str (Nat.gcd x.natAbs y.natAbs)).size ≤ 25 := sz_le (gcd_le_add _ _) (zsz_add hsx hsy (by decide))
    have hls : (str (lcmZ x y)).size ≤ 48 := zsz_mul (sz_le (Nat.div_le_self _ _) hsx) hsy (by decide)
    have hpar := fun wx => parW_any (zS x) wx (by have := (zF x (by omega)).lim; have h1 := magB_zS x; by_cases q : x < 0
                                                  · rw [zS_neg q, ByteArray.size_append]; show 1 + _ ≤ _; omega
                                                  · rw [zS_pos q]; omega)
    rw [parV_zS (by omega)] at hpar
    have HPA := Lib.hid hpar
    have hA2 := fun wx hw => addW_any y x wx hw (by omega) (by omega)
    rw [Int.add_comm y x] at hA2
    have hM2 := fun wx hw => mulW_any y x wx hw (by omega) (by omega)
    rw [Int.mul_comm y x] at hM2
    have hSB := fun wx hw => subW_any (x + y) y wx hw (by omega) (by omega)
    rw [show x + y - y = x by omega] at hSB
    have hR2 := fun wx hw => addW_any (x * y) (x * z) wx hw (by omega) (by omega)
    rw [← Int.mul_add] at hR2
    have hC1 := fun wx => cmpW_any (x + z) (y + z) wx (by omega) (by omega)
    rw [cmpZ_add] at hC1
    have hG2 := fun wx hw => mulW_any ((Nat.gcd x.natAbs y.natAbs : Nat) : Int) ((lcmZ x y : Nat) : Int) wx hw (by rw [Int.natAbs_natCast]; omega) (by rw [Int.natAbs_natCast]; omega)
    rw [← Int.natCast_mul, gcd_lcm, zS_of_nat, zS_of_nat, zS_of_nat] at hG2
    have HA2 := Lib.hid hA2
    have HM2 := Lib.hid hM2
    have HSB := Lib.hid hSB
    have HR2 := Lib.hid hR2
    have HC1 := Lib.hid hC1
    have HG2 := Lib.hid hG2
    have HA1 := Lib.hid (fun wx hw => addW_any x y wx hw (by omega) (by omega))
    have HM1 := Lib.hid (fun wx hw => mulW_any x y wx hw (by omega) (by omega))
    have HQ := Lib.hid (fun wx hw => addW_any y z wx hw (by omega) (by omega))
    have HR1 := Lib.hid (fun wx hw => mulW_any x (y + z) wx hw (by omega) (by omega))
    have HK := Lib.hid (fun wx hw => mulW_any x z wx hw (by omega) (by omega))
    have HZ := Lib.hid (fun wx hw => addW_any x z wx hw (by omega) (by omega))
    have HC2 := Lib.hid (fun wx => cmpW_any x y wx (by omega) (by omega))
    have HGC := Lib.hid (fun wx hw => gcdW_any x y wx hw (by omega) (by omega))
    have HLC := Lib.hid (fun wx hw => lcmW_any x y wx hw (by omega) (by omega))
    have HAB := Lib.hid (fun wx => abs_any (x * y) wx (by omega))
    clear hbx hx hy hz hsx hsy hsz hxy hxz hax hay haz hgs hls hpar hA2 hM2 hSB hR2 hC1 hG2
    obtain ⟨c, hc⟩ : ∃ c, c = cmpZ x y := ⟨_, rfl⟩
    rw [← hc] at HC1 HC2
    obtain ⟨sm, hsm⟩ : ∃ s, s = zS (x * (y + z)) := ⟨_, rfl⟩
    rw [← hsm] at HR1 HR2
    obtain ⟨m, hm⟩ : ∃ s, s = zS (x * y) := ⟨_, rfl⟩
    rw [← hm] at HM1 HM2 HR2 HAB
    obtain ⟨k, hk⟩ : ∃ s, s = zS (x * z) := ⟨_, rfl⟩
    rw [← hk] at HK HR2
    obtain ⟨p, hp⟩ : ∃ s, s = zS (x + y) := ⟨_, rfl⟩
    rw [← hp] at HA1 HA2 HSB
    obtain ⟨q, hq⟩ : ∃ s, s = zS (y + z) := ⟨_, rfl⟩
    rw [← hq] at HQ HR1 HC1
    obtain ⟨r, hr⟩ : ∃ s, s = zS (x + z) := ⟨_, rfl⟩
    rw [← hr] at HZ HC1
    obtain ⟨g, hg⟩ : ∃ s, s = str (Nat.gcd x.natAbs y.natAbs) := ⟨_, rfl⟩
    rw [← hg] at HGC HG2
    obtain ⟨l, hl⟩ : ∃ s, s = str (lcmZ x y) := ⟨_, rfl⟩
    rw [← hl] at HLC HG2
    obtain ⟨a, ha⟩ : ∃ s, s = str (x * y).natAbs := ⟨_, rfl⟩
    rw [← ha] at HAB HG2
    obtain ⟨s, hs⟩ : ∃ s, s = zS x := ⟨_, rfl⟩
    obtain ⟨t, ht⟩ : ∃ s, s = zS y := ⟨_, rfl⟩
    obtain ⟨u, hu⟩ : ∃ s, s = zS z := ⟨_, rfl⟩
    rw [← hs] at HPA HA1 HA2 HM1 HM2 HSB HR1 HK HZ HC2 HGC HLC ⊢
    rw [← ht] at HA1 HA2 HM1 HM2 HSB HQ HC2 HGC HLC ⊢
    rw [← hu] at HQ HK HZ ⊢
    have e0 : (c == c) = true := beq_self_eq_true _
    have n1 : (s.toList != s.toList) = false := by rw [bne, beq_self_eq_true]; rfl
    have n2 : (p.toList != p.toList) = false := by rw [bne, beq_self_eq_true]; rfl
    have n3 : (m.toList != m.toList) = false := by rw [bne, beq_self_eq_true]; rfl
    have n4 : (sm.toList != sm.toList) = false := by rw [bne, beq_self_eq_true]; rfl
    have n5 : (a.toList == a.toList) = true := beq_self_eq_true _
    clear hc hsm hm hk hp hq hr hg hl ha hs ht hu
    go_wp2_with fail
    refine (HPA.out _).mono ?_
    rintro e w2 ⟨rfl, h2⟩
    have B2 := Lib.hid (X.out.trans (h2.mono X.out.size))
    clear h2
    go_wp2_with fail
    refine (HA1.out _ (HS.out.below B2.out)).mono ?_
    rintro e w3 ⟨rfl, h3⟩
    have B3 := Lib.hid (B2.out.trans (h3.mono B2.out.size))
    clear h3
    go_wp2_with fail
    refine (HA2.out _ (HS.out.below B3.out)).mono ?_
    rintro e w4 ⟨rfl, h4⟩
    have B4 := Lib.hid (B3.out.trans (h4.mono B3.out.size))
    clear h4
    go_wp2_with fail
    refine (HM1.out _ (HS.out.below B4.out)).mono ?_
    rintro e w5 ⟨rfl, h5⟩
    have B5 := Lib.hid (B4.out.trans (h5.mono B4.out.size))
    clear h5
    go_wp2_with fail
    refine (HM2.out _ (HS.out.below B5.out)).mono ?_
    rintro e w6 ⟨rfl, h6⟩
    have B6 := Lib.hid (B5.out.trans (h6.mono B5.out.size))
    clear h6
    go_wp2_with fail
    refine (HA1.out _ (HS.out.below B6.out)).mono ?_
    rintro e w7 ⟨rfl, h7⟩
    have B7 := Lib.hid (B6.out.trans (h7.mono B6.out.size))
    clear h7
    go_wp2_with fail
    refine (HSB.out _ (HS.out.below B7.out)).mono ?_
    rintro e w8 ⟨rfl, h8⟩
    have B8 := Lib.hid (B7.out.trans (h8.mono B7.out.size))
    clear h8
    go_wp2_with fail
    refine (HQ.out _ (HS.out.below B8.out)).mono ?_
    rintro e w9 ⟨rfl, h9⟩
    have B9 := Lib.hid (B8.out.trans (h9.mono B8.out.size))
    clear h9
    go_wp2_with fail
    refine (HR1.out _ (HS.out.below B9.out)).mono ?_
    rintro e w10 ⟨rfl, h10⟩
    have B10 := Lib.hid (B9.out.trans (h10.mono B9.out.size))
    clear h10
    go_wp2_with fail
    refine (HM1.out _ (HS.out.below B10.out)).mono ?_
    rintro e w11 ⟨rfl, h11⟩
    have B11 := Lib.hid (B10.out.trans (h11.mono B10.out.size))
    clear h11
    go_wp2_with fail
    refine (HK.out _ (HS.out.below B11.out)).mono ?_
    rintro e w12 ⟨rfl, h12⟩
    have B12 := Lib.hid (B11.out.trans (h12.mono B11.out.size))
    clear h12
    go_wp2_with fail
    refine (HR2.out _ (HS.out.below B12.out)).mono ?_
    rintro e w13 ⟨rfl, h13⟩
    have B13 := Lib.hid (B12.out.trans (h13.mono B12.out.size))
    clear h13
    go_wp2_with fail
    refine (HZ.out _ (HS.out.below B13.out)).mono ?_
    rintro e w14 ⟨rfl, h14⟩
    have B14 := Lib.hid (B13.out.trans (h14.mono B13.out.size))
    clear h14
    go_wp2_with fail
    refine (HQ.out _ (HS.out.below B14.out)).mono ?_
    rintro e w15 ⟨rfl, h15⟩
    have B15 := Lib.hid (B14.out.trans (h15.mono B14.out.size))
    clear h15
    go_wp2_with fail
    refine (HC1.out _).mono ?_
    rintro e w16 ⟨rfl, h16⟩
    have B16 := Lib.hid (B15.out.trans (h16.mono B15.out.size))
    clear h16
    go_wp2_with fail
    refine (HC2.out _).mono ?_
    rintro e w17 ⟨rfl, h17⟩
    have B17 := Lib.hid (B16.out.trans (h17.mono B16.out.size))
    clear h17
    go_wp2_with fail
    refine (HGC.out _ (HS.out.below B17.out)).mono ?_
    rintro e w18 ⟨rfl, h18⟩
    have B18 := Lib.hid (B17.out.trans (h18.mono B17.out.size))
    clear h18
    go_wp2_with fail
    refine (HLC.out _ (HS.out.below B18.out)).mono ?_
    rintro e w19 ⟨rfl, h19⟩
    have B19 := Lib.hid (B18.out.trans (h19.mono B18.out.size))
    clear h19
    go_wp2_with fail
    refine (HG2.out _ (HS.out.below B19.out)).mono ?_
    rintro e w20 ⟨rfl, h20⟩
    have B20 := Lib.hid (B19.out.trans (h20.mono B19.out.size))
    clear h20
    go_wp2_with fail
    refine (HM1.out _ (HS.out.below B20.out)).mono ?_
    rintro e w21 ⟨rfl, h21⟩
    have B21 := Lib.hid (B20.out.trans (h21.mono B20.out.size))
    clear h21
    go_wp2_with fail
    refine (HAB.out _).mono ?_
    rintro e w22 ⟨rfl, h22⟩
    have B22 := Lib.hid (B21.out.trans (h22.mono B21.out.size))
    clear h22
    go_wp2_with fail
    go_ret
    exact ⟨rfl, B22.out⟩
end Go.Proofs.YtjebddpapbopnaaGreatDoor
