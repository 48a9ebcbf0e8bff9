/-
  The law WholeGcds.
-/
import Derived.Test.YtjebddpapbopnaaGreatDoorZRBez
import Derived.Test.YtjebddpapbopnaaGreatDoorZBox3
namespace Go.Proofs.YtjebddpapbopnaaGreatDoor
open Go.RowKit

theorem mul28 {x k : Int} (hx : x.natAbs < 10 ^ 22) (hk : k.natAbs < 10 ^ 6) : (x * k).natAbs < 10 ^ 28 := by
  rw [Int.natAbs_mul, show (10 : Nat) ^ 28 = 10 ^ 22 * 10 ^ 6 from rfl]
  exact Nat.mul_lt_mul_of_lt_of_le hx (Nat.le_of_lt hk) (by decide)
theorem mul3 {b1 : Bool} {a1 : Option Addr} {l1 c1 : Nat} {b2 : Bool} {a2 : Option Addr} {l2 c2 : Nat} {b3 : Bool} {a3 : Option Addr} {l3 c3 : Nat} {w : World} (hs : Std w) (k : Int) (hk : k.natAbs < 10 ^ 6) (x : Int) (wx : World) (hx : x.natAbs < 10 ^ 22) (hb : Bx3 w wx b1 a1 l1 c1 b2 a2 l2 c2 b3 a3 l3 c3) :
    Calls Tryz.prog 38 #[.string (zS x), .string (zS k)] wx fun e w' => (∃ z : Int, e = .returned (.string (zS z)) ∧ z.natAbs < 10 ^ 28) ∧ Bx3 w w' b1 a1 l1 c1 b2 a2 l2 c2 b3 a3 l3 c3 := by
  have hsx := pow_size hx (by decide)
  have hsk := pow_size hk (by decide)
  exact (mulZR_any x k wx (hs.below hb.below) (by omega) (by omega)).mono fun _ _ h => ⟨⟨_, h.1, mul28 hx hk⟩, hb.to h.2⟩
set_option maxHeartbeats 3200000 in
set_option maxRecDepth 100000 in
theorem gcdsZ (b1 : Bool) (a1 : Option Addr) (l1 c1 : Nat) (z1 : List Int) (b2 : Bool) (a2 : Option Addr) (l2 c2 : Nat) (z2 : List Int) (b3 : Bool) (a3 : Option Addr) (l3 c3 : Nat) (z3 : List Int) (w : World) (hs : Std w) (h1 : IsRow .u8 w a1 l1 c1 z1) (h2 : IsRow .u8 w a2 l2 c2 z2) (h3 : IsRow .u8 w a3 l3 c3 z3) :
    Calls Tryz.prog 11 #[.agg #[.bool b1, .slice a1 l1 c1], .agg #[.bool b2, .slice a2 l2 c2], .agg #[.bool b3, .slice a3 l3 c3]] w fun e w' => e = .returned (.bool true) ∧ Below w.heap.size w w' := by
  have HS := Lib.hid hs
  have HX := Lib.hid (bx3 w b1 a1 l1 c1 b2 a2 l2 c2 b3 a3 l3 c3)
  have HM := Lib.hid (fun v wx hv hx => make3 (b1 := b1) (b2 := b2) (b3 := b3) h1 h2 h3 22 (by decide) v wx hv hx)
  have HM6 := Lib.hid (fun wx hx => make3 (b1 := b1) (b2 := b2) (b3 := b3) h1 h2 h3 6 (by decide) (.agg #[.bool b3, .slice a3 l3 c3]) wx (.inr (.inr rfl)) hx)
  clear hs h1 h2 h3
  go_enter Tryz.func11, Tryz.ntmps11
  go_wp2_with fail
  obtain ⟨W0, hW0⟩ : ∃ W0, W0 = ((w.alloc (numO b1 a1 l1 c1)).alloc (numO b2 a2 l2 c2)).alloc (numO b3 a3 l3 c3) := ⟨_, rfl⟩
  rw [← hW0] at HX ⊢
  clear hW0
  refine (knownZ_any _ (HS.out.below HX.out.below)).mono ?_
  rintro e w1 ⟨rfl, h1⟩
  have X1 := Lib.hid (HX.out.to h1)
  have r0 := X1.out.three.neg
  have r1 := X1.out.three.dig
  clear h1 HX
  go_wp2_with fail
  refine (HM6.out _ X1.out).mono ?_
  rintro e w2 ⟨⟨k, rfl, hk⟩, X2⟩
  have HK := Lib.hid (fun x wx hx hb => mul3 (b1 := b1) (a1 := a1) (l1 := l1) (c1 := c1) (b2 := b2) (a2 := a2) (l2 := l2) (c2 := c2) (b3 := b3) (a3 := a3) (l3 := l3) (c3 := c3) HS.out k hk x wx hx hb)
  obtain ⟨ks, hks⟩ : ∃ ks, ks = zS k := ⟨_, rfl⟩
  rw [← hks] at HK ⊢
  clear r0 r1 X1 HM6 hk hks
  go_upto_region 4 with fail
  go_cut [8, 9] from 20 to 27 (fun s t wx => ∃ x y : Int, s = .string (zS x) ∧ t = .string (zS y) ∧ x.natAbs < 10 ^ 28 ∧ y.natAbs < 10 ^ 28 ∧ Bx3 w wx b1 a1 l1 c1 b2 a2 l2 c2 b3 a3 l3 c3)
  case first =>
    have X3 := X2.to (Below.drew (Below.refl _ _))
    have p0 := X2.one.neg
    have p1 := X2.one.dig
    have q0 := X2.two.neg
    have q1 := X2.two.dig
    go_region_with (first | (go_at_call 20; refine (HM.out _ _ ?hv ?hb).mono ?_; (case hb => assumption); (case hv => first | exact .inl rfl | exact .inr (.inl rfl)); rintro e w' ⟨⟨z, rfl, hz⟩, hbx⟩; have hc0 := hbx.one.neg; have hc1 := hbx.one.dig; have hc2 := hbx.two.neg; have hc3 := hbx.two.dig) | (go_at_call 38; refine (HK.out _ _ ?hx ?hb).mono ?_; (case hb => assumption); (case hx => assumption); rintro e w' ⟨⟨z, rfl, hz⟩, hbx⟩; have hc0 := hbx.one.neg; have hc1 := hbx.one.dig; have hc2 := hbx.two.neg; have hc3 := hbx.two.dig))
    all_goals (go_wp2_with fail; go_meet; exact ⟨_, _, rfl, rfl, by assumption, by assumption, by assumption⟩)
  case rest =>
    obtain ⟨x, y, rfl, rfl, hx, hy, hbx⟩ := hcut
    clear X2 HM HK
    have X := Lib.hid hbx.below
    have hsx := pow_size hx (by decide)
    have hsy := pow_size hy (by decide)
    have HBW := Lib.hid (fun wx hw => bezW_any x y wx hw (by omega) (by omega))
    have HBR := Lib.hid (fun wx hw => bezR_any x y wx hw (by omega) (by omega))
    have HGW := Lib.hid (fun wx hw => gcdW_any x y wx hw (by omega) (by omega))
    have HGR := Lib.hid (fun wx hw => gcdZR_any x y wx hw (by omega) (by omega))
    have HLW := Lib.hid (fun wx hw => lcmW_any x y wx hw (by omega) (by omega))
    have HLR := Lib.hid (fun wx hw => lcmZR_any x y wx hw (by omega) (by omega))
    clear hbx hx hy hsx hsy
    obtain ⟨g, hg⟩ : ∃ s, s = str (Nat.gcd x.natAbs y.natAbs) := ⟨_, rfl⟩
    rw [← hg] at HBW HBR HGW HGR
    obtain ⟨l, hl⟩ : ∃ s, s = str (lcmZ x y) := ⟨_, rfl⟩
    rw [← hl] at HLW HLR
    obtain ⟨s, hs⟩ : ∃ s, s = zS x := ⟨_, rfl⟩
    obtain ⟨t, ht⟩ : ∃ s, s = zS y := ⟨_, rfl⟩
    rw [← hs] at HBW HBR HGW HGR HLW HLR ⊢
    rw [← ht] at HBW HBR HGW HGR HLW HLR ⊢
    have n1 : (g.toList == g.toList) = true := beq_self_eq_true _
    have n2 : (l.toList == l.toList) = true := beq_self_eq_true _
    clear hg hl hs ht
    go_wp2_with fail
    refine (HBW.out _ (HS.out.below X.out)).mono ?_
    rintro e w3 ⟨⟨u, v, rfl, z1⟩, h3⟩
    have B3 := Lib.hid (X.out.trans (h3.mono X.out.size))
    clear h3
    go_wp2_with fail
    refine (HBR.out _ (HS.out.below B3.out)).mono ?_
    rintro e w4 ⟨⟨p, q, rfl, z2⟩, h4⟩
    have B4 := Lib.hid (B3.out.trans (h4.mono B3.out.size))
    clear h4
    obtain ⟨rfl, rfl⟩ := z1.unique z2
    clear z1 z2
    obtain ⟨us, hus⟩ : ∃ s, s = zS u := ⟨_, rfl⟩
    obtain ⟨vs, hvs⟩ : ∃ s, s = zS v := ⟨_, rfl⟩
    rw [← hus, ← hvs]
    have n3 : (us.toList == us.toList) = true := beq_self_eq_true _
    have n4 : (vs.toList == vs.toList) = true := beq_self_eq_true _
    clear hus hvs
    go_wp2_with fail
    refine (HGW.out _ (HS.out.below B4.out)).mono ?_
    rintro e w5 ⟨rfl, h5⟩
    have B5 := Lib.hid (B4.out.trans (h5.mono B4.out.size))
    clear h5
    go_wp2_with fail
    refine (HGR.out _ (HS.out.below B5.out)).mono ?_
    rintro e w6 ⟨rfl, h6⟩
    have B6 := Lib.hid (B5.out.trans (h6.mono B5.out.size))
    clear h6
    go_wp2_with fail
    refine (HLW.out _ (HS.out.below B6.out)).mono ?_
    rintro e w7 ⟨rfl, h7⟩
    have B7 := Lib.hid (B6.out.trans (h7.mono B6.out.size))
    clear h7
    go_wp2_with fail
    refine (HLR.out _ (HS.out.below B7.out)).mono ?_
    rintro e w8 ⟨rfl, h8⟩
    have B8 := Lib.hid (B7.out.trans (h8.mono B7.out.size))
    clear h8
    go_wp2_with fail
    go_ret
    exact ⟨rfl, B8.out⟩
end Go.Proofs.YtjebddpapbopnaaGreatDoor
