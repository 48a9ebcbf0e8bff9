/-
  The law WholeOrders.
-/
import Derived.Test.YtjebddpapbopnaaGreatDoorZBox
namespace Go.Proofs.YtjebddpapbopnaaGreatDoor
open Go.RowKit

set_option maxHeartbeats 3200000 in
set_option maxRecDepth 100000 in
theorem ordersZ (b1 : Bool) (a1 : Option Addr) (l1 c1 : Nat) (z1 : List Int) (b2 : Bool) (a2 : Option Addr) (l2 c2 : Nat) (z2 : List Int) (w : World) (hs : Std w) (h1 : IsRow .u8 w a1 l1 c1 z1) (h2 : IsRow .u8 w a2 l2 c2 z2) :
    Calls Tryz.prog 6 #[.agg #[.bool b1, .slice a1 l1 c1], .agg #[.bool b2, .slice a2 l2 c2]] w fun e w' => e = .returned (.bool true) ∧ Below w.heap.size w w' := by
  have HS := Lib.hid hs
  have HX := Lib.hid (bx2 w b1 a1 l1 c1 b2 a2 l2 c2)
  have HM := Lib.hid (fun v wx hv hx => make2 (b1 := b1) (b2 := b2) h1 h2 80 (by decide) v wx hv hx)
  clear hs h1 h2
  go_enter Tryz.func6, Tryz.ntmps6
  go_wp2_with fail
  obtain ⟨W0, hW0⟩ : ∃ W0, W0 = (w.alloc (numO b1 a1 l1 c1)).alloc (numO b2 a2 l2 c2) := ⟨_, rfl⟩
  rw [← hW0] at HX ⊢
  clear hW0
  refine (knownZ_any _ (HS.out.below HX.out.below)).mono ?_
  rintro e w1 ⟨rfl, h1⟩
  have X1 := HX.out.to h1
  clear h1 HX
  go_upto_region 3 with fail
  go_cut [5, 6] from 9 to 12 (fun s t wx => ∃ x y : Int, s = .string (zS x) ∧ t = .string (zS y) ∧ x.natAbs < 10 ^ 80 ∧ y.natAbs < 10 ^ 80 ∧ Bx2 w wx b1 a1 l1 c1 b2 a2 l2 c2)
  case first =>
    have X2 := X1.to (Below.drew (Below.refl _ _))
    have p0 := X1.one.neg
    have p1 := X1.one.dig
    have q0 := X1.two.neg
    have q1 := X1.two.dig
    go_region_with (go_at_call 20; refine (HM.out _ _ ?hv ?hb).mono ?_; (case hb => assumption); (case hv => first | exact .inl rfl | exact .inr rfl); rintro e w' ⟨⟨z, rfl, hz⟩, hbx⟩; have hc0 := hbx.one.neg; have hc1 := hbx.one.dig; have hc2 := hbx.two.neg; have hc3 := hbx.two.dig)
    all_goals (go_wp2_with fail; go_meet; exact ⟨_, _, rfl, rfl, by assumption, by assumption, by assumption⟩)
  case rest =>
    obtain ⟨x, y, rfl, rfl, hx, hy, hbx⟩ := hcut
    clear X1 HM
    have X := Lib.hid hbx.below
    have HX2 := Lib.hid hbx
    have hsx := pow_size hx (by decide)
    have hsy := pow_size hy (by decide)
    clear hbx hx hy
    have HSX := Lib.hid (fun wx => sign_any x wx (by omega))
    have HSR := Lib.hid (fun wx => signR_any x wx (by omega))
    have HC := Lib.hid (fun wx => cmpW_any x y wx (by omega) (by omega))
    have HCR := Lib.hid (fun wx => cmpR_any x y wx (by omega) (by omega))
    have HN := Lib.hid (fun wx => neg_any x wx (by omega))
    have HNR := Lib.hid (fun wx => negR_any x wx (by omega))
    have HA := Lib.hid (fun wx => abs_any x wx (by omega))
    have HAR := Lib.hid (fun wx => absR_any x wx (by omega))
    obtain ⟨s, hs⟩ : ∃ s, s = zS x := ⟨_, rfl⟩
    obtain ⟨t, ht⟩ : ∃ s, s = zS y := ⟨_, rfl⟩
    obtain ⟨n, hn⟩ : ∃ s, s = zS (-x) := ⟨_, rfl⟩
    obtain ⟨a, ha⟩ : ∃ s, s = str x.natAbs := ⟨_, rfl⟩
    obtain ⟨g, hg⟩ : ∃ g, g = sgnI x := ⟨_, rfl⟩
    obtain ⟨c, hc⟩ : ∃ g, g = cmpZ x y := ⟨_, rfl⟩
    rw [← hs] at HSX HSR HC HCR HN HNR HA HAR ⊢
    rw [← ht] at HC HCR ⊢
    rw [← hn] at HN HNR
    rw [← ha] at HA HAR
    rw [← hg] at HSX HSR
    rw [← hc] at HC HCR
    have e1 : (g == g) = true := beq_self_eq_true _
    have e2 : (c == c) = true := beq_self_eq_true _
    have e3 : (n.toList == n.toList) = true := beq_self_eq_true _
    have e4 : (a.toList == a.toList) = true := beq_self_eq_true _
    clear hs ht hn ha hg hc hsx hsy
    go_wp2_with fail
    refine (HSX.out _).mono ?_
    rintro e w2 ⟨rfl, rfl⟩
    go_wp2_with fail
    refine (HSR.out _).mono ?_
    rintro e w3 ⟨rfl, rfl⟩
    go_wp2_with fail
    refine (HC.out _).mono ?_
    rintro e w4 ⟨rfl, h4⟩
    have B4 := Lib.hid (X.out.trans (h4.mono X.out.size))
    clear h4
    go_wp2_with fail
    refine (HCR.out _).mono ?_
    rintro e w5 ⟨rfl, rfl⟩
    go_wp2_with fail
    refine (HN.out _).mono ?_
    rintro e w6 ⟨rfl, h6⟩
    have B6 := Lib.hid (B4.out.trans (h6.mono B4.out.size))
    clear h6
    go_wp2_with fail
    refine (HNR.out _).mono ?_
    rintro e w7 ⟨rfl, rfl⟩
    go_wp2_with fail
    refine (HA.out _).mono ?_
    rintro e w8 ⟨rfl, h8⟩
    have B8 := Lib.hid (B6.out.trans (h8.mono B6.out.size))
    clear h8
    go_wp2_with fail
    refine (HAR.out _).mono ?_
    rintro e w9 ⟨rfl, rfl⟩
    go_wp2_with fail
    go_ret
    exact ⟨rfl, B8.out⟩
end Go.Proofs.YtjebddpapbopnaaGreatDoor
