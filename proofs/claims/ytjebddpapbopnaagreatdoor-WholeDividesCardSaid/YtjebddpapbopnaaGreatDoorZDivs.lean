/-
  The law WholeDivides.
-/
import Derived.Test.YtjebddpapbopnaaGreatDoorZRDiv
namespace Go.Proofs.YtjebddpapbopnaaGreatDoor
open Go.RowKit

set_option maxHeartbeats 3200000 in
set_option maxRecDepth 100000 in
theorem dividesZ (b1 : Bool) (a1 : Option Addr) (l1 c1 : Nat) (z1 : List Int) (b2 : Bool) (a2 : Option Addr) (l2 c2 : Nat) (z2 : List Int) (w : World) (hs : Std w) (h1 : IsRow .u8 w a1 l1 c1 z1) (h2 : IsRow .u8 w a2 l2 c2 z2) :
    Calls Tryz.prog 10 #[.agg #[.bool b1, .slice a1 l1 c1], .agg #[.bool b2, .slice a2 l2 c2]] w fun e w' => e = .returned (.bool true) ∧ Below w.heap.size w w' := by
  have HS := Lib.hid hs
  have HX := Lib.hid (bx2 w b1 a1 l1 c1 b2 a2 l2 c2)
  have HM := Lib.hid (fun v wx hv hx => make2 (b1 := b1) (b2 := b2) h1 h2 60 (by decide) v wx hv hx)
  clear hs h1 h2
  go_enter Tryz.func10, Tryz.ntmps10
  go_wp2_with fail
  obtain ⟨W0, hW0⟩ : ∃ W0, W0 = (w.alloc (numO b1 a1 l1 c1)).alloc (numO b2 a2 l2 c2) := ⟨_, rfl⟩
  rw [← hW0] at HX ⊢
  clear hW0
  refine (knownZ_any _ (HS.out.below HX.out.below)).mono ?_
  rintro e w1 ⟨rfl, h1⟩
  have X1 := HX.out.to h1
  clear h1 HX
  go_upto_region 3 with fail
  go_cut [5, 6] from 14 to 17 (fun s t wx => ∃ x y : Int, s = .string (zS x) ∧ t = .string (zS y) ∧ x.natAbs < 10 ^ 60 ∧ y.natAbs < 10 ^ 60 ∧ Bx2 w wx b1 a1 l1 c1 b2 a2 l2 c2)
  case first =>
    have X2 := X1.to (Below.drew (Below.refl _ _))
    have p0 := X1.one.neg
    have p1 := X1.one.dig
    have q0 := X1.two.neg
    have q1 := X1.two.dig
    go_region_with (go_at_call 20; refine (HM.out _ _ ?hv ?hb).mono ?_; (case hb => assumption); (case hv => first | exact .inl rfl | exact .inr rfl); rintro e w' ⟨⟨z, rfl, hz⟩, hbx⟩; have hc0 := hbx.one.neg; have hc1 := hbx.one.dig; have hc2 := hbx.two.neg; have hc3 := hbx.two.dig)
    all_goals (go_wp2_with fail; go_meet; exact ⟨_, _, rfl, rfl, by assumption, by assumption, by assumption⟩)
  case rest =>
    obtain ⟨x, y, rfl, rfl, hx, hy, hbx⟩ := hcut
    clear X1 HM
    have X := Lib.hid hbx.below
    have HX2 := Lib.hid hbx
    have hsx := pow_size hx (by decide)
    have hsy := pow_size hy (by decide)
    clear hbx hx hy
    by_cases hy0 : y = 0
    · have hyz : ((zS y).toList == [48]) = true := by rw [(zF y (by omega)).zero]; exact decide_eq_true hy0
      have HD := Lib.hid (fun wx hw => divW_zero x y wx hw (by omega) hy0)
      obtain ⟨s, hs⟩ : ∃ s, s = zS x := ⟨_, rfl⟩
      obtain ⟨t, ht⟩ : ∃ s, s = zS y := ⟨_, rfl⟩
      rw [← hs] at HD ⊢
      rw [← ht] at HD hyz ⊢
      clear hs ht hsx hsy hy0
      go_wp2_with fail
      refine (HD.out _ (HS.out.below X.out)).mono ?_
      rintro e w2 ⟨rfl, h2⟩
      have B2 := Lib.hid (X.out.trans (h2.mono X.out.size))
      clear h2
      go_wp2_with fail
      go_ret
      exact ⟨rfl, B2.out⟩
    · have hyz : ((zS y).toList == [48]) = false := by rw [(zF y (by omega)).zero]; exact decide_eq_false hy0
      have HD := Lib.hid (fun wx hw => divW_any x y wx hw (by omega) (by omega) hy0)
      have HR := Lib.hid (fun wx hw => divZR_any x y wx hw (by omega) (by omega) hy0)
      obtain ⟨s, hs⟩ : ∃ s, s = zS x := ⟨_, rfl⟩
      obtain ⟨t, ht⟩ : ∃ s, s = zS y := ⟨_, rfl⟩
      obtain ⟨q, hq⟩ : ∃ s, s = zS (x.fdiv y) := ⟨_, rfl⟩
      obtain ⟨r, hr⟩ : ∃ s, s = zS (x.fmod y) := ⟨_, rfl⟩
      rw [← hs] at HD HR ⊢
      rw [← ht] at HD HR hyz ⊢
      rw [← hq, ← hr] at HD HR
      have e1 : (q.toList == q.toList) = true := beq_self_eq_true _
      have e2 : (r.toList == r.toList) = true := beq_self_eq_true _
      clear hs ht hq hr hsx hsy hy0
      go_wp2_with fail
      refine (HD.out _ (HS.out.below X.out)).mono ?_
      rintro e w2 ⟨rfl, h2⟩
      have B2 := Lib.hid (X.out.trans (h2.mono X.out.size))
      clear h2
      go_wp2_with fail
      refine (HR.out _ (HS.out.below B2.out)).mono ?_
      rintro e w3 ⟨rfl, h3⟩
      have B3 := Lib.hid (B2.out.trans (h3.mono B2.out.size))
      clear h3
      go_wp2_with fail
      go_ret
      exact ⟨rfl, B3.out⟩
end Go.Proofs.YtjebddpapbopnaaGreatDoor
