/-
  The law WholeSmall.
-/
import Derived.Test.YtjebddpapbopnaaGreatDoorZBox
namespace Go.Proofs.YtjebddpapbopnaaGreatDoor
open Go.RowKit

set_option maxHeartbeats 3200000 in
set_option maxRecDepth 100000 in
theorem smallLawZ (b : Bool) (a : Option Addr) (l c : Nat) (z : List Int) (w : World) (hs : Std w) (h : IsRow .u8 w a l c z) :
    Calls Tryz.prog 4 #[.agg #[.bool b, .slice a l c]] w fun e w' => e = .returned (.bool true) ∧ Below w.heap.size w w' := by
  have HS := Lib.hid hs
  have HX := Lib.hid (Bx.new w b a l c)
  have HB0 := Lib.hid ((Below.refl _ w).alloc (Nat.le_refl _) (numO b a l c))
  have HM := Lib.hid (fun (wx : World) (hb : Below w.heap.size w wx) => makeZ_any b a l c z 25 wx (h.below hb) (by decide))
  clear hs h
  go_enter Tryz.func4, Tryz.ntmps4
  go_wp2_with fail
  obtain ⟨W0, hW0⟩ : ∃ W0, W0 = w.alloc (numO b a l c) := ⟨_, rfl⟩
  rw [← hW0] at HX HB0 ⊢
  clear hW0
  refine (knownZ_any _ (HS.out.below HB0.out)).mono ?_
  rintro e w1 ⟨rfl, h1⟩
  have X1 := Lib.hid (HX.out.below h1)
  have B1 := Lib.hid (HB0.out.trans (h1.mono HB0.out.size))
  have p0 := X1.out.neg
  have p1 := X1.out.dig
  clear h1
  go_wp2_with fail
  refine (HM.out _ B1.out).mono ?_
  rintro e w2 ⟨⟨x, rfl, hx⟩, h2⟩
  have B2 := Lib.hid (B1.out.trans (h2.mono B1.out.size))
  clear h2 p0 p1
  have hsx := pow_size hx (by decide)
  have HA := Lib.hid (fun wx hw => smallW_any x wx hw (by omega))
  have HR := Lib.hid (fun wx => smallZ_any x wx (by omega))
  obtain ⟨s, hs⟩ : ∃ s, s = zS x := ⟨_, rfl⟩
  obtain ⟨V, hV⟩ : ∃ s, s = smV x := ⟨_, rfl⟩
  obtain ⟨I, hI⟩ : ∃ s, s = inI x := ⟨_, rfl⟩
  rw [← hs] at HA HR ⊢
  rw [← hV, ← hI] at HA HR
  have e1 : (V == V) = true := beq_self_eq_true _
  clear hs hV hI hsx hx
  cases I
  all_goals
    go_wp2_with fail
    refine (HA.out _ (HS.out.below B2.out)).mono ?_
    rintro e w3 ⟨rfl, h3⟩
    have B3 := Lib.hid (B2.out.trans (h3.mono B2.out.size))
    clear h3
    go_wp2_with fail
    refine (HR.out _).mono ?_
    rintro e w4 ⟨rfl, rfl⟩
    go_wp2_with fail
    go_ret
    exact ⟨rfl, B3.out⟩
end Go.Proofs.YtjebddpapbopnaaGreatDoor
