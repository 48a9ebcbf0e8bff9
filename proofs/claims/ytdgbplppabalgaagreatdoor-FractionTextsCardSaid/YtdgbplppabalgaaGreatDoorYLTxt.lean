/-
  The law FractionTexts: the walk.
-/
import Derived.Test.YtdgbplppabalgaaGreatDoorJ24
import Derived.Test.YtdgbplppabalgaaGreatDoorJ20
import Derived.Test.YtdgbplppabalgaaGreatDoorJ25
import Derived.Deep.RegionHeld3
namespace Go.Proofs.YtdgbplppabalgaaGreatDoor
open Go.RowKit

theorem Rw.new1 (w : World) (s t : ByteArray) (T : TypeId) : Rw (w.alloc (.cells #[.string s, .string t] T)) w.heap.size [s, t] :=
  ⟨by rw [push_size]; omega, fun i hi => by
    match i, hi with
    | 0, _ => rw [World.cell?_alloc_new]; rfl
    | 1, _ => rw [World.cell?_alloc_new]; rfl⟩
set_option maxHeartbeats 3200000 in
set_option maxRecDepth 100000 in
theorem lawTexts_any (s t : ByteArray) (w : World) (hs : Stf w) :
    Calls Tryz.prog 5 #[ratV s t] w fun e w' => e = .returned (.bool true) ∧ Below w.heap.size w w' := by
  have HS := Lib.hid hs
  have HK := Lib.hid (fun wx (hw : Stf wx) => knownF_any wx hw)
  have HF := Lib.hid (fun g wx (hw : Stf wx) (hr : Rw wx g [s, t]) => fits1_any s t g wx hw hr)
  have HZ := Lib.hid (Bi.new w s t)
  cases hok : okF s t with
  | false =>
    rw [hok] at HF
    clear hok hs
    go_enter Tryz.func5, Tryz.ntmps5
    go_upto_region 1 with fail
    obtain ⟨W0, hW0⟩ : ∃ W0, W0 = w.alloc (ratO s t) := ⟨_, rfl⟩
    rw [← hW0] at HZ ⊢
    clear hW0
    have c0 := HZ.out.box.num
    have d0 := HZ.out.box.den
    go_wp2_with fail
    refine (HK.out _ (HS.out.below HZ.out.below)).mono ?_
    rintro e w1 ⟨rfl, b1⟩
    have Z1 := Lib.hid (HZ.out.to b1)
    clear b1
    have c1 := Z1.out.box.num
    have d1 := Z1.out.box.den
    clear c0 d0
    go_wp2_with fail
    have ZA := Lib.hid (Z1.out.to ((Below.refl _ _).alloc (Nat.le_refl _) (.cells #[.string s, .string t] 24)))
    refine (HF.out _ _ ?hss ?hrw).mono ?_
    case hss => exact HS.out.below ZA.out.below
    case hrw => exact Rw.new1 w1 s t 24
    rintro e w2 ⟨rfl, b2⟩
    have Z2 := Lib.hid (ZA.out.to b2)
    have c2 := Z2.out.box.num
    have d2 := Z2.out.box.den
    clear b2 c1 d1 ZA
    go_wp2_with fail
    refine (HK.out _ (HS.out.below Z2.out.below)).mono ?_
    rintro e w3 ⟨rfl, b3⟩
    have Z3 := Lib.hid (Z2.out.to b3)
    clear b3
    go_wp2_with fail
    go_ret
    exact ⟨rfl, Z3.out.below⟩
  | true =>
    rw [hok] at HF
    unfold okF at hok
    rw [Bool.and_eq_true, Bool.not_eq_true'] at hok
    have hz := okF_size hok.1
    have HTX := Lib.hid (fun wx => textF_any s t wx (by omega) (by omega))
    have HTY := Lib.hid (fun wx => textY_any s t wx (by omega) (by omega))
    have HP := Lib.hid (fun wx (hw : Stf wx) => paF_any (rtxt s t) wx hw)
    rw [ri_text hok.2 hz.1 hz.2] at HP
    obtain ⟨x, hx⟩ : ∃ x, x = rtxt s t := ⟨_, rfl⟩
    rw [← hx] at HTX HTY HP
    clear hok hs hz hx
    go_enter Tryz.func5, Tryz.ntmps5
    go_upto_region 1 with fail
    obtain ⟨W0, hW0⟩ : ∃ W0, W0 = w.alloc (ratO s t) := ⟨_, rfl⟩
    rw [← hW0] at HZ ⊢
    clear hW0
    have c0 := HZ.out.box.num
    have d0 := HZ.out.box.den
    go_wp2_with fail
    refine (HK.out _ (HS.out.below HZ.out.below)).mono ?_
    rintro e w1 ⟨rfl, b1⟩
    have Z1 := Lib.hid (HZ.out.to b1)
    clear b1
    have c1 := Z1.out.box.num
    have d1 := Z1.out.box.den
    clear c0 d0
    go_wp2_with fail
    have ZA := Lib.hid (Z1.out.to ((Below.refl _ _).alloc (Nat.le_refl _) (.cells #[.string s, .string t] 24)))
    refine (HF.out _ _ ?hss ?hrw).mono ?_
    case hss => exact HS.out.below ZA.out.below
    case hrw => exact Rw.new1 w1 s t 24
    rintro e w2 ⟨rfl, b2⟩
    have Z2 := Lib.hid (ZA.out.to b2)
    have c2 := Z2.out.box.num
    have d2 := Z2.out.box.den
    clear b2 c1 d1 ZA
    go_wp2_with fail
    refine (HTX.out _ ).mono ?_
    rintro e w3 ⟨rfl, b3⟩
    have Z3 := Lib.hid (Z2.out.to b3)
    clear b3
    have c3 := Z3.out.box.num
    have d3 := Z3.out.box.den
    go_wp2_with fail
    refine (HP.out _ (HS.out.below Z3.out.below)).mono ?_
    rintro e w4 ⟨rfl, b4⟩
    have Z4 := Lib.hid (Z3.out.to b4)
    clear b4
    have c4 := Z4.out.box.num
    have d4 := Z4.out.box.den
    go_upto_region 4 with fail
    have P4 := Lib.hid (BxR.new w4 s t)
    have Z5 := Lib.hid (Z4.out.to ((Below.refl _ _).alloc (Nat.le_refl _) (ratO s t)))
    obtain ⟨gp, hgp⟩ : ∃ g, g = w4.heap.size := ⟨_, rfl⟩
    obtain ⟨W5, hW5⟩ : ∃ W5, W5 = w4.alloc (ratO s t) := ⟨_, rfl⟩
    rw [← hgp, ← hW5] at P4
    rw [← hW5] at Z5
    rw [← hW5, ← hgp]
    clear hgp hW5 c2 d2 c3 d3 c4 d4
    have X0 := Lib.hid (Z5.out.to (Below.drew (Below.refl _ _)))
    have P0 := Lib.hid (P4.out.below (Below.drew (Below.refl _ _)))
    go_region_held3 (fun W => W.cell? ⟨w.heap.size, 0, none⟩ = some (.string s) ∧ W.cell? ⟨w.heap.size, 1, none⟩ = some (.string t) ∧ W.cell? ⟨gp, 0, none⟩ = some (.string s) ∧ W.cell? ⟨gp, 1, none⟩ = some (.string t)) (first | exact ⟨X2.out.box.num, X2.out.box.den, P2.out.num, P2.out.den⟩ | exact ⟨X1.out.box.num, X1.out.box.den, P1.out.num, P1.out.den⟩ | exact ⟨X0.out.box.num, X0.out.box.den, P0.out.num, P0.out.den⟩) (first | (go_at_call 29; have g0 := X1.out; refine (HTY.out _).mono ?_; rintro e w7 ⟨rfl, h2⟩; have X2 := Lib.hid (g0.to h2); have P2 := Lib.hid (P1.out.below h2); clear h2 g0) | (go_at_call 28; refine (HTX.out _).mono ?_; rintro e w6 ⟨rfl, h1⟩; have X1 := Lib.hid (X0.out.to h1); have P1 := Lib.hid (P0.out.below h1); clear h1))
    all_goals (
      go_wp2_with fail
      go_ret
      exact ⟨rfl, X2.out.below⟩)
end Go.Proofs.YtdgbplppabalgaaGreatDoor
