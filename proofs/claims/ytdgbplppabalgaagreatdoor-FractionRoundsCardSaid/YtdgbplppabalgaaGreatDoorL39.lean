/-
  Texts of one seat, joined: YCeil.
-/
import Derived.Test.YtdgbplppabalgaaGreatDoorJ14
namespace Go.Proofs.YtdgbplppabalgaaGreatDoor
open Go.RowKit

set_option maxHeartbeats 800000 in
theorem ceilF_any (n d : Int) (w : World) (hs : Std w) (hn : (str n.natAbs).size ≤ 400000) (hd : (str d.natAbs).size ≤ 400000) (h0 : d ≠ 0) (hq : (str ((-n).fdiv d).natAbs).size ≤ 1000000) :
    Calls Tryz.prog 55 #[ratV (zS n) (zS d)] w fun e w' => e = .returned (.string (zS (-((-n).fdiv d)))) ∧ Below w.heap.size w w' := by
  have HN := Lib.hid (fun wx => negF_any n (zS d) wx (by omega))
  have HF := Lib.hid (fun wx hw => floorF_any (-n) d wx hw (by rw [Int.natAbs_neg]; exact hn) hd h0)
  have HM := Lib.hid (fun wx => neg_any ((-n).fdiv d) wx hq)
  obtain ⟨s, hs2⟩ : ∃ s, s = zS n := ⟨_, rfl⟩
  obtain ⟨t, ht⟩ : ∃ s, s = zS d := ⟨_, rfl⟩
  obtain ⟨m, hm⟩ : ∃ s, s = zS (-n) := ⟨_, rfl⟩
  obtain ⟨q, hq2⟩ : ∃ s, s = zS ((-n).fdiv d) := ⟨_, rfl⟩
  obtain ⟨r, hr⟩ : ∃ s, s = zS (-((-n).fdiv d)) := ⟨_, rfl⟩
  rw [← hs2, ← hm, ← ht] at HN
  rw [← hm, ← ht, ← hq2] at HF
  rw [← hq2, ← hr] at HM
  rw [← hs2, ← ht, ← hr]
  have HX := BxR.new w s t
  have x0 := HX.num
  have x1 := HX.den
  have HB := Lib.hid ((Below.refl w.heap.size w).alloc (Nat.le_refl _) (ratO s t))
  have HS := Lib.hid hs
  clear hs2 ht hm hq2 hr HX hn hd h0 hq hs
  go_enter Tryz.func55, Tryz.ntmps55
  go_wp2_with fail
  refine (HN.out _).mono ?_
  rintro e w1 ⟨rfl, h1⟩
  have B1 := Lib.hid (HB.out.trans (h1.mono HB.out.size))
  clear h1
  go_wp2_with fail
  refine (HF.out _ (HS.out.below B1.out)).mono ?_
  rintro e w2 ⟨rfl, h2⟩
  have B2 := Lib.hid (B1.out.trans (h2.mono B1.out.size))
  clear h2
  go_wp2_with fail
  refine (HM.out _).mono ?_
  rintro e w3 ⟨rfl, h3⟩
  have B3 := Lib.hid (B2.out.trans (h3.mono B2.out.size))
  clear h3
  go_wp2_with fail
  go_ret
  exact ⟨rfl, B3.out⟩
end Go.Proofs.YtdgbplppabalgaaGreatDoor
