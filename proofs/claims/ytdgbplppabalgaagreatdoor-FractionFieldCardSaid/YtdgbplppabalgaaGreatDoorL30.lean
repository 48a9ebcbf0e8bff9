/-
  Texts of one seat, joined: YRest.
-/
import Derived.Test.YtdgbplppabalgaaGreatDoorJ14
namespace Go.Proofs.YtdgbplppabalgaaGreatDoor
open Go.RowKit

set_option maxHeartbeats 800000 in
theorem restF_any (n d : Int) (w : World) (hs : Std w) (hn : (str n.natAbs).size ≤ 400000) (hd : (str d.natAbs).size ≤ 400000) (h0 : d ≠ 0) :
    Calls Tryz.prog 58 #[ratV (zS n) (zS d)] w fun e w' => e = .returned (ratV (zS (n.fmod d)) (zS d)) ∧ Below w.heap.size w w' := by
  have HD := Lib.hid (fun wx hw => divW_any n d wx hw hn hd h0)
  obtain ⟨s, hs2⟩ : ∃ s, s = zS n := ⟨_, rfl⟩
  obtain ⟨t, ht⟩ : ∃ s, s = zS d := ⟨_, rfl⟩
  obtain ⟨q, hq⟩ : ∃ s, s = zS (n.fdiv d) := ⟨_, rfl⟩
  obtain ⟨r, hr⟩ : ∃ s, s = zS (n.fmod d) := ⟨_, rfl⟩
  rw [← hs2, ← ht, ← hq, ← hr] at HD
  rw [← hs2, ← ht, ← hr]
  have HX := Lib.hid (Bn.new w s t)
  have HS := Lib.hid hs
  clear hs2 ht hq hr hn hd h0 hs
  go_enter Tryz.func58, Tryz.ntmps58
  go_wp2_with fail
  obtain ⟨W0, hW0⟩ : ∃ W0, W0 = (w.alloc (ratO s t)).alloc (.cells #[.string ⟨#[]⟩, .string ⟨#[]⟩] 24) := ⟨_, rfl⟩
  rw [← hW0] at HX ⊢
  clear hW0
  refine (HD.out _ (HS.out.below HX.out.below)).mono ?_
  rintro e w1 ⟨rfl, h1⟩
  have Z1 := Lib.hid (HX.out.to h1)
  clear h1
  have c1 := Z1.out.box.den
  have hf0 := Z1.out.res.free 0
  have he0 := Z1.out.res.c0
  have he1 := Z1.out.res.c1
  have hS0 := Z1.out.res.set0 (.string r)
  have hS1 := hS0.set1 (.string t)
  have hf1 := hS0.free 1
  have hg1 := hS0.c1
  have hk0 := hS1.c0
  have hk1 := hS1.c1
  have HBE := Lib.hid ((Z1.out.below.setCell (p := ⟨w.heap.size + 1, 0, none⟩) (by show w.heap.size ≤ w.heap.size + 1; omega) (.string r)).setCell (p := ⟨w.heap.size + 1, 1, none⟩) (by show w.heap.size ≤ w.heap.size + 1; omega) (.string t))
  clear hS0 hS1
  go_wp2_with fail
  (try simp only [Exit.inBlock, Exit.then])
  refine bodyPost_ret (v := ratV r t) ?_ rfl ⟨rfl, HBE.out⟩
  rw [results_cell_one rfl]
  go_simp
end Go.Proofs.YtdgbplppabalgaaGreatDoor
