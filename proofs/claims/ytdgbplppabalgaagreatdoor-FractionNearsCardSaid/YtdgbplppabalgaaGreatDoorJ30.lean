/-
  Texts of one seat, joined: YCeil YRest YNum.
-/
import Derived.Test.YtdgbplppabalgaaGreatDoorJ14
import Derived.Test.YtdgbplppabalgaaGreatDoorJ23
import Derived.Test.YtdgbplppabalgaaGreatDoorJ25
import Derived.Test.YtdgbplppabalgaaGreatDoorJ13
import Derived.Test.YtdgbplppabalgaaGreatDoorShelf2
import Derived.Test.YtdgbplppabalgaaGreatDoorJ16
namespace Go.Proofs.YtdgbplppabalgaaGreatDoor
open Go.RowKit

set_option maxHeartbeats 800000 in
theorem ceilF_any (n d : Int) (w : World) (hs : Std w) (hn : (str n.natAbs).size ≤ 400000) (hd : (str d.natAbs).size ≤ 400000) (h0 : d ≠ 0) (hq : (str ((-n).fdiv d).natAbs).size ≤ 1000000) :
    Calls Tryz.prog 55 #[ratV (zS n) (zS d)] w fun e w' => e = .returned (.string (zS (-((-n).fdiv d)))) ∧ Below w.heap.size w w' := by
  have HN := Lib.hid (fun wx => negF_any n (zS d) wx (by omega))
  have HF := Lib.hid (fun wx hw => floorF_any (-n) d wx hw (by rw [Int.natAbs_neg]; exact hn) hd h0)
  have HM := Lib.hid (fun wx => neg_any ((-n).fdiv d) wx hq)
  obtain ⟨s, hs2⟩ : ∃ s, s = zS n := ⟨_, rfl⟩
  obtain ⟨t, ht⟩ : ∃ s, s = zS d := ⟨_, rfl⟩
  obtain ⟨m, hm⟩ : ∃ s, s = zS (-n) := ⟨_, rfl⟩
  obtain ⟨q, hq2⟩ : ∃ s, s = zS ((-n).fdiv d) := ⟨_, rfl⟩
  obtain ⟨r, hr⟩ : ∃ s, s = zS (-((-n).fdiv d)) := ⟨_, rfl⟩
  rw [← hs2, ← hm, ← ht] at HN
  rw [← hm, ← ht, ← hq2] at HF
  rw [← hq2, ← hr] at HM
  rw [← hs2, ← ht, ← hr]
  have HX := BxR.new w s t
  have x0 := HX.num
  have x1 := HX.den
  have HB := Lib.hid ((Below.refl w.heap.size w).alloc (Nat.le_refl _) (ratO s t))
  have HS := Lib.hid hs
  clear hs2 ht hm hq2 hr HX hn hd h0 hq hs
  go_enter Tryz.func55, Tryz.ntmps55
  go_wp2_with fail
  refine (HN.out _).mono ?_
  rintro e w1 ⟨rfl, h1⟩
  have B1 := Lib.hid (HB.out.trans (h1.mono HB.out.size))
  clear h1
  go_wp2_with fail
  refine (HF.out _ (HS.out.below B1.out)).mono ?_
  rintro e w2 ⟨rfl, h2⟩
  have B2 := Lib.hid (B1.out.trans (h2.mono B1.out.size))
  clear h2
  go_wp2_with fail
  refine (HM.out _).mono ?_
  rintro e w3 ⟨rfl, h3⟩
  have B3 := Lib.hid (B2.out.trans (h3.mono B2.out.size))
  clear h3
  go_wp2_with fail
  go_ret
  exact ⟨rfl, B3.out⟩
end Go.Proofs.YtdgbplppabalgaaGreatDoor

namespace Go.Proofs.YtdgbplppabalgaaGreatDoor
open Go.RowKit

set_option maxHeartbeats 800000 in
theorem restF_any (n d : Int) (w : World) (hs : Std w) (hn : (str n.natAbs).size ≤ 400000) (hd : (str d.natAbs).size ≤ 400000) (h0 : d ≠ 0) :
    Calls Tryz.prog 58 #[ratV (zS n) (zS d)] w fun e w' => e = .returned (ratV (zS (n.fmod d)) (zS d)) ∧ Below w.heap.size w w' := by
  have HD := Lib.hid (fun wx hw => divW_any n d wx hw hn hd h0)
  obtain ⟨s, hs2⟩ : ∃ s, s = zS n := ⟨_, rfl⟩
  obtain ⟨t, ht⟩ : ∃ s, s = zS d := ⟨_, rfl⟩
  obtain ⟨q, hq⟩ : ∃ s, s = zS (n.fdiv d) := ⟨_, rfl⟩
  obtain ⟨r, hr⟩ : ∃ s, s = zS (n.fmod d) := ⟨_, rfl⟩
  rw [← hs2, ← ht, ← hq, ← hr] at HD
  rw [← hs2, ← ht, ← hr]
  have HX := Lib.hid (Bn.new w s t)
  have HS := Lib.hid hs
  clear hs2 ht hq hr hn hd h0 hs
  go_enter Tryz.func58, Tryz.ntmps58
  go_wp2_with fail
  obtain ⟨W0, hW0⟩ : ∃ W0, W0 = (w.alloc (ratO s t)).alloc (.cells #[.string ⟨#[]⟩, .string ⟨#[]⟩] 24) := ⟨_, rfl⟩
  rw [← hW0] at HX ⊢
  clear hW0
  refine (HD.out _ (HS.out.below HX.out.below)).mono ?_
  rintro e w1 ⟨rfl, h1⟩
  have Z1 := Lib.hid (HX.out.to h1)
  clear h1
  have c1 := Z1.out.box.den
  have hf0 := Z1.out.res.free 0
  have he0 := Z1.out.res.c0
  have he1 := Z1.out.res.c1
  have hS0 := Z1.out.res.set0 (.string r)
  have hS1 := hS0.set1 (.string t)
  have hf1 := hS0.free 1
  have hg1 := hS0.c1
  have hk0 := hS1.c0
  have hk1 := hS1.c1
  have HBE := Lib.hid ((Z1.out.below.setCell (p := ⟨w.heap.size + 1, 0, none⟩) (by show w.heap.size ≤ w.heap.size + 1; omega) (.string r)).setCell (p := ⟨w.heap.size + 1, 1, none⟩) (by show w.heap.size ≤ w.heap.size + 1; omega) (.string t))
  clear hS0 hS1
  go_wp2_with fail
  (try simp only [Exit.inBlock, Exit.then])
  refine bodyPost_ret (v := ratV r t) ?_ rfl ⟨rfl, HBE.out⟩
  rw [results_cell_one rfl]
  go_simp
end Go.Proofs.YtdgbplppabalgaaGreatDoor

namespace Go.Proofs.YtdgbplppabalgaaGreatDoor
open Go.RowKit

theorem trL (s : ByteArray) (wx : World) : Calls Tryz.prog 124 #[.string s, .string ⟨#[48]⟩] wx fun e w' => e = .returned (.string ⟨(Lib.trimLeftB s.data.toList 48).toArray⟩) ∧ wx = w' :=
  (Tryz.strings_TrimLeft_one s 48 (by decide) wx).mono fun _ _ h => ⟨h.1, h.2.symm⟩
theorem str_0 : str 0 = ⟨#[48]⟩ := (str_eq 0 (by decide) (by decide)).symm
theorem str_empty (n : Nat) : ((str n).toList == []) = false := by
  rw [Bool.eq_false_iff]; intro k
  have e := eq_of_beq k
  rw [Lib.toList_data] at e
  exact digL_ne (digL_str n) e
set_option maxHeartbeats 1600000 in
set_option maxRecDepth 100000 in
theorem numY_any (s : ByteArray) (w : World) (hd : digL s.data.toList = true) (hs : s.size ≤ 1000) :
    Calls Tryz.prog 90 #[.string s] w fun e w' => (∃ (b : Bool) (o : Option Addr) (c : Nat) (L : List Nat), e = .returned (whV b o c L) ∧ Wf w.heap.size w' b o c L ((val s.data.toList : Nat) : Int)) ∧ Below w.heap.size w w' := by
  have HL := Lib.hid (fun wx => trL s wx)
  rw [trim_val (digL_all hd)] at HL
  have hsz : (str (val s.data.toList)).size ≤ 1000 := val_size2 (digL_all hd) (by rw [← size_list]; exact hs) (by decide)
  have HT := Lib.hid (fun wx => toY_any ((val s.data.toList : Nat) : Int) wx (by rw [Int.natAbs_natCast]; omega))
  rw [zS_of_nat] at HT
  obtain ⟨v, hv⟩ : ∃ v, v = val s.data.toList := ⟨_, rfl⟩
  rw [← hv] at HL HT ⊢
  have HR0 := Lib.hid (BxO.new w w.heap.size (Nat.le_refl _) false (.slice none 0 0))
  have HB0 := Lib.hid ((Below.refl w.heap.size w).alloc (Nat.le_refl _) (.cells #[.bool false, .slice none 0 0] 43))
  clear hd hs hsz hv
  by_cases h : v = 0
  · rw [if_pos h] at HL
    rw [h, str_0] at HT
    subst h
    go_enter Tryz.func90, Tryz.ntmps90
    go_upto_region 1 with fail
    obtain ⟨W0, hW0⟩ : ∃ W0, W0 = w.alloc (.cells #[.bool false, .slice none 0 0] 43) := ⟨_, rfl⟩
    rw [← hW0] at HR0 HB0 ⊢
    have HLT := Lib.hid HR0.out.lt.2
    clear hW0
    go_wp2_with fail
    refine (HL.out _).mono ?_
    rintro e w1 ⟨rfl, b1⟩
    obtain rfl := b1
    go_wp2_with fail
    refine (HT.out _).mono ?_
    rintro e w2 ⟨⟨V, o, c, M, rfl, hwf⟩, hb2⟩
    have B2 := Lib.hid (HB0.out.trans (hb2.mono HB0.out.size))
    have R1 := Lib.hid (HR0.out.kept hb2)
    have HN := Lib.hid hwf.wh
    have HNW := Lib.hid (show NewO (w.heap.size + 1) o from hwf.new.mono (by have := HLT.out; omega))
    clear hb2 hwf
    try unfold whV
    obtain ⟨m, hm⟩ : ∃ m, m = M.length := ⟨_, rfl⟩
    have HM := Lib.hid hm
    rw [← hm]
    clear hm
    have f0 := R1.out.free 0
    have f1 := R1.out.free 1
    have e0 := R1.out.neg
    have e1 := R1.out.dig
    have Y1 := R1.out.set0 V
    have y1 := Y1.free 1
    have z1 := Y1.dig
    have Y2 := Y1.set1 (.slice o m c)
    have u0 := Y2.neg
    have u1 := Y2.dig
    have HBE := Lib.hid ((B2.out.setCell (p := ⟨w.heap.size, 0, none⟩) (Nat.le_refl _) (.bool V)).setCell (p := ⟨w.heap.size, 1, none⟩) (Nat.le_refl _) (.slice o m c))
    have HWE := Lib.hid ((HN.out.stored (w.heap.size) 0 (.bool V) (HNW.out.ne (by omega))).stored (w.heap.size) 1 (.slice o m c) (HNW.out.ne (by omega)))
    clear Y1 Y2 R1
    go_wp2_with fail
    (try simp only [Exit.inBlock, Exit.then])
    refine bodyPost_ret (v := .agg #[.bool V, .slice o m c]) ?_ rfl ⟨⟨V, o, c, M, by rw [HM.out], HWE.out, HNW.out.mono (by omega)⟩, HBE.out⟩
    rw [results_cell_one rfl]
    go_simp
  · rw [if_neg h] at HL
    have he := str_empty v
    obtain ⟨x, hx⟩ : ∃ x, x = str v := ⟨_, rfl⟩
    rw [← hx] at HL HT he
    clear h hx
    go_enter Tryz.func90, Tryz.ntmps90
    go_upto_region 1 with fail
    obtain ⟨W0, hW0⟩ : ∃ W0, W0 = w.alloc (.cells #[.bool false, .slice none 0 0] 43) := ⟨_, rfl⟩
    rw [← hW0] at HR0 HB0 ⊢
    have HLT := Lib.hid HR0.out.lt.2
    clear hW0
    go_wp2_with fail
    refine (HL.out _).mono ?_
    rintro e w1 ⟨rfl, b1⟩
    obtain rfl := b1
    go_wp2_with fail
    refine (HT.out _).mono ?_
    rintro e w2 ⟨⟨V, o, c, M, rfl, hwf⟩, hb2⟩
    have B2 := Lib.hid (HB0.out.trans (hb2.mono HB0.out.size))
    have R1 := Lib.hid (HR0.out.kept hb2)
    have HN := Lib.hid hwf.wh
    have HNW := Lib.hid (show NewO (w.heap.size + 1) o from hwf.new.mono (by have := HLT.out; omega))
    clear hb2 hwf
    try unfold whV
    obtain ⟨m, hm⟩ : ∃ m, m = M.length := ⟨_, rfl⟩
    have HM := Lib.hid hm
    rw [← hm]
    clear hm
    have f0 := R1.out.free 0
    have f1 := R1.out.free 1
    have e0 := R1.out.neg
    have e1 := R1.out.dig
    have Y1 := R1.out.set0 V
    have y1 := Y1.free 1
    have z1 := Y1.dig
    have Y2 := Y1.set1 (.slice o m c)
    have u0 := Y2.neg
    have u1 := Y2.dig
    have HBE := Lib.hid ((B2.out.setCell (p := ⟨w.heap.size, 0, none⟩) (Nat.le_refl _) (.bool V)).setCell (p := ⟨w.heap.size, 1, none⟩) (Nat.le_refl _) (.slice o m c))
    have HWE := Lib.hid ((HN.out.stored (w.heap.size) 0 (.bool V) (HNW.out.ne (by omega))).stored (w.heap.size) 1 (.slice o m c) (HNW.out.ne (by omega)))
    clear Y1 Y2 R1
    go_wp2_with fail
    (try simp only [Exit.inBlock, Exit.then])
    refine bodyPost_ret (v := .agg #[.bool V, .slice o m c]) ?_ rfl ⟨⟨V, o, c, M, by rw [HM.out], HWE.out, HNW.out.mono (by omega)⟩, HBE.out⟩
    rw [results_cell_one rfl]
    go_simp
end Go.Proofs.YtdgbplppabalgaaGreatDoor
