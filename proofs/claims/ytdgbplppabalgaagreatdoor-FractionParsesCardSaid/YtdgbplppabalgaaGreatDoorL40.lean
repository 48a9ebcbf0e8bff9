/-
  Texts of one seat, joined: YNum.
-/
import Derived.Test.YtdgbplppabalgaaGreatDoorJ23
import Derived.Test.YtdgbplppabalgaaGreatDoorJ25
import Derived.Test.YtdgbplppabalgaaGreatDoorJ13
import Derived.Test.YtdgbplppabalgaaGreatDoorShelf2
import Derived.Test.YtdgbplppabalgaaGreatDoorJ16
namespace Go.Proofs.YtdgbplppabalgaaGreatDoor
open Go.RowKit

theorem trL (s : ByteArray) (wx : World) : Calls Tryz.prog 124 #[.string s, .string ⟨#[48]⟩] wx fun e w' => e = .returned (.string ⟨(Lib.trimLeftB s.data.toList 48).toArray⟩) ∧ wx = w' :=
  (Tryz.strings_TrimLeft_one s 48 (by decide) wx).mono fun _ _ h => ⟨h.1, h.2.symm⟩
theorem str_0 : str 0 = ⟨#[48]⟩ := (str_eq 0 (by decide) (by decide)).symm
theorem str_empty (n : Nat) : ((str n).toList == []) = false := by
  rw [Bool.eq_false_iff]; intro k
  have e := eq_of_beq k
  rw [Lib.toList_data] at e
  exact digL_ne (digL_str n) e
set_option maxHeartbeats 1600000 in
set_option maxRecDepth 100000 in
theorem numY_any (s : ByteArray) (w : World) (hd : digL s.data.toList = true) (hs : s.size ≤ 1000) :
    Calls Tryz.prog 90 #[.string s] w fun e w' => (∃ (b : Bool) (o : Option Addr) (c : Nat) (L : List Nat), e = .returned (whV b o c L) ∧ Wf w.heap.size w' b o c L ((val s.data.toList : Nat) : Int)) ∧ Below w.heap.size w w' := by
  have HL := Lib.hid (fun wx => trL s wx)
  rw [trim_val (digL_all hd)] at HL
  have hsz : (str (val s.data.toList)).size ≤ 1000 := val_size2 (digL_all hd) (by rw [← size_list]; exact hs) (by decide)
  have HT := Lib.hid (fun wx => toY_any ((val s.data.toList : Nat) : Int) wx (by rw [Int.natAbs_natCast]; omega))
  rw [zS_of_nat] at HT
  obtain ⟨v, hv⟩ : ∃ v, v = val s.data.toList := ⟨_, rfl⟩
  rw [← hv] at HL HT ⊢
  have HR0 := Lib.hid (BxO.new w w.heap.size (Nat.le_refl _) false (.slice none 0 0))
  have HB0 := Lib.hid ((Below.refl w.heap.size w).alloc (Nat.le_refl _) (.cells #[.bool false, .slice none 0 0] 43))
  clear hd hs hsz hv
  by_cases h : v = 0
  · rw [if_pos h] at HL
    rw [h, str_0] at HT
    subst h
    go_enter Tryz.func90, Tryz.ntmps90
    go_upto_region 1 with fail
    obtain ⟨W0, hW0⟩ : ∃ W0, W0 = w.alloc (.cells #[.bool false, .slice none 0 0] 43) := ⟨_, rfl⟩
    rw [← hW0] at HR0 HB0 ⊢
    have HLT := Lib.hid HR0.out.lt.2
    clear hW0
    go_wp2_with fail
    refine (HL.out _).mono ?_
    rintro e w1 ⟨rfl, b1⟩
    obtain rfl := b1
    go_wp2_with fail
    refine (HT.out _).mono ?_
    rintro e w2 ⟨⟨V, o, c, M, rfl, hwf⟩, hb2⟩
    have B2 := Lib.hid (HB0.out.trans (hb2.mono HB0.out.size))
    have R1 := Lib.hid (HR0.out.kept hb2)
    have HN := Lib.hid hwf.wh
    have HNW := Lib.hid (show NewO (w.heap.size + 1) o from hwf.new.mono (by have := HLT.out; omega))
    clear hb2 hwf
    try unfold whV
    obtain ⟨m, hm⟩ : ∃ m, m = M.length := ⟨_, rfl⟩
    have HM := Lib.hid hm
    rw [← hm]
    clear hm
    have f0 := R1.out.free 0
    have f1 := R1.out.free 1
    have e0 := R1.out.neg
    have e1 := R1.out.dig
    have Y1 := R1.out.set0 V
    have y1 := Y1.free 1
    have z1 := Y1.dig
    have Y2 := Y1.set1 (.slice o m c)
    have u0 := Y2.neg
    have u1 := Y2.dig
    have HBE := Lib.hid ((B2.out.setCell (p := ⟨w.heap.size, 0, none⟩) (Nat.le_refl _) (.bool V)).setCell (p := ⟨w.heap.size, 1, none⟩) (Nat.le_refl _) (.slice o m c))
    have HWE := Lib.hid ((HN.out.stored (w.heap.size) 0 (.bool V) (HNW.out.ne (by omega))).stored (w.heap.size) 1 (.slice o m c) (HNW.out.ne (by omega)))
    clear Y1 Y2 R1
    go_wp2_with fail
    (try simp only [Exit.inBlock, Exit.then])
    refine bodyPost_ret (v := .agg #[.bool V, .slice o m c]) ?_ rfl ⟨⟨V, o, c, M, by rw [HM.out], HWE.out, HNW.out.mono (by omega)⟩, HBE.out⟩
    rw [results_cell_one rfl]
    go_simp
  · rw [if_neg h] at HL
    have he := str_empty v
    obtain ⟨x, hx⟩ : ∃ x, x = str v := ⟨_, rfl⟩
    rw [← hx] at HL HT he
    clear h hx
    go_enter Tryz.func90, Tryz.ntmps90
    go_upto_region 1 with fail
    obtain ⟨W0, hW0⟩ : ∃ W0, W0 = w.alloc (.cells #[.bool false, .slice none 0 0] 43) := ⟨_, rfl⟩
    rw [← hW0] at HR0 HB0 ⊢
    have HLT := Lib.hid HR0.out.lt.2
    clear hW0
    go_wp2_with fail
    refine (HL.out _).mono ?_
    rintro e w1 ⟨rfl, b1⟩
    obtain rfl := b1
    go_wp2_with fail
    refine (HT.out _).mono ?_
    rintro e w2 ⟨⟨V, o, c, M, rfl, hwf⟩, hb2⟩
    have B2 := Lib.hid (HB0.out.trans (hb2.mono HB0.out.size))
    have R1 := Lib.hid (HR0.out.kept hb2)
    have HN := Lib.hid hwf.wh
    have HNW := Lib.hid (show NewO (w.heap.size + 1) o from hwf.new.mono (by have := HLT.out; omega))
    clear hb2 hwf
    try unfold whV
    obtain ⟨m, hm⟩ : ∃ m, m = M.length := ⟨_, rfl⟩
    have HM := Lib.hid hm
    rw [← hm]
    clear hm
    have f0 := R1.out.free 0
    have f1 := R1.out.free 1
    have e0 := R1.out.neg
    have e1 := R1.out.dig
    have Y1 := R1.out.set0 V
    have y1 := Y1.free 1
    have z1 := Y1.dig
    have Y2 := Y1.set1 (.slice o m c)
    have u0 := Y2.neg
    have u1 := Y2.dig
    have HBE := Lib.hid ((B2.out.setCell (p := ⟨w.heap.size, 0, none⟩) (Nat.le_refl _) (.bool V)).setCell (p := ⟨w.heap.size, 1, none⟩) (Nat.le_refl _) (.slice o m c))
    have HWE := Lib.hid ((HN.out.stored (w.heap.size) 0 (.bool V) (HNW.out.ne (by omega))).stored (w.heap.size) 1 (.slice o m c) (HNW.out.ne (by omega)))
    clear Y1 Y2 R1
    go_wp2_with fail
    (try simp only [Exit.inBlock, Exit.then])
    refine bodyPost_ret (v := .agg #[.bool V, .slice o m c]) ?_ rfl ⟨⟨V, o, c, M, by rw [HM.out], HWE.out, HNW.out.mono (by omega)⟩, HBE.out⟩
    rw [results_cell_one rfl]
    go_simp
end Go.Proofs.YtdgbplppabalgaaGreatDoor
