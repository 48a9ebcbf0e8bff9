/-
  Texts of one seat, joined: YTrim YNegF YPlain YLow.
-/
import Derived.Test.YtgkfdgdlmpggpaaGreatDoorJ19
import Derived.Laws.ResultCell
import Derived.Test.YtgkfdgdlmpggpaaGreatDoorJ17
import Derived.Deep.RegionWith
import Derived.Test.YtgkfdgdlmpggpaaGreatDoorJ1
import Derived.Test.YtgkfdgdlmpggpaaGreatDoorJ9
namespace Go.Proofs.YtgkfdgdlmpggpaaGreatDoor
open Go.RowKit

/-- a box of a sign and digits, of the call's own -/
def BxO (w : World) (B g : Nat) (b : Bool) (v : Value) : Prop := w.ownsRow B 43 1 (.slice (some ⟨g, 0, none⟩) 2 2) 2 [.bool b, v]
theorem BxO.new (w : World) (B : Nat) (hB : B ≤ w.heap.size) (b : Bool) (v : Value) : BxO (w.alloc (.cells #[.bool b, v] 43)) B w.heap.size b v := World.ownsRow_lit w #[.bool b, v] 2 hB (by unfold maxLen; decide) rfl
theorem BxO.neg {w : World} {B g : Nat} {b : Bool} {v : Value} (h : BxO w B g b v) : w.cell? ⟨g, 0, none⟩ = some (.bool b) := by rw [World.ownsRow.cellAt h 0 (by decide)]; rfl
theorem BxO.dig {w : World} {B g : Nat} {b : Bool} {v : Value} (h : BxO w B g b v) : w.cell? ⟨g, 1, none⟩ = some v := by rw [World.ownsRow.cellAt h 1 (by decide)]; rfl
theorem BxO.free {w : World} {B g : Nat} {b : Bool} {v : Value} (h : BxO w B g b v) (i : Nat) : w.frozen? ⟨g, i, none⟩ = false := World.ownsRow.frozenAt h i
theorem BxO.lt {w : World} {B g : Nat} {b : Bool} {v : Value} (h : BxO w B g b v) : B ≤ g ∧ g < w.heap.size := World.ownsRow.lt h g rfl
theorem BxO.set1 {w : World} {B g : Nat} {b : Bool} {v : Value} (h : BxO w B g b v) (u : Value) : BxO (w.setCell ⟨g, 1, none⟩ u) B g b u := by
  have h1 := (World.ownsRow.stored h 1 u).1
  exact h1
theorem BxO.set0 {w : World} {B g : Nat} {b : Bool} {v : Value} (h : BxO w B g b v) (u : Bool) : BxO (w.setCell ⟨g, 0, none⟩ (.bool u)) B g u v := by
  have h1 := (World.ownsRow.stored h 0 (.bool u)).1
  exact h1
theorem push_sz (w : World) (o : Obj) : (w.alloc o).heap.size = w.heap.size + 1 := by show (w.heap.push o).size = _; exact Array.size_push _
theorem BxO.alloc {w : World} {B g : Nat} {b : Bool} {v : Value} (h : BxO w B g b v) (o : Obj) : BxO (w.alloc o) B g b v := World.ownsRow.alloc h o
theorem BxO.other {w : World} {B g : Nat} {b : Bool} {v : Value} (h : BxO w B g b v) {p : Addr} (hp : g ≠ p.block) (u : Value) : BxO (w.setCell p u) B g b v := ownsRow_setCell_other h (by simp [Value.ownBlock]; exact hp) u
theorem results_cell_one {fn : Func} {p : Tmp} {ty : TypeId} (h : fn.results = #[.cell p ty]) (tmps : Array Value) (P : Program) (w : World) :
    (results fn tmps).run P w = ((asAddr (tmps.getD p undef)).run P w).andThen fun a w₁ => (loadVar ty a).run P w₁ := by
  simp only [results, h]
  simp [Sem.run_bind, Result.andThen]
set_option maxHeartbeats 1600000 in
theorem trimY_any (b : Bool) (a : Option Addr) (cap : Nat) (l : List Nat) (w : World) (h : Pd w a cap l) :
    Calls Tryz.prog 75 #[whV b a cap l] w fun e w' => e = .returned (whV (b && decide (0 < (trimP l).length)) a cap (trimP l)) ∧ Below w.heap.size w w' := by
  have hc := h.lc
  have hl := h.lim
  have HP := Lib.hid h
  clear h
  go_enter Tryz.func75, Tryz.ntmps75
  go_wp2_with fail
  have HW1 := Lib.hid (BxO.new w w.heap.size (Nat.le_refl _) b (.slice a l.length cap))
  have HA := Lib.hid ((Below.refl w.heap.size w).alloc (Nat.le_refl _) (.cells #[.bool b, .slice a l.length cap] 43))
  obtain ⟨W1, hW1⟩ : ∃ W1, W1 = w.alloc (.cells #[.bool b, .slice a l.length cap] 43) := ⟨_, rfl⟩
  rw [← hW1] at HW1 HA ⊢
  have hsz : W1.heap.size = w.heap.size + 1 := by rw [hW1]; exact push_sz _ _
  have HW2 := Lib.hid (BxO.new W1 w.heap.size (by omega) false (.slice none 0 0))
  have HK := Lib.hid (HW1.out.alloc (.cells #[.bool false, .slice none 0 0] 43))
  have HB := Lib.hid (HA.out.alloc (by omega) (.cells #[.bool false, .slice none 0 0] 43))
  rw [hsz] at HW2
  obtain ⟨W2, hW2⟩ : ∃ W2, W2 = W1.alloc (.cells #[.bool false, .slice none 0 0] 43) := ⟨_, rfl⟩
  rw [← hW2] at HW2 HK HB ⊢
  clear hW1 hW2 hsz HA HW1
  go_loopw [3] (fun _ wr => ∃ k : Nat, k ≤ l.length ∧ Hid (trimP (l.take k) = trimP l) ∧ Hid (BxO wr w.heap.size w.heap.size b (.slice a k cap)) ∧ Hid (BxO wr w.heap.size (w.heap.size + 1) false (.slice none 0 0)) ∧ Hid (Below w.heap.size w wr)) (fun _ wr => match wr.cell? ⟨w.heap.size, 1, none⟩ with | some (.slice _ n _) => n | _ => 0)
  case atStart => exact ⟨l.length, Nat.le_refl _, by show _ = _; rw [List.take_length], HK, HW2, HB⟩
  case round =>
    obtain ⟨k, hk, HT, HX, HY, HZ⟩ := hrel
    have x0 := HX.out.neg
    have x1 := HX.out.dig
    have xf := HX.out.free 1
    have xg := HX.out.free 0
    have hmeas : (match wr.cell? ⟨w.heap.size, 1, none⟩ with | some (.slice _ n _) => n | _ => 0) = k := by rw [x1]
    by_cases hk0 : k = 0
    · subst hk0
      have hT0 : trimP l = [] := by rw [← HT.out, List.take_zero]; rfl
      cases b
      · have HV := Lib.hid (show whV (false && decide (0 < (trimP l).length)) a cap (trimP l) = .agg #[.bool false, .slice a 0 cap] by rw [hT0]; rfl)
        clear hT0 hmeas HP
        have S0 := HX.out.set0 false
        have s0 := S0.neg
        have s1 := S0.dig
        have Y0 := HY.out.other (p := ⟨w.heap.size, 0, none⟩) (by show w.heap.size + 1 ≠ w.heap.size; omega) (.bool false)
        have y0 := Y0.free 0
        have z0 := Y0.neg
        have Y1 := Y0.set0 false
        have y1 := Y1.free 1
        have z1 := Y1.dig
        have Y2 := Y1.set1 (.slice a 0 cap)
        have u0 := Y2.neg
        have u1 := Y2.dig
        have HBE := Lib.hid (((HZ.out.setCell (p := ⟨w.heap.size, 0, none⟩) (Nat.le_refl _) (.bool false)).setCell (p := ⟨w.heap.size + 1, 0, none⟩) (by show w.heap.size ≤ w.heap.size + 1; omega) (.bool false)).setCell (p := ⟨w.heap.size + 1, 1, none⟩) (by show w.heap.size ≤ w.heap.size + 1; omega) (.slice a 0 cap))
        clear S0 Y0 Y1 Y2 HT HX HY HZ
        go_wp2_with fail
        (try simp only [Exit.inBlock, Exit.then])
        refine bodyPost_ret (v := .agg #[.bool false, .slice a 0 cap]) ?_ rfl ⟨by rw [HV.out], HBE.out⟩
        rw [results_cell_one rfl]
        go_simp
      · have HV := Lib.hid (show whV (true && decide (0 < (trimP l).length)) a cap (trimP l) = .agg #[.bool false, .slice a 0 cap] by rw [hT0]; rfl)
        clear hT0 hmeas HP
        have S0 := HX.out.set0 false
        have s0 := S0.neg
        have s1 := S0.dig
        have Y0 := HY.out.other (p := ⟨w.heap.size, 0, none⟩) (by show w.heap.size + 1 ≠ w.heap.size; omega) (.bool false)
        have y0 := Y0.free 0
        have z0 := Y0.neg
        have Y1 := Y0.set0 false
        have y1 := Y1.free 1
        have z1 := Y1.dig
        have Y2 := Y1.set1 (.slice a 0 cap)
        have u0 := Y2.neg
        have u1 := Y2.dig
        have HBE := Lib.hid (((HZ.out.setCell (p := ⟨w.heap.size, 0, none⟩) (Nat.le_refl _) (.bool false)).setCell (p := ⟨w.heap.size + 1, 0, none⟩) (by show w.heap.size ≤ w.heap.size + 1; omega) (.bool false)).setCell (p := ⟨w.heap.size + 1, 1, none⟩) (by show w.heap.size ≤ w.heap.size + 1; omega) (.slice a 0 cap))
        clear S0 Y0 Y1 Y2 HT HX HY HZ
        go_wp2_with fail
        (try simp only [Exit.inBlock, Exit.then])
        refine bodyPost_ret (v := .agg #[.bool false, .slice a 0 cap]) ?_ rfl ⟨by rw [HV.out], HBE.out⟩
        rw [results_cell_one rfl]
        go_simp
    · obtain ⟨j, rfl⟩ : ∃ j, k = j + 1 := ⟨k - 1, by omega⟩
      have hj : j < l.length := by omega
      obtain ⟨g', rfl, hcell⟩ := (HP.out.below HZ.out).at j hj
      rw [getD_in hj] at hcell
      have hj1 : ((j + 1 : Nat) : Int) - 1 = (j : Int) := by omega
      have hjp : (0 : Int) < ((j + 1 : Nat) : Int) := by omega
      by_cases h0 : l[j] = 0
      · have HT2 := Lib.hid (show trimP (l.take j) = trimP l by rw [← trimP_take hj h0]; exact HT.out)
        rw [h0] at hcell
        have HX2 := Lib.hid (HX.out.set1 (.slice (some ⟨g', 0, none⟩) j cap))
        have HY2 := Lib.hid (HY.out.other (p := ⟨w.heap.size, 1, none⟩) (by show w.heap.size + 1 ≠ w.heap.size; omega) (.slice (some ⟨g', 0, none⟩) j cap))
        have HZ2 := Lib.hid (HZ.out.setCell (p := ⟨w.heap.size, 1, none⟩) (Nat.le_refl _) (.slice (some ⟨g', 0, none⟩) j cap))
        have hm2 := HX2.out.dig
        have HMM := Lib.hid hmeas
        clear h0 hmeas HX HY HZ HT
        go_wp2_with fail
        all_goals go_roundw
        case rel => exact ⟨j, by omega, HT2, HX2, HY2, HZ2⟩
        case measure => rw [hm2, x1]; exact Nat.lt_succ_self j
      · have hT2 : trimP l = l.take (j + 1) := by rw [← HT.out]; exact trimP_take' hj h0
        have hlen : (trimP l).length = j + 1 := by rw [hT2, List.length_take]; omega
        have hb : (((l[j] : Nat) : Int) == 0) = false := by rw [beq_eq_false_iff_ne]; omega
        clear hmeas
        cases b
        · have HV := Lib.hid (show whV (false && decide (0 < (trimP l).length)) (some ⟨g', 0, none⟩) cap (trimP l) = .agg #[.bool false, .slice (some ⟨g', 0, none⟩) (j + 1) cap] by unfold whV; rw [hlen]; rfl)
          clear hT2 hlen h0 HP
          have S0 := HX.out.set0 false
          have s0 := S0.neg
          have s1 := S0.dig
          have Y0 := HY.out.other (p := ⟨w.heap.size, 0, none⟩) (by show w.heap.size + 1 ≠ w.heap.size; omega) (.bool false)
          have y0 := Y0.free 0
          have z0 := Y0.neg
          have Y1 := Y0.set0 false
          have y1 := Y1.free 1
          have z1 := Y1.dig
          have Y2 := Y1.set1 (.slice (some ⟨g', 0, none⟩) (j + 1) cap)
          have u0 := Y2.neg
          have u1 := Y2.dig
          have HBE := Lib.hid (((HZ.out.setCell (p := ⟨w.heap.size, 0, none⟩) (Nat.le_refl _) (.bool false)).setCell (p := ⟨w.heap.size + 1, 0, none⟩) (by show w.heap.size ≤ w.heap.size + 1; omega) (.bool false)).setCell (p := ⟨w.heap.size + 1, 1, none⟩) (by show w.heap.size ≤ w.heap.size + 1; omega) (.slice (some ⟨g', 0, none⟩) (j + 1) cap))
          clear S0 Y0 Y1 Y2 HT HX HY HZ
          go_wp2_with fail
          (try simp only [Exit.inBlock, Exit.then])
          refine bodyPost_ret (v := .agg #[.bool false, .slice (some ⟨g', 0, none⟩) (j + 1) cap]) ?_ rfl ⟨by rw [HV.out], HBE.out⟩
          rw [results_cell_one rfl]
          go_simp
        · have HV := Lib.hid (show whV (true && decide (0 < (trimP l).length)) (some ⟨g', 0, none⟩) cap (trimP l) = .agg #[.bool true, .slice (some ⟨g', 0, none⟩) (j + 1) cap] by unfold whV; rw [hlen, decide_eq_true (Nat.succ_pos j)]; rfl)
          clear hT2 hlen h0 HP
          have S0 := HX.out.set0 true
          have s0 := S0.neg
          have s1 := S0.dig
          have Y0 := HY.out.other (p := ⟨w.heap.size, 0, none⟩) (by show w.heap.size + 1 ≠ w.heap.size; omega) (.bool true)
          have y0 := Y0.free 0
          have z0 := Y0.neg
          have Y1 := Y0.set0 true
          have y1 := Y1.free 1
          have z1 := Y1.dig
          have Y2 := Y1.set1 (.slice (some ⟨g', 0, none⟩) (j + 1) cap)
          have u0 := Y2.neg
          have u1 := Y2.dig
          have HBE := Lib.hid (((HZ.out.setCell (p := ⟨w.heap.size, 0, none⟩) (Nat.le_refl _) (.bool true)).setCell (p := ⟨w.heap.size + 1, 0, none⟩) (by show w.heap.size ≤ w.heap.size + 1; omega) (.bool true)).setCell (p := ⟨w.heap.size + 1, 1, none⟩) (by show w.heap.size ≤ w.heap.size + 1; omega) (.slice (some ⟨g', 0, none⟩) (j + 1) cap))
          clear S0 Y0 Y1 Y2 HT HX HY HZ
          go_wp2_with fail
          (try simp only [Exit.inBlock, Exit.then])
          refine bodyPost_ret (v := .agg #[.bool true, .slice (some ⟨g', 0, none⟩) (j + 1) cap]) ?_ rfl ⟨by rw [HV.out], HBE.out⟩
          rw [results_cell_one rfl]
          go_simp
end Go.Proofs.YtgkfdgdlmpggpaaGreatDoor

namespace Go.Proofs.YtgkfdgdlmpggpaaGreatDoor
open Go.RowKit

/-- the box of a fraction and the cell of the result -/
structure Bn (w W : World) (s t : ByteArray) : Prop where
  below : Below w.heap.size w W
  box : BxR W w.heap.size s t
  res : BxT W w.heap.size (w.heap.size + 1) 24 (.string ⟨#[]⟩) (.string ⟨#[]⟩)
theorem Bn.to {w W W' : World} {s t : ByteArray} (h : Bn w W s t) (hb : Below W.heap.size W W') : Bn w W' s t := ⟨h.below.trans (hb.mono h.below.size), h.box.below hb, h.res.kept hb⟩
theorem Bn.new (w : World) (s t : ByteArray) : Bn w ((w.alloc (ratO s t)).alloc (.cells #[.string ⟨#[]⟩, .string ⟨#[]⟩] 24)) s t := by
  have h := BxT.new (w.alloc (ratO s t)) w.heap.size (by rw [push_size]; omega) 24 (.string ⟨#[]⟩) (.string ⟨#[]⟩)
  rw [push_size] at h
  exact ⟨((Below.refl _ w).alloc (Nat.le_refl _) _).alloc (by rw [push_size]; omega) _, (BxR.new w s t).below ((Below.refl _ _).alloc (Nat.le_refl _) _), h⟩
set_option maxHeartbeats 1600000 in
theorem negF_any (n : Int) (t : ByteArray) (w : World) (hn : (str n.natAbs).size ≤ 1000000) :
    Calls Tryz.prog 36 #[ratV (zS n) t] w fun e w' => e = .returned (ratV (zS (-n)) t) ∧ Below w.heap.size w w' := by
  have hN := fun wx => neg_any n wx hn
  obtain ⟨s, hs⟩ : ∃ s, s = zS n := ⟨_, rfl⟩
  obtain ⟨q, hq⟩ : ∃ s, s = zS (-n) := ⟨_, rfl⟩
  rw [← hs, ← hq] at hN
  rw [← hs, ← hq]
  have HN := Lib.hid (show ∀ wx, Bn w wx s t → Calls Tryz.prog 70 #[.string s] wx fun e w' => e = .returned (.string q) ∧ Bn w w' s t from fun wx hx => (hN wx).mono fun _ _ h => ⟨h.1, hx.to h.2⟩)
  have HX := Lib.hid (Bn.new w s t)
  clear hs hq hn hN
  go_enter Tryz.func36, Tryz.ntmps36
  go_upto_region 1 with fail
  obtain ⟨W0, hW0⟩ : ∃ W0, W0 = (w.alloc (ratO s t)).alloc (.cells #[.string ⟨#[]⟩, .string ⟨#[]⟩] 24) := ⟨_, rfl⟩
  rw [← hW0] at HX ⊢
  clear hW0
  have X2 := HX.out.to (Below.drew (Below.refl _ _))
  have p0 := HX.out.box.num
  have p1 := HX.out.box.den
  go_region_with (go_at_call 70; refine (HN.out _ ?hb).mono ?_; (case hb => assumption); rintro e w' ⟨rfl, hbx⟩; have hc0 := hbx.box.num; have hc1 := hbx.box.den; have hf0 := hbx.res.free 0; have he0 := hbx.res.c0; have he1 := hbx.res.c1; have hS0 := hbx.res.set0 (.string q); have hS1 := hS0.set1 (.string t); have hf1 := hS0.free 1; have hg1 := hS0.c1; have hk0 := hS1.c0; have hk1 := hS1.c1; have HBE := Lib.hid ((hbx.below.setCell (p := ⟨w.heap.size + 1, 0, none⟩) (by show w.heap.size ≤ w.heap.size + 1; omega) (.string q)).setCell (p := ⟨w.heap.size + 1, 1, none⟩) (by show w.heap.size ≤ w.heap.size + 1; omega) (.string t)); clear hS0 hS1)
  all_goals (
    go_wp2_with fail
    (try simp only [Exit.inBlock, Exit.then])
    refine bodyPost_ret (v := ratV q t) ?_ rfl ⟨rfl, HBE.out⟩
    rw [results_cell_one rfl]
    go_simp)
set_option maxHeartbeats 1600000 in
theorem absF_any (n : Int) (t : ByteArray) (w : World) (hn : (str n.natAbs).size ≤ 1000000) :
    Calls Tryz.prog 38 #[ratV (zS n) t] w fun e w' => e = .returned (ratV (str n.natAbs) t) ∧ Below w.heap.size w w' := by
  have hN := fun wx => abs_any n wx hn
  obtain ⟨s, hs⟩ : ∃ s, s = zS n := ⟨_, rfl⟩
  obtain ⟨q, hq⟩ : ∃ s, s = str n.natAbs := ⟨_, rfl⟩
  rw [← hs, ← hq] at hN
  rw [← hs, ← hq]
  have HN := Lib.hid (show ∀ wx, Bn w wx s t → Calls Tryz.prog 98 #[.string s] wx fun e w' => e = .returned (.string q) ∧ Bn w w' s t from fun wx hx => (hN wx).mono fun _ _ h => ⟨h.1, hx.to h.2⟩)
  have HX := Lib.hid (Bn.new w s t)
  clear hs hq hn hN
  go_enter Tryz.func38, Tryz.ntmps38
  go_upto_region 1 with fail
  obtain ⟨W0, hW0⟩ : ∃ W0, W0 = (w.alloc (ratO s t)).alloc (.cells #[.string ⟨#[]⟩, .string ⟨#[]⟩] 24) := ⟨_, rfl⟩
  rw [← hW0] at HX ⊢
  clear hW0
  have X2 := HX.out.to (Below.drew (Below.refl _ _))
  have p0 := HX.out.box.num
  have p1 := HX.out.box.den
  go_region_with (go_at_call 98; refine (HN.out _ ?hb).mono ?_; (case hb => assumption); rintro e w' ⟨rfl, hbx⟩; have hc0 := hbx.box.num; have hc1 := hbx.box.den; have hf0 := hbx.res.free 0; have he0 := hbx.res.c0; have he1 := hbx.res.c1; have hS0 := hbx.res.set0 (.string q); have hS1 := hS0.set1 (.string t); have hf1 := hS0.free 1; have hg1 := hS0.c1; have hk0 := hS1.c0; have hk1 := hS1.c1; have HBE := Lib.hid ((hbx.below.setCell (p := ⟨w.heap.size + 1, 0, none⟩) (by show w.heap.size ≤ w.heap.size + 1; omega) (.string q)).setCell (p := ⟨w.heap.size + 1, 1, none⟩) (by show w.heap.size ≤ w.heap.size + 1; omega) (.string t)); clear hS0 hS1)
  all_goals (
    go_wp2_with fail
    (try simp only [Exit.inBlock, Exit.then])
    refine bodyPost_ret (v := ratV q t) ?_ rfl ⟨rfl, HBE.out⟩
    rw [results_cell_one rfl]
    go_simp)
end Go.Proofs.YtgkfdgdlmpggpaaGreatDoor

namespace Go.Proofs.YtgkfdgdlmpggpaaGreatDoor

/-- a right fraction -/
structure Fr (n : Int) (d : Nat) : Prop where
  pos : 0 < d
  one : Nat.gcd n.natAbs d = 1
def lowN (n : Int) (d : Nat) : Int := n / ((Nat.gcd n.natAbs d : Nat) : Int)
def lowD (n : Int) (d : Nat) : Nat := d / Nat.gcd n.natAbs d
theorem low_parts (n : Int) (d : Nat) : n = ((Nat.gcd n.natAbs d : Nat) : Int) * lowN n d ∧ d = Nat.gcd n.natAbs d * lowD n d := by
  have h1 : ((Nat.gcd n.natAbs d : Nat) : Int) ∣ n := Int.ofNat_dvd_left.2 (Nat.gcd_dvd_left _ _)
  exact ⟨(Int.mul_ediv_cancel' h1).symm, (Nat.mul_div_cancel' (Nat.gcd_dvd_right _ _)).symm⟩
theorem low_cross (n : Int) (d : Nat) : lowN n d * (d : Int) = n * (lowD n d : Int) := by
  obtain ⟨h1, h2⟩ := low_parts n d
  obtain ⟨g, hg⟩ : ∃ g, g = Nat.gcd n.natAbs d := ⟨_, rfl⟩
  obtain ⟨p, hp⟩ : ∃ p, p = lowN n d := ⟨_, rfl⟩
  obtain ⟨q, hq⟩ : ∃ q, q = lowD n d := ⟨_, rfl⟩
  rw [← hg, ← hp] at h1
  rw [← hg, ← hq] at h2
  rw [← hp, ← hq, h1, h2]; push_cast
  rw [Int.mul_left_comm, Int.mul_assoc]
theorem low_right (n : Int) {d : Nat} (hd : 0 < d) : Fr (lowN n d) (lowD n d) := by
  obtain ⟨h1, h2⟩ := low_parts n d
  have hg : 0 < Nat.gcd n.natAbs d := Nat.gcd_pos_of_pos_right _ hd
  have h3 : n.natAbs = Nat.gcd n.natAbs d * (lowN n d).natAbs := by
    have := congrArg Int.natAbs h1
    rw [Int.natAbs_mul, Int.natAbs_natCast] at this; exact this
  refine ⟨?_, ?_⟩
  · apply Nat.pos_of_ne_zero; intro h; rw [h] at h2; omega
  · have h4 : Nat.gcd n.natAbs d = Nat.gcd n.natAbs d * Nat.gcd (lowN n d).natAbs (lowD n d) := by
      rw [← Nat.gcd_mul_left, ← h3, ← h2]
    exact (Nat.eq_of_mul_eq_mul_left hg (by rw [Nat.mul_one]; exact h4)).symm
theorem Fr.unique {n n' : Int} {d d' : Nat} (h : Fr n d) (h' : Fr n' d') (e : n * (d' : Int) = n' * (d : Int)) : n = n' ∧ d = d' := by
  have e1 : n.natAbs * d' = n'.natAbs * d := by
    have := congrArg Int.natAbs e
    rw [Int.natAbs_mul, Int.natAbs_mul, Int.natAbs_natCast, Int.natAbs_natCast] at this; exact this
  have c1 : Nat.Coprime d n.natAbs := by rw [Nat.coprime_iff_gcd_eq_one, Nat.gcd_comm]; exact h.one
  have c2 : Nat.Coprime d' n'.natAbs := by rw [Nat.coprime_iff_gcd_eq_one, Nat.gcd_comm]; exact h'.one
  have d1 : d ∣ d' := c1.dvd_of_dvd_mul_left ⟨n'.natAbs, by rw [e1, Nat.mul_comm]⟩
  have d2 : d' ∣ d := c2.dvd_of_dvd_mul_left ⟨n.natAbs, by rw [← e1, Nat.mul_comm]⟩
  have hd : d = d' := Nat.dvd_antisymm d1 d2
  subst hd
  have hp := h.pos
  exact ⟨Int.eq_of_mul_eq_mul_right (by omega) e, rfl⟩
theorem low_eq {n n' : Int} {d d' : Nat} (hd : 0 < d) (hd' : 0 < d') (e : n * (d' : Int) = n' * (d : Int)) : lowN n d = lowN n' d' ∧ lowD n d = lowD n' d' := by
  refine (low_right n hd).unique (low_right n' hd') ?_
  have h1 := low_cross n d
  have h2 := low_cross n' d'
  obtain ⟨p, hp⟩ : ∃ p, p = lowN n d := ⟨_, rfl⟩
  obtain ⟨q, hq⟩ : ∃ q : Int, q = (lowD n d : Int) := ⟨_, rfl⟩
  obtain ⟨p', hp'⟩ : ∃ p, p = lowN n' d' := ⟨_, rfl⟩
  obtain ⟨q', hq'⟩ : ∃ q : Int, q = (lowD n' d' : Int) := ⟨_, rfl⟩
  rw [← hp, ← hq] at h1
  rw [← hp', ← hq'] at h2
  rw [← hp, ← hq, ← hp', ← hq']
  have hD : (d : Int) ≠ 0 := by omega
  have hD' : (d' : Int) ≠ 0 := by omega
  apply Int.eq_of_mul_eq_mul_right hD
  apply Int.eq_of_mul_eq_mul_right hD'
  grind
theorem low_self {n : Int} {d : Nat} (h : Fr n d) : lowN n d = n ∧ lowD n d = d := by
  unfold lowN lowD
  rw [h.one]
  exact ⟨by simp, Nat.div_one _⟩
/-- a fraction as a pair, in lowest terms -/
def lo (n : Int) (d : Nat) : Int × Nat := (lowN n d, lowD n d)
def FrP (p : Int × Nat) : Prop := Fr p.1 p.2
def addP (p q : Int × Nat) : Int × Nat := lo (p.1 * (q.2 : Int) + q.1 * (p.2 : Int)) (p.2 * q.2)
def mulP (p q : Int × Nat) : Int × Nat := lo (p.1 * q.1) (p.2 * q.2)
def negP (p : Int × Nat) : Int × Nat := (-p.1, p.2)
/-- the same value -/
def Eqv (p q : Int × Nat) : Prop := p.1 * (q.2 : Int) = q.1 * (p.2 : Int)
theorem lo_right (n : Int) {d : Nat} (hd : 0 < d) : FrP (lo n d) := low_right n hd
theorem lo_eqv (n : Int) (d : Nat) : Eqv (lo n d) (n, d) := by unfold Eqv lo; exact low_cross n d
theorem Eqv.eq {p q : Int × Nat} (hp : FrP p) (hq : FrP q) (h : Eqv p q) : p = q := by
  obtain ⟨h1, h2⟩ := Fr.unique hp hq h
  exact Prod.ext h1 h2
theorem Eqv.symm {p q : Int × Nat} (h : Eqv p q) : Eqv q p := by unfold Eqv at *; exact h.symm
theorem Eqv.trans {p q r : Int × Nat} (hq : 0 < q.2) (h : Eqv p q) (k : Eqv q r) : Eqv p r := by
  unfold Eqv at *
  have hD : (q.2 : Int) ≠ 0 := by omega
  apply Int.eq_of_mul_eq_mul_right hD
  grind
theorem Eqv.add {p p' q q' : Int × Nat} (h : Eqv p p') (k : Eqv q q') : Eqv (p.1 * (q.2 : Int) + q.1 * (p.2 : Int), p.2 * q.2) (p'.1 * (q'.2 : Int) + q'.1 * (p'.2 : Int), p'.2 * q'.2) := by
  unfold Eqv at *
  push_cast
  grind
theorem Eqv.mul {p p' q q' : Int × Nat} (h : Eqv p p') (k : Eqv q q') : Eqv (p.1 * q.1, p.2 * q.2) (p'.1 * q'.1, p'.2 * q'.2) := by
  unfold Eqv at *
  push_cast
  grind
theorem addP_right {p q : Int × Nat} (hp : FrP p) (hq : FrP q) : FrP (addP p q) := lo_right _ (Nat.mul_pos hp.pos hq.pos)
theorem mulP_right {p q : Int × Nat} (hp : FrP p) (hq : FrP q) : FrP (mulP p q) := lo_right _ (Nat.mul_pos hp.pos hq.pos)
theorem negP_right {p : Int × Nat} (hp : FrP p) : FrP (negP p) := ⟨hp.pos, by show Nat.gcd (-p.1).natAbs p.2 = 1; rw [Int.natAbs_neg]; exact hp.one⟩
theorem addP_comm (p q : Int × Nat) : addP p q = addP q p := by
  unfold addP
  rw [Int.add_comm, Nat.mul_comm]
theorem mulP_comm (p q : Int × Nat) : mulP p q = mulP q p := by
  unfold mulP
  rw [Int.mul_comm, Nat.mul_comm]
theorem Eqv.refl (p : Int × Nat) : Eqv p p := rfl
theorem addP_assoc {p q r : Int × Nat} (hp : FrP p) (hq : FrP q) (hr : FrP r) : addP (addP p q) r = addP p (addP q r) := by
  have a := hp.pos
  have b := hq.pos
  have c := hr.pos
  refine Eqv.eq (addP_right (addP_right hp hq) hr) (addP_right hp (addP_right hq hr)) ?_
  have e1 := Eqv.add (lo_eqv (p.1 * (q.2 : Int) + q.1 * (p.2 : Int)) (p.2 * q.2)) (Eqv.refl r)
  have e2 := Eqv.add (Eqv.refl p) (lo_eqv (q.1 * (r.2 : Int) + r.1 * (q.2 : Int)) (q.2 * r.2))
  refine Eqv.trans ?_ (lo_eqv _ _) (Eqv.trans ?_ e1 (Eqv.symm (Eqv.trans ?_ (lo_eqv _ _) (Eqv.trans ?_ e2 ?_))))
  · exact Nat.mul_pos (lo_right _ (Nat.mul_pos a b)).pos c
  · exact Nat.mul_pos (Nat.mul_pos a b) c
  · exact Nat.mul_pos a (lo_right _ (Nat.mul_pos b c)).pos
  · exact Nat.mul_pos a (Nat.mul_pos b c)
  · unfold Eqv; push_cast; grind
theorem mulP_assoc {p q r : Int × Nat} (hp : FrP p) (hq : FrP q) (hr : FrP r) : mulP (mulP p q) r = mulP p (mulP q r) := by
  have a := hp.pos
  have b := hq.pos
  have c := hr.pos
  refine Eqv.eq (mulP_right (mulP_right hp hq) hr) (mulP_right hp (mulP_right hq hr)) ?_
  have e1 := Eqv.mul (lo_eqv (p.1 * q.1) (p.2 * q.2)) (Eqv.refl r)
  have e2 := Eqv.mul (Eqv.refl p) (lo_eqv (q.1 * r.1) (q.2 * r.2))
  refine Eqv.trans ?_ (lo_eqv _ _) (Eqv.trans ?_ e1 (Eqv.symm (Eqv.trans ?_ (lo_eqv _ _) (Eqv.trans ?_ e2 ?_))))
  · exact Nat.mul_pos (lo_right _ (Nat.mul_pos a b)).pos c
  · exact Nat.mul_pos (Nat.mul_pos a b) c
  · exact Nat.mul_pos a (lo_right _ (Nat.mul_pos b c)).pos
  · exact Nat.mul_pos a (Nat.mul_pos b c)
  · unfold Eqv; push_cast; grind
theorem mulP_add {p q r : Int × Nat} (hp : FrP p) (hq : FrP q) (hr : FrP r) : mulP p (addP q r) = addP (mulP p q) (mulP p r) := by
  have a := hp.pos
  have b := hq.pos
  have c := hr.pos
  refine Eqv.eq (mulP_right hp (addP_right hq hr)) (addP_right (mulP_right hp hq) (mulP_right hp hr)) ?_
  have e1 := Eqv.mul (Eqv.refl p) (lo_eqv (q.1 * (r.2 : Int) + r.1 * (q.2 : Int)) (q.2 * r.2))
  have e2 := Eqv.add (lo_eqv (p.1 * q.1) (p.2 * q.2)) (lo_eqv (p.1 * r.1) (p.2 * r.2))
  refine Eqv.trans ?_ (lo_eqv _ _) (Eqv.trans ?_ e1 (Eqv.symm (Eqv.trans ?_ (lo_eqv _ _) (Eqv.trans ?_ e2 ?_))))
  · exact Nat.mul_pos a (lo_right _ (Nat.mul_pos b c)).pos
  · exact Nat.mul_pos a (Nat.mul_pos b c)
  · exact Nat.mul_pos (lo_right _ (Nat.mul_pos a b)).pos (lo_right _ (Nat.mul_pos a c)).pos
  · exact Nat.mul_pos (Nat.mul_pos a b) (Nat.mul_pos a c)
  · unfold Eqv; push_cast; grind
theorem sub_back {p q : Int × Nat} (hp : FrP p) (hq : FrP q) : addP (addP p (negP q)) q = p := by
  have a := hp.pos
  have b := hq.pos
  refine Eqv.eq (addP_right (addP_right hp (negP_right hq)) hq) hp ?_
  have e1 := Eqv.add (lo_eqv (p.1 * (q.2 : Int) + -q.1 * (p.2 : Int)) (p.2 * q.2)) (Eqv.refl q)
  refine Eqv.trans ?_ (lo_eqv _ _) (Eqv.trans ?_ e1 ?_)
  · exact Nat.mul_pos (lo_right _ (Nat.mul_pos a b)).pos b
  · exact Nat.mul_pos (Nat.mul_pos a b) b
  · unfold Eqv; push_cast; grind
end Go.Proofs.YtgkfdgdlmpggpaaGreatDoor

namespace Go.Proofs.YtgkfdgdlmpggpaaGreatDoor
open Go.RowKit

/-- the cell of the result -/
structure Bz (w W : World) : Prop where
  below : Below w.heap.size w W
  res : BxT W w.heap.size w.heap.size 24 (.string ⟨#[]⟩) (.string ⟨#[]⟩)
theorem Bz.to {w W W' : World} (h : Bz w W) (hb : Below W.heap.size W W') : Bz w W' := ⟨h.below.trans (hb.mono h.below.size), h.res.kept hb⟩
theorem Bz.new (w : World) : Bz w (w.alloc (.cells #[.string ⟨#[]⟩, .string ⟨#[]⟩] 24)) := ⟨(Below.refl _ w).alloc (Nat.le_refl _) _, BxT.new w w.heap.size (Nat.le_refl _) 24 (.string ⟨#[]⟩) (.string ⟨#[]⟩)⟩
theorem gcd_tmod (x : Int) {y : Int} : Nat.gcd y.natAbs (x.tmod y).natAbs = Nat.gcd x.natAbs y.natAbs := by
  rw [Int.natAbs_tmod, Nat.gcd_comm y.natAbs (x.natAbs % y.natAbs), ← Nat.gcd_rec, Nat.gcd_comm]
theorem tmod_le (x : Int) {y : Int} (hy : y ≠ 0) : (x.tmod y).natAbs < y.natAbs := by
  rw [Int.natAbs_tmod]; exact Nat.mod_lt _ (by omega)
theorem low_tdiv (n : Int) {d : Int} (hd : 0 < d) {G : Nat} (hG : G = Nat.gcd n.natAbs d.natAbs) : n.tdiv (G : Int) = lowN n d.natAbs ∧ d.tdiv (G : Int) = (lowD n d.natAbs : Int) ∧ 0 < G := by
  have h1 : ((Nat.gcd n.natAbs d.natAbs : Nat) : Int) ∣ n := Int.ofNat_dvd_left.2 (Nat.gcd_dvd_left _ _)
  refine ⟨?_, ?_, ?_⟩
  · rw [hG]; exact Int.tdiv_eq_ediv_of_dvd h1
  · rw [hG, Int.tdiv_eq_ediv_of_nonneg (by omega)]
    unfold lowD
    rw [Int.natCast_ediv, show ((d.natAbs : Nat) : Int) = d by omega]
  · rw [hG]; exact Nat.gcd_pos_of_pos_right _ (by omega)
set_option maxHeartbeats 3200000 in
theorem lowF_any (n d : Int) (w : World) (hs : Std w) (hd : 0 < d) (hd2 : d ≤ 9223372036854775807) (hn1 : -9223372036854775807 ≤ n) (hn2 : n ≤ 9223372036854775807) :
    Calls Tryz.prog 117 #[.int .i64 n, .int .i64 d] w fun e w' => e = .returned (ratV (zS (lowN n d.natAbs)) (str (lowD n d.natAbs))) ∧ Below w.heap.size w w' := by
  obtain ⟨G, hG⟩ : ∃ G, G = Nat.gcd n.natAbs d.natAbs := ⟨_, rfl⟩
  obtain ⟨l1, l2, l3⟩ := low_tdiv n hd hG
  obtain ⟨P, hP⟩ : ∃ P, P = lowN n d.natAbs := ⟨_, rfl⟩
  obtain ⟨Q, hQ⟩ : ∃ Q, Q = lowD n d.natAbs := ⟨_, rfl⟩
  rw [← hP] at l1 ⊢
  rw [← hQ] at l2 ⊢
  have hPb : P.natAbs ≤ n.natAbs := by rw [← l1, Int.natAbs_tdiv]; exact Nat.div_le_self _ _
  have hQb : Q ≤ d.natAbs := by rw [hQ]; exact Nat.div_le_self _ _
  have hGd : G ≤ d.natAbs := by rw [hG]; exact Nat.gcd_le_right _ (by omega)
  have hO1 := fun wx hw => ofW_any P wx hw (by omega) (by omega)
  have hO2 := fun wx hw => ofW_any (Q : Int) wx hw (by omega) (by omega)
  rw [zS_of_nat] at hO2
  obtain ⟨ps, hps⟩ : ∃ s, s = zS P := ⟨_, rfl⟩
  obtain ⟨qs, hqs⟩ : ∃ s, s = str Q := ⟨_, rfl⟩
  rw [← hps] at hO1 ⊢
  rw [← hqs] at hO2 ⊢
  have HO := Lib.hid (show ∀ (v : Int) wx, (v = P ∨ v = (Q : Int)) → Bz w wx → Calls Tryz.prog 72 #[.int .i64 v] wx fun e w' => (∃ u, e = .returned (.string u) ∧ (v = P → u = ps) ∧ (v = (Q : Int) → u = qs)) ∧ Bz w w' from fun v wx hv hx => by
    by_cases hvP : v = P
    · subst hvP
      refine (hO1 wx (hs.below hx.below)).mono fun e w' h => ⟨⟨ps, h.1, fun _ => rfl, fun hh => ?_⟩, hx.to h.2⟩
      rw [hps, hqs, hh, zS_of_nat]
    · obtain rfl : v = (Q : Int) := by rcases hv with h | h <;> first | exact absurd h hvP | exact h
      exact (hO2 wx (hs.below hx.below)).mono fun e w' h => ⟨⟨qs, h.1, fun hh => absurd hh hvP, fun _ => rfl⟩, hx.to h.2⟩)
  have HB := Lib.hid (Bz.new w)
  obtain ⟨r, hr⟩ : ∃ r, r = n.tmod d := ⟨_, rfl⟩
  have hr' := hr.symm
  have hrb : r.natAbs < d.natAbs := by rw [hr]; exact tmod_le n (by omega)
  have HGR := Lib.hid (show Nat.gcd d.natAbs r.natAbs = G by rw [hr, gcd_tmod, hG])
  have hdz : (d == 0) = false := by rw [beq_eq_false_iff_ne]; omega
  have hdn : d ≠ 0 := by omega
  have wr0 := IntWalk.i64_in r ⟨by omega, by omega⟩
  have wP := IntWalk.i64_in P ⟨by omega, by omega⟩
  have wQ := IntWalk.i64_in (Q : Int) ⟨by omega, by omega⟩
  clear hO1 hO2 hs hG hP hQ hps hqs hr
  go_enter Tryz.func117, Tryz.ntmps117
  go_wp2_with fail
  obtain ⟨W0, hW0⟩ : ∃ W0, W0 = w.alloc (.cells #[.string ⟨#[]⟩, .string ⟨#[]⟩] 24) := ⟨_, rfl⟩
  rw [← hW0] at HB ⊢
  clear hW0
  go_quiet (fail)
  go_wp2_with fail
  go_loopw [5, 6] (fun xv yv wr => ∃ x y : Int, xv = .int .i64 x ∧ yv = .int .i64 y ∧ -9223372036854775807 ≤ x ∧ x ≤ 9223372036854775807 ∧ -9223372036854775807 ≤ y ∧ y ≤ 9223372036854775807 ∧ Hid (Nat.gcd x.natAbs y.natAbs = G) ∧ Hid (Bz w wr)) (fun _ yv _ => (intOf yv).natAbs)
  case atStart => exact ⟨d, r, rfl, rfl, by omega, by omega, by omega, by omega, HGR, HB.out.to (below_drewN (Below.refl _ _) _)⟩
  case round =>
    obtain ⟨x, y, rfl, rfl, b1, b2, b3, b4, HI, HZ⟩ := hrel
    by_cases hy : y = 0
    · subst hy
      have hxG : max x (-x) = (G : Int) := by
        have h := HI.out
        rw [Int.natAbs_zero, Nat.gcd_zero_right] at h; omega
      have wx := IntWalk.i64_in (-x) ⟨by omega, by omega⟩
      have wG := IntWalk.i64_in (G : Int) ⟨by omega, by omega⟩
      have hGz : ((G : Int) == 0) = false := by rw [beq_eq_false_iff_ne]; omega
      have hGn : (G : Int) ≠ 0 := by omega
      clear HI HGR hr' hrb hdz hdn wr0
      go_upto_region 5 with fail
      have X2 := HZ.out.to (Below.drew (Below.refl _ _))
      go_region_with (go_at_call 72; refine (HO.out _ _ ?hv ?hb).mono ?_; (case hb => assumption); (case hv => first | exact .inl rfl | exact .inr rfl); rintro e w' ⟨⟨u, rfl, hu1, hu2⟩, hbx⟩; (first | (obtain rfl := (hu1 rfl).symm) | (obtain rfl := (hu2 rfl).symm)); clear hu1 hu2; have hf0 := hbx.res.free 0; have he0 := hbx.res.c0; have he1 := hbx.res.c1; have hS0 := hbx.res.set0 (.string ps); have hS1 := hS0.set1 (.string qs); have hf1 := hS0.free 1; have hg1 := hS0.c1; have hk0 := hS1.c0; have hk1 := hS1.c1; have HBE := Lib.hid ((hbx.below.setCell (p := ⟨w.heap.size, 0, none⟩) (Nat.le_refl _) (.string ps)).setCell (p := ⟨w.heap.size, 1, none⟩) (Nat.le_refl _) (.string qs)); clear hS0 hS1)
      all_goals (
        go_wp2_with fail
        (try simp only [Exit.inBlock, Exit.then])
        refine bodyPost_ret (v := ratV ps qs) ?_ rfl ⟨rfl, HBE.out⟩
        rw [results_cell_one rfl]
        go_simp)
    · have hyz : (y == 0) = false := by rw [beq_eq_false_iff_ne]; exact hy
      have hyb : (y != 0) = true := by rw [bne, hyz]; rfl
      obtain ⟨m, hm⟩ : ∃ m, m = x.tmod y := ⟨_, rfl⟩
      have hm' := hm.symm
      have hmb : m.natAbs < y.natAbs := by rw [hm]; exact tmod_le x hy
      have wm := IntWalk.i64_in m ⟨by omega, by omega⟩
      have HI2 := Lib.hid (show Nat.gcd y.natAbs m.natAbs = G by rw [hm, gcd_tmod]; exact HI.out)
      clear hm HI HGR hr' hrb hdz hdn wr0
      go_wp2_with fail
      go_quiet (fail)
      go_wp2_with fail
      all_goals go_roundw
      case rel => exact ⟨y, m, rfl, rfl, b3, b4, by omega, by omega, HI2, HZ.out.to (below_drewN (Below.refl _ _) _)⟩
      case measure => simp [intOf] <;> omega
end Go.Proofs.YtgkfdgdlmpggpaaGreatDoor
