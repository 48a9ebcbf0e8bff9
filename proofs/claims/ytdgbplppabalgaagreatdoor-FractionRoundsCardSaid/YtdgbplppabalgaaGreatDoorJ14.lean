/-
  Texts of one seat, joined: ZOrd ZMinus YTrim YNegF YPlain YLow YLowest YPlain2.
-/
import Derived.Test.YtdgbplppabalgaaGreatDoorJ13
import Derived.Laws.ResultCell
import Derived.Test.YtdgbplppabalgaaGreatDoorJ12
import Derived.Deep.RegionWith
import Derived.Test.YtdgbplppabalgaaGreatDoorJ1
import Derived.Test.YtdgbplppabalgaaGreatDoorJ6
import Derived.Test.YtdgbplppabalgaaGreatDoorJ11
import Derived.Test.YtdgbplppabalgaaGreatDoorJ10
import Derived.Test.YtdgbplppabalgaaGreatDoorJ4
namespace Go.Proofs.YtdgbplppabalgaaGreatDoor
open Go.RowKit

theorem pv_split {l : List Nat} {k : Nat} (hk : k < l.length) : pv l = pv (l.take k) + 1000000000 ^ k * (l[k] + 1000000000 * pv (l.drop (k + 1))) := by
  have h : l = l.take k ++ (l[k] :: l.drop (k + 1)) := by rw [← List.drop_eq_getElem_cons hk, List.take_append_drop]
  have h2 := pv_append (l.take k) (l[k] :: l.drop (k + 1))
  rw [← h, List.length_take, Nat.min_eq_left (by omega)] at h2
  rw [h2]; rfl
theorem order_lt {a b : List Nat} {k : Nat} (ha : k < a.length) (hb : k < b.length) (h9 : lt9 a) (hd : a.drop (k + 1) = b.drop (k + 1)) (h : a[k] < b[k]) : pv a < pv b := by
  rw [pv_split ha, pv_split hb, hd]
  have h1 := pv_lt (a.take k) (lt9_take h9 k)
  rw [List.length_take, Nat.min_eq_left (by omega)] at h1
  have h2 : 1000000000 ^ k * (a[k] + 1 + 1000000000 * pv (b.drop (k + 1))) ≤ 1000000000 ^ k * (b[k] + 1000000000 * pv (b.drop (k + 1))) := Nat.mul_le_mul_left _ (by omega)
  have h3 : 1000000000 ^ k * (a[k] + 1 + 1000000000 * pv (b.drop (k + 1))) = 1000000000 ^ k * (a[k] + 1000000000 * pv (b.drop (k + 1))) + 1000000000 ^ k := by
    rw [show a[k] + 1 + 1000000000 * pv (b.drop (k + 1)) = (a[k] + 1000000000 * pv (b.drop (k + 1))) + 1 by omega, Nat.mul_add, Nat.mul_one]
  omega
theorem drop_eq {a b : List Nat} {k : Nat} (ha : k < a.length) (hb : k < b.length) (hd : a.drop (k + 1) = b.drop (k + 1)) (h : a[k] = b[k]) : a.drop k = b.drop k := by
  rw [List.drop_eq_getElem_cons ha, List.drop_eq_getElem_cons hb, hd, h]
end Go.Proofs.YtdgbplppabalgaaGreatDoor

namespace Go.Proofs.YtdgbplppabalgaaGreatDoor
open Go.RowKit

theorem pv_take_d (l : List Nat) (k : Nat) : pv (l.take (k + 1)) = pv (l.take k) + 1000000000 ^ k * l.getD k 0 := by
  by_cases h : k < l.length
  · rw [pv_take_succ h, List.getD_eq_getElem?_getD, List.getElem?_eq_getElem h]; rfl
  · rw [List.take_of_length_le (by omega), List.take_of_length_le (by omega), List.getD_eq_getElem?_getD, List.getElem?_eq_none (by omega)]; rfl
theorem getD_in {l : List Nat} {k : Nat} (h : k < l.length) : l.getD k 0 = l[k] := by rw [List.getD_eq_getElem?_getD, List.getElem?_eq_getElem h]; rfl
theorem getD_out {l : List Nat} {k : Nat} (h : ¬ k < l.length) : l.getD k 0 = 0 := by rw [List.getD_eq_getElem?_getD, List.getElem?_eq_none (by omega)]; rfl
theorem getD_lt {l : List Nat} (h9 : lt9 l) (k : Nat) : l.getD k 0 < 1000000000 := by
  by_cases h : k < l.length
  · rw [getD_in h]; exact lt9_at h9 k h
  · rw [getD_out h]; decide
theorem Pd.at {w : World} {a : Option Addr} {cap : Nat} {l : List Nat} (h : Pd w a cap l) (i : Nat) (hi : i < l.length) : ∃ g, a = some ⟨g, 0, none⟩ ∧ w.cell? ⟨g, i, none⟩ = some (.int .i64 ((l.getD i 0 : Nat) : Int)) := by
  rcases h.cell with ⟨_, e, _⟩ | ⟨g, e1, _, c1⟩
  · rw [e] at hi; simp at hi
  · exact ⟨g, e1, by rw [getD_in hi]; exact c1 i hi⟩
theorem pv_all {l : List Nat} {k : Nat} (h : l.length ≤ k) : pv (l.take k) = pv l := by rw [List.take_of_length_le h]
theorem plus_step {P A B c T k : Nat} (hI : P + 1000000000 ^ k * c = A + B) {x y : Nat} (hT : T = c + x + y) :
    (P + 1000000000 ^ k * (T % 1000000000)) + 1000000000 ^ (k + 1) * (T / 1000000000) = (A + 1000000000 ^ k * x) + (B + 1000000000 ^ k * y) := by
  have h1 : 1000000000 ^ (k + 1) * (T / 1000000000) + 1000000000 ^ k * (T % 1000000000) = 1000000000 ^ k * T := by
    rw [Nat.pow_succ, Nat.mul_assoc, ← Nat.mul_add, Nat.div_add_mod]
  have h2 : 1000000000 ^ k * T = 1000000000 ^ k * c + 1000000000 ^ k * x + 1000000000 ^ k * y := by rw [hT, Nat.mul_add, Nat.mul_add]
  omega
theorem minus_step {P A B o o' x y v k : Nat} (hI : P + B = A + 1000000000 ^ k * o) (hv : v + (o + y) = x + 1000000000 * o') :
    (P + 1000000000 ^ k * v) + (B + 1000000000 ^ k * y) = (A + 1000000000 ^ k * x) + 1000000000 ^ (k + 1) * o' := by
  have h2 : 1000000000 ^ k * (v + (o + y)) = 1000000000 ^ k * (x + 1000000000 * o') := by rw [hv]
  have h3 : 1000000000 ^ k * (v + (o + y)) = 1000000000 ^ k * v + 1000000000 ^ k * o + 1000000000 ^ k * y := by rw [Nat.mul_add, Nat.mul_add]; omega
  have h4 : 1000000000 ^ k * (x + 1000000000 * o') = 1000000000 ^ k * x + 1000000000 ^ (k + 1) * o' := by rw [Nat.mul_add, ← Nat.mul_assoc, ← Nat.pow_succ]
  omega
end Go.Proofs.YtdgbplppabalgaaGreatDoor

namespace Go.Proofs.YtdgbplppabalgaaGreatDoor
open Go.RowKit

/-- a box of a sign and digits, of the call's own -/
def BxO (w : World) (B g : Nat) (b : Bool) (v : Value) : Prop := w.ownsRow B 43 1 (.slice (some ⟨g, 0, none⟩) 2 2) 2 [.bool b, v]
theorem BxO.new (w : World) (B : Nat) (hB : B ≤ w.heap.size) (b : Bool) (v : Value) : BxO (w.alloc (.cells #[.bool b, v] 43)) B w.heap.size b v := World.ownsRow_lit w #[.bool b, v] 2 hB (by unfold maxLen; decide) rfl
theorem BxO.neg {w : World} {B g : Nat} {b : Bool} {v : Value} (h : BxO w B g b v) : w.cell? ⟨g, 0, none⟩ = some (.bool b) := by rw [World.ownsRow.cellAt h 0 (by decide)]; rfl
theorem BxO.dig {w : World} {B g : Nat} {b : Bool} {v : Value} (h : BxO w B g b v) : w.cell? ⟨g, 1, none⟩ = some v := by rw [World.ownsRow.cellAt h 1 (by decide)]; rfl
theorem BxO.free {w : World} {B g : Nat} {b : Bool} {v : Value} (h : BxO w B g b v) (i : Nat) : w.frozen? ⟨g, i, none⟩ = false := World.ownsRow.frozenAt h i
theorem BxO.lt {w : World} {B g : Nat} {b : Bool} {v : Value} (h : BxO w B g b v) : B ≤ g ∧ g < w.heap.size := World.ownsRow.lt h g rfl
theorem BxO.set1 {w : World} {B g : Nat} {b : Bool} {v : Value} (h : BxO w B g b v) (u : Value) : BxO (w.setCell ⟨g, 1, none⟩ u) B g b u := by
  have h1 := (World.ownsRow.stored h 1 u).1
  exact h1
theorem BxO.set0 {w : World} {B g : Nat} {b : Bool} {v : Value} (h : BxO w B g b v) (u : Bool) : BxO (w.setCell ⟨g, 0, none⟩ (.bool u)) B g u v := by
  have h1 := (World.ownsRow.stored h 0 (.bool u)).1
  exact h1
theorem push_sz (w : World) (o : Obj) : (w.alloc o).heap.size = w.heap.size + 1 := by show (w.heap.push o).size = _; exact Array.size_push _
theorem BxO.alloc {w : World} {B g : Nat} {b : Bool} {v : Value} (h : BxO w B g b v) (o : Obj) : BxO (w.alloc o) B g b v := World.ownsRow.alloc h o
theorem BxO.other {w : World} {B g : Nat} {b : Bool} {v : Value} (h : BxO w B g b v) {p : Addr} (hp : g ≠ p.block) (u : Value) : BxO (w.setCell p u) B g b v := ownsRow_setCell_other h (by simp [Value.ownBlock]; exact hp) u
theorem results_cell_one {fn : Func} {p : Tmp} {ty : TypeId} (h : fn.results = #[.cell p ty]) (tmps : Array Value) (P : Program) (w : World) :
    (results fn tmps).run P w = ((asAddr (tmps.getD p undef)).run P w).andThen fun a w₁ => (loadVar ty a).run P w₁ := by
  simp only [results, h]
  simp [Sem.run_bind, Result.andThen]
set_option maxHeartbeats 1600000 in
theorem trimY_any (b : Bool) (a : Option Addr) (cap : Nat) (l : List Nat) (w : World) (h : Pd w a cap l) :
    Calls Tryz.prog 75 #[whV b a cap l] w fun e w' => e = .returned (whV (b && decide (0 < (trimP l).length)) a cap (trimP l)) ∧ Below w.heap.size w w' := by
  have hc := h.lc
  have hl := h.lim
  have HP := Lib.hid h
  clear h
  go_enter Tryz.func75, Tryz.ntmps75
  go_wp2_with fail
  have HW1 := Lib.hid (BxO.new w w.heap.size (Nat.le_refl _) b (.slice a l.length cap))
  have HA := Lib.hid ((Below.refl w.heap.size w).alloc (Nat.le_refl _) (.cells #[.bool b, .slice a l.length cap] 43))
  obtain ⟨W1, hW1⟩ : ∃ W1, W1 = w.alloc (.cells #[.bool b, .slice a l.length cap] 43) := ⟨_, rfl⟩
  rw [← hW1] at HW1 HA ⊢
  have hsz : W1.heap.size = w.heap.size + 1 := by rw [hW1]; exact push_sz _ _
  have HW2 := Lib.hid (BxO.new W1 w.heap.size (by omega) false (.slice none 0 0))
  have HK := Lib.hid (HW1.out.alloc (.cells #[.bool false, .slice none 0 0] 43))
  have HB := Lib.hid (HA.out.alloc (by omega) (.cells #[.bool false, .slice none 0 0] 43))
  rw [hsz] at HW2
  obtain ⟨W2, hW2⟩ : ∃ W2, W2 = W1.alloc (.cells #[.bool false, .slice none 0 0] 43) := ⟨_, rfl⟩
  rw [← hW2] at HW2 HK HB ⊢
  clear hW1 hW2 hsz HA HW1
  go_loopw [3] (fun _ wr => ∃ k : Nat, k ≤ l.length ∧ Hid (trimP (l.take k) = trimP l) ∧ Hid (BxO wr w.heap.size w.heap.size b (.slice a k cap)) ∧ Hid (BxO wr w.heap.size (w.heap.size + 1) false (.slice none 0 0)) ∧ Hid (Below w.heap.size w wr)) (fun _ wr => match wr.cell? ⟨w.heap.size, 1, none⟩ with | some (.slice _ n _) => n | _ => 0)
  case atStart => exact ⟨l.length, Nat.le_refl _, by show _ = _; rw [List.take_length], HK, HW2, HB⟩
  case round =>
    obtain ⟨k, hk, HT, HX, HY, HZ⟩ := hrel
    have x0 := HX.out.neg
    have x1 := HX.out.dig
    have xf := HX.out.free 1
    have xg := HX.out.free 0
    have hmeas : (match wr.cell? ⟨w.heap.size, 1, none⟩ with | some (.slice _ n _) => n | _ => 0) = k := by rw [x1]
    by_cases hk0 : k = 0
    · subst hk0
      have hT0 : trimP l = [] := by rw [← HT.out, List.take_zero]; rfl
      cases b
      · have HV := Lib.hid (show whV (false && decide (0 < (trimP l).length)) a cap (trimP l) = .agg #[.bool false, .slice a 0 cap] by rw [hT0]; rfl)
        clear hT0 hmeas HP
        have S0 := HX.out.set0 false
        have s0 := S0.neg
        have s1 := S0.dig
        have Y0 := HY.out.other (p := ⟨w.heap.size, 0, none⟩) (by show w.heap.size + 1 ≠ w.heap.size; omega) (.bool false)
        have y0 := Y0.free 0
        have z0 := Y0.neg
        have Y1 := Y0.set0 false
        have y1 := Y1.free 1
        have z1 := Y1.dig
        have Y2 := Y1.set1 (.slice a 0 cap)
        have u0 := Y2.neg
        have u1 := Y2.dig
        have HBE := Lib.hid (((HZ.out.setCell (p := ⟨w.heap.size, 0, none⟩) (Nat.le_refl _) (.bool false)).setCell (p := ⟨w.heap.size + 1, 0, none⟩) (by show w.heap.size ≤ w.heap.size + 1; omega) (.bool false)).setCell (p := ⟨w.heap.size + 1, 1, none⟩) (by show w.heap.size ≤ w.heap.size + 1; omega) (.slice a 0 cap))
        clear S0 Y0 Y1 Y2 HT HX HY HZ
        go_wp2_with fail
        (try simp only [Exit.inBlock, Exit.then])
        refine bodyPost_ret (v := .agg #[.bool false, .slice a 0 cap]) ?_ rfl ⟨by rw [HV.out], HBE.out⟩
        rw [results_cell_one rfl]
        go_simp
      · have HV := Lib.hid (show whV (true && decide (0 < (trimP l).length)) a cap (trimP l) = .agg #[.bool false, .slice a 0 cap] by rw [hT0]; rfl)
        clear hT0 hmeas HP
        have S0 := HX.out.set0 false
        have s0 := S0.neg
        have s1 := S0.dig
        have Y0 := HY.out.other (p := ⟨w.heap.size, 0, none⟩) (by show w.heap.size + 1 ≠ w.heap.size; omega) (.bool false)
        have y0 := Y0.free 0
        have z0 := Y0.neg
        have Y1 := Y0.set0 false
        have y1 := Y1.free 1
        have z1 := Y1.dig
        have Y2 := Y1.set1 (.slice a 0 cap)
        have u0 := Y2.neg
        have u1 := Y2.dig
        have HBE := Lib.hid (((HZ.out.setCell (p := ⟨w.heap.size, 0, none⟩) (Nat.le_refl _) (.bool false)).setCell (p := ⟨w.heap.size + 1, 0, none⟩) (by show w.heap.size ≤ w.heap.size + 1; omega) (.bool false)).setCell (p := ⟨w.heap.size + 1, 1, none⟩) (by show w.heap.size ≤ w.heap.size + 1; omega) (.slice a 0 cap))
        clear S0 Y0 Y1 Y2 HT HX HY HZ
        go_wp2_with fail
        (try simp only [Exit.inBlock, Exit.then])
        refine bodyPost_ret (v := .agg #[.bool false, .slice a 0 cap]) ?_ rfl ⟨by rw [HV.out], HBE.out⟩
        rw [results_cell_one rfl]
        go_simp
    · obtain ⟨j, rfl⟩ : ∃ j, k = j + 1 := ⟨k - 1, by omega⟩
      have hj : j < l.length := by omega
      obtain ⟨g', rfl, hcell⟩ := (HP.out.below HZ.out).at j hj
      rw [getD_in hj] at hcell
      have hj1 : ((j + 1 : Nat) : Int) - 1 = (j : Int) := by omega
      have hjp : (0 : Int) < ((j + 1 : Nat) : Int) := by omega
      by_cases h0 : l[j] = 0
      · have HT2 := Lib.hid (show trimP (l.take j) = trimP l by rw [← trimP_take hj h0]; exact HT.out)
        rw [h0] at hcell
        have HX2 := Lib.hid (HX.out.set1 (.slice (some ⟨g', 0, none⟩) j cap))
        have HY2 := Lib.hid (HY.out.other (p := ⟨w.heap.size, 1, none⟩) (by show w.heap.size + 1 ≠ w.heap.size; omega) (.slice (some ⟨g', 0, none⟩) j cap))
        have HZ2 := Lib.hid (HZ.out.setCell (p := ⟨w.heap.size, 1, none⟩) (Nat.le_refl _) (.slice (some ⟨g', 0, none⟩) j cap))
        have hm2 := HX2.out.dig
        have HMM := Lib.hid hmeas
        clear h0 hmeas HX HY HZ HT
        go_wp2_with fail
        all_goals go_roundw
        case rel => exact ⟨j, by omega, HT2, HX2, HY2, HZ2⟩
        case measure => rw [hm2, x1]; exact Nat.lt_succ_self j
      · have hT2 : trimP l = l.take (j + 1) := by rw [← HT.out]; exact trimP_take' hj h0
        have hlen : (trimP l).length = j + 1 := by rw [hT2, List.length_take]; omega
        have hb : (((l[j] : Nat) : Int) == 0) = false := by rw [beq_eq_false_iff_ne]; omega
        clear hmeas
        cases b
        · have HV := Lib.hid (show whV (false && decide (0 < (trimP l).length)) (some ⟨g', 0, none⟩) cap (trimP l) = .agg #[.bool false, .slice (some ⟨g', 0, none⟩) (j + 1) cap] by unfold whV; rw [hlen]; rfl)
          clear hT2 hlen h0 HP
          have S0 := HX.out.set0 false
          have s0 := S0.neg
          have s1 := S0.dig
          have Y0 := HY.out.other (p := ⟨w.heap.size, 0, none⟩) (by show w.heap.size + 1 ≠ w.heap.size; omega) (.bool false)
          have y0 := Y0.free 0
          have z0 := Y0.neg
          have Y1 := Y0.set0 false
          have y1 := Y1.free 1
          have z1 := Y1.dig
          have Y2 := Y1.set1 (.slice (some ⟨g', 0, none⟩) (j + 1) cap)
          have u0 := Y2.neg
          have u1 := Y2.dig
          have HBE := Lib.hid (((HZ.out.setCell (p := ⟨w.heap.size, 0, none⟩) (Nat.le_refl _) (.bool false)).setCell (p := ⟨w.heap.size + 1, 0, none⟩) (by show w.heap.size ≤ w.heap.size + 1; omega) (.bool false)).setCell (p := ⟨w.heap.size + 1, 1, none⟩) (by show w.heap.size ≤ w.heap.size + 1; omega) (.slice (some ⟨g', 0, none⟩) (j + 1) cap))
          clear S0 Y0 Y1 Y2 HT HX HY HZ
          go_wp2_with fail
          (try simp only [Exit.inBlock, Exit.then])
          refine bodyPost_ret (v := .agg #[.bool false, .slice (some ⟨g', 0, none⟩) (j + 1) cap]) ?_ rfl ⟨by rw [HV.out], HBE.out⟩
          rw [results_cell_one rfl]
          go_simp
        · have HV := Lib.hid (show whV (true && decide (0 < (trimP l).length)) (some ⟨g', 0, none⟩) cap (trimP l) = .agg #[.bool true, .slice (some ⟨g', 0, none⟩) (j + 1) cap] by unfold whV; rw [hlen, decide_eq_true (Nat.succ_pos j)]; rfl)
          clear hT2 hlen h0 HP
          have S0 := HX.out.set0 true
          have s0 := S0.neg
          have s1 := S0.dig
          have Y0 := HY.out.other (p := ⟨w.heap.size, 0, none⟩) (by show w.heap.size + 1 ≠ w.heap.size; omega) (.bool true)
          have y0 := Y0.free 0
          have z0 := Y0.neg
          have Y1 := Y0.set0 true
          have y1 := Y1.free 1
          have z1 := Y1.dig
          have Y2 := Y1.set1 (.slice (some ⟨g', 0, none⟩) (j + 1) cap)
          have u0 := Y2.neg
          have u1 := Y2.dig
          have HBE := Lib.hid (((HZ.out.setCell (p := ⟨w.heap.size, 0, none⟩) (Nat.le_refl _) (.bool true)).setCell (p := ⟨w.heap.size + 1, 0, none⟩) (by show w.heap.size ≤ w.heap.size + 1; omega) (.bool true)).setCell (p := ⟨w.heap.size + 1, 1, none⟩) (by show w.heap.size ≤ w.heap.size + 1; omega) (.slice (some ⟨g', 0, none⟩) (j + 1) cap))
          clear S0 Y0 Y1 Y2 HT HX HY HZ
          go_wp2_with fail
          (try simp only [Exit.inBlock, Exit.then])
          refine bodyPost_ret (v := .agg #[.bool true, .slice (some ⟨g', 0, none⟩) (j + 1) cap]) ?_ rfl ⟨by rw [HV.out], HBE.out⟩
          rw [results_cell_one rfl]
          go_simp
end Go.Proofs.YtdgbplppabalgaaGreatDoor

namespace Go.Proofs.YtdgbplppabalgaaGreatDoor
open Go.RowKit

/-- the box of a fraction and the cell of the result -/
structure Bn (w W : World) (s t : ByteArray) : Prop where
  below : Below w.heap.size w W
  box : BxR W w.heap.size s t
  res : BxT W w.heap.size (w.heap.size + 1) 24 (.string ⟨#[]⟩) (.string ⟨#[]⟩)
theorem Bn.to {w W W' : World} {s t : ByteArray} (h : Bn w W s t) (hb : Below W.heap.size W W') : Bn w W' s t := ⟨h.below.trans (hb.mono h.below.size), h.box.below hb, h.res.kept hb⟩
theorem Bn.new (w : World) (s t : ByteArray) : Bn w ((w.alloc (ratO s t)).alloc (.cells #[.string ⟨#[]⟩, .string ⟨#[]⟩] 24)) s t := by
  have h := BxT.new (w.alloc (ratO s t)) w.heap.size (by rw [push_size]; omega) 24 (.string ⟨#[]⟩) (.string ⟨#[]⟩)
  rw [push_size] at h
  exact ⟨((Below.refl _ w).alloc (Nat.le_refl _) _).alloc (by rw [push_size]; omega) _, (BxR.new w s t).below ((Below.refl _ _).alloc (Nat.le_refl _) _), h⟩
set_option maxHeartbeats 1600000 in
theorem negF_any (n : Int) (t : ByteArray) (w : World) (hn : (str n.natAbs).size ≤ 1000000) :
    Calls Tryz.prog 36 #[ratV (zS n) t] w fun e w' => e = .returned (ratV (zS (-n)) t) ∧ Below w.heap.size w w' := by
  have hN := fun wx => neg_any n wx hn
  obtain ⟨s, hs⟩ : ∃ s, s = zS n := ⟨_, rfl⟩
  obtain ⟨q, hq⟩ : ∃ s, s = zS (-n) := ⟨_, rfl⟩
  rw [← hs, ← hq] at hN
  rw [← hs, ← hq]
  have HN := Lib.hid (show ∀ wx, Bn w wx s t → Calls Tryz.prog 70 #[.string s] wx fun e w' => e = .returned (.string q) ∧ Bn w w' s t from fun wx hx => (hN wx).mono fun _ _ h => ⟨h.1, hx.to h.2⟩)
  have HX := Lib.hid (Bn.new w s t)
  clear hs hq hn hN
  go_enter Tryz.func36, Tryz.ntmps36
  go_upto_region 1 with fail
  obtain ⟨W0, hW0⟩ : ∃ W0, W0 = (w.alloc (ratO s t)).alloc (.cells #[.string ⟨#[]⟩, .string ⟨#[]⟩] 24) := ⟨_, rfl⟩
  rw [← hW0] at HX ⊢
  clear hW0
  have X2 := HX.out.to (Below.drew (Below.refl _ _))
  have p0 := HX.out.box.num
  have p1 := HX.out.box.den
  go_region_with (go_at_call 70; refine (HN.out _ ?hb).mono ?_; (case hb => assumption); rintro e w' ⟨rfl, hbx⟩; have hc0 := hbx.box.num; have hc1 := hbx.box.den; have hf0 := hbx.res.free 0; have he0 := hbx.res.c0; have he1 := hbx.res.c1; have hS0 := hbx.res.set0 (.string q); have hS1 := hS0.set1 (.string t); have hf1 := hS0.free 1; have hg1 := hS0.c1; have hk0 := hS1.c0; have hk1 := hS1.c1; have HBE := Lib.hid ((hbx.below.setCell (p := ⟨w.heap.size + 1, 0, none⟩) (by show w.heap.size ≤ w.heap.size + 1; omega) (.string q)).setCell (p := ⟨w.heap.size + 1, 1, none⟩) (by show w.heap.size ≤ w.heap.size + 1; omega) (.string t)); clear hS0 hS1)
  all_goals (
    go_wp2_with fail
    (try simp only [Exit.inBlock, Exit.then])
    refine bodyPost_ret (v := ratV q t) ?_ rfl ⟨rfl, HBE.out⟩
    rw [results_cell_one rfl]
    go_simp)
set_option maxHeartbeats 1600000 in
theorem absF_any (n : Int) (t : ByteArray) (w : World) (hn : (str n.natAbs).size ≤ 1000000) :
    Calls Tryz.prog 38 #[ratV (zS n) t] w fun e w' => e = .returned (ratV (str n.natAbs) t) ∧ Below w.heap.size w w' := by
  have hN := fun wx => abs_any n wx hn
  obtain ⟨s, hs⟩ : ∃ s, s = zS n := ⟨_, rfl⟩
  obtain ⟨q, hq⟩ : ∃ s, s = str n.natAbs := ⟨_, rfl⟩
  rw [← hs, ← hq] at hN
  rw [← hs, ← hq]
  have HN := Lib.hid (show ∀ wx, Bn w wx s t → Calls Tryz.prog 98 #[.string s] wx fun e w' => e = .returned (.string q) ∧ Bn w w' s t from fun wx hx => (hN wx).mono fun _ _ h => ⟨h.1, hx.to h.2⟩)
  have HX := Lib.hid (Bn.new w s t)
  clear hs hq hn hN
  go_enter Tryz.func38, Tryz.ntmps38
  go_upto_region 1 with fail
  obtain ⟨W0, hW0⟩ : ∃ W0, W0 = (w.alloc (ratO s t)).alloc (.cells #[.string ⟨#[]⟩, .string ⟨#[]⟩] 24) := ⟨_, rfl⟩
  rw [← hW0] at HX ⊢
  clear hW0
  have X2 := HX.out.to (Below.drew (Below.refl _ _))
  have p0 := HX.out.box.num
  have p1 := HX.out.box.den
  go_region_with (go_at_call 98; refine (HN.out _ ?hb).mono ?_; (case hb => assumption); rintro e w' ⟨rfl, hbx⟩; have hc0 := hbx.box.num; have hc1 := hbx.box.den; have hf0 := hbx.res.free 0; have he0 := hbx.res.c0; have he1 := hbx.res.c1; have hS0 := hbx.res.set0 (.string q); have hS1 := hS0.set1 (.string t); have hf1 := hS0.free 1; have hg1 := hS0.c1; have hk0 := hS1.c0; have hk1 := hS1.c1; have HBE := Lib.hid ((hbx.below.setCell (p := ⟨w.heap.size + 1, 0, none⟩) (by show w.heap.size ≤ w.heap.size + 1; omega) (.string q)).setCell (p := ⟨w.heap.size + 1, 1, none⟩) (by show w.heap.size ≤ w.heap.size + 1; omega) (.string t)); clear hS0 hS1)
  all_goals (
    go_wp2_with fail
    (try simp only [Exit.inBlock, Exit.then])
    refine bodyPost_ret (v := ratV q t) ?_ rfl ⟨rfl, HBE.out⟩
    rw [results_cell_one rfl]
    go_simp)
end Go.Proofs.YtdgbplppabalgaaGreatDoor

namespace Go.Proofs.YtdgbplppabalgaaGreatDoor

/-- a right fraction -/
structure Fr (n : Int) (d : Nat) : Prop where
  pos : 0 < d
  one : Nat.gcd n.natAbs d = 1
def lowN (n : Int) (d : Nat) : Int := n / ((Nat.gcd n.natAbs d : Nat) : Int)
def lowD (n : Int) (d : Nat) : Nat := d / Nat.gcd n.natAbs d
theorem low_parts (n : Int) (d : Nat) : n = ((Nat.gcd n.natAbs d : Nat) : Int) * lowN n d ∧ d = Nat.gcd n.natAbs d * lowD n d := by
  have h1 : ((Nat.gcd n.natAbs d : Nat) : Int) ∣ n := Int.ofNat_dvd_left.2 (Nat.gcd_dvd_left _ _)
  exact ⟨(Int.mul_ediv_cancel' h1).symm, (Nat.mul_div_cancel' (Nat.gcd_dvd_right _ _)).symm⟩
theorem low_cross (n : Int) (d : Nat) : lowN n d * (d : Int) = n * (lowD n d : Int) := by
  obtain ⟨h1, h2⟩ := low_parts n d
  obtain ⟨g, hg⟩ : ∃ g, g = Nat.gcd n.natAbs d := ⟨_, rfl⟩
  obtain ⟨p, hp⟩ : ∃ p, p = lowN n d := ⟨_, rfl⟩
  obtain ⟨q, hq⟩ : ∃ q, q = lowD n d := ⟨_, rfl⟩
  rw [← hg, ← hp] at h1
  rw [← hg, ← hq] at h2
  rw [← hp, ← hq, h1, h2]; push_cast
  rw [Int.mul_left_comm, Int.mul_assoc]
theorem low_right (n : Int) {d : Nat} (hd : 0 < d) : Fr (lowN n d) (lowD n d) := by
  obtain ⟨h1, h2⟩ := low_parts n d
  have hg : 0 < Nat.gcd n.natAbs d := Nat.gcd_pos_of_pos_right _ hd
  have h3 : n.natAbs = Nat.gcd n.natAbs d * (lowN n d).natAbs := by
    have := congrArg Int.natAbs h1
    rw [Int.natAbs_mul, Int.natAbs_natCast] at this; exact this
  refine ⟨?_, ?_⟩
  · apply Nat.pos_of_ne_zero; intro h; rw [h] at h2; omega
  · have h4 : Nat.gcd n.natAbs d = Nat.gcd n.natAbs d * Nat.gcd (lowN n d).natAbs (lowD n d) := by
      rw [← Nat.gcd_mul_left, ← h3, ← h2]
    exact (Nat.eq_of_mul_eq_mul_left hg (by rw [Nat.mul_one]; exact h4)).symm
theorem Fr.unique {n n' : Int} {d d' : Nat} (h : Fr n d) (h' : Fr n' d') (e : n * (d' : Int) = n' * (d : Int)) : n = n' ∧ d = d' := by
  have e1 : n.natAbs * d' = n'.natAbs * d := by
    have := congrArg Int.natAbs e
    rw [Int.natAbs_mul, Int.natAbs_mul, Int.natAbs_natCast, Int.natAbs_natCast] at this; exact this
  have c1 : Nat.Coprime d n.natAbs := by rw [Nat.coprime_iff_gcd_eq_one, Nat.gcd_comm]; exact h.one
  have c2 : Nat.Coprime d' n'.natAbs := by rw [Nat.coprime_iff_gcd_eq_one, Nat.gcd_comm]; exact h'.one
  have d1 : d ∣ d' := c1.dvd_of_dvd_mul_left ⟨n'.natAbs, by rw [e1, Nat.mul_comm]⟩
  have d2 : d' ∣ d := c2.dvd_of_dvd_mul_left ⟨n.natAbs, by rw [← e1, Nat.mul_comm]⟩
  have hd : d = d' := Nat.dvd_antisymm d1 d2
  subst hd
  have hp := h.pos
  exact ⟨Int.eq_of_mul_eq_mul_right (by omega) e, rfl⟩
theorem low_eq {n n' : Int} {d d' : Nat} (hd : 0 < d) (hd' : 0 < d') (e : n * (d' : Int) = n' * (d : Int)) : lowN n d = lowN n' d' ∧ lowD n d = lowD n' d' := by
  refine (low_right n hd).unique (low_right n' hd') ?_
  have h1 := low_cross n d
  have h2 := low_cross n' d'
  obtain ⟨p, hp⟩ : ∃ p, p = lowN n d := ⟨_, rfl⟩
  obtain ⟨q, hq⟩ : ∃ q : Int, q = (lowD n d : Int) := ⟨_, rfl⟩
  obtain ⟨p', hp'⟩ : ∃ p, p = lowN n' d' := ⟨_, rfl⟩
  obtain ⟨q', hq'⟩ : ∃ q : Int, q = (lowD n' d' : Int) := ⟨_, rfl⟩
  rw [← hp, ← hq] at h1
  rw [← hp', ← hq'] at h2
  rw [← hp, ← hq, ← hp', ← hq']
  have hD : (d : Int) ≠ 0 := by omega
  have hD' : (d' : Int) ≠ 0 := by omega
  apply Int.eq_of_mul_eq_mul_right hD
  apply Int.eq_of_mul_eq_mul_right hD'
  grind
theorem low_self {n : Int} {d : Nat} (h : Fr n d) : lowN n d = n ∧ lowD n d = d := by
  unfold lowN lowD
  rw [h.one]
  exact ⟨by simp, Nat.div_one _⟩
/-- a fraction as a pair, in lowest terms -/
def lo (n : Int) (d : Nat) : Int × Nat := (lowN n d, lowD n d)
def FrP (p : Int × Nat) : Prop := Fr p.1 p.2
def addP (p q : Int × Nat) : Int × Nat := lo (p.1 * (q.2 : Int) + q.1 * (p.2 : Int)) (p.2 * q.2)
def mulP (p q : Int × Nat) : Int × Nat := lo (p.1 * q.1) (p.2 * q.2)
def negP (p : Int × Nat) : Int × Nat := (-p.1, p.2)
/-- the same value -/
def Eqv (p q : Int × Nat) : Prop := p.1 * (q.2 : Int) = q.1 * (p.2 : Int)
theorem lo_right (n : Int) {d : Nat} (hd : 0 < d) : FrP (lo n d) := low_right n hd
theorem lo_eqv (n : Int) (d : Nat) : Eqv (lo n d) (n, d) := by unfold Eqv lo; exact low_cross n d
theorem Eqv.eq {p q : Int × Nat} (hp : FrP p) (hq : FrP q) (h : Eqv p q) : p = q := by
  obtain ⟨h1, h2⟩ := Fr.unique hp hq h
  exact Prod.ext h1 h2
theorem Eqv.symm {p q : Int × Nat} (h : Eqv p q) : Eqv q p := by unfold Eqv at *; exact h.symm
theorem Eqv.trans {p q r : Int × Nat} (hq : 0 < q.2) (h : Eqv p q) (k : Eqv q r) : Eqv p r := by
  unfold Eqv at *
  have hD : (q.2 : Int) ≠ 0 := by omega
  apply Int.eq_of_mul_eq_mul_right hD
  grind
theorem Eqv.add {p p' q q' : Int × Nat} (h : Eqv p p') (k : Eqv q q') : Eqv (p.1 * (q.2 : Int) + q.1 * (p.2 : Int), p.2 * q.2) (p'.1 * (q'.2 : Int) + q'.1 * (p'.2 : Int), p'.2 * q'.2) := by
  unfold Eqv at *
  push_cast
  grind
theorem Eqv.mul {p p' q q' : Int × Nat} (h : Eqv p p') (k : Eqv q q') : Eqv (p.1 * q.1, p.2 * q.2) (p'.1 * q'.1, p'.2 * q'.2) := by
  unfold Eqv at *
  push_cast
  grind
theorem addP_right {p q : Int × Nat} (hp : FrP p) (hq : FrP q) : FrP (addP p q) := lo_right _ (Nat.mul_pos hp.pos hq.pos)
theorem mulP_right {p q : Int × Nat} (hp : FrP p) (hq : FrP q) : FrP (mulP p q) := lo_right _ (Nat.mul_pos hp.pos hq.pos)
theorem negP_right {p : Int × Nat} (hp : FrP p) : FrP (negP p) := ⟨hp.pos, by show Nat.gcd (-p.1).natAbs p.2 = 1; rw [Int.natAbs_neg]; exact hp.one⟩
theorem addP_comm (p q : Int × Nat) : addP p q = addP q p := by
  unfold addP
  rw [Int.add_comm, Nat.mul_comm]
theorem mulP_comm (p q : Int × Nat) : mulP p q = mulP q p := by
  unfold mulP
  rw [Int.mul_comm, Nat.mul_comm]
theorem Eqv.refl (p : Int × Nat) : Eqv p p := rfl
theorem addP_assoc {p q r : Int × Nat} (hp : FrP p) (hq : FrP q) (hr : FrP r) : addP (addP p q) r = addP p (addP q r) := by
  have a := hp.pos
  have b := hq.pos
  have c := hr.pos
  refine Eqv.eq (addP_right (addP_right hp hq) hr) (addP_right hp (addP_right hq hr)) ?_
  have e1 := Eqv.add (lo_eqv (p.1 * (q.2 : Int) + q.1 * (p.2 : Int)) (p.2 * q.2)) (Eqv.refl r)
  have e2 := Eqv.add (Eqv.refl p) (lo_eqv (q.1 * (r.2 : Int) + r.1 * (q.2 : Int)) (q.2 * r.2))
  refine Eqv.trans ?_ (lo_eqv _ _) (Eqv.trans ?_ e1 (Eqv.symm (Eqv.trans ?_ (lo_eqv _ _) (Eqv.trans ?_ e2 ?_))))
  · exact Nat.mul_pos (lo_right _ (Nat.mul_pos a b)).pos c
  · exact Nat.mul_pos (Nat.mul_pos a b) c
  · exact Nat.mul_pos a (lo_right _ (Nat.mul_pos b c)).pos
  · exact Nat.mul_pos a (Nat.mul_pos b c)
  · unfold Eqv; push_cast; grind
theorem mulP_assoc {p q r : Int × Nat} (hp : FrP p) (hq : FrP q) (hr : FrP r) : mulP (mulP p q) r = mulP p (mulP q r) := by
  have a := hp.pos
  have b := hq.pos
  have c := hr.pos
  refine Eqv.eq (mulP_right (mulP_right hp hq) hr) (mulP_right hp (mulP_right hq hr)) ?_
  have e1 := Eqv.mul (lo_eqv (p.1 * q.1) (p.2 * q.2)) (Eqv.refl r)
  have e2 := Eqv.mul (Eqv.refl p) (lo_eqv (q.1 * r.1) (q.2 * r.2))
  refine Eqv.trans ?_ (lo_eqv _ _) (Eqv.trans ?_ e1 (Eqv.symm (Eqv.trans ?_ (lo_eqv _ _) (Eqv.trans ?_ e2 ?_))))
  · exact Nat.mul_pos (lo_right _ (Nat.mul_pos a b)).pos c
  · exact Nat.mul_pos (Nat.mul_pos a b) c
  · exact Nat.mul_pos a (lo_right _ (Nat.mul_pos b c)).pos
  · exact Nat.mul_pos a (Nat.mul_pos b c)
  · unfold Eqv; push_cast; grind
theorem mulP_add {p q r : Int × Nat} (hp : FrP p) (hq : FrP q) (hr : FrP r) : mulP p (addP q r) = addP (mulP p q) (mulP p r) := by
  have a := hp.pos
  have b := hq.pos
  have c := hr.pos
  refine Eqv.eq (mulP_right hp (addP_right hq hr)) (addP_right (mulP_right hp hq) (mulP_right hp hr)) ?_
  have e1 := Eqv.mul (Eqv.refl p) (lo_eqv (q.1 * (r.2 : Int) + r.1 * (q.2 : Int)) (q.2 * r.2))
  have e2 := Eqv.add (lo_eqv (p.1 * q.1) (p.2 * q.2)) (lo_eqv (p.1 * r.1) (p.2 * r.2))
  refine Eqv.trans ?_ (lo_eqv _ _) (Eqv.trans ?_ e1 (Eqv.symm (Eqv.trans ?_ (lo_eqv _ _) (Eqv.trans ?_ e2 ?_))))
  · exact Nat.mul_pos a (lo_right _ (Nat.mul_pos b c)).pos
  · exact Nat.mul_pos a (Nat.mul_pos b c)
  · exact Nat.mul_pos (lo_right _ (Nat.mul_pos a b)).pos (lo_right _ (Nat.mul_pos a c)).pos
  · exact Nat.mul_pos (Nat.mul_pos a b) (Nat.mul_pos a c)
  · unfold Eqv; push_cast; grind
theorem sub_back {p q : Int × Nat} (hp : FrP p) (hq : FrP q) : addP (addP p (negP q)) q = p := by
  have a := hp.pos
  have b := hq.pos
  refine Eqv.eq (addP_right (addP_right hp (negP_right hq)) hq) hp ?_
  have e1 := Eqv.add (lo_eqv (p.1 * (q.2 : Int) + -q.1 * (p.2 : Int)) (p.2 * q.2)) (Eqv.refl q)
  refine Eqv.trans ?_ (lo_eqv _ _) (Eqv.trans ?_ e1 ?_)
  · exact Nat.mul_pos (lo_right _ (Nat.mul_pos a b)).pos b
  · exact Nat.mul_pos (Nat.mul_pos a b) b
  · unfold Eqv; push_cast; grind
end Go.Proofs.YtdgbplppabalgaaGreatDoor

namespace Go.Proofs.YtdgbplppabalgaaGreatDoor
open Go.RowKit

/-- the cell of the result -/
structure Bz (w W : World) : Prop where
  below : Below w.heap.size w W
  res : BxT W w.heap.size w.heap.size 24 (.string ⟨#[]⟩) (.string ⟨#[]⟩)
theorem Bz.to {w W W' : World} (h : Bz w W) (hb : Below W.heap.size W W') : Bz w W' := ⟨h.below.trans (hb.mono h.below.size), h.res.kept hb⟩
theorem Bz.new (w : World) : Bz w (w.alloc (.cells #[.string ⟨#[]⟩, .string ⟨#[]⟩] 24)) := ⟨(Below.refl _ w).alloc (Nat.le_refl _) _, BxT.new w w.heap.size (Nat.le_refl _) 24 (.string ⟨#[]⟩) (.string ⟨#[]⟩)⟩
theorem gcd_tmod (x : Int) {y : Int} : Nat.gcd y.natAbs (x.tmod y).natAbs = Nat.gcd x.natAbs y.natAbs := by
  rw [Int.natAbs_tmod, Nat.gcd_comm y.natAbs (x.natAbs % y.natAbs), ← Nat.gcd_rec, Nat.gcd_comm]
theorem tmod_le (x : Int) {y : Int} (hy : y ≠ 0) : (x.tmod y).natAbs < y.natAbs := by
  rw [Int.natAbs_tmod]; exact Nat.mod_lt _ (by omega)
theorem low_tdiv (n : Int) {d : Int} (hd : 0 < d) {G : Nat} (hG : G = Nat.gcd n.natAbs d.natAbs) : n.tdiv (G : Int) = lowN n d.natAbs ∧ d.tdiv (G : Int) = (lowD n d.natAbs : Int) ∧ 0 < G := by
  have h1 : ((Nat.gcd n.natAbs d.natAbs : Nat) : Int) ∣ n := Int.ofNat_dvd_left.2 (Nat.gcd_dvd_left _ _)
  refine ⟨?_, ?_, ?_⟩
  · rw [hG]; exact Int.tdiv_eq_ediv_of_dvd h1
  · rw [hG, Int.tdiv_eq_ediv_of_nonneg (by omega)]
    unfold lowD
    rw [Int.natCast_ediv, show ((d.natAbs : Nat) : Int) = d by omega]
  · rw [hG]; exact Nat.gcd_pos_of_pos_right _ (by omega)
set_option maxHeartbeats 3200000 in
theorem lowF_any (n d : Int) (w : World) (hs : Std w) (hd : 0 < d) (hd2 : d ≤ 9223372036854775807) (hn1 : -9223372036854775807 ≤ n) (hn2 : n ≤ 9223372036854775807) :
    Calls Tryz.prog 117 #[.int .i64 n, .int .i64 d] w fun e w' => e = .returned (ratV (zS (lowN n d.natAbs)) (str (lowD n d.natAbs))) ∧ Below w.heap.size w w' := by
  obtain ⟨G, hG⟩ : ∃ G, G = Nat.gcd n.natAbs d.natAbs := ⟨_, rfl⟩
  obtain ⟨l1, l2, l3⟩ := low_tdiv n hd hG
  obtain ⟨P, hP⟩ : ∃ P, P = lowN n d.natAbs := ⟨_, rfl⟩
  obtain ⟨Q, hQ⟩ : ∃ Q, Q = lowD n d.natAbs := ⟨_, rfl⟩
  rw [← hP] at l1 ⊢
  rw [← hQ] at l2 ⊢
  have hPb : P.natAbs ≤ n.natAbs := by rw [← l1, Int.natAbs_tdiv]; exact Nat.div_le_self _ _
  have hQb : Q ≤ d.natAbs := by rw [hQ]; exact Nat.div_le_self _ _
  have hGd : G ≤ d.natAbs := by rw [hG]; exact Nat.gcd_le_right _ (by omega)
  have hO1 := fun wx hw => ofW_any P wx hw (by omega) (by omega)
  have hO2 := fun wx hw => ofW_any (Q : Int) wx hw (by omega) (by omega)
  rw [zS_of_nat] at hO2
  obtain ⟨ps, hps⟩ : ∃ s, s = zS P := ⟨_, rfl⟩
  obtain ⟨qs, hqs⟩ : ∃ s, s = str Q := ⟨_, rfl⟩
  rw [← hps] at hO1 ⊢
  rw [← hqs] at hO2 ⊢
  have HO := Lib.hid (show ∀ (v : Int) wx, (v = P ∨ v = (Q : Int)) → Bz w wx → Calls Tryz.prog 72 #[.int .i64 v] wx fun e w' => (∃ u, e = .returned (.string u) ∧ (v = P → u = ps) ∧ (v = (Q : Int) → u = qs)) ∧ Bz w w' from fun v wx hv hx => by
    by_cases hvP : v = P
    · subst hvP
      refine (hO1 wx (hs.below hx.below)).mono fun e w' h => ⟨⟨ps, h.1, fun _ => rfl, fun hh => ?_⟩, hx.to h.2⟩
      rw [hps, hqs, hh, zS_of_nat]
    · obtain rfl : v = (Q : Int) := by rcases hv with h | h <;> first | exact absurd h hvP | exact h
      exact (hO2 wx (hs.below hx.below)).mono fun e w' h => ⟨⟨qs, h.1, fun hh => absurd hh hvP, fun _ => rfl⟩, hx.to h.2⟩)
  have HB := Lib.hid (Bz.new w)
  obtain ⟨r, hr⟩ : ∃ r, r = n.tmod d := ⟨_, rfl⟩
  have hr' := hr.symm
  have hrb : r.natAbs < d.natAbs := by rw [hr]; exact tmod_le n (by omega)
  have HGR := Lib.hid (show Nat.gcd d.natAbs r.natAbs = G by rw [hr, gcd_tmod, hG])
  have hdz : (d == 0) = false := by rw [beq_eq_false_iff_ne]; omega
  have hdn : d ≠ 0 := by omega
  have wr0 := IntWalk.i64_in r ⟨by omega, by omega⟩
  have wP := IntWalk.i64_in P ⟨by omega, by omega⟩
  have wQ := IntWalk.i64_in (Q : Int) ⟨by omega, by omega⟩
  clear hO1 hO2 hs hG hP hQ hps hqs hr
  go_enter Tryz.func117, Tryz.ntmps117
  go_wp2_with fail
  obtain ⟨W0, hW0⟩ : ∃ W0, W0 = w.alloc (.cells #[.string ⟨#[]⟩, .string ⟨#[]⟩] 24) := ⟨_, rfl⟩
  rw [← hW0] at HB ⊢
  clear hW0
  go_quiet (fail)
  go_wp2_with fail
  go_loopw [5, 6] (fun xv yv wr => ∃ x y : Int, xv = .int .i64 x ∧ yv = .int .i64 y ∧ -9223372036854775807 ≤ x ∧ x ≤ 9223372036854775807 ∧ -9223372036854775807 ≤ y ∧ y ≤ 9223372036854775807 ∧ Hid (Nat.gcd x.natAbs y.natAbs = G) ∧ Hid (Bz w wr)) (fun _ yv _ => (intOf yv).natAbs)
  case atStart => exact ⟨d, r, rfl, rfl, by omega, by omega, by omega, by omega, HGR, HB.out.to (below_drewN (Below.refl _ _) _)⟩
  case round =>
    obtain ⟨x, y, rfl, rfl, b1, b2, b3, b4, HI, HZ⟩ := hrel
    by_cases hy : y = 0
    · subst hy
      have hxG : max x (-x) = (G : Int) := by
        have h := HI.out
        rw [Int.natAbs_zero, Nat.gcd_zero_right] at h; omega
      have wx := IntWalk.i64_in (-x) ⟨by omega, by omega⟩
      have wG := IntWalk.i64_in (G : Int) ⟨by omega, by omega⟩
      have hGz : ((G : Int) == 0) = false := by rw [beq_eq_false_iff_ne]; omega
      have hGn : (G : Int) ≠ 0 := by omega
      clear HI HGR hr' hrb hdz hdn wr0
      go_upto_region 5 with fail
      have X2 := HZ.out.to (Below.drew (Below.refl _ _))
      go_region_with (go_at_call 72; refine (HO.out _ _ ?hv ?hb).mono ?_; (case hb => assumption); (case hv => first | exact .inl rfl | exact .inr rfl); rintro e w' ⟨⟨u, rfl, hu1, hu2⟩, hbx⟩; (first | (obtain rfl := (hu1 rfl).symm) | (obtain rfl := (hu2 rfl).symm)); clear hu1 hu2; have hf0 := hbx.res.free 0; have he0 := hbx.res.c0; have he1 := hbx.res.c1; have hS0 := hbx.res.set0 (.string ps); have hS1 := hS0.set1 (.string qs); have hf1 := hS0.free 1; have hg1 := hS0.c1; have hk0 := hS1.c0; have hk1 := hS1.c1; have HBE := Lib.hid ((hbx.below.setCell (p := ⟨w.heap.size, 0, none⟩) (Nat.le_refl _) (.string ps)).setCell (p := ⟨w.heap.size, 1, none⟩) (Nat.le_refl _) (.string qs)); clear hS0 hS1)
      all_goals (
        go_wp2_with fail
        (try simp only [Exit.inBlock, Exit.then])
        refine bodyPost_ret (v := ratV ps qs) ?_ rfl ⟨rfl, HBE.out⟩
        rw [results_cell_one rfl]
        go_simp)
    · have hyz : (y == 0) = false := by rw [beq_eq_false_iff_ne]; exact hy
      have hyb : (y != 0) = true := by rw [bne, hyz]; rfl
      obtain ⟨m, hm⟩ : ∃ m, m = x.tmod y := ⟨_, rfl⟩
      have hm' := hm.symm
      have hmb : m.natAbs < y.natAbs := by rw [hm]; exact tmod_le x hy
      have wm := IntWalk.i64_in m ⟨by omega, by omega⟩
      have HI2 := Lib.hid (show Nat.gcd y.natAbs m.natAbs = G by rw [hm, gcd_tmod]; exact HI.out)
      clear hm HI HGR hr' hrb hdz hdn wr0
      go_wp2_with fail
      go_quiet (fail)
      go_wp2_with fail
      all_goals go_roundw
      case rel => exact ⟨y, m, rfl, rfl, b3, b4, by omega, by omega, HI2, HZ.out.to (below_drewN (Below.refl _ _) _)⟩
      case measure => simp [intOf] <;> omega
end Go.Proofs.YtdgbplppabalgaaGreatDoor

namespace Go.Proofs.YtdgbplppabalgaaGreatDoor
open Go.RowKit

theorem BxT.other {w : World} {B g : Nat} {T : TypeId} {u v : Value} (h : BxT w B g T u v) {p : Addr} (hp : g ≠ p.block) (x : Value) : BxT (w.setCell p x) B g T u v := ownsRow_setCell_other h (by simp [Value.ownBlock]; exact hp) x
theorem BxT.alloc {w : World} {B g : Nat} {T : TypeId} {u v : Value} (h : BxT w B g T u v) (o : Obj) : BxT (w.alloc o) B g T u v := World.ownsRow.alloc h o
theorem low_fdiv (n : Int) {d : Int} (hd : 0 < d) {G : Nat} (hG : G = Nat.gcd n.natAbs d.natAbs) : n.fdiv (G : Int) = lowN n d.natAbs ∧ d.fdiv (G : Int) = (lowD n d.natAbs : Int) ∧ 0 < G := by
  refine ⟨?_, ?_, ?_⟩
  · rw [hG, Int.fdiv_eq_ediv_of_nonneg _ (by omega)]; rfl
  · rw [hG, Int.fdiv_eq_ediv_of_nonneg _ (by omega)]
    unfold lowD
    rw [Int.natCast_ediv, show ((d.natAbs : Nat) : Int) = d by omega]
  · rw [hG]; exact Nat.gcd_pos_of_pos_right _ (by omega)
set_option maxHeartbeats 3200000 in
theorem lowestF_few (n d : Int) (w : World) (hs : Std w) (hf : fewOk n d) (h0 : 0 < d) (hn : (str n.natAbs).size ≤ 400000) (hd : (str d.natAbs).size ≤ 400000) :
    Calls Tryz.prog 71 #[.string (zS n), .string (zS d)] w fun e w' => e = .returned (.tuple #[ratV (zS (lowN n d.natAbs)) (str (lowD n d.natAbs)), .int .i64 0]) ∧ Below w.heap.size w w' := by
  have HF := Lib.hid (fun wx hw => fewF_yes n d wx hw hf (by omega) (by omega))
  obtain ⟨k1, k2, k3, k4⟩ := hf
  have HL := Lib.hid (fun wx hw => lowF_any n d wx hw (by omega) (by omega) (by omega) (by omega))
  have HS := Lib.hid hs
  obtain ⟨s, hs2⟩ : ∃ s, s = zS n := ⟨_, rfl⟩
  obtain ⟨t, ht⟩ : ∃ s, s = zS d := ⟨_, rfl⟩
  obtain ⟨ps, hps⟩ : ∃ s, s = zS (lowN n d.natAbs) := ⟨_, rfl⟩
  obtain ⟨qs, hqs⟩ : ∃ s, s = str (lowD n d.natAbs) := ⟨_, rfl⟩
  rw [← hs2, ← ht] at HF ⊢
  rw [← hps, ← hqs] at HL ⊢
  clear hs2 ht hps hqs hn hd k1 k2 k3 k4 h0 hs
  go_enter Tryz.func71, Tryz.ntmps71
  go_wp2_with fail
  obtain ⟨W0, hW0⟩ : ∃ W0, W0 = w.alloc (.cells #[.string ⟨#[]⟩, .string ⟨#[]⟩] 24) := ⟨_, rfl⟩
  have HB := Lib.hid (Bz.new w)
  rw [← hW0] at HB ⊢
  clear hW0
  refine (HF.out _ (HS.out.below HB.out.below)).mono ?_
  rintro e w1 ⟨rfl, h1⟩
  have Z1 := Lib.hid (HB.out.to h1)
  have hlt := Z1.out.res.lt.2
  have A := BxT.new w1 w.heap.size Z1.out.below.size 78 (.int .i64 (n)) (.int .i64 (d))
  have cc0 := A.c0
  have cc1 := A.c1
  have R1 := Z1.out.res.alloc (.cells #[.int .i64 (n), .int .i64 (d)] 78)
  have D1 := Z1.out.below.alloc Z1.out.below.size (.cells #[.int .i64 (n), .int .i64 (d)] 78)
  have HZ := Lib.hid (show Bz w _ from ⟨D1, R1⟩)
  clear A R1 D1 h1
  go_wp2_with fail
  refine (HL.out _ (HS.out.below HZ.out.below)).mono ?_
  rintro e w2 ⟨rfl, h2⟩
  have Z2 := Lib.hid (HZ.out.to h2)
  clear h2
  have hf0 := Z2.out.res.free 0
  have he0 := Z2.out.res.c0
  have he1 := Z2.out.res.c1
  have hS0 := Z2.out.res.set0 (.string ps)
  have hS1 := hS0.set1 (.string qs)
  have hf1 := hS0.free 1
  have hg1 := hS0.c1
  have hk0 := hS1.c0
  have hk1 := hS1.c1
  have HBE := Lib.hid ((Z2.out.below.setCell (p := ⟨w.heap.size, 0, none⟩) (Nat.le_refl _) (.string ps)).setCell (p := ⟨w.heap.size, 1, none⟩) (Nat.le_refl _) (.string qs))
  clear hS0 hS1
  go_wp2_with fail
  (try simp only [Exit.inBlock, Exit.then])
  refine bodyPost_ret (v := .tuple #[ratV ps qs, .int .i64 0]) ?_ rfl ⟨rfl, HBE.out⟩
  rw [results_cell_tmp rfl]
  go_simp
set_option maxHeartbeats 3200000 in
theorem lowestF_far (n d : Int) (w : World) (hs : Std w) (hf : ¬ fewOk n d) (h0 : 0 < d) (hn : (str n.natAbs).size ≤ 400000) (hd : (str d.natAbs).size ≤ 400000) :
    Calls Tryz.prog 71 #[.string (zS n), .string (zS d)] w fun e w' => e = .returned (.tuple #[ratV (zS (lowN n d.natAbs)) (str (lowD n d.natAbs)), .int .i64 0]) ∧ Below w.heap.size w w' := by
  have HF := Lib.hid (fun wx hw => fewF_no n d wx hw hf (by omega) (by omega))
  obtain ⟨G, hG⟩ : ∃ G, G = Nat.gcd n.natAbs d.natAbs := ⟨_, rfl⟩
  obtain ⟨l1, l2, l3⟩ := low_fdiv n h0 hG
  have hGd : G ≤ d.natAbs := by rw [hG]; exact Nat.gcd_le_right _ (by omega)
  have hGs := sz_le hGd hd
  have hg := fun wx hw => gcdW_any n d wx hw hn hd
  rw [← hG] at hg
  have hd1 := fun wx hw => divW_any n (G : Int) wx hw hn (by rw [Int.natAbs_natCast]; exact hGs) (by omega)
  have hd2 := fun wx hw => divW_any d (G : Int) wx hw hd (by rw [Int.natAbs_natCast]; exact hGs) (by omega)
  rw [l1, zS_of_nat] at hd1
  rw [l2, zS_of_nat, zS_of_nat] at hd2
  have HS := Lib.hid hs
  obtain ⟨s, hs2⟩ : ∃ s, s = zS n := ⟨_, rfl⟩
  obtain ⟨t, ht⟩ : ∃ s, s = zS d := ⟨_, rfl⟩
  obtain ⟨ps, hps⟩ : ∃ s, s = zS (lowN n d.natAbs) := ⟨_, rfl⟩
  obtain ⟨qs, hqs⟩ : ∃ s, s = str (lowD n d.natAbs) := ⟨_, rfl⟩
  obtain ⟨gs, hgs⟩ : ∃ s, s = str G := ⟨_, rfl⟩
  obtain ⟨r1, hr1⟩ : ∃ s, s = zS (n.fmod (G : Int)) := ⟨_, rfl⟩
  obtain ⟨r2, hr2⟩ : ∃ s, s = zS (d.fmod (G : Int)) := ⟨_, rfl⟩
  rw [← hs2, ← ht] at HF ⊢
  rw [← hps, ← hqs]
  rw [← hs2, ← ht, ← hgs] at hg
  rw [← hs2, ← hgs, ← hps, ← hr1] at hd1
  rw [← ht, ← hgs, ← hqs, ← hr2] at hd2
  have HG := Lib.hid hg
  have HD1 := Lib.hid hd1
  have HD2 := Lib.hid hd2
  clear hs2 ht hps hqs hgs hr1 hr2 hn hd h0 hs hf hG l1 l2 l3 hGd hGs hg hd1 hd2
  go_enter Tryz.func71, Tryz.ntmps71
  go_wp2_with fail
  obtain ⟨W0, hW0⟩ : ∃ W0, W0 = w.alloc (.cells #[.string ⟨#[]⟩, .string ⟨#[]⟩] 24) := ⟨_, rfl⟩
  have HB := Lib.hid (Bz.new w)
  rw [← hW0] at HB ⊢
  clear hW0
  refine (HF.out _ (HS.out.below HB.out.below)).mono ?_
  rintro e w1 ⟨rfl, h1⟩
  have Z1 := Lib.hid (HB.out.to h1)
  have hlt := Z1.out.res.lt.2
  have A := BxT.new w1 w.heap.size Z1.out.below.size 78 (.int .i64 (0)) (.int .i64 (0))
  have cc0 := A.c0
  have cc1 := A.c1
  have R1 := Z1.out.res.alloc (.cells #[.int .i64 (0), .int .i64 (0)] 78)
  have D1 := Z1.out.below.alloc Z1.out.below.size (.cells #[.int .i64 (0), .int .i64 (0)] 78)
  have HZ := Lib.hid (show Bz w _ from ⟨D1, R1⟩)
  clear A R1 D1 h1
  go_wp2_with fail
  refine (HG.out _ (HS.out.below HZ.out.below)).mono ?_
  rintro e w2 ⟨rfl, h2⟩
  have Z2 := Lib.hid (HZ.out.to h2)
  clear h2
  go_wp2_with fail
  refine (HD1.out _ (HS.out.below Z2.out.below)).mono ?_
  rintro e w3 ⟨rfl, h3⟩
  have Z3 := Lib.hid (Z2.out.to h3)
  clear h3
  go_wp2_with fail
  refine (HD2.out _ (HS.out.below Z3.out.below)).mono ?_
  rintro e w4 ⟨rfl, h4⟩
  have Z4 := Lib.hid (Z3.out.to h4)
  clear h4
  have hf0 := Z4.out.res.free 0
  have he0 := Z4.out.res.c0
  have he1 := Z4.out.res.c1
  have hS0 := Z4.out.res.set0 (.string ps)
  have hS1 := hS0.set1 (.string qs)
  have hf1 := hS0.free 1
  have hg1 := hS0.c1
  have hk0 := hS1.c0
  have hk1 := hS1.c1
  have HBE := Lib.hid ((Z4.out.below.setCell (p := ⟨w.heap.size, 0, none⟩) (Nat.le_refl _) (.string ps)).setCell (p := ⟨w.heap.size, 1, none⟩) (Nat.le_refl _) (.string qs))
  clear hS0 hS1
  go_wp2_with fail
  (try simp only [Exit.inBlock, Exit.then])
  refine bodyPost_ret (v := .tuple #[ratV ps qs, .int .i64 0]) ?_ rfl ⟨rfl, HBE.out⟩
  rw [results_cell_tmp rfl]
  go_simp
theorem lowestF_any (n d : Int) (w : World) (hs : Std w) (h0 : 0 < d) (hn : (str n.natAbs).size ≤ 400000) (hd : (str d.natAbs).size ≤ 400000) :
    Calls Tryz.prog 71 #[.string (zS n), .string (zS d)] w fun e w' => e = .returned (.tuple #[ratV (zS (lowN n d.natAbs)) (str (lowD n d.natAbs)), .int .i64 0]) ∧ Below w.heap.size w w' := by
  by_cases h : fewOk n d
  · exact lowestF_few n d w hs h h0 hn hd
  · exact lowestF_far n d w hs h h0 hn hd
end Go.Proofs.YtdgbplppabalgaaGreatDoor

namespace Go.Proofs.YtdgbplppabalgaaGreatDoor

def cmpP (p q : Int × Nat) : Int := cmpZ (p.1 * (q.2 : Int)) (q.1 * (p.2 : Int))
theorem cmpZ_sgn (x y : Int) : cmpZ x y = sgnI (x - y) := by
  unfold cmpZ sgnI
  by_cases h1 : x < y
  · rw [if_pos h1, if_neg (by omega), if_pos (by omega)]
  · by_cases h2 : y < x
    · rw [if_neg h1, if_pos h2, if_neg (by omega), if_neg (by omega)]
    · rw [if_neg h1, if_neg h2, if_pos (by omega)]
theorem sgnI_pos {z : Int} (h : 0 < z) : sgnI z = 1 := by unfold sgnI; rw [if_neg (by omega), if_neg (by omega)]
theorem sgnI_neg' {z : Int} (h : z < 0) : sgnI z = -1 := by unfold sgnI; rw [if_neg (by omega), if_pos h]
theorem sgnI_zero : sgnI 0 = 0 := rfl
theorem sgnI_mul (x y : Int) : sgnI (x * y) = sgnI x * sgnI y := by
  rcases (by omega : x < 0 ∨ x = 0 ∨ 0 < x) with h | h | h
  · rcases (by omega : y < 0 ∨ y = 0 ∨ 0 < y) with k | k | k
    · rw [sgnI_neg' h, sgnI_neg' k, sgnI_pos (Int.mul_pos_of_neg_of_neg h k)]; rfl
    · rw [k, Int.mul_zero, sgnI_zero, Int.mul_zero]
    · rw [sgnI_neg' h, sgnI_pos k, sgnI_neg' (Int.mul_neg_of_neg_of_pos h k)]; rfl
  · rw [h, Int.zero_mul, sgnI_zero, Int.zero_mul]
  · rcases (by omega : y < 0 ∨ y = 0 ∨ 0 < y) with k | k | k
    · rw [sgnI_pos h, sgnI_neg' k, sgnI_neg' (Int.mul_neg_of_pos_of_neg h k)]; rfl
    · rw [k, Int.mul_zero, sgnI_zero, Int.mul_zero]
    · rw [sgnI_pos h, sgnI_pos k, sgnI_pos (Int.mul_pos h k)]; rfl
theorem sgnI_nat {d : Nat} (h : 0 < d) : sgnI (d : Int) = 1 := sgnI_pos (by omega)
theorem cmpP_sgn (p q : Int × Nat) : cmpP p q = sgnI (p.1 * (q.2 : Int) - q.1 * (p.2 : Int)) := cmpZ_sgn _ _
theorem cmpP_left {p p' q : Int × Nat} (hp : 0 < p.2) (hp' : 0 < p'.2) (h : Eqv p p') : cmpP p q = cmpP p' q := by
  rw [cmpP_sgn, cmpP_sgn]
  have e : (p.1 * (q.2 : Int) - q.1 * (p.2 : Int)) * (p'.2 : Int) = (p'.1 * (q.2 : Int) - q.1 * (p'.2 : Int)) * (p.2 : Int) := by
    unfold Eqv at h; grind
  have e1 := congrArg sgnI e
  rw [sgnI_mul, sgnI_mul, sgnI_nat hp, sgnI_nat hp', Int.mul_one, Int.mul_one] at e1
  exact e1
theorem cmpP_right {p q q' : Int × Nat} (hq : 0 < q.2) (hq' : 0 < q'.2) (h : Eqv q q') : cmpP p q = cmpP p q' := by
  rw [cmpP_sgn, cmpP_sgn]
  have e : (p.1 * (q.2 : Int) - q.1 * (p.2 : Int)) * (q'.2 : Int) = (p.1 * (q'.2 : Int) - q'.1 * (p.2 : Int)) * (q.2 : Int) := by
    unfold Eqv at h; grind
  have e1 := congrArg sgnI e
  rw [sgnI_mul, sgnI_mul, sgnI_nat hq, sgnI_nat hq', Int.mul_one, Int.mul_one] at e1
  exact e1
theorem cmpP_add {p q r : Int × Nat} (hp : FrP p) (hq : FrP q) (hr : FrP r) : cmpP (addP p r) (addP q r) = cmpP p q := by
  have a := hp.pos
  have b := hq.pos
  have c := hr.pos
  rw [cmpP_left (addP_right hp hr).pos (Nat.mul_pos a c) (lo_eqv (p.1 * (r.2 : Int) + r.1 * (p.2 : Int)) (p.2 * r.2)), cmpP_right (addP_right hq hr).pos (Nat.mul_pos b c) (lo_eqv (q.1 * (r.2 : Int) + r.1 * (q.2 : Int)) (q.2 * r.2)), cmpP_sgn, cmpP_sgn]
  have e : (p.1 * (r.2 : Int) + r.1 * (p.2 : Int)) * ((q.2 * r.2 : Nat) : Int) - (q.1 * (r.2 : Int) + r.1 * (q.2 : Int)) * ((p.2 * r.2 : Nat) : Int) = (p.1 * (q.2 : Int) - q.1 * (p.2 : Int)) * ((r.2 : Int) * (r.2 : Int)) := by push_cast; grind
  show sgnI ((p.1 * (r.2 : Int) + r.1 * (p.2 : Int)) * ((q.2 * r.2 : Nat) : Int) - (q.1 * (r.2 : Int) + r.1 * (q.2 : Int)) * ((p.2 * r.2 : Nat) : Int)) = _
  rw [e, sgnI_mul, sgnI_mul, sgnI_nat c, Int.mul_one, Int.mul_one]
theorem cmpP_mul {p q r : Int × Nat} (hp : FrP p) (hq : FrP q) (hr : FrP r) : cmpP (mulP p r) (mulP q r) = cmpP p q * sgnI r.1 := by
  have a := hp.pos
  have b := hq.pos
  have c := hr.pos
  rw [cmpP_left (mulP_right hp hr).pos (Nat.mul_pos a c) (lo_eqv (p.1 * r.1) (p.2 * r.2)), cmpP_right (mulP_right hq hr).pos (Nat.mul_pos b c) (lo_eqv (q.1 * r.1) (q.2 * r.2)), cmpP_sgn, cmpP_sgn]
  show sgnI (p.1 * r.1 * ((q.2 * r.2 : Nat) : Int) - q.1 * r.1 * ((p.2 * r.2 : Nat) : Int)) = _
  rw [show p.1 * r.1 * ((q.2 * r.2 : Nat) : Int) - q.1 * r.1 * ((p.2 * r.2 : Nat) : Int) = (p.1 * (q.2 : Int) - q.1 * (p.2 : Int)) * r.1 * (r.2 : Int) by push_cast; grind, sgnI_mul, sgnI_mul, sgnI_nat c, Int.mul_one]
/-- the inverse of a fraction that is not 0 -/
def invP (p : Int × Nat) : Int × Nat := (sgnI p.1 * (p.2 : Int), p.1.natAbs)
theorem sgnI_abs {z : Int} (h : z ≠ 0) : (sgnI z).natAbs = 1 ∧ z = sgnI z * (z.natAbs : Int) := by
  rcases (by omega : z < 0 ∨ 0 < z) with k | k
  · rw [sgnI_neg' k]; exact ⟨rfl, by omega⟩
  · rw [sgnI_pos k]; exact ⟨rfl, by omega⟩
theorem invP_right {p : Int × Nat} (hp : FrP p) (h : p.1 ≠ 0) : FrP (invP p) := by
  refine ⟨by show 0 < p.1.natAbs; omega, ?_⟩
  show Nat.gcd (sgnI p.1 * (p.2 : Int)).natAbs p.1.natAbs = 1
  rw [Int.natAbs_mul, (sgnI_abs h).1, Nat.one_mul, Int.natAbs_natCast, Nat.gcd_comm]; exact hp.one
theorem div_back {p q : Int × Nat} (hp : FrP p) (hq : FrP q) (h : q.1 ≠ 0) : mulP (mulP p (invP q)) q = p := by
  have a := hp.pos
  have b := hq.pos
  have c := (invP_right hq h).pos
  refine Eqv.eq (mulP_right (mulP_right hp (invP_right hq h)) hq) hp ?_
  have e1 := Eqv.mul (lo_eqv (p.1 * (invP q).1) (p.2 * (invP q).2)) (Eqv.refl q)
  refine Eqv.trans ?_ (lo_eqv _ _) (Eqv.trans ?_ e1 ?_)
  · exact Nat.mul_pos (lo_right _ (Nat.mul_pos a c)).pos b
  · exact Nat.mul_pos (Nat.mul_pos a c) b
  · unfold Eqv
    show p.1 * (sgnI q.1 * (q.2 : Int)) * q.1 * (p.2 : Int) = p.1 * ((p.2 * q.1.natAbs * q.2 : Nat) : Int)
    have hm : (q.1.natAbs : Int) = sgnI q.1 * q.1 := by
      rcases (by omega : q.1 < 0 ∨ 0 < q.1) with k | k
      · rw [sgnI_neg' k]; omega
      · rw [sgnI_pos k]; omega
    rw [Int.natCast_mul, Int.natCast_mul, hm]
    grind
end Go.Proofs.YtdgbplppabalgaaGreatDoor
