/-
  row.Parse.
-/
import Derived.Test.YtkpaopfdnfgjeaaGreatDoorWSeq
import Derived.Test.YtkpaopfdnfgjeaaGreatDoorWCan
import Derived.Test.YtkpaopfdnfgjeaaGreatDoorWAto
import Derived.Test.YtkpaopfdnfgjeaaGreatDoorWUnwrap
import Derived.Maps.AppendAt
import Derived.RegionIn
namespace Go.Proofs.YtkpaopfdnfgjeaaGreatDoor
open Go.RowKit Go.Shelf

attribute [local go_sem] Oper.semAt_some

theorem below_alloc0 {w : World} (o : Obj) : Below w.heap.size w (w.alloc o) := (Below.refl _ _).alloc (Nat.le_refl _) o
/-- what Parse leaves -/
def ParP (zs : List Int) (k : Bool) (c : Int) (w : World) (e : Ending) (w' : World) : Prop :=
  ∃ a n cap, e = .returned (.tuple #[.slice a n cap, .bool k, .int .i64 c]) ∧ Rd w' a n cap zs ∧ Below w.heap.size w w'
/-- the three boxes of the results -/
def R3 (w W : World) (r : Value) (k : Bool) (c : Int) : Prop := Boxed W w.heap.size 23 r ∧ Boxed W (w.heap.size + 1) 4 (.bool k) ∧ Boxed W (w.heap.size + 1 + 1) 25 (.int .i64 c) ∧ Below w.heap.size w W
theorem R3.new (w : World) : R3 w (((w.alloc (.cells #[.slice none 0 0] 23)).alloc (.cells #[.bool false] 4)).alloc (.cells #[.int .i64 0] 25)) (.slice none 0 0) false 0 := by
  have h1 := Boxed.new w 23 (.slice none 0 0)
  have h2 := Boxed.new (w.alloc (.cells #[.slice none 0 0] 23)) 4 (.bool false)
  have h3 := Boxed.new ((w.alloc (.cells #[.slice none 0 0] 23)).alloc (.cells #[.bool false] 4)) 25 (.int .i64 0)
  simp only [World.size_alloc] at h2 h3
  exact ⟨(h1.alloc _).alloc _, h2.alloc _, h3, (((Below.refl _ w).alloc (Nat.le_refl _) _).alloc (by simp) _).alloc (by simp; omega) _⟩
theorem R3.to {w W W' : World} {r : Value} {k : Bool} {c : Int} (h : R3 w W r k c) (hb : Below W.heap.size W W') : R3 w W' r k c :=
  ⟨(hb.block _ h.1.lt).trans h.1, (hb.block _ h.2.1.lt).trans h.2.1, (hb.block _ h.2.2.1.lt).trans h.2.2.1, h.2.2.2.trans (hb.mono h.2.2.2.size)⟩
theorem R3.set0 {w W : World} {r : Value} {k : Bool} {c : Int} (h : R3 w W r k c) (v : Value) : R3 w (W.setCell ⟨w.heap.size, 0, none⟩ v) v k c :=
  ⟨h.1.set v, h.2.1.other (by omega) v, h.2.2.1.other (by omega) v, h.2.2.2.setCell (p := ⟨w.heap.size, 0, none⟩) (Nat.le_refl _) v⟩
theorem R3.set1 {w W : World} {r : Value} {k : Bool} {c : Int} (h : R3 w W r k c) (v : Bool) : R3 w (W.setCell ⟨w.heap.size + 1, 0, none⟩ (.bool v)) r v c :=
  ⟨h.1.other (by omega) _, h.2.1.set _, h.2.2.1.other (by omega) _, h.2.2.2.setCell (p := ⟨w.heap.size + 1, 0, none⟩) (Nat.le_succ _) _⟩
theorem R3.set2 {w W : World} {r : Value} {k : Bool} {c : Int} (h : R3 w W r k c) (v : Int) : R3 w (W.setCell ⟨w.heap.size + 1 + 1, 0, none⟩ (.int .i64 v)) r k v :=
  ⟨h.1.other (by omega) _, h.2.1.other (by omega) _, h.2.2.1.set _, h.2.2.2.setCell (p := ⟨w.heap.size + 1 + 1, 0, none⟩) (by show _ ≤ w.heap.size + 1 + 1; omega) _⟩
theorem R3.facts {w W : World} {r : Value} {k : Bool} {c : Int} (h : R3 w W r k c) : W.cell? ⟨w.heap.size, 0, none⟩ = some r ∧ W.cell? ⟨w.heap.size + 1, 0, none⟩ = some (.bool k) ∧ W.cell? ⟨w.heap.size + 1 + 1, 0, none⟩ = some (.int .i64 c) ∧ W.frozen? ⟨w.heap.size, 0, none⟩ = false ∧ W.frozen? ⟨w.heap.size + 1, 0, none⟩ = false ∧ W.frozen? ⟨w.heap.size + 1 + 1, 0, none⟩ = false :=
  ⟨h.1.cell, h.2.1.cell, h.2.2.1.cell, h.1.frozen, h.2.1.frozen, h.2.2.1.frozen⟩
/-- three stores -/
theorem R3.stores {w W : World} {r : Value} {k : Bool} {c : Int} (h : R3 w W r k c) (r' : Value) (k' : Bool) (c' : Int) : R3 w (((W.setCell ⟨w.heap.size, 0, none⟩ r').setCell ⟨w.heap.size + 1, 0, none⟩ (.bool k')).setCell ⟨w.heap.size + 1 + 1, 0, none⟩ (.int .i64 c')) r' k' c' := ((h.set0 r').set1 k').set2 c'


set_option maxHeartbeats 1600000 in
set_option maxRecDepth 100000 in
theorem parN_long (s : ByteArray) (w : World) (h : 65536 < s.size) (hs : s.size ≤ 70000) :
    Calls Tryz.prog 8 #[.string s] w (ParP [] false 16 w) := by
  have hi : (65536 : Int) < s.size := by omega
  go_enter Tryz.func8, Tryz.ntmps8
  go_wp2_with fail
  refine bodyPost_ret (v := .tuple #[.slice none 0 0, .bool false, .int .i64 16]) (by simp [results, Tryz.f8, go_sem, *]) rfl ?_
  exact ⟨none, 0, 0, rfl, Rd.nil _, (((Below.refl _ w).alloc (Nat.le_refl _) _).alloc (by simp) _).alloc (by simp; omega) _⟩
set_option maxHeartbeats 1600000 in
set_option maxRecDepth 100000 in
theorem parN_no (s : ByteArray) (w : World) (h : s.size ≤ 65536) (hu : (unwL s.data.toList).2.2 = false) :
    Calls Tryz.prog 8 #[.string s] w (ParP [] false 15 w) := by
  have h0 := R3.new w
  obtain ⟨W0, hW0⟩ : ∃ W0, W0 = ((w.alloc (.cells #[.slice none 0 0] 23)).alloc (.cells #[.bool false] 4)).alloc (.cells #[.int .i64 0] 25) := ⟨_, rfl⟩
  rw [← hW0] at h0
  have hi : ¬ (65536 : Int) < s.size := by omega
  obtain ⟨x1, x2, x3, f1, f2, f3⟩ := h0.facts
  have HU := unwrap_any s W0 (by omega)
  rw [hu] at HU
  obtain ⟨u1, hu1⟩ : ∃ u : ByteArray, u = ⟨(unwL s.data.toList).1.toArray⟩ := ⟨_, rfl⟩
  obtain ⟨k1, hk1⟩ : ∃ k, k = (unwL s.data.toList).2.1 := ⟨_, rfl⟩
  rw [← hu1, ← hk1] at HU
  have H1 := h0.set1 k1
  obtain ⟨y1, y2, y3, g1, g2, g3⟩ := H1.facts
  have H2 := H1.set0 (.slice none 0 0)
  obtain ⟨z1, z2, z3, e1, e2, e3⟩ := H2.facts
  have H3 := H2.set1 false
  obtain ⟨v1, v2, v3, d1, d2, d3⟩ := H3.facts
  have H4 := H3.set2 15
  obtain ⟨a1, a2, a3, -, -, -⟩ := H4.facts
  have HB := Lib.hid H4
  have HW := Lib.hid hW0
  have HUU := Lib.hid HU
  clear h0 H1 H2 H3 H4 hu1 hk1 hW0 HU hu
  go_enter Tryz.func8, Tryz.ntmps8
  go_upto_region 1 with (fail)
  rw [← HW.out]
  go_wp2_with fail
  refine HUU.out.mono ?_
  rintro e w1 ⟨rfl, hw⟩
  obtain rfl := hw.symm
  clear hw
  go_wp2_with fail
  refine bodyPost_ret (v := .tuple #[.slice none 0 0, .bool false, .int .i64 15]) (by simp [results, Tryz.f8, go_sem, *]) rfl ?_
  exact ⟨none, 0, 0, rfl, Rd.nil _, HB.out.2.2.2⟩

set_option maxHeartbeats 1600000 in
set_option maxRecDepth 100000 in
theorem parN_empty (s : ByteArray) (w : World) (k1 : Bool) (h : s.size ≤ 65536) (hu : unwL s.data.toList = ([], k1, true)) :
    Calls Tryz.prog 8 #[.string s] w (ParP [] k1 0 w) := by
  have h0 := R3.new w
  obtain ⟨W0, hW0⟩ : ∃ W0, W0 = ((w.alloc (.cells #[.slice none 0 0] 23)).alloc (.cells #[.bool false] 4)).alloc (.cells #[.int .i64 0] 25) := ⟨_, rfl⟩
  rw [← hW0] at h0
  have hi : ¬ (65536 : Int) < s.size := by omega
  obtain ⟨x1, x2, x3, f1, f2, f3⟩ := h0.facts
  have HU := unwrap_any s W0 (by omega)
  rw [hu] at HU
  have H1 := h0.set1 k1
  obtain ⟨y1, y2, y3, g1, g2, g3⟩ := H1.facts
  have H2 := H1.set0 (.slice none 0 0)
  obtain ⟨z1, z2, z3, e1, e2, e3⟩ := H2.facts
  have H3 := H2.set1 k1
  obtain ⟨v1, v2, v3, d1, d2, d3⟩ := H3.facts
  have H4 := H3.set2 0
  obtain ⟨a1, a2, a3, -, -, -⟩ := H4.facts
  have HB := Lib.hid H4
  have HW := Lib.hid hW0
  have HUU := Lib.hid HU
  clear h0 H1 H2 H3 H4 hW0 HU hu
  go_enter Tryz.func8, Tryz.ntmps8
  go_upto_region 1 with (fail)
  rw [← HW.out]
  go_wp2_with fail
  refine HUU.out.mono ?_
  rintro e w1 ⟨rfl, hw⟩
  obtain rfl := hw.symm
  clear hw
  go_wp2_with fail
  go_region
  all_goals
    go_wp2_with fail
    refine bodyPost_ret (v := .tuple #[.slice none 0 0, .bool k1, .int .i64 0]) (by simp [results, Tryz.f8, go_sem, *]) rfl ?_
    exact ⟨none, 0, 0, rfl, Rd.nil _, HB.out.2.2.2.drew⟩
end Go.Proofs.YtkpaopfdnfgjeaaGreatDoor
