/-
  Texts of one seat, joined: YOps YSum YNear.
-/
import Derived.Test.YtgkfdgdlmpggpaaGreatDoorJ28
import Derived.Test.YtgkfdgdlmpggpaaGreatDoorJ20
import Derived.Test.YtgkfdgdlmpggpaaGreatDoorJ19
import Derived.Test.YtgkfdgdlmpggpaaGreatDoorJ17
import Derived.Test.YtgkfdgdlmpggpaaGreatDoorJ15
import Derived.Test.YtgkfdgdlmpggpaaGreatDoorJ8
namespace Go.Proofs.YtgkfdgdlmpggpaaGreatDoor
open Go.RowKit

set_option maxHeartbeats 1600000 in
set_option maxRecDepth 100000 in
theorem addF_any (n1 d1 n2 d2 : Int) (w : World) (hs : Std w) (h1 : (str n1.natAbs).size ≤ 10000) (h2 : (str d1.natAbs).size ≤ 10000) (h3 : (str n2.natAbs).size ≤ 10000) (h4 : (str d2.natAbs).size ≤ 10000) (p1 : 0 < d1) (p2 : 0 < d2) :
    Calls Tryz.prog 33 #[ratV (zS n1) (zS d1), ratV (zS n2) (zS d2)] w fun e w' => e = .returned (ratV (zS (lowN (n1 * d2 + n2 * d1) (d1 * d2).natAbs)) (str (lowD (n1 * d2 + n2 * d1) (d1 * d2).natAbs))) ∧ Below w.heap.size w w' := by
  have HE := Lib.hid (fun (wx : World) (hz : Bg w wx (zS n1) (zS d1) (zS n2) (zS d2)) => eiAdd n1 d1 n2 d2 w.heap.size (w.heap.size + 1) wx (hs.below hz.two.below) hz.two.one hz.two.two h1 h2 h3 h4 p1 p2)
  obtain ⟨rs, hrs⟩ : ∃ s, s = zS (lowN (n1 * d2 + n2 * d1) (d1 * d2).natAbs) := ⟨_, rfl⟩
  obtain ⟨rt, hrt⟩ : ∃ s, s = str (lowD (n1 * d2 + n2 * d1) (d1 * d2).natAbs) := ⟨_, rfl⟩
  rw [← hrs, ← hrt] at HE ⊢
  obtain ⟨s1, hs1⟩ : ∃ s, s = zS n1 := ⟨_, rfl⟩
  obtain ⟨t1, ht1⟩ : ∃ s, s = zS d1 := ⟨_, rfl⟩
  obtain ⟨s2, hs2⟩ : ∃ s, s = zS n2 := ⟨_, rfl⟩
  obtain ⟨t2, ht2⟩ : ∃ s, s = zS d2 := ⟨_, rfl⟩
  rw [← hs1, ← ht1, ← hs2, ← ht2] at HE ⊢
  have HZ := Lib.hid (Bg.new w s1 t1 s2 t2)
  clear hs h1 h2 h3 h4 p1 p2 hs1 ht1 hs2 ht2 hrs hrt
  have hmf : ∀ (fn : Fn) (first cap : Array Value) (w : World), (Instr.makeFunc fn first cap).run Tryz.prog w = .ok (.func fn first cap) w := fun _ _ _ _ => rfl
  go_enter Tryz.func33, Tryz.ntmps33
  go_upto_region 1 with fail
  obtain ⟨W0, hW0⟩ : ∃ W0, W0 = ((w.alloc (ratO s1 t1)).alloc (ratO s2 t2)).alloc (.cells #[.string ⟨#[]⟩, .string ⟨#[]⟩] 24) := ⟨_, rfl⟩
  rw [← hW0] at HZ ⊢
  clear hW0
  have c1 := HZ.out.two.one.num
  have c2 := HZ.out.two.one.den
  have c3 := HZ.out.two.two.num
  have c4 := HZ.out.two.two.den
  go_wp2_with fail
  refine (HE.out _ HZ.out).mono ?_
  rintro e w1 ⟨rfl, h1⟩
  have Z1 := HZ.out.to h1
  have f0 := Z1.res.free 0
  have e0 := Z1.res.c0
  have e1 := Z1.res.c1
  have S0 := Z1.res.set0 (.string rs)
  have S1 := S0.set1 (.string rt)
  have f1 := S0.free 1
  have g1 := S0.c1
  have x0 := S1.c0
  have x1 := S1.c1
  have HBE := Lib.hid ((Z1.two.below.setCell (p := ⟨w.heap.size + 1 + 1, 0, none⟩) (by show w.heap.size ≤ w.heap.size + 1 + 1; omega) (.string rs)).setCell (p := ⟨w.heap.size + 1 + 1, 1, none⟩) (by show w.heap.size ≤ w.heap.size + 1 + 1; omega) (.string rt))
  clear S0 S1 h1 Z1 c1 c2 c3 c4
  go_wp2_with fail
  (try simp only [Exit.inBlock, Exit.then])
  refine bodyPost_ret (v := ratV rs rt) ?_ rfl ⟨rfl, HBE.out⟩
  rw [results_cell_one rfl]
  go_simp
set_option maxHeartbeats 1600000 in
set_option maxRecDepth 100000 in
theorem cmpF_any (n1 d1 n2 d2 : Int) (w : World) (hs : Std w) (h1 : (str n1.natAbs).size ≤ 10000) (h2 : (str d1.natAbs).size ≤ 10000) (h3 : (str n2.natAbs).size ≤ 10000) (h4 : (str d2.natAbs).size ≤ 10000) (p1 : 0 < d1) (p2 : 0 < d2) :
    Calls Tryz.prog 47 #[ratV (zS n1) (zS d1), ratV (zS n2) (zS d2)] w fun e w' => e = .returned (.int .i64 (cmpZ (n1 * d2) (n2 * d1))) ∧ Below w.heap.size w w' := by
  have HE := Lib.hid (fun (wx : World) (hz : Bf w wx (zS n1) (zS d1) (zS n2) (zS d2)) => eiCmp n1 d1 n2 d2 w.heap.size (w.heap.size + 1) wx (hs.below hz.below) hz.one hz.two h1 h2 h3 h4 p1 p2)
  obtain ⟨cz, hcz⟩ : ∃ s, s = cmpZ (n1 * d2) (n2 * d1) := ⟨_, rfl⟩
  rw [← hcz] at HE ⊢
  obtain ⟨s1, hs1⟩ : ∃ s, s = zS n1 := ⟨_, rfl⟩
  obtain ⟨t1, ht1⟩ : ∃ s, s = zS d1 := ⟨_, rfl⟩
  obtain ⟨s2, hs2⟩ : ∃ s, s = zS n2 := ⟨_, rfl⟩
  obtain ⟨t2, ht2⟩ : ∃ s, s = zS d2 := ⟨_, rfl⟩
  rw [← hs1, ← ht1, ← hs2, ← ht2] at HE ⊢
  have HZ := Lib.hid (Bf.new w s1 t1 s2 t2)
  clear hs h1 h2 h3 h4 p1 p2 hs1 ht1 hs2 ht2 hcz
  have hmf : ∀ (fn : Fn) (first cap : Array Value) (w : World), (Instr.makeFunc fn first cap).run Tryz.prog w = .ok (.func fn first cap) w := fun _ _ _ _ => rfl
  go_enter Tryz.func47, Tryz.ntmps47
  go_upto_region 1 with fail
  obtain ⟨W0, hW0⟩ : ∃ W0, W0 = (w.alloc (ratO s1 t1)).alloc (ratO s2 t2) := ⟨_, rfl⟩
  rw [← hW0] at HZ ⊢
  clear hW0
  have c1 := HZ.out.one.num
  have c2 := HZ.out.one.den
  have c3 := HZ.out.two.num
  have c4 := HZ.out.two.den
  go_wp2_with fail
  refine (HE.out _ HZ.out).mono ?_
  rintro e w1 ⟨rfl, h1⟩
  have Z1 := Lib.hid (HZ.out.to h1)
  clear h1
  go_wp2_with fail
  go_ret
  exact ⟨rfl, Z1.out.below⟩
set_option maxHeartbeats 1600000 in
set_option maxRecDepth 100000 in
theorem minF_any (n1 d1 n2 d2 : Int) (w : World) (hs : Std w) (h1 : (str n1.natAbs).size ≤ 10000) (h2 : (str d1.natAbs).size ≤ 10000) (h3 : (str n2.natAbs).size ≤ 10000) (h4 : (str d2.natAbs).size ≤ 10000) (p1 : 0 < d1) (p2 : 0 < d2) :
    Calls Tryz.prog 49 #[ratV (zS n1) (zS d1), ratV (zS n2) (zS d2)] w fun e w' => e = .returned (if cmpZ (n2 * d1) (n1 * d2) < 0 then ratV (zS n2) (zS d2) else ratV (zS n1) (zS d1)) ∧ Below w.heap.size w w' := by
  have HC := Lib.hid (fun (wx : World) (hz : Bg w wx (zS n1) (zS d1) (zS n2) (zS d2)) => (cmpF_any n2 d2 n1 d1 wx (hs.below hz.two.below) h3 h4 h1 h2 p2 p1).mono fun _ _ h => (show _ = _ ∧ Bg w _ (zS n1) (zS d1) (zS n2) (zS d2) from ⟨h.1, hz.to h.2⟩))
  obtain ⟨cz, hcz⟩ : ∃ s, s = cmpZ (n2 * d1) (n1 * d2) := ⟨_, rfl⟩
  rw [← hcz] at HC ⊢
  obtain ⟨s1, hs1⟩ : ∃ s, s = zS n1 := ⟨_, rfl⟩
  obtain ⟨t1, ht1⟩ : ∃ s, s = zS d1 := ⟨_, rfl⟩
  obtain ⟨s2, hs2⟩ : ∃ s, s = zS n2 := ⟨_, rfl⟩
  obtain ⟨t2, ht2⟩ : ∃ s, s = zS d2 := ⟨_, rfl⟩
  rw [← hs1, ← ht1, ← hs2, ← ht2] at HC ⊢
  have HZ := Lib.hid (Bg.new w s1 t1 s2 t2)
  clear hs h1 h2 h3 h4 p1 p2 hs1 ht1 hs2 ht2 hcz
  by_cases hc : cz < 0
  · have hcd : decide (cz < 0) = true := decide_eq_true hc
    rw [if_pos hc]
    go_enter Tryz.func49, Tryz.ntmps49
    go_upto_region 1 with fail
    obtain ⟨W0, hW0⟩ : ∃ W0, W0 = ((w.alloc (ratO s1 t1)).alloc (ratO s2 t2)).alloc (.cells #[.string ⟨#[]⟩, .string ⟨#[]⟩] 24) := ⟨_, rfl⟩
    rw [← hW0] at HZ ⊢
    clear hW0
    have c1 := HZ.out.two.one.num
    have c2 := HZ.out.two.one.den
    have c3 := HZ.out.two.two.num
    have c4 := HZ.out.two.two.den
    go_wp2_with fail
    refine (HC.out _ HZ.out).mono ?_
    rintro e w1 ⟨rfl, Z1⟩
    have y1 := Z1.two.one.num
    have y2 := Z1.two.one.den
    have y3 := Z1.two.two.num
    have y4 := Z1.two.two.den
    have f0 := Z1.res.free 0
    have e0 := Z1.res.c0
    have e1 := Z1.res.c1
    have S0 := Z1.res.set0 (.string s2)
    have S1 := S0.set1 (.string t2)
    have f1 := S0.free 1
    have g1 := S0.c1
    have x0 := S1.c0
    have x1 := S1.c1
    have HBE := Lib.hid ((Z1.two.below.setCell (p := ⟨w.heap.size + 1 + 1, 0, none⟩) (by show w.heap.size ≤ w.heap.size + 1 + 1; omega) (.string s2)).setCell (p := ⟨w.heap.size + 1 + 1, 1, none⟩) (by show w.heap.size ≤ w.heap.size + 1 + 1; omega) (.string t2))
    clear S0 S1 Z1 c1 c2 c3 c4
    go_wp2_with fail
    (try simp only [Exit.inBlock, Exit.then])
    refine bodyPost_ret (v := ratV s2 t2) ?_ rfl ⟨rfl, HBE.out⟩
    rw [results_cell_one rfl]
    go_simp
  · have hcd : decide (cz < 0) = false := decide_eq_false hc
    rw [if_neg hc]
    go_enter Tryz.func49, Tryz.ntmps49
    go_upto_region 1 with fail
    obtain ⟨W0, hW0⟩ : ∃ W0, W0 = ((w.alloc (ratO s1 t1)).alloc (ratO s2 t2)).alloc (.cells #[.string ⟨#[]⟩, .string ⟨#[]⟩] 24) := ⟨_, rfl⟩
    rw [← hW0] at HZ ⊢
    clear hW0
    have c1 := HZ.out.two.one.num
    have c2 := HZ.out.two.one.den
    have c3 := HZ.out.two.two.num
    have c4 := HZ.out.two.two.den
    go_wp2_with fail
    refine (HC.out _ HZ.out).mono ?_
    rintro e w1 ⟨rfl, Z1⟩
    have y1 := Z1.two.one.num
    have y2 := Z1.two.one.den
    have y3 := Z1.two.two.num
    have y4 := Z1.two.two.den
    have f0 := Z1.res.free 0
    have e0 := Z1.res.c0
    have e1 := Z1.res.c1
    have S0 := Z1.res.set0 (.string s1)
    have S1 := S0.set1 (.string t1)
    have f1 := S0.free 1
    have g1 := S0.c1
    have x0 := S1.c0
    have x1 := S1.c1
    have HBE := Lib.hid ((Z1.two.below.setCell (p := ⟨w.heap.size + 1 + 1, 0, none⟩) (by show w.heap.size ≤ w.heap.size + 1 + 1; omega) (.string s1)).setCell (p := ⟨w.heap.size + 1 + 1, 1, none⟩) (by show w.heap.size ≤ w.heap.size + 1 + 1; omega) (.string t1))
    clear S0 S1 Z1 c1 c2 c3 c4
    go_wp2_with fail
    (try simp only [Exit.inBlock, Exit.then])
    refine bodyPost_ret (v := ratV s1 t1) ?_ rfl ⟨rfl, HBE.out⟩
    rw [results_cell_one rfl]
    go_simp
set_option maxHeartbeats 1600000 in
set_option maxRecDepth 100000 in
theorem maxF_any (n1 d1 n2 d2 : Int) (w : World) (hs : Std w) (h1 : (str n1.natAbs).size ≤ 10000) (h2 : (str d1.natAbs).size ≤ 10000) (h3 : (str n2.natAbs).size ≤ 10000) (h4 : (str d2.natAbs).size ≤ 10000) (p1 : 0 < d1) (p2 : 0 < d2) :
    Calls Tryz.prog 50 #[ratV (zS n1) (zS d1), ratV (zS n2) (zS d2)] w fun e w' => e = .returned (if cmpZ (n2 * d1) (n1 * d2) > 0 then ratV (zS n2) (zS d2) else ratV (zS n1) (zS d1)) ∧ Below w.heap.size w w' := by
  have HC := Lib.hid (fun (wx : World) (hz : Bg w wx (zS n1) (zS d1) (zS n2) (zS d2)) => (cmpF_any n2 d2 n1 d1 wx (hs.below hz.two.below) h3 h4 h1 h2 p2 p1).mono fun _ _ h => (show _ = _ ∧ Bg w _ (zS n1) (zS d1) (zS n2) (zS d2) from ⟨h.1, hz.to h.2⟩))
  obtain ⟨cz, hcz⟩ : ∃ s, s = cmpZ (n2 * d1) (n1 * d2) := ⟨_, rfl⟩
  rw [← hcz] at HC ⊢
  obtain ⟨s1, hs1⟩ : ∃ s, s = zS n1 := ⟨_, rfl⟩
  obtain ⟨t1, ht1⟩ : ∃ s, s = zS d1 := ⟨_, rfl⟩
  obtain ⟨s2, hs2⟩ : ∃ s, s = zS n2 := ⟨_, rfl⟩
  obtain ⟨t2, ht2⟩ : ∃ s, s = zS d2 := ⟨_, rfl⟩
  rw [← hs1, ← ht1, ← hs2, ← ht2] at HC ⊢
  have HZ := Lib.hid (Bg.new w s1 t1 s2 t2)
  clear hs h1 h2 h3 h4 p1 p2 hs1 ht1 hs2 ht2 hcz
  by_cases hc : cz > 0
  · have hcd : decide (cz > 0) = true := decide_eq_true hc
    rw [if_pos hc]
    go_enter Tryz.func50, Tryz.ntmps50
    go_upto_region 1 with fail
    obtain ⟨W0, hW0⟩ : ∃ W0, W0 = ((w.alloc (ratO s1 t1)).alloc (ratO s2 t2)).alloc (.cells #[.string ⟨#[]⟩, .string ⟨#[]⟩] 24) := ⟨_, rfl⟩
    rw [← hW0] at HZ ⊢
    clear hW0
    have c1 := HZ.out.two.one.num
    have c2 := HZ.out.two.one.den
    have c3 := HZ.out.two.two.num
    have c4 := HZ.out.two.two.den
    go_wp2_with fail
    refine (HC.out _ HZ.out).mono ?_
    rintro e w1 ⟨rfl, Z1⟩
    have y1 := Z1.two.one.num
    have y2 := Z1.two.one.den
    have y3 := Z1.two.two.num
    have y4 := Z1.two.two.den
    have f0 := Z1.res.free 0
    have e0 := Z1.res.c0
    have e1 := Z1.res.c1
    have S0 := Z1.res.set0 (.string s2)
    have S1 := S0.set1 (.string t2)
    have f1 := S0.free 1
    have g1 := S0.c1
    have x0 := S1.c0
    have x1 := S1.c1
    have HBE := Lib.hid ((Z1.two.below.setCell (p := ⟨w.heap.size + 1 + 1, 0, none⟩) (by show w.heap.size ≤ w.heap.size + 1 + 1; omega) (.string s2)).setCell (p := ⟨w.heap.size + 1 + 1, 1, none⟩) (by show w.heap.size ≤ w.heap.size + 1 + 1; omega) (.string t2))
    clear S0 S1 Z1 c1 c2 c3 c4
    go_wp2_with fail
    (try simp only [Exit.inBlock, Exit.then])
    refine bodyPost_ret (v := ratV s2 t2) ?_ rfl ⟨rfl, HBE.out⟩
    rw [results_cell_one rfl]
    go_simp
  · have hcd : decide (cz > 0) = false := decide_eq_false hc
    rw [if_neg hc]
    go_enter Tryz.func50, Tryz.ntmps50
    go_upto_region 1 with fail
    obtain ⟨W0, hW0⟩ : ∃ W0, W0 = ((w.alloc (ratO s1 t1)).alloc (ratO s2 t2)).alloc (.cells #[.string ⟨#[]⟩, .string ⟨#[]⟩] 24) := ⟨_, rfl⟩
    rw [← hW0] at HZ ⊢
    clear hW0
    have c1 := HZ.out.two.one.num
    have c2 := HZ.out.two.one.den
    have c3 := HZ.out.two.two.num
    have c4 := HZ.out.two.two.den
    go_wp2_with fail
    refine (HC.out _ HZ.out).mono ?_
    rintro e w1 ⟨rfl, Z1⟩
    have y1 := Z1.two.one.num
    have y2 := Z1.two.one.den
    have y3 := Z1.two.two.num
    have y4 := Z1.two.two.den
    have f0 := Z1.res.free 0
    have e0 := Z1.res.c0
    have e1 := Z1.res.c1
    have S0 := Z1.res.set0 (.string s1)
    have S1 := S0.set1 (.string t1)
    have f1 := S0.free 1
    have g1 := S0.c1
    have x0 := S1.c0
    have x1 := S1.c1
    have HBE := Lib.hid ((Z1.two.below.setCell (p := ⟨w.heap.size + 1 + 1, 0, none⟩) (by show w.heap.size ≤ w.heap.size + 1 + 1; omega) (.string s1)).setCell (p := ⟨w.heap.size + 1 + 1, 1, none⟩) (by show w.heap.size ≤ w.heap.size + 1 + 1; omega) (.string t1))
    clear S0 S1 Z1 c1 c2 c3 c4
    go_wp2_with fail
    (try simp only [Exit.inBlock, Exit.then])
    refine bodyPost_ret (v := ratV s1 t1) ?_ rfl ⟨rfl, HBE.out⟩
    rw [results_cell_one rfl]
    go_simp
end Go.Proofs.YtgkfdgdlmpggpaaGreatDoor

namespace Go.Proofs.YtgkfdgdlmpggpaaGreatDoor
open Go.RowKit

theorem big80 {z : Int} (h : z.natAbs < 100000000000000000000000000000000000000000000000000000000000000000000000000000000) : (str z.natAbs).size ≤ 80 := str_big (n := 80) (Nat.lt_of_lt_of_le h (by decide)) (by decide)
set_option maxHeartbeats 3200000 in
set_option maxRecDepth 100000 in
theorem sumW_far (a : Option Addr) (cap : Nat) (zs : List Int) (w : World) (hs : Std w) (h : Txt w a zs) (hl : zs.length ≤ 100) (hz : ∀ z ∈ zs, z.natAbs < 10000000000000000000000000000000000000000000000000000000000000000000000) :
    Calls Tryz.prog 108 #[.slice a zs.length cap] w fun e w' => e = .returned (.string (zS zs.sum)) ∧ Below w.heap.size w w' := by
  have HS := Lib.hid hs
  have HC := Lib.hid (fun (wx : World) (hw : Below w.heap.size w wx) (i : Nat) (hi : i < zs.length) => (show ∃ (g o : Nat) (z : Int), a = some ⟨g, o, none⟩ ∧ z = zs[i] ∧ z.natAbs < 10000000000000000000000000000000000000000000000000000000000000000000000 ∧ wx.cell? ⟨g, o + i, none⟩ = some (.string (zS z)) by
    rcases h.below hw with h | ⟨g, o, h1, h2, h3⟩
    · rw [h] at hi; simp at hi
    · exact ⟨g, o, zs[i], h1, rfl, hz _ (List.getElem_mem _), h3 i hi⟩))
  have HO := Lib.hid (fun (z : Int) wx hw h1 h2 => ofW_any z wx hw h1 h2)
  have HA := Lib.hid (fun (x y : Int) wx hw (h1 : x.natAbs < 100000000000000000000000000000000000000000000000000000000000000000000000000000000) (h2 : y.natAbs < 100000000000000000000000000000000000000000000000000000000000000000000000000000000) => addW_any x y wx hw (Nat.le_trans (big80 h1) (by decide)) (Nat.le_trans (big80 h2) (by decide)))
  have E0 := Lib.hid zS_zero
  clear hs h hz
  go_enter Tryz.func108, Tryz.ntmps108
  go_wp2_with fail
  go_loopw [3, 4, 6, 7, 8, 11] (fun tv pv _ _ _ iv wr => ∃ (k : Nat) (T p : Int), tv = .string (zS T) ∧ pv = .int .i64 p ∧ iv = .int .i64 (k : Int) ∧ k ≤ zs.length ∧ -1000000000000000000 < p ∧ p < 1000000000000000000 ∧ Hid (T + p = (zs.take k).sum ∧ T.natAbs ≤ 20000000000000000000000000000000000000000000000000000000000000000000000 * k) ∧ Below w.heap.size w wr) (fun _ _ _ _ _ iv _ => zs.length - (intOf iv).toNat)
  case atStart => exact ⟨0, 0, 0, by rw [E0.out], rfl, rfl, Nat.zero_le _, by decide, by decide, ⟨by simp, by simp⟩, Below.refl _ _⟩
  case round =>
    obtain ⟨k, T, p, rfl, rfl, rfl, hk, hp1, hp2, HI, hbel⟩ := hrel
    have HB := Lib.hid hbel
    have hT := HI.out.2
    by_cases hlt : k < zs.length
    · obtain ⟨g, o, z, rfl, hzk, hzb, hcz⟩ := HC.out wr hbel k hlt
      have HF := Lib.hid (fun wx hw => few_any z wx hw (Nat.le_trans (big80 (by omega)) (by decide)))
      have HSUM := Lib.hid (show (zs.take (k + 1)).sum = T + p + z by rw [sum_next hlt, ← HI.out.1, hzk])
      clear hbel hzk HI
      cases hf : fewB z with
      | false =>
        rw [hf] at HF
        have HA1 := Lib.hid (fun wx hw => HA.out T z wx hw (by omega) (by omega))
        have HI2 := Lib.hid (show T + z + p = (zs.take (k + 1)).sum ∧ (T + z).natAbs ≤ 20000000000000000000000000000000000000000000000000000000000000000000000 * (k + 1) from ⟨by rw [HSUM.out]; omega, by omega⟩)
        obtain ⟨s, hs⟩ : ∃ s, s = zS z := ⟨_, rfl⟩
        obtain ⟨t, ht⟩ : ∃ s, s = zS T := ⟨_, rfl⟩
        obtain ⟨u, hu⟩ : ∃ s, s = zS (T + z) := ⟨_, rfl⟩
        have HU := Lib.hid hu
        rw [← hs] at HF HA1 hcz
        rw [← ht] at HA1 ⊢
        rw [← hu] at HA1
        clear hs ht hu hf hT hzb
        go_wp2_with fail
        refine (HF.out _ (HS.out.below HB.out)).mono ?_
        rintro e w2 ⟨⟨v, rfl, -⟩, h2⟩
        have B2 := Lib.hid (HB.out.trans (h2.mono HB.out.size))
        clear h2
        go_wp2_with fail
        refine (HA1.out _ (HS.out.below B2.out)).mono ?_
        rintro e w3 ⟨rfl, h3⟩
        have B3 := Lib.hid (B2.out.trans (h3.mono B2.out.size))
        clear h3
        go_wp2_with fail
        all_goals go_roundw
        case rel => exact ⟨k + 1, T + z, p, by rw [HU.out], rfl, by go_num, by omega, hp1, hp2, HI2, B3.out⟩
        case measure => simp [intOf] <;> omega
      | true =>
        rw [hf] at HF
        have hfz : -1000000000000000000 < z ∧ z < 1000000000000000000 := by unfold fewB at hf; simp at hf; omega
        have hw := IntWalk.i64_in (p + z) ⟨by omega, by omega⟩
        have hM := fun wx => magW2_any (p + z) wx (by omega) (by omega)
        obtain ⟨m, hm⟩ : ∃ m, m = (p + z).natAbs := ⟨_, rfl⟩
        rw [← hm] at hM
        have HM := Lib.hid hM
        by_cases hbig : 1000000000000000000 ≤ m
        · have hbb : decide ((m : Int) ≥ 1000000000000000000) = true := decide_eq_true (by omega)
          have HO1 := Lib.hid (fun wx hw => HO.out (p + z) wx hw (by omega) (by omega))
          have HA1 := Lib.hid (fun wx hw => HA.out T (p + z) wx hw (by omega) (by omega))
          have HI2 := Lib.hid (show T + (p + z) + 0 = (zs.take (k + 1)).sum ∧ (T + (p + z)).natAbs ≤ 20000000000000000000000000000000000000000000000000000000000000000000000 * (k + 1) from ⟨by rw [HSUM.out]; omega, by omega⟩)
          obtain ⟨s, hs⟩ : ∃ s, s = zS z := ⟨_, rfl⟩
          obtain ⟨t, ht⟩ : ∃ s, s = zS T := ⟨_, rfl⟩
          obtain ⟨q, hq⟩ : ∃ q, q = p + z := ⟨_, rfl⟩
          obtain ⟨u, hu⟩ : ∃ s, s = zS (T + (p + z)) := ⟨_, rfl⟩
          obtain ⟨r, hr⟩ : ∃ s, s = zS (p + z) := ⟨_, rfl⟩
          have HU := Lib.hid hu
          rw [← hs] at HF hcz
          rw [← ht] at HA1 ⊢
          rw [← hu, ← hr] at HA1
          rw [← hr] at HO1
          clear hs ht hu hr hf hT hzb hm hM hbig hq
          go_wp2_with fail
          refine (HF.out _ (HS.out.below HB.out)).mono ?_
          rintro e w2 ⟨⟨v, rfl, hv⟩, h2⟩
          obtain rfl := hv trivial
          have B2 := Lib.hid (HB.out.trans (h2.mono HB.out.size))
          clear h2 hv
          go_wp2_with fail
          refine (HM.out _).mono ?_
          rintro e w3 ⟨rfl, rfl⟩
          go_wp2_with fail
          refine (HO1.out _ (HS.out.below B2.out)).mono ?_
          rintro e w3 ⟨rfl, h3⟩
          have B3 := Lib.hid (B2.out.trans (h3.mono B2.out.size))
          clear h3
          go_wp2_with fail
          refine (HA1.out _ (HS.out.below B3.out)).mono ?_
          rintro e w4 ⟨rfl, h4⟩
          have B4 := Lib.hid (B3.out.trans (h4.mono B3.out.size))
          clear h4
          go_wp2_with fail
          all_goals go_roundw
          case rel => exact ⟨k + 1, _, 0, by rw [HU.out], rfl, by go_num, by omega, by decide, by decide, HI2, B4.out⟩
          case measure => simp [intOf] <;> omega
        · have hbb : decide ((m : Int) ≥ 1000000000000000000) = false := decide_eq_false (by omega)
          have HI2 := Lib.hid (show T + (p + z) = (zs.take (k + 1)).sum ∧ T.natAbs ≤ 20000000000000000000000000000000000000000000000000000000000000000000000 * (k + 1) from ⟨by rw [HSUM.out]; omega, by omega⟩)
          have hq1 : -1000000000000000000 < p + z := by omega
          have hq2 : p + z < 1000000000000000000 := by omega
          obtain ⟨s, hs⟩ : ∃ s, s = zS z := ⟨_, rfl⟩
          rw [← hs] at HF hcz
          clear hs hf hT hzb hm hM hbig
          go_wp2_with fail
          refine (HF.out _ (HS.out.below HB.out)).mono ?_
          rintro e w2 ⟨⟨v, rfl, hv⟩, h2⟩
          obtain rfl := hv trivial
          have B2 := Lib.hid (HB.out.trans (h2.mono HB.out.size))
          clear h2 hv
          go_wp2_with fail
          refine (HM.out _).mono ?_
          rintro e w3 ⟨rfl, rfl⟩
          go_wp2_with fail
          all_goals go_roundw
          case rel => exact ⟨k + 1, T, _, rfl, rfl, by go_num, by omega, hq1, hq2, HI2, B2.out⟩
          case measure => simp [intOf] <;> omega
    · have hall := HI.out.1
      rw [List.take_of_length_le (by omega)] at hall
      have HO1 := Lib.hid (fun wx hw => HO.out p wx hw (by omega) (by omega))
      have HA1 := Lib.hid (fun wx hw => HA.out T p wx hw (by omega) (by omega))
      rw [hall] at HA1
      obtain ⟨t, ht⟩ : ∃ s, s = zS T := ⟨_, rfl⟩
      obtain ⟨q, hq⟩ : ∃ s, s = zS p := ⟨_, rfl⟩
      obtain ⟨u, hu⟩ : ∃ s, s = zS zs.sum := ⟨_, rfl⟩
      have HU := Lib.hid hu
      rw [← ht] at HA1 ⊢
      rw [← hq] at HO1 HA1
      rw [← hu] at HA1
      clear ht hq hu hT hall HI hbel
      go_wp2_with fail
      refine (HO1.out _ (HS.out.below HB.out)).mono ?_
      rintro e w3 ⟨rfl, h3⟩
      have B3 := Lib.hid (HB.out.trans (h3.mono HB.out.size))
      clear h3
      go_wp2_with fail
      refine (HA1.out _ (HS.out.below B3.out)).mono ?_
      rintro e w4 ⟨rfl, h4⟩
      have B4 := Lib.hid (B3.out.trans (h4.mono B3.out.size))
      clear h4
      go_wp2_with fail
      go_ret
      exact ⟨by rw [← HU.out]; rfl, B4.out⟩
end Go.Proofs.YtgkfdgdlmpggpaaGreatDoor

namespace Go.Proofs.YtgkfdgdlmpggpaaGreatDoor
open Go.RowKit

set_option maxHeartbeats 1600000 in
set_option maxRecDepth 100000 in
theorem nearF_any (n d : Int) (w : World) (hs : Std w) (hn : n.natAbs < 10000000000000000000000000000000000000000000000000000000000000000000000) (hd : d.natAbs < 10000000000000000000000000000000000000000000000000000000000000000000000) (hp : 0 < d) :
    Calls Tryz.prog 56 #[ratV (zS n) (zS d)] w fun e w' => e = .returned (.string (zS ((n + n + d).fdiv (d + d)))) ∧ Below w.heap.size w w' := by
  have z1 : (str d.natAbs).size ≤ 80 := big80 (by omega)
  have z2 : (str (d + d).natAbs).size ≤ 80 := big80 (by omega)
  have z3 : (str (n + n + d).natAbs).size ≤ 80 := big80 (by omega)
  have HA := Lib.hid (fun wx (hw : Std wx) => addW_any d d wx hw (by omega) (by omega))
  have HSM := Lib.hid (fun wx (hw : Std wx) a (ht : Txt wx a [n, n, d]) => sumW_far a 3 [n, n, d] wx hw ht (by show 3 ≤ 100; decide) (by
    intro z hz
    rcases List.mem_cons.1 hz with rfl | hz
    · exact hn
    rcases List.mem_cons.1 hz with rfl | hz
    · exact hn
    rcases List.mem_cons.1 hz with rfl | hz
    · exact hd
    · cases hz))
  have hsum : [n, n, d].sum = n + n + d := by simp only [List.sum_cons, List.sum_nil]; omega
  rw [hsum] at HSM
  have HT := Lib.hid (fun (wx : World) (g : Nat) (hg : g < wx.heap.size) (c0 : wx.cell? ⟨g, 0, none⟩ = some (.string (zS n))) (c1 : wx.cell? ⟨g, 1, none⟩ = some (.string (zS n))) (c2 : wx.cell? ⟨g, 2, none⟩ = some (.string (zS d))) => (show Txt wx (some ⟨g, 0, none⟩) [n, n, d] from .inr ⟨g, 0, rfl, hg, fun i hi => by
    match i, hi with
    | 0, _ => exact c0
    | 1, _ => exact c1
    | 2, _ => exact c2⟩))
  have HD := Lib.hid (fun wx (hw : Std wx) => divW_any (n + n + d) (d + d) wx hw (by omega) (by omega) (by omega))
  obtain ⟨zs, hzs⟩ : ∃ zs, zs = [n, n, d] := ⟨_, rfl⟩
  have hlen : [n, n, d].length = 3 := rfl
  rw [hlen] at HSM
  rw [← hzs] at HSM HT
  obtain ⟨q, hq⟩ : ∃ s, s = zS ((n + n + d).fdiv (d + d)) := ⟨_, rfl⟩
  obtain ⟨r, hr⟩ : ∃ s, s = zS ((n + n + d).fmod (d + d)) := ⟨_, rfl⟩
  obtain ⟨x, hx⟩ : ∃ s, s = zS (n + n + d) := ⟨_, rfl⟩
  obtain ⟨y, hy⟩ : ∃ s, s = zS (d + d) := ⟨_, rfl⟩
  obtain ⟨s, hs1⟩ : ∃ s, s = zS n := ⟨_, rfl⟩
  obtain ⟨t, ht1⟩ : ∃ s, s = zS d := ⟨_, rfl⟩
  rw [← hq, ← hr, ← hx, ← hy] at HD
  rw [← ht1, ← hy] at HA
  rw [← hx] at HSM
  rw [← hs1, ← ht1] at HT ⊢
  rw [← hq]
  have HZ := Lib.hid (BxR.new w s t)
  have HB := Lib.hid ((Below.refl w.heap.size w).alloc (Nat.le_refl _) (ratO s t))
  have HS := Lib.hid hs
  clear hs hn hd hp z1 z2 z3 hsum hzs hlen hq hr hx hy hs1 ht1
  go_enter Tryz.func56, Tryz.ntmps56
  go_upto_region 1 with fail
  obtain ⟨W0, hW0⟩ : ∃ W0, W0 = w.alloc (ratO s t) := ⟨_, rfl⟩
  rw [← hW0] at HZ HB ⊢
  clear hW0
  have c1 := HZ.out.den
  go_wp2_with fail
  refine (HA.out _ (HS.out.below HB.out)).mono ?_
  rintro e w1 ⟨rfl, b1⟩
  have B1 := Lib.hid (HB.out.trans (b1.mono HB.out.size))
  have Z1 := Lib.hid (HZ.out.below b1)
  have c2 := Z1.out.den
  have c3 := Z1.out.num
  clear b1 c1
  have B2 := Lib.hid (B1.out.alloc B1.out.size (.cells #[.string s, .string s, .string t] 9))
  have B2i := Lib.hid (B1.out.alloc B1.out.size (.cells #[.string s, .string s, .string t] 22))
  go_wp2_with fail
  refine (HSM.out _ ?hst _ ?htx).mono ?_
  case hst => exact HS.out.below (by first | exact B2i.out | exact B2.out)
  case htx => exact HT.out _ _ (by rw [push_size]; omega) (by rw [World.cell?_alloc_new]; rfl) (by rw [World.cell?_alloc_new]; rfl) (by rw [World.cell?_alloc_new]; rfl)
  rintro e w2 ⟨rfl, b2⟩
  have B3 := Lib.hid (show Below w.heap.size w w2 from by first | exact B2i.out.trans (b2.mono B2i.out.size) | exact B2.out.trans (b2.mono B2.out.size))
  clear b2 c2 c3
  go_wp2_with fail
  refine (HD.out _ (HS.out.below B3.out)).mono ?_
  rintro e w3 ⟨rfl, b3⟩
  have B4 := Lib.hid (B3.out.trans (b3.mono B3.out.size))
  clear b3
  go_wp2_with fail
  go_ret
  exact ⟨rfl, B4.out⟩
end Go.Proofs.YtgkfdgdlmpggpaaGreatDoor
