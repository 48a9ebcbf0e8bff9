/-
  Texts of one seat, joined: YFrac YMlR YAdR YNgR YSbR.
-/
import Derived.Test.YtdgbplppabalgaaGreatDoorJ27
import Derived.Test.YtdgbplppabalgaaGreatDoorJ23
import Derived.Test.YtdgbplppabalgaaGreatDoorJ14
import Derived.Test.YtdgbplppabalgaaGreatDoorJ24
import Derived.Test.YtdgbplppabalgaaGreatDoorJ22
import Derived.Test.YtdgbplppabalgaaGreatDoorJ18
import Derived.Deep.RegionHeld3
import Derived.Test.YtdgbplppabalgaaGreatDoorJ20
import Derived.Test.YtdgbplppabalgaaGreatDoorJ15
import Derived.Deep.RegionWith
namespace Go.Proofs.YtdgbplppabalgaaGreatDoor
open Go.RowKit

set_option maxHeartbeats 1600000 in
set_option maxRecDepth 100000 in
theorem fracY_any (x y : Int) (w : World) (hs : Std w) (a1 : -9223372036854775808 ≤ x) (a2 : x ≤ 9223372036854775807) (b1 : -9223372036854775808 ≤ y) (b2 : y ≤ 9223372036854775807) (hy : y ≠ 0) :
    Calls Tryz.prog 23 #[.int .i64 x, .int .i64 y] w fun e w' => e = .returned (ratV (zS (newN x y)) (str (newD x y))) ∧ Below w.heap.size w w' := by
  have HX := Lib.hid (fun wx (hw : Std wx) => ofWY_any x wx hw a1 a2)
  have HY := Lib.hid (fun wx (hw : Std wx) => ofWY_any y wx hw b1 b2)
  have sx : (str x.natAbs).size ≤ 19 := str_big (n := 19) (by omega) (by decide)
  have sy : (str y.natAbs).size ≤ 19 := str_big (n := 19) (by omega) (by decide)
  have HSZ := Lib.hid (And.intro sx sy)
  obtain ⟨ps, hps⟩ : ∃ s, s = zS (newN x y) := ⟨_, rfl⟩
  obtain ⟨qs, hqs⟩ : ∃ s, s = str (newD x y) := ⟨_, rfl⟩
  have HPS := Lib.hid hps
  have HQS := Lib.hid hqs
  have HNY := Lib.hid hy
  rw [← hps, ← hqs]
  have HS := Lib.hid hs
  have HZ := Lib.hid (Bz.new w)
  clear hs a1 a2 b1 b2 hy sx sy hps hqs
  go_enter Tryz.func23, Tryz.ntmps23
  go_upto_region 1 with fail
  obtain ⟨W0, hW0⟩ : ∃ W0, W0 = w.alloc (.cells #[.string ⟨#[]⟩, .string ⟨#[]⟩] 24) := ⟨_, rfl⟩
  rw [← hW0] at HZ ⊢
  clear hW0
  go_wp2_with fail
  refine (HX.out _ (HS.out.below HZ.out.below)).mono ?_
  rintro e w1 ⟨⟨bx, ox, cx, Lx, rfl, hx⟩, b1⟩
  have Z1 := Lib.hid (HZ.out.to b1)
  have WX := Lib.hid hx.wh
  clear b1 hx
  (try unfold whV)
  obtain ⟨m, hm⟩ : ∃ m, m = Lx.length := ⟨_, rfl⟩
  have HM := Lib.hid hm
  rw [← hm]
  clear hm
  go_wp2_with fail
  refine (HY.out _ (HS.out.below Z1.out.below)).mono ?_
  rintro e w2 ⟨⟨by', oy, cy, Ly, rfl, hy⟩, b2⟩
  have Z2 := Lib.hid (Z1.out.to b2)
  have WX2 := Lib.hid (WX.out.below b2)
  have WY := Lib.hid hy.wh
  clear b2 hy WX
  (try unfold whV)
  obtain ⟨n, hn⟩ : ∃ m, m = Ly.length := ⟨_, rfl⟩
  have HN := Lib.hid hn
  rw [← hn]
  clear hn
  have HK := makeY_any bx ox cx Lx x by' oy cy Ly y w2 (HS.out.below Z2.out.below) WX2.out WY.out HNY.out (WX2.out.pcs.len_le (n := 20000) (by have := HSZ.out.1; omega)) (WY.out.pcs.len_le (n := 20000) (by have := HSZ.out.2; omega))
  unfold whV at HK
  rw [← HM.out, ← HN.out, ← HPS.out, ← HQS.out] at HK
  have HK2 := Lib.hid HK
  clear HK
  go_wp2_with fail
  refine HK2.out.mono ?_
  rintro e w3 ⟨rfl, b3⟩
  have Z3 := Z2.out.to b3
  have f0 := Z3.res.free 0
  have e0 := Z3.res.c0
  have e1 := Z3.res.c1
  have S0 := Z3.res.set0 (.string ps)
  have S1 := S0.set1 (.string qs)
  have f1 := S0.free 1
  have g1 := S0.c1
  have x0 := S1.c0
  have x1 := S1.c1
  have HBE := Lib.hid ((Z3.below.setCell (p := ⟨w.heap.size, 0, none⟩) (Nat.le_refl _) (.string ps)).setCell (p := ⟨w.heap.size, 1, none⟩) (Nat.le_refl _) (.string qs))
  clear S0 S1 b3 Z3
  go_wp2_with fail
  (try simp only [Exit.inBlock, Exit.then])
  refine bodyPost_ret (v := ratV ps qs) ?_ rfl ⟨rfl, HBE.out⟩
  rw [results_cell_one rfl]
  go_simp
end Go.Proofs.YtdgbplppabalgaaGreatDoor

namespace Go.Proofs.YtdgbplppabalgaaGreatDoor
open Go.RowKit

set_option maxHeartbeats 6400000 in
set_option maxRecDepth 100000 in
theorem mulY_any (n1 d1 n2 d2 : Int) (w : World) (hs : Std w) (h1 : (str n1.natAbs).size ≤ 10000) (h2 : (str d1.natAbs).size ≤ 10000) (h3 : (str n2.natAbs).size ≤ 10000) (h4 : (str d2.natAbs).size ≤ 10000) (p1 : d1 ≠ 0) (p2 : d2 ≠ 0) :
    Calls Tryz.prog 43 #[ratV (zS n1) (zS d1), ratV (zS n2) (zS d2)] w fun e w' => e = .returned (ratV (zS (newN (n1 * n2) (d1 * d2))) (str (newD (n1 * n2) (d1 * d2)))) ∧ Below w.heap.size w w' := by
  have HT1 := Lib.hid (fun wx => toY_any n1 wx (by omega))
  have HT2 := Lib.hid (fun wx => toY_any n2 wx (by omega))
  have HT4 := Lib.hid (fun wx => toY_any d1 wx (by omega))
  have HT5 := Lib.hid (fun wx => toY_any d2 wx (by omega))
  have HSZ1 := Lib.hid h1
  have HSZ2 := Lib.hid h3
  have HSZ3 := Lib.hid (zsz_mul2 h1 h3 (by omega))
  have HSZ4 := Lib.hid h2
  have HSZ5 := Lib.hid h4
  have HSZ6 := Lib.hid (zsz_mul2 h2 h4 (by omega))
  have HNZ := Lib.hid (Int.mul_ne_zero p1 p2)
  have HS := Lib.hid hs
  have HX := Lib.hid (Bg.new w (zS n1) (zS d1) (zS n2) (zS d2))
  obtain ⟨s1, hs1⟩ : ∃ s, s = zS n1 := ⟨_, rfl⟩
  obtain ⟨t1, ht1⟩ : ∃ s, s = zS d1 := ⟨_, rfl⟩
  obtain ⟨s2, hs2⟩ : ∃ s, s = zS n2 := ⟨_, rfl⟩
  obtain ⟨t2, ht2⟩ : ∃ s, s = zS d2 := ⟨_, rfl⟩
  obtain ⟨ps, hps⟩ : ∃ s, s = zS (newN (n1 * n2) (d1 * d2)) := ⟨_, rfl⟩
  obtain ⟨qs, hqs⟩ : ∃ s, s = str (newD (n1 * n2) (d1 * d2)) := ⟨_, rfl⟩
  have HPS := Lib.hid hps
  have HQS := Lib.hid hqs
  rw [← hs1] at HT1
  rw [← hs2] at HT2
  rw [← ht1] at HT4
  rw [← ht2] at HT5
  rw [← hs1, ← ht1, ← hs2, ← ht2] at HX ⊢
  rw [← hps, ← hqs]
  clear hs h1 h2 h3 h4 p1 p2 hs1 ht1 hs2 ht2 hps hqs
  go_enter Tryz.func43, Tryz.ntmps43
  go_upto_region 1 with fail
  obtain ⟨W0, hW0⟩ : ∃ W0, W0 = ((w.alloc (ratO s1 t1)).alloc (ratO s2 t2)).alloc (.cells #[.string ⟨#[]⟩, .string ⟨#[]⟩] 24) := ⟨_, rfl⟩
  rw [← hW0] at HX ⊢
  clear hW0
  have X0 := Lib.hid (HX.out.to (Below.drew (Below.refl _ _)))
  go_region_held3 (fun W => W.cell? ⟨w.heap.size, 0, none⟩ = some (.string s1) ∧ W.cell? ⟨w.heap.size, 1, none⟩ = some (.string t1) ∧ W.cell? ⟨w.heap.size + 1, 0, none⟩ = some (.string s2) ∧ W.cell? ⟨w.heap.size + 1, 1, none⟩ = some (.string t2)) (first | exact ⟨T1.out.1, T1.out.2.1, T1.out.2.2.1, T1.out.2.2.2⟩ | exact ⟨X7.out.two.one.num, X7.out.two.one.den, X7.out.two.two.num, X7.out.two.two.den⟩ | exact ⟨X6.out.two.one.num, X6.out.two.one.den, X6.out.two.two.num, X6.out.two.two.den⟩ | exact ⟨X5.out.two.one.num, X5.out.two.one.den, X5.out.two.two.num, X5.out.two.two.den⟩ | exact ⟨X4.out.two.one.num, X4.out.two.one.den, X4.out.two.two.num, X4.out.two.two.den⟩ | exact ⟨X3.out.two.one.num, X3.out.two.one.den, X3.out.two.two.num, X3.out.two.two.den⟩ | exact ⟨X2.out.two.one.num, X2.out.two.one.den, X2.out.two.two.num, X2.out.two.two.den⟩ | exact ⟨X1.out.two.one.num, X1.out.two.one.den, X1.out.two.two.num, X1.out.two.two.den⟩ | exact ⟨X0.out.two.one.num, X0.out.two.one.den, X0.out.two.two.num, X0.out.two.two.den⟩) (first | (go_at_call 24; have g0 := X6.out; have hq := makeY_any b3 o3 c3 L3 (n1 * n2) b6 o6 c6 L6 (d1 * d2) v6 (HS.out.below g0.two.below) HW3_6.out HW6_6.out HNZ.out (HW3_6.out.pcs.len_le (n := 20000) (by have := HSZ3.out; omega)) (HW6_6.out.pcs.len_le (n := 20000) (by have := HSZ6.out; omega)); unfold whV at hq; rw [← HM3.out, ← HM6.out, ← HPS.out, ← HQS.out] at hq; refine hq.mono ?_; rintro e v7 ⟨rfl, h⟩; have hz := g0.to h; have f0 := hz.res.free 0; have e0 := hz.res.c0; have e1 := hz.res.c1; have S0 := hz.res.set0 (.string ps); have S1 := S0.set1 (.string qs); have f1 := S0.free 1; have g1 := S0.c1; have u0 := S1.c0; have u1 := S1.c1; have T1 := Lib.hid (show ((v7.setCell ⟨w.heap.size + 1 + 1, 0, none⟩ (.string ps)).setCell ⟨w.heap.size + 1 + 1, 1, none⟩ (.string qs)).cell? ⟨w.heap.size, 0, none⟩ = some (.string s1) ∧ ((v7.setCell ⟨w.heap.size + 1 + 1, 0, none⟩ (.string ps)).setCell ⟨w.heap.size + 1 + 1, 1, none⟩ (.string qs)).cell? ⟨w.heap.size, 1, none⟩ = some (.string t1) ∧ ((v7.setCell ⟨w.heap.size + 1 + 1, 0, none⟩ (.string ps)).setCell ⟨w.heap.size + 1 + 1, 1, none⟩ (.string qs)).cell? ⟨w.heap.size + 1, 0, none⟩ = some (.string s2) ∧ ((v7.setCell ⟨w.heap.size + 1 + 1, 0, none⟩ (.string ps)).setCell ⟨w.heap.size + 1 + 1, 1, none⟩ (.string qs)).cell? ⟨w.heap.size + 1, 1, none⟩ = some (.string t2) from ⟨by rw [World.cell?_setCell_far _ _ _ _ (by show w.heap.size + 1 + 1 ≠ w.heap.size; omega), World.cell?_setCell_far _ _ _ _ (by show w.heap.size + 1 + 1 ≠ w.heap.size; omega)]; exact hz.two.one.num, by rw [World.cell?_setCell_far _ _ _ _ (by show w.heap.size + 1 + 1 ≠ w.heap.size; omega), World.cell?_setCell_far _ _ _ _ (by show w.heap.size + 1 + 1 ≠ w.heap.size; omega)]; exact hz.two.one.den, by rw [World.cell?_setCell_far _ _ _ _ (by show w.heap.size + 1 + 1 ≠ w.heap.size + 1; omega), World.cell?_setCell_far _ _ _ _ (by show w.heap.size + 1 + 1 ≠ w.heap.size + 1; omega)]; exact hz.two.two.num, by rw [World.cell?_setCell_far _ _ _ _ (by show w.heap.size + 1 + 1 ≠ w.heap.size + 1; omega), World.cell?_setCell_far _ _ _ _ (by show w.heap.size + 1 + 1 ≠ w.heap.size + 1; omega)]; exact hz.two.two.den⟩); have X7 := Lib.hid hz; have HBE := Lib.hid ((hz.two.below.setCell (p := ⟨w.heap.size + 1 + 1, 0, none⟩) (by show w.heap.size ≤ w.heap.size + 1 + 1; omega) (.string ps)).setCell (p := ⟨w.heap.size + 1 + 1, 1, none⟩) (by show w.heap.size ≤ w.heap.size + 1 + 1; omega) (.string qs)); clear hz S0 S1 h hq g0) | (go_at_call 92; have g0 := X5.out; have hq := mulWY_any b4 o4 c4 L4 (d1) b5 o5 c5 L5 (d2) v5 HW4_5.out HW5_5.out (HW4_5.out.pcs.len_le (n := 50000) (by have := HSZ4.out; omega)) (HW5_5.out.pcs.len_le (n := 50000) (by have := HSZ5.out; omega)); unfold whV at hq; rw [← HM4.out, ← HM5.out] at hq; refine hq.mono ?_; rintro e v6 ⟨⟨b6, o6, c6, L6, rfl, hwf⟩, h⟩; clear hq; have X6 := Lib.hid (g0.to h); have HW3_6 := Lib.hid (HW3_5.out.below h); have HW6_6 := Lib.hid hwf.wh; (try unfold whV); obtain ⟨m6, hm⟩ : ∃ m, m = L6.length := ⟨_, rfl⟩; have HM6 := Lib.hid hm; rw [← hm]; clear h g0 hwf hm) | (go_at_call 25; have g0 := X4.out; refine (HT5.out _).mono ?_; rintro e v5 ⟨⟨b5, o5, c5, L5, rfl, hwf⟩, h⟩; have X5 := Lib.hid (g0.to h); have HW3_5 := Lib.hid (HW3_4.out.below h); have HW4_5 := Lib.hid (HW4_4.out.below h); have HW5_5 := Lib.hid hwf.wh; (try unfold whV); obtain ⟨m5, hm⟩ : ∃ m, m = L5.length := ⟨_, rfl⟩; have HM5 := Lib.hid hm; rw [← hm]; clear h g0 hwf hm) | (go_at_call 25; have g0 := X3.out; refine (HT4.out _).mono ?_; rintro e v4 ⟨⟨b4, o4, c4, L4, rfl, hwf⟩, h⟩; have X4 := Lib.hid (g0.to h); have HW3_4 := Lib.hid (HW3_3.out.below h); have HW4_4 := Lib.hid hwf.wh; (try unfold whV); obtain ⟨m4, hm⟩ : ∃ m, m = L4.length := ⟨_, rfl⟩; have HM4 := Lib.hid hm; rw [← hm]; clear h g0 hwf hm) | (go_at_call 92; have g0 := X2.out; have hq := mulWY_any b1 o1 c1 L1 (n1) b2 o2 c2 L2 (n2) v2 HW1_2.out HW2_2.out (HW1_2.out.pcs.len_le (n := 50000) (by have := HSZ1.out; omega)) (HW2_2.out.pcs.len_le (n := 50000) (by have := HSZ2.out; omega)); unfold whV at hq; rw [← HM1.out, ← HM2.out] at hq; refine hq.mono ?_; rintro e v3 ⟨⟨b3, o3, c3, L3, rfl, hwf⟩, h⟩; clear hq; have X3 := Lib.hid (g0.to h); have HW3_3 := Lib.hid hwf.wh; (try unfold whV); obtain ⟨m3, hm⟩ : ∃ m, m = L3.length := ⟨_, rfl⟩; have HM3 := Lib.hid hm; rw [← hm]; clear h g0 hwf hm) | (go_at_call 25; have g0 := X1.out; refine (HT2.out _).mono ?_; rintro e v2 ⟨⟨b2, o2, c2, L2, rfl, hwf⟩, h⟩; have X2 := Lib.hid (g0.to h); have HW1_2 := Lib.hid (HW1_1.out.below h); have HW2_2 := Lib.hid hwf.wh; (try unfold whV); obtain ⟨m2, hm⟩ : ∃ m, m = L2.length := ⟨_, rfl⟩; have HM2 := Lib.hid hm; rw [← hm]; clear h g0 hwf hm) | (go_at_call 25; have g0 := X0.out; refine (HT1.out _).mono ?_; rintro e v1 ⟨⟨b1, o1, c1, L1, rfl, hwf⟩, h⟩; have X1 := Lib.hid (g0.to h); have HW1_1 := Lib.hid hwf.wh; (try unfold whV); obtain ⟨m1, hm⟩ : ∃ m, m = L1.length := ⟨_, rfl⟩; have HM1 := Lib.hid hm; rw [← hm]; clear h g0 hwf hm))
  all_goals (
    go_wp2_with fail
    (try simp only [Exit.inBlock, Exit.then])
    refine bodyPost_ret (v := ratV ps qs) ?_ rfl ⟨rfl, HBE.out⟩
    rw [results_cell_one rfl]
    go_simp)
end Go.Proofs.YtdgbplppabalgaaGreatDoor

namespace Go.Proofs.YtdgbplppabalgaaGreatDoor
open Go.RowKit

theorem zS_one {x y : Int} (h : zS x = zS y) : x = y := by
  have e := congrArg zV h
  rwa [zV_zS, zV_zS] at e
theorem ba_ne2 {s t : ByteArray} (h : ¬ s = t) : (s.toList == t.toList) = false := by
  rw [Bool.eq_false_iff]; intro k; exact h (ba_eq (eq_of_beq k))
set_option maxHeartbeats 12800000 in
set_option maxRecDepth 100000 in
theorem addY_same (n1 d1 n2 d2 : Int) (w : World) (hs : Std w) (h1 : (str n1.natAbs).size ≤ 10000) (h2 : (str d1.natAbs).size ≤ 10000) (h3 : (str n2.natAbs).size ≤ 10000) (_h4 : (str d2.natAbs).size ≤ 10000) (p1 : d1 ≠ 0) (p2 : d1 = d2) :
    Calls Tryz.prog 32 #[ratV (zS n1) (zS d1), ratV (zS n2) (zS d2)] w fun e w' => e = .returned (ratV (zS (newN (n1 + n2) (d1))) (str (newD (n1 + n2) (d1)))) ∧ Below w.heap.size w w' := by
  have HTA := Lib.hid (fun wx => toY_any n1 wx (by omega))
  have HTB := Lib.hid (fun wx => toY_any n2 wx (by omega))
  have HTC := Lib.hid (fun wx => toY_any d1 wx (by omega))
  have HSZ1 := Lib.hid h1
  have HSZ2 := Lib.hid h3
  have HSZ3 := Lib.hid (zsz_add2 h1 h3 (by omega))
  have HSZ4 := Lib.hid h2
  have HNZ := Lib.hid p1
  have HS := Lib.hid hs
  have HX := Lib.hid (Bg.new w (zS n1) (zS d1) (zS n2) (zS d2))
  obtain ⟨s1, hs1⟩ : ∃ s, s = zS n1 := ⟨_, rfl⟩
  obtain ⟨t1, ht1⟩ : ∃ s, s = zS d1 := ⟨_, rfl⟩
  obtain ⟨s2, hs2⟩ : ∃ s, s = zS n2 := ⟨_, rfl⟩
  obtain ⟨t2, ht2⟩ : ∃ s, s = zS d2 := ⟨_, rfl⟩
  obtain ⟨ps, hps⟩ : ∃ s, s = zS (newN (n1 + n2) (d1)) := ⟨_, rfl⟩
  obtain ⟨qs, hqs⟩ : ∃ s, s = str (newD (n1 + n2) (d1)) := ⟨_, rfl⟩
  have HPS := Lib.hid hps
  have HQS := Lib.hid hqs
  have hb : (t1.toList == t2.toList) = true := by rw [ht1, ht2, p2]; simp
  rw [← hs1] at HTA
  rw [← hs2] at HTB
  rw [← ht1] at HTC
  rw [← hs1, ← ht1, ← hs2, ← ht2] at HX ⊢
  rw [← hps, ← hqs]
  clear hs h1 h2 h3 _h4 p1 p2 hs1 ht1 hs2 ht2 hps hqs
  go_enter Tryz.func32, Tryz.ntmps32
  go_upto_region 1 with fail
  obtain ⟨W0, hW0⟩ : ∃ W0, W0 = ((w.alloc (ratO s1 t1)).alloc (ratO s2 t2)).alloc (.cells #[.string ⟨#[]⟩, .string ⟨#[]⟩] 24) := ⟨_, rfl⟩
  rw [← hW0] at HX ⊢
  clear hW0
  have y1 := HX.out.two.one.den
  have y2 := HX.out.two.two.den
  go_upto_region 2 with fail
  clear y1 y2
  have X0 := Lib.hid (HX.out.to (Below.drew (Below.refl _ _)))
  go_region_held3 (fun W => W.cell? ⟨w.heap.size, 0, none⟩ = some (.string s1) ∧ W.cell? ⟨w.heap.size, 1, none⟩ = some (.string t1) ∧ W.cell? ⟨w.heap.size + 1, 0, none⟩ = some (.string s2) ∧ W.cell? ⟨w.heap.size + 1, 1, none⟩ = some (.string t2)) (first | exact ⟨T1.out.1, T1.out.2.1, T1.out.2.2.1, T1.out.2.2.2⟩ | exact ⟨X5.out.two.one.num, X5.out.two.one.den, X5.out.two.two.num, X5.out.two.two.den⟩ | exact ⟨X4.out.two.one.num, X4.out.two.one.den, X4.out.two.two.num, X4.out.two.two.den⟩ | exact ⟨X3.out.two.one.num, X3.out.two.one.den, X3.out.two.two.num, X3.out.two.two.den⟩ | exact ⟨X2.out.two.one.num, X2.out.two.one.den, X2.out.two.two.num, X2.out.two.two.den⟩ | exact ⟨X1.out.two.one.num, X1.out.two.one.den, X1.out.two.two.num, X1.out.two.two.den⟩ | exact ⟨X0.out.two.one.num, X0.out.two.one.den, X0.out.two.two.num, X0.out.two.two.den⟩) (first | (go_at_call 24; have g0 := X4.out; have hq := makeY_any b3 o3 c3 L3 (n1 + n2) b4 o4 c4 L4 (d1) v4 (HS.out.below g0.two.below) HW3_4.out HW4_4.out HNZ.out (HW3_4.out.pcs.len_le (n := 20000) (by have := HSZ3.out; omega)) (HW4_4.out.pcs.len_le (n := 20000) (by have := HSZ4.out; omega)); unfold whV at hq; rw [← HM3.out, ← HM4.out, ← HPS.out, ← HQS.out] at hq; refine hq.mono ?_; rintro e v5 ⟨rfl, h⟩; have hz := g0.to h; have f0 := hz.res.free 0; have e0 := hz.res.c0; have e1 := hz.res.c1; have S0 := hz.res.set0 (.string ps); have S1 := S0.set1 (.string qs); have f1 := S0.free 1; have g1 := S0.c1; have u0 := S1.c0; have u1 := S1.c1; have T1 := Lib.hid (show ((v5.setCell ⟨w.heap.size + 1 + 1, 0, none⟩ (.string ps)).setCell ⟨w.heap.size + 1 + 1, 1, none⟩ (.string qs)).cell? ⟨w.heap.size, 0, none⟩ = some (.string s1) ∧ ((v5.setCell ⟨w.heap.size + 1 + 1, 0, none⟩ (.string ps)).setCell ⟨w.heap.size + 1 + 1, 1, none⟩ (.string qs)).cell? ⟨w.heap.size, 1, none⟩ = some (.string t1) ∧ ((v5.setCell ⟨w.heap.size + 1 + 1, 0, none⟩ (.string ps)).setCell ⟨w.heap.size + 1 + 1, 1, none⟩ (.string qs)).cell? ⟨w.heap.size + 1, 0, none⟩ = some (.string s2) ∧ ((v5.setCell ⟨w.heap.size + 1 + 1, 0, none⟩ (.string ps)).setCell ⟨w.heap.size + 1 + 1, 1, none⟩ (.string qs)).cell? ⟨w.heap.size + 1, 1, none⟩ = some (.string t2) from ⟨by rw [World.cell?_setCell_far _ _ _ _ (by show w.heap.size + 1 + 1 ≠ w.heap.size; omega), World.cell?_setCell_far _ _ _ _ (by show w.heap.size + 1 + 1 ≠ w.heap.size; omega)]; exact hz.two.one.num, by rw [World.cell?_setCell_far _ _ _ _ (by show w.heap.size + 1 + 1 ≠ w.heap.size; omega), World.cell?_setCell_far _ _ _ _ (by show w.heap.size + 1 + 1 ≠ w.heap.size; omega)]; exact hz.two.one.den, by rw [World.cell?_setCell_far _ _ _ _ (by show w.heap.size + 1 + 1 ≠ w.heap.size + 1; omega), World.cell?_setCell_far _ _ _ _ (by show w.heap.size + 1 + 1 ≠ w.heap.size + 1; omega)]; exact hz.two.two.num, by rw [World.cell?_setCell_far _ _ _ _ (by show w.heap.size + 1 + 1 ≠ w.heap.size + 1; omega), World.cell?_setCell_far _ _ _ _ (by show w.heap.size + 1 + 1 ≠ w.heap.size + 1; omega)]; exact hz.two.two.den⟩); have X5 := Lib.hid hz; have HBE := Lib.hid ((hz.two.below.setCell (p := ⟨w.heap.size + 1 + 1, 0, none⟩) (by show w.heap.size ≤ w.heap.size + 1 + 1; omega) (.string ps)).setCell (p := ⟨w.heap.size + 1 + 1, 1, none⟩) (by show w.heap.size ≤ w.heap.size + 1 + 1; omega) (.string qs)); clear hz S0 S1 h hq g0) | (go_at_call 25; have g0 := X3.out; refine (HTC.out _).mono ?_; rintro e v4 ⟨⟨b4, o4, c4, L4, rfl, hwf⟩, h⟩; have X4 := Lib.hid (g0.to h); have HW3_4 := Lib.hid (HW3_3.out.below h); have HW4_4 := Lib.hid hwf.wh; (try unfold whV); obtain ⟨m4, hm⟩ : ∃ m, m = L4.length := ⟨_, rfl⟩; have HM4 := Lib.hid hm; rw [← hm]; clear h g0 hwf hm) | (go_at_call 91; have g0 := X2.out; have hq := addWY_any b1 o1 c1 L1 (n1) b2 o2 c2 L2 (n2) v2 HW1_2.out HW2_2.out (HW1_2.out.pcs.len_le (n := 50000) (by have := HSZ1.out; omega)) (HW2_2.out.pcs.len_le (n := 50000) (by have := HSZ2.out; omega)); unfold whV at hq; rw [← HM1.out, ← HM2.out] at hq; refine hq.mono ?_; rintro e v3 ⟨⟨b3, o3, c3, L3, rfl, hwf⟩, h⟩; clear hq; have X3 := Lib.hid (g0.to h); have HW3_3 := Lib.hid hwf.wh; (try unfold whV); obtain ⟨m3, hm⟩ : ∃ m, m = L3.length := ⟨_, rfl⟩; have HM3 := Lib.hid hm; rw [← hm]; clear h g0 hwf hm) | (go_at_call 25; have g0 := X1.out; refine (HTB.out _).mono ?_; rintro e v2 ⟨⟨b2, o2, c2, L2, rfl, hwf⟩, h⟩; have X2 := Lib.hid (g0.to h); have HW1_2 := Lib.hid (HW1_1.out.below h); have HW2_2 := Lib.hid hwf.wh; (try unfold whV); obtain ⟨m2, hm⟩ : ∃ m, m = L2.length := ⟨_, rfl⟩; have HM2 := Lib.hid hm; rw [← hm]; clear h g0 hwf hm) | (go_at_call 25; have g0 := X0.out; refine (HTA.out _).mono ?_; rintro e v1 ⟨⟨b1, o1, c1, L1, rfl, hwf⟩, h⟩; have X1 := Lib.hid (g0.to h); have HW1_1 := Lib.hid hwf.wh; (try unfold whV); obtain ⟨m1, hm⟩ : ∃ m, m = L1.length := ⟨_, rfl⟩; have HM1 := Lib.hid hm; rw [← hm]; clear h g0 hwf hm))
  all_goals (
    go_wp2_with fail
    (try simp only [Exit.inBlock, Exit.then])
    refine bodyPost_ret (v := ratV ps qs) ?_ rfl ⟨rfl, HBE.out⟩
    rw [results_cell_one rfl]
    go_simp)
set_option maxHeartbeats 12800000 in
set_option maxRecDepth 100000 in
theorem addY_far (n1 d1 n2 d2 : Int) (w : World) (hs : Std w) (h1 : (str n1.natAbs).size ≤ 10000) (h2 : (str d1.natAbs).size ≤ 10000) (h3 : (str n2.natAbs).size ≤ 10000) (h4 : (str d2.natAbs).size ≤ 10000) (p1 : d1 ≠ 0) (p2 : d2 ≠ 0) (hne : ¬ d1 = d2) :
    Calls Tryz.prog 32 #[ratV (zS n1) (zS d1), ratV (zS n2) (zS d2)] w fun e w' => e = .returned (ratV (zS (newN (n1 * d2 + n2 * d1) (d1 * d2))) (str (newD (n1 * d2 + n2 * d1) (d1 * d2)))) ∧ Below w.heap.size w w' := by
  have HTA := Lib.hid (fun wx => toY_any n1 wx (by omega))
  have HTB := Lib.hid (fun wx => toY_any n2 wx (by omega))
  have HTC := Lib.hid (fun wx => toY_any d1 wx (by omega))
  have HTD := Lib.hid (fun wx => toY_any d2 wx (by omega))
  have HSZ1 := Lib.hid h1
  have HSZ2 := Lib.hid h4
  have HSZ3 := Lib.hid (zsz_mul2 h1 h4 (by omega))
  have HSZ4 := Lib.hid h3
  have HSZ5 := Lib.hid h2
  have HSZ6 := Lib.hid (zsz_mul2 h3 h2 (by omega))
  have HSZ7 := Lib.hid (zsz_add2 (zsz_mul2 h1 h4 (by omega)) (zsz_mul2 h3 h2 (by omega)) (by omega))
  have HSZ8 := Lib.hid h2
  have HSZ9 := Lib.hid h4
  have HSZ10 := Lib.hid (zsz_mul2 h2 h4 (by omega))
  have HNZ := Lib.hid (Int.mul_ne_zero p1 p2)
  have HS := Lib.hid hs
  have HX := Lib.hid (Bg.new w (zS n1) (zS d1) (zS n2) (zS d2))
  obtain ⟨s1, hs1⟩ : ∃ s, s = zS n1 := ⟨_, rfl⟩
  obtain ⟨t1, ht1⟩ : ∃ s, s = zS d1 := ⟨_, rfl⟩
  obtain ⟨s2, hs2⟩ : ∃ s, s = zS n2 := ⟨_, rfl⟩
  obtain ⟨t2, ht2⟩ : ∃ s, s = zS d2 := ⟨_, rfl⟩
  obtain ⟨ps, hps⟩ : ∃ s, s = zS (newN (n1 * d2 + n2 * d1) (d1 * d2)) := ⟨_, rfl⟩
  obtain ⟨qs, hqs⟩ : ∃ s, s = str (newD (n1 * d2 + n2 * d1) (d1 * d2)) := ⟨_, rfl⟩
  have HPS := Lib.hid hps
  have HQS := Lib.hid hqs
  have hb : (t1.toList == t2.toList) = false := ba_ne2 (fun k => hne (zS_one (by rw [← ht1, ← ht2]; exact k)))
  rw [← hs1] at HTA
  rw [← hs2] at HTB
  rw [← ht1] at HTC
  rw [← ht2] at HTD
  rw [← hs1, ← ht1, ← hs2, ← ht2] at HX ⊢
  clear hne
  rw [← hps, ← hqs]
  clear hs h1 h2 h3 h4 p1 p2 hs1 ht1 hs2 ht2 hps hqs
  go_enter Tryz.func32, Tryz.ntmps32
  go_upto_region 1 with fail
  obtain ⟨W0, hW0⟩ : ∃ W0, W0 = ((w.alloc (ratO s1 t1)).alloc (ratO s2 t2)).alloc (.cells #[.string ⟨#[]⟩, .string ⟨#[]⟩] 24) := ⟨_, rfl⟩
  rw [← hW0] at HX ⊢
  clear hW0
  have y1 := HX.out.two.one.den
  have y2 := HX.out.two.two.den
  go_upto_region 3 with fail
  clear y1 y2
  have X0 := Lib.hid (HX.out.to (Below.drew (Below.refl _ _)))
  go_region_held3 (fun W => W.cell? ⟨w.heap.size, 0, none⟩ = some (.string s1) ∧ W.cell? ⟨w.heap.size, 1, none⟩ = some (.string t1) ∧ W.cell? ⟨w.heap.size + 1, 0, none⟩ = some (.string s2) ∧ W.cell? ⟨w.heap.size + 1, 1, none⟩ = some (.string t2)) (first | exact ⟨T1.out.1, T1.out.2.1, T1.out.2.2.1, T1.out.2.2.2⟩ | exact ⟨X11.out.two.one.num, X11.out.two.one.den, X11.out.two.two.num, X11.out.two.two.den⟩ | exact ⟨X10.out.two.one.num, X10.out.two.one.den, X10.out.two.two.num, X10.out.two.two.den⟩ | exact ⟨X9.out.two.one.num, X9.out.two.one.den, X9.out.two.two.num, X9.out.two.two.den⟩ | exact ⟨X8.out.two.one.num, X8.out.two.one.den, X8.out.two.two.num, X8.out.two.two.den⟩ | exact ⟨X7.out.two.one.num, X7.out.two.one.den, X7.out.two.two.num, X7.out.two.two.den⟩ | exact ⟨X6.out.two.one.num, X6.out.two.one.den, X6.out.two.two.num, X6.out.two.two.den⟩ | exact ⟨X5.out.two.one.num, X5.out.two.one.den, X5.out.two.two.num, X5.out.two.two.den⟩ | exact ⟨X4.out.two.one.num, X4.out.two.one.den, X4.out.two.two.num, X4.out.two.two.den⟩ | exact ⟨X3.out.two.one.num, X3.out.two.one.den, X3.out.two.two.num, X3.out.two.two.den⟩ | exact ⟨X2.out.two.one.num, X2.out.two.one.den, X2.out.two.two.num, X2.out.two.two.den⟩ | exact ⟨X1.out.two.one.num, X1.out.two.one.den, X1.out.two.two.num, X1.out.two.two.den⟩ | exact ⟨X0.out.two.one.num, X0.out.two.one.den, X0.out.two.two.num, X0.out.two.two.den⟩) (first | (go_at_call 24; have g0 := X10.out; have hq := makeY_any b7 o7 c7 L7 (n1 * d2 + n2 * d1) b10 o10 c10 L10 (d1 * d2) v10 (HS.out.below g0.two.below) HW7_10.out HW10_10.out HNZ.out (HW7_10.out.pcs.len_le (n := 20000) (by have := HSZ7.out; omega)) (HW10_10.out.pcs.len_le (n := 20000) (by have := HSZ10.out; omega)); unfold whV at hq; rw [← HM7.out, ← HM10.out, ← HPS.out, ← HQS.out] at hq; refine hq.mono ?_; rintro e v11 ⟨rfl, h⟩; have hz := g0.to h; have f0 := hz.res.free 0; have e0 := hz.res.c0; have e1 := hz.res.c1; have S0 := hz.res.set0 (.string ps); have S1 := S0.set1 (.string qs); have f1 := S0.free 1; have g1 := S0.c1; have u0 := S1.c0; have u1 := S1.c1; have T1 := Lib.hid (show ((v11.setCell ⟨w.heap.size + 1 + 1, 0, none⟩ (.string ps)).setCell ⟨w.heap.size + 1 + 1, 1, none⟩ (.string qs)).cell? ⟨w.heap.size, 0, none⟩ = some (.string s1) ∧ ((v11.setCell ⟨w.heap.size + 1 + 1, 0, none⟩ (.string ps)).setCell ⟨w.heap.size + 1 + 1, 1, none⟩ (.string qs)).cell? ⟨w.heap.size, 1, none⟩ = some (.string t1) ∧ ((v11.setCell ⟨w.heap.size + 1 + 1, 0, none⟩ (.string ps)).setCell ⟨w.heap.size + 1 + 1, 1, none⟩ (.string qs)).cell? ⟨w.heap.size + 1, 0, none⟩ = some (.string s2) ∧ ((v11.setCell ⟨w.heap.size + 1 + 1, 0, none⟩ (.string ps)).setCell ⟨w.heap.size + 1 + 1, 1, none⟩ (.string qs)).cell? ⟨w.heap.size + 1, 1, none⟩ = some (.string t2) from ⟨by rw [World.cell?_setCell_far _ _ _ _ (by show w.heap.size + 1 + 1 ≠ w.heap.size; omega), World.cell?_setCell_far _ _ _ _ (by show w.heap.size + 1 + 1 ≠ w.heap.size; omega)]; exact hz.two.one.num, by rw [World.cell?_setCell_far _ _ _ _ (by show w.heap.size + 1 + 1 ≠ w.heap.size; omega), World.cell?_setCell_far _ _ _ _ (by show w.heap.size + 1 + 1 ≠ w.heap.size; omega)]; exact hz.two.one.den, by rw [World.cell?_setCell_far _ _ _ _ (by show w.heap.size + 1 + 1 ≠ w.heap.size + 1; omega), World.cell?_setCell_far _ _ _ _ (by show w.heap.size + 1 + 1 ≠ w.heap.size + 1; omega)]; exact hz.two.two.num, by rw [World.cell?_setCell_far _ _ _ _ (by show w.heap.size + 1 + 1 ≠ w.heap.size + 1; omega), World.cell?_setCell_far _ _ _ _ (by show w.heap.size + 1 + 1 ≠ w.heap.size + 1; omega)]; exact hz.two.two.den⟩); have X11 := Lib.hid hz; have HBE := Lib.hid ((hz.two.below.setCell (p := ⟨w.heap.size + 1 + 1, 0, none⟩) (by show w.heap.size ≤ w.heap.size + 1 + 1; omega) (.string ps)).setCell (p := ⟨w.heap.size + 1 + 1, 1, none⟩) (by show w.heap.size ≤ w.heap.size + 1 + 1; omega) (.string qs)); clear hz S0 S1 h hq g0) | (go_at_call 92; have g0 := X9.out; have hq := mulWY_any b8 o8 c8 L8 (d1) b9 o9 c9 L9 (d2) v9 HW8_9.out HW9_9.out (HW8_9.out.pcs.len_le (n := 50000) (by have := HSZ8.out; omega)) (HW9_9.out.pcs.len_le (n := 50000) (by have := HSZ9.out; omega)); unfold whV at hq; rw [← HM8.out, ← HM9.out] at hq; refine hq.mono ?_; rintro e v10 ⟨⟨b10, o10, c10, L10, rfl, hwf⟩, h⟩; clear hq; have X10 := Lib.hid (g0.to h); have HW7_10 := Lib.hid (HW7_9.out.below h); have HW10_10 := Lib.hid hwf.wh; (try unfold whV); obtain ⟨m10, hm⟩ : ∃ m, m = L10.length := ⟨_, rfl⟩; have HM10 := Lib.hid hm; rw [← hm]; clear h g0 hwf hm) | (go_at_call 25; have g0 := X8.out; refine (HTD.out _).mono ?_; rintro e v9 ⟨⟨b9, o9, c9, L9, rfl, hwf⟩, h⟩; have X9 := Lib.hid (g0.to h); have HW7_9 := Lib.hid (HW7_8.out.below h); have HW8_9 := Lib.hid (HW8_8.out.below h); have HW9_9 := Lib.hid hwf.wh; (try unfold whV); obtain ⟨m9, hm⟩ : ∃ m, m = L9.length := ⟨_, rfl⟩; have HM9 := Lib.hid hm; rw [← hm]; clear h g0 hwf hm) | (go_at_call 25; have g0 := X7.out; refine (HTC.out _).mono ?_; rintro e v8 ⟨⟨b8, o8, c8, L8, rfl, hwf⟩, h⟩; have X8 := Lib.hid (g0.to h); have HW7_8 := Lib.hid (HW7_7.out.below h); have HW8_8 := Lib.hid hwf.wh; (try unfold whV); obtain ⟨m8, hm⟩ : ∃ m, m = L8.length := ⟨_, rfl⟩; have HM8 := Lib.hid hm; rw [← hm]; clear h g0 hwf hm) | (go_at_call 91; have g0 := X6.out; have hq := addWY_any b3 o3 c3 L3 (n1 * d2) b6 o6 c6 L6 (n2 * d1) v6 HW3_6.out HW6_6.out (HW3_6.out.pcs.len_le (n := 50000) (by have := HSZ3.out; omega)) (HW6_6.out.pcs.len_le (n := 50000) (by have := HSZ6.out; omega)); unfold whV at hq; rw [← HM3.out, ← HM6.out] at hq; refine hq.mono ?_; rintro e v7 ⟨⟨b7, o7, c7, L7, rfl, hwf⟩, h⟩; clear hq; have X7 := Lib.hid (g0.to h); have HW7_7 := Lib.hid hwf.wh; (try unfold whV); obtain ⟨m7, hm⟩ : ∃ m, m = L7.length := ⟨_, rfl⟩; have HM7 := Lib.hid hm; rw [← hm]; clear h g0 hwf hm) | (go_at_call 92; have g0 := X5.out; have hq := mulWY_any b4 o4 c4 L4 (n2) b5 o5 c5 L5 (d1) v5 HW4_5.out HW5_5.out (HW4_5.out.pcs.len_le (n := 50000) (by have := HSZ4.out; omega)) (HW5_5.out.pcs.len_le (n := 50000) (by have := HSZ5.out; omega)); unfold whV at hq; rw [← HM4.out, ← HM5.out] at hq; refine hq.mono ?_; rintro e v6 ⟨⟨b6, o6, c6, L6, rfl, hwf⟩, h⟩; clear hq; have X6 := Lib.hid (g0.to h); have HW3_6 := Lib.hid (HW3_5.out.below h); have HW6_6 := Lib.hid hwf.wh; (try unfold whV); obtain ⟨m6, hm⟩ : ∃ m, m = L6.length := ⟨_, rfl⟩; have HM6 := Lib.hid hm; rw [← hm]; clear h g0 hwf hm) | (go_at_call 25; have g0 := X4.out; refine (HTC.out _).mono ?_; rintro e v5 ⟨⟨b5, o5, c5, L5, rfl, hwf⟩, h⟩; have X5 := Lib.hid (g0.to h); have HW3_5 := Lib.hid (HW3_4.out.below h); have HW4_5 := Lib.hid (HW4_4.out.below h); have HW5_5 := Lib.hid hwf.wh; (try unfold whV); obtain ⟨m5, hm⟩ : ∃ m, m = L5.length := ⟨_, rfl⟩; have HM5 := Lib.hid hm; rw [← hm]; clear h g0 hwf hm) | (go_at_call 25; have g0 := X3.out; refine (HTB.out _).mono ?_; rintro e v4 ⟨⟨b4, o4, c4, L4, rfl, hwf⟩, h⟩; have X4 := Lib.hid (g0.to h); have HW3_4 := Lib.hid (HW3_3.out.below h); have HW4_4 := Lib.hid hwf.wh; (try unfold whV); obtain ⟨m4, hm⟩ : ∃ m, m = L4.length := ⟨_, rfl⟩; have HM4 := Lib.hid hm; rw [← hm]; clear h g0 hwf hm) | (go_at_call 92; have g0 := X2.out; have hq := mulWY_any b1 o1 c1 L1 (n1) b2 o2 c2 L2 (d2) v2 HW1_2.out HW2_2.out (HW1_2.out.pcs.len_le (n := 50000) (by have := HSZ1.out; omega)) (HW2_2.out.pcs.len_le (n := 50000) (by have := HSZ2.out; omega)); unfold whV at hq; rw [← HM1.out, ← HM2.out] at hq; refine hq.mono ?_; rintro e v3 ⟨⟨b3, o3, c3, L3, rfl, hwf⟩, h⟩; clear hq; have X3 := Lib.hid (g0.to h); have HW3_3 := Lib.hid hwf.wh; (try unfold whV); obtain ⟨m3, hm⟩ : ∃ m, m = L3.length := ⟨_, rfl⟩; have HM3 := Lib.hid hm; rw [← hm]; clear h g0 hwf hm) | (go_at_call 25; have g0 := X1.out; refine (HTD.out _).mono ?_; rintro e v2 ⟨⟨b2, o2, c2, L2, rfl, hwf⟩, h⟩; have X2 := Lib.hid (g0.to h); have HW1_2 := Lib.hid (HW1_1.out.below h); have HW2_2 := Lib.hid hwf.wh; (try unfold whV); obtain ⟨m2, hm⟩ : ∃ m, m = L2.length := ⟨_, rfl⟩; have HM2 := Lib.hid hm; rw [← hm]; clear h g0 hwf hm) | (go_at_call 25; have g0 := X0.out; refine (HTA.out _).mono ?_; rintro e v1 ⟨⟨b1, o1, c1, L1, rfl, hwf⟩, h⟩; have X1 := Lib.hid (g0.to h); have HW1_1 := Lib.hid hwf.wh; (try unfold whV); obtain ⟨m1, hm⟩ : ∃ m, m = L1.length := ⟨_, rfl⟩; have HM1 := Lib.hid hm; rw [← hm]; clear h g0 hwf hm))
  all_goals (
    go_wp2_with fail
    (try simp only [Exit.inBlock, Exit.then])
    refine bodyPost_ret (v := ratV ps qs) ?_ rfl ⟨rfl, HBE.out⟩
    rw [results_cell_one rfl]
    go_simp)
end Go.Proofs.YtdgbplppabalgaaGreatDoor

namespace Go.Proofs.YtdgbplppabalgaaGreatDoor
open Go.RowKit

set_option maxHeartbeats 6400000 in
set_option maxRecDepth 100000 in
theorem negY_any (n : Int) (t : ByteArray) (w : World) (hs : Std w) (h1 : (str n.natAbs).size ≤ 10000) :
    Calls Tryz.prog 37 #[ratV (zS n) t] w fun e w' => e = .returned (ratV (zS (-n)) t) ∧ Below w.heap.size w w' := by
  have HT1 := Lib.hid (fun wx => toY_any n wx (by omega))
  have HSZ := Lib.hid h1
  have HS := Lib.hid hs
  have HX := Lib.hid (Bn.new w (zS n) t)
  obtain ⟨s, hs1⟩ : ∃ s, s = zS n := ⟨_, rfl⟩
  obtain ⟨q, hq1⟩ : ∃ s, s = zS (-n) := ⟨_, rfl⟩
  have HQ := Lib.hid hq1
  rw [← hs1] at HT1 HX ⊢
  rw [← hq1]
  clear hs h1 hs1 hq1
  go_enter Tryz.func37, Tryz.ntmps37
  go_upto_region 1 with fail
  obtain ⟨W0, hW0⟩ : ∃ W0, W0 = (w.alloc (ratO s t)).alloc (.cells #[.string ⟨#[]⟩, .string ⟨#[]⟩] 24) := ⟨_, rfl⟩
  rw [← hW0] at HX ⊢
  clear hW0
  have X0 := Lib.hid (HX.out.to (Below.drew (Below.refl _ _)))
  go_region_held3 (fun W => W.cell? ⟨w.heap.size, 0, none⟩ = some (.string s) ∧ W.cell? ⟨w.heap.size, 1, none⟩ = some (.string t)) (first | exact ⟨T1.out.1, T1.out.2⟩ | exact ⟨X3.out.box.num, X3.out.box.den⟩ | exact ⟨X2.out.box.num, X2.out.box.den⟩ | exact ⟨X1.out.box.num, X1.out.box.den⟩ | exact ⟨X0.out.box.num, X0.out.box.den⟩) (first | (go_at_call 52; have g0 := X2.out; have hq := fromY_any b2 o1 c1 L2 (-n) v2 (HS.out.below g0.below) HW2.out (HW2.out.pcs.len_le (n := 100000) (by rw [Int.natAbs_neg]; have := HSZ.out; omega)); unfold whV at hq; rw [← HM2.out, ← HQ.out] at hq; refine hq.mono ?_; rintro e v3 ⟨rfl, h⟩; have hz := g0.to h; have f0 := hz.res.free 0; have e0 := hz.res.c0; have e1 := hz.res.c1; have S0 := hz.res.set0 (.string q); have S1 := S0.set1 (.string t); have f1 := S0.free 1; have g1 := S0.c1; have u0 := S1.c0; have u1 := S1.c1; have T1 := Lib.hid (show ((v3.setCell ⟨w.heap.size + 1, 0, none⟩ (.string q)).setCell ⟨w.heap.size + 1, 1, none⟩ (.string t)).cell? ⟨w.heap.size, 0, none⟩ = some (.string s) ∧ ((v3.setCell ⟨w.heap.size + 1, 0, none⟩ (.string q)).setCell ⟨w.heap.size + 1, 1, none⟩ (.string t)).cell? ⟨w.heap.size, 1, none⟩ = some (.string t) from ⟨by rw [World.cell?_setCell_far _ _ _ _ (by show w.heap.size + 1 ≠ w.heap.size; omega), World.cell?_setCell_far _ _ _ _ (by show w.heap.size + 1 ≠ w.heap.size; omega)]; exact hz.box.num, by rw [World.cell?_setCell_far _ _ _ _ (by show w.heap.size + 1 ≠ w.heap.size; omega), World.cell?_setCell_far _ _ _ _ (by show w.heap.size + 1 ≠ w.heap.size; omega)]; exact hz.box.den⟩); have X3 := Lib.hid hz; have HBE := Lib.hid ((hz.below.setCell (p := ⟨w.heap.size + 1, 0, none⟩) (by show w.heap.size ≤ w.heap.size + 1; omega) (.string q)).setCell (p := ⟨w.heap.size + 1, 1, none⟩) (by show w.heap.size ≤ w.heap.size + 1; omega) (.string t)); clear hz S0 S1 h hq g0) | (go_at_call 53; have g0 := X1.out; have hq := negWY_any b1 o1 c1 L1 n v1 HW1.out; unfold whV at hq; rw [← HM1.out] at hq; refine hq.mono ?_; rintro e v2 ⟨⟨b2, L2, rfl, hw2⟩, h⟩; have X2 := Lib.hid (g0.to h); have HW2 := Lib.hid hw2; obtain ⟨m2, hm⟩ : ∃ m, m = L2.length := ⟨_, rfl⟩; have HM2 := Lib.hid hm; rw [← hm]; clear h g0 hw2 hm hq) | (go_at_call 25; have g0 := X0.out; refine (HT1.out _).mono ?_; rintro e v1 ⟨⟨b1, o1, c1, L1, rfl, hwf⟩, h⟩; have X1 := Lib.hid (g0.to h); have HW1 := Lib.hid hwf.wh; (try unfold whV); obtain ⟨m1, hm⟩ : ∃ m, m = L1.length := ⟨_, rfl⟩; have HM1 := Lib.hid hm; rw [← hm]; clear h g0 hwf hm))
  all_goals (
    go_wp2_with fail
    (try simp only [Exit.inBlock, Exit.then])
    refine bodyPost_ret (v := ratV q t) ?_ rfl ⟨rfl, HBE.out⟩
    rw [results_cell_one rfl]
    go_simp)
end Go.Proofs.YtdgbplppabalgaaGreatDoor

namespace Go.Proofs.YtdgbplppabalgaaGreatDoor
open Go.RowKit

theorem new_pos (n : Int) {d : Int} (h : 0 < d) : newN n d = lowN n d.natAbs ∧ newD n d = lowD n d.natAbs := by
  unfold newN newD
  rw [if_neg (by omega), if_neg (by omega)]
  exact ⟨rfl, rfl⟩
theorem addY_any (n1 d1 n2 d2 : Int) (w : World) (hs : Std w) (h1 : (str n1.natAbs).size ≤ 10000) (h2 : (str d1.natAbs).size ≤ 10000) (h3 : (str n2.natAbs).size ≤ 10000) (h4 : (str d2.natAbs).size ≤ 10000) (p1 : 0 < d1) (p2 : 0 < d2) :
    Calls Tryz.prog 32 #[ratV (zS n1) (zS d1), ratV (zS n2) (zS d2)] w fun e w' => e = .returned (ratV (zS (lowN (n1 * d2 + n2 * d1) (d1 * d2).natAbs)) (str (lowD (n1 * d2 + n2 * d1) (d1 * d2).natAbs))) ∧ Below w.heap.size w w' := by
  have hpp := Int.mul_pos p1 p2
  by_cases h : d1 = d2
  · have H := addY_same n1 d1 n2 d2 w hs h1 h2 h3 h4 (by omega) h
    rw [(new_pos (n1 + n2) p1).1, (new_pos (n1 + n2) p1).2] at H
    have e1 : ((d1.natAbs : Nat) : Int) = d1 := by omega
    have e2 : (((d1 * d2).natAbs : Nat) : Int) = d1 * d2 := by omega
    have hl := low_eq (n := n1 + n2) (n' := n1 * d2 + n2 * d1) (d := d1.natAbs) (d' := (d1 * d2).natAbs) (by omega) (by omega) (by rw [e1, e2, ← h]; grind)
    rw [hl.1, hl.2] at H
    exact H
  · have H := addY_far n1 d1 n2 d2 w hs h1 h2 h3 h4 (by omega) (by omega) h
    rw [(new_pos (n1 * d2 + n2 * d1) hpp).1, (new_pos (n1 * d2 + n2 * d1) hpp).2] at H
    exact H
set_option maxHeartbeats 3200000 in
set_option maxRecDepth 100000 in
theorem subY_any (n1 d1 n2 d2 : Int) (w : World) (hs : Std w) (h1 : (str n1.natAbs).size ≤ 10000) (h2 : (str d1.natAbs).size ≤ 10000) (h3 : (str n2.natAbs).size ≤ 10000) (h4 : (str d2.natAbs).size ≤ 10000) (p1 : 0 < d1) (p2 : 0 < d2) :
    Calls Tryz.prog 35 #[ratV (zS n1) (zS d1), ratV (zS n2) (zS d2)] w fun e w' => e = .returned (ratV (zS (lowN (n1 * d2 + -n2 * d1) (d1 * d2).natAbs)) (str (lowD (n1 * d2 + -n2 * d1) (d1 * d2).natAbs))) ∧ Below w.heap.size w w' := by
  have HN := Lib.hid (fun wx (hw : Std wx) => negY_any n2 (zS d2) wx hw (by omega))
  have HA := Lib.hid (fun wx (hw : Std wx) => addY_any n1 d1 (-n2) d2 wx hw h1 h2 (by rw [Int.natAbs_neg]; exact h3) h4 p1 p2)
  obtain ⟨rs, hrs⟩ : ∃ s, s = zS (lowN (n1 * d2 + -n2 * d1) (d1 * d2).natAbs) := ⟨_, rfl⟩
  obtain ⟨rt, hrt⟩ : ∃ s, s = str (lowD (n1 * d2 + -n2 * d1) (d1 * d2).natAbs) := ⟨_, rfl⟩
  rw [← hrs, ← hrt] at HA ⊢
  obtain ⟨s1, hs1⟩ : ∃ s, s = zS n1 := ⟨_, rfl⟩
  obtain ⟨t1, ht1⟩ : ∃ s, s = zS d1 := ⟨_, rfl⟩
  obtain ⟨s2, hs2⟩ : ∃ s, s = zS n2 := ⟨_, rfl⟩
  obtain ⟨t2, ht2⟩ : ∃ s, s = zS d2 := ⟨_, rfl⟩
  obtain ⟨s3, hs3⟩ : ∃ s, s = zS (-n2) := ⟨_, rfl⟩
  rw [← hs1, ← ht1, ← hs3, ← ht2] at HA
  rw [← hs2, ← hs3, ← ht2] at HN
  rw [← hs1, ← ht1, ← hs2, ← ht2]
  have HZ := Lib.hid (Bg.new w s1 t1 s2 t2)
  have HS := Lib.hid hs
  have HN2 := Lib.hid (show ∀ wx, Bg w wx s1 t1 s2 t2 → Calls Tryz.prog 37 #[ratV s2 t2] wx fun e w' => e = .returned (ratV s3 t2) ∧ Bg w w' s1 t1 s2 t2 from fun wx hx => (HN.out wx (HS.out.below hx.two.below)).mono fun _ _ h => ⟨h.1, hx.to h.2⟩)
  have HA2 := Lib.hid (show ∀ wx, Bg w wx s1 t1 s2 t2 → Calls Tryz.prog 32 #[ratV s1 t1, ratV s3 t2] wx fun e w' => e = .returned (ratV rs rt) ∧ Bg w w' s1 t1 s2 t2 from fun wx hx => (HA.out wx (HS.out.below hx.two.below)).mono fun _ _ h => ⟨h.1, hx.to h.2⟩)
  clear hs h1 h2 h3 h4 p1 p2 hs1 ht1 hs2 ht2 hs3 hrs hrt HN HA
  go_enter Tryz.func35, Tryz.ntmps35
  go_upto_region 1 with fail
  obtain ⟨W0, hW0⟩ : ∃ W0, W0 = ((w.alloc (ratO s1 t1)).alloc (ratO s2 t2)).alloc (.cells #[.string ⟨#[]⟩, .string ⟨#[]⟩] 24) := ⟨_, rfl⟩
  rw [← hW0] at HZ ⊢
  clear hW0
  have X2 := HZ.out.to (Below.drew (Below.refl _ _))
  have p0 := HZ.out.two.one.num
  have p1 := HZ.out.two.one.den
  have p2 := HZ.out.two.two.num
  have p3 := HZ.out.two.two.den
  go_region_with (first | (go_at_call 32; refine (HA2.out _ ?hb).mono ?_; (case hb => assumption); rintro e w2 ⟨rfl, hbz⟩; have hf0 := hbz.res.free 0; have he0 := hbz.res.c0; have he1 := hbz.res.c1; have hS0 := hbz.res.set0 (.string rs); have hS1 := hS0.set1 (.string rt); have hf1 := hS0.free 1; have hg1 := hS0.c1; have hk0 := hS1.c0; have hk1 := hS1.c1; have HBE := Lib.hid ((hbz.two.below.setCell (p := ⟨w.heap.size + 1 + 1, 0, none⟩) (by show w.heap.size ≤ w.heap.size + 1 + 1; omega) (.string rs)).setCell (p := ⟨w.heap.size + 1 + 1, 1, none⟩) (by show w.heap.size ≤ w.heap.size + 1 + 1; omega) (.string rt)); clear hS0 hS1) | (go_at_call 37; refine (HN2.out _ ?hb).mono ?_; (case hb => assumption); rintro e w1 ⟨rfl, hbx⟩; have hc0 := hbx.two.one.num; have hc1 := hbx.two.one.den; have hc2 := hbx.two.two.num; have hc3 := hbx.two.two.den))
  all_goals (
    go_wp2_with fail
    (try simp only [Exit.inBlock, Exit.then])
    refine bodyPost_ret (v := ratV rs rt) ?_ rfl ⟨rfl, HBE.out⟩
    rw [results_cell_one rfl]
    go_simp)
end Go.Proofs.YtdgbplppabalgaaGreatDoor
