/-
  Texts of one seat, joined: YFloor.
-/
import Derived.Test.YtdgbplppabalgaaGreatDoorJ24
namespace Go.Proofs.YtdgbplppabalgaaGreatDoor
open Go.RowKit

theorem results_cell_cell {fn : Func} {p u : Tmp} {ty uy : TypeId} (h : fn.results = #[.cell p ty, .cell u uy]) (tmps : Array Value) (P : Program) (w : World) :
    (results fn tmps).run P w =
      ((asAddr (tmps.getD p undef)).run P w).andThen fun a w₁ => ((loadVar ty a).run P w₁).andThen fun v w₂ => ((asAddr (tmps.getD u undef)).run P w₂).andThen fun b w₃ => ((loadVar uy b).run P w₃).andThen fun x w₄ => .ok (.tuple #[v, x]) w₄ := by
  simp only [results, h]
  simp [Sem.run_bind, Result.andThen]
/-- two boxes and the cells of two results -/
structure Bq (w W : World) (b1 : Bool) (v1 : Value) (b2 : Bool) (v2 : Value) (c1 : Bool) (u1 : Value) (c2 : Bool) (u2 : Value) : Prop where
  below : Below w.heap.size w W
  one : BxO W w.heap.size w.heap.size b1 v1
  two : BxO W w.heap.size (w.heap.size + 1) b2 v2
  res : BxO W w.heap.size (w.heap.size + 1 + 1) c1 u1
  res2 : BxO W w.heap.size (w.heap.size + 1 + 1 + 1) c2 u2
theorem Bq.to {w W W' : World} {b1 : Bool} {v1 : Value} {b2 : Bool} {v2 : Value} {c1 : Bool} {u1 : Value} {c2 : Bool} {u2 : Value} (h : Bq w W b1 v1 b2 v2 c1 u1 c2 u2) (hb : Below W.heap.size W W') : Bq w W' b1 v1 b2 v2 c1 u1 c2 u2 :=
  ⟨h.below.trans (hb.mono h.below.size), h.one.kept hb, h.two.kept hb, h.res.kept hb, h.res2.kept hb⟩
theorem Bq.new (w : World) (b1 : Bool) (v1 : Value) (b2 : Bool) (v2 : Value) : Bq w ((((w.alloc (.cells #[.bool b1, v1] 43)).alloc (.cells #[.bool b2, v2] 43)).alloc (.cells #[.bool false, .slice none 0 0] 43)).alloc (.cells #[.bool false, .slice none 0 0] 43)) b1 v1 b2 v2 false (.slice none 0 0) false (.slice none 0 0) := by
  have h := Bw.new w b1 v1 b2 v2
  have hs : (((w.alloc (.cells #[.bool b1, v1] 43)).alloc (.cells #[.bool b2, v2] 43)).alloc (.cells #[.bool false, .slice none 0 0] 43)).heap.size = w.heap.size + 1 + 1 + 1 := by rw [push_size, push_size, push_size]
  have h1 := BxO.new (((w.alloc (.cells #[.bool b1, v1] 43)).alloc (.cells #[.bool b2, v2] 43)).alloc (.cells #[.bool false, .slice none 0 0] 43)) w.heap.size (by rw [hs]; omega) false (.slice none 0 0)
  rw [hs] at h1
  exact ⟨h.below.alloc (by rw [hs]; omega) _, h.one.alloc _, h.two.alloc _, h.res.alloc _, h1⟩
theorem Bq.lt {w W : World} {b1 : Bool} {v1 : Value} {b2 : Bool} {v2 : Value} {c1 : Bool} {u1 : Value} {c2 : Bool} {u2 : Value} (h : Bq w W b1 v1 b2 v2 c1 u1 c2 u2) : w.heap.size + 4 ≤ W.heap.size := by have := h.res2.lt.2; omega
theorem Bq.set1 {w W : World} {b1 : Bool} {v1 : Value} {b2 : Bool} {v2 : Value} {c1 : Bool} {u1 : Value} {c2 : Bool} {u2 : Value} (h : Bq w W b1 v1 b2 v2 c1 u1 c2 u2) (x : Bool) : Bq w (W.setCell ⟨w.heap.size + 1 + 1, 0, none⟩ (.bool x)) b1 v1 b2 v2 x u1 c2 u2 :=
  ⟨h.below.setCell (by show w.heap.size ≤ w.heap.size + 1 + 1; omega) _, h.one.other (by show w.heap.size ≠ w.heap.size + 1 + 1; omega) _, h.two.other (by show w.heap.size + 1 ≠ w.heap.size + 1 + 1; omega) _, h.res.set0 x, h.res2.other (by show w.heap.size + 1 + 1 + 1 ≠ w.heap.size + 1 + 1; omega) _⟩
theorem Bq.set2 {w W : World} {b1 : Bool} {v1 : Value} {b2 : Bool} {v2 : Value} {c1 : Bool} {u1 : Value} {c2 : Bool} {u2 : Value} (h : Bq w W b1 v1 b2 v2 c1 u1 c2 u2) (x : Value) : Bq w (W.setCell ⟨w.heap.size + 1 + 1, 1, none⟩ x) b1 v1 b2 v2 c1 x c2 u2 :=
  ⟨h.below.setCell (by show w.heap.size ≤ w.heap.size + 1 + 1; omega) _, h.one.other (by show w.heap.size ≠ w.heap.size + 1 + 1; omega) _, h.two.other (by show w.heap.size + 1 ≠ w.heap.size + 1 + 1; omega) _, h.res.set1 x, h.res2.other (by show w.heap.size + 1 + 1 + 1 ≠ w.heap.size + 1 + 1; omega) _⟩
theorem Bq.set3 {w W : World} {b1 : Bool} {v1 : Value} {b2 : Bool} {v2 : Value} {c1 : Bool} {u1 : Value} {c2 : Bool} {u2 : Value} (h : Bq w W b1 v1 b2 v2 c1 u1 c2 u2) (x : Bool) : Bq w (W.setCell ⟨w.heap.size + 1 + 1 + 1, 0, none⟩ (.bool x)) b1 v1 b2 v2 c1 u1 x u2 :=
  ⟨h.below.setCell (by show w.heap.size ≤ w.heap.size + 1 + 1 + 1; omega) _, h.one.other (by show w.heap.size ≠ w.heap.size + 1 + 1 + 1; omega) _, h.two.other (by show w.heap.size + 1 ≠ w.heap.size + 1 + 1 + 1; omega) _, h.res.other (by show w.heap.size + 1 + 1 ≠ w.heap.size + 1 + 1 + 1; omega) _, h.res2.set0 x⟩
theorem Bq.set4 {w W : World} {b1 : Bool} {v1 : Value} {b2 : Bool} {v2 : Value} {c1 : Bool} {u1 : Value} {c2 : Bool} {u2 : Value} (h : Bq w W b1 v1 b2 v2 c1 u1 c2 u2) (x : Value) : Bq w (W.setCell ⟨w.heap.size + 1 + 1 + 1, 1, none⟩ x) b1 v1 b2 v2 c1 u1 c2 x :=
  ⟨h.below.setCell (by show w.heap.size ≤ w.heap.size + 1 + 1 + 1; omega) _, h.one.other (by show w.heap.size ≠ w.heap.size + 1 + 1 + 1; omega) _, h.two.other (by show w.heap.size + 1 ≠ w.heap.size + 1 + 1 + 1; omega) _, h.res.other (by show w.heap.size + 1 + 1 ≠ w.heap.size + 1 + 1 + 1; omega) _, h.res2.set1 x⟩
theorem fl_neg {x y : Int} (hy : 0 < y) (hr : ¬ (if x < 0 then -((x.natAbs % y.natAbs : Nat) : Int) else ((x.natAbs % y.natAbs : Nat) : Int)) < 0) : x.fdiv y = (if x < 0 then -((x.natAbs / y.natAbs : Nat) : Int) else ((x.natAbs / y.natAbs : Nat) : Int)) ∧ x.fmod y = (if x < 0 then -((x.natAbs % y.natAbs : Nat) : Int) else ((x.natAbs % y.natAbs : Nat) : Int)) := by
  obtain ⟨Q, hQ⟩ : ∃ Q, Q = x.natAbs / y.natAbs := ⟨_, rfl⟩
  obtain ⟨R, hR⟩ : ∃ R, R = x.natAbs % y.natAbs := ⟨_, rfl⟩
  have hd := Nat.div_add_mod x.natAbs y.natAbs
  have hm := Nat.mod_lt x.natAbs (show 0 < y.natAbs by omega)
  rw [← hQ, ← hR] at hd
  rw [← hR] at hm hr
  rw [← hQ, ← hR]
  have hyn : ((y.natAbs : Nat) : Int) = y := by omega
  have hdi : y * (Q : Int) + (R : Int) = ((x.natAbs : Nat) : Int) := by rw [← hyn]; exact_mod_cast hd
  have key := fun (q r : Int) (h : x = y * q + r) (h2 : 0 ≤ r ∧ r < y) => fl_unique h (.inl h2)
  by_cases hx : x < 0
  · rw [if_pos hx] at hr
    have hR0 : R = 0 := by omega
    rw [if_pos hx, if_pos hx]
    obtain ⟨e1, e2⟩ := key (-(Q : Int)) (-(R : Int)) (by rw [Int.mul_neg]; omega) (by omega)
    exact ⟨e1.symm, e2.symm⟩
  · rw [if_neg hx, if_neg hx]
    obtain ⟨e1, e2⟩ := key (Q : Int) (R : Int) (by omega) (by omega)
    exact ⟨e1.symm, e2.symm⟩
theorem fl_more {x y : Int} (hy : 0 < y) (hr : (if x < 0 then -((x.natAbs % y.natAbs : Nat) : Int) else ((x.natAbs % y.natAbs : Nat) : Int)) < 0) : x.fdiv y = (if x < 0 then -((x.natAbs / y.natAbs : Nat) : Int) else ((x.natAbs / y.natAbs : Nat) : Int)) - 1 ∧ x.fmod y = (if x < 0 then -((x.natAbs % y.natAbs : Nat) : Int) else ((x.natAbs % y.natAbs : Nat) : Int)) + y := by
  obtain ⟨Q, hQ⟩ : ∃ Q, Q = x.natAbs / y.natAbs := ⟨_, rfl⟩
  obtain ⟨R, hR⟩ : ∃ R, R = x.natAbs % y.natAbs := ⟨_, rfl⟩
  have hd := Nat.div_add_mod x.natAbs y.natAbs
  have hm := Nat.mod_lt x.natAbs (show 0 < y.natAbs by omega)
  rw [← hQ, ← hR] at hd
  rw [← hR] at hm
  rw [← hR] at hr
  rw [← hQ, ← hR]
  have hyn : ((y.natAbs : Nat) : Int) = y := by omega
  have hdi : y * (Q : Int) + (R : Int) = ((x.natAbs : Nat) : Int) := by rw [← hyn]; exact_mod_cast hd
  have hx : x < 0 := by
    apply Classical.byContradiction; intro h; rw [if_neg h] at hr; omega
  rw [if_pos hx] at hr
  rw [if_pos hx, if_pos hx]
  obtain ⟨e1, e2⟩ := fl_unique (x := x) (y := y) (q := -(Q : Int) - 1) (r := -(R : Int) + y) (by rw [Int.mul_sub, Int.mul_neg]; omega) (.inl (by omega))
  exact ⟨e1.symm, e2.symm⟩
theorem sg_abs {x : Int} {n : Nat} : (if x < 0 then -(n : Int) else (n : Int)).natAbs = n := by by_cases h : x < 0 <;> simp [h]
theorem sg_neg {x : Int} {n : Nat} (h0 : (if x < 0 then -(n : Int) else (n : Int)) ≠ 0) : decide (x < 0) = decide ((if x < 0 then -(n : Int) else (n : Int)) < 0) := by
  by_cases h : x < 0
  · rw [if_pos h] at h0 ⊢; rw [decide_eq_true h, decide_eq_true (by omega)]
  · rw [if_neg h] at h0 ⊢; rw [decide_eq_false h, decide_eq_false (by omega)]
set_option maxHeartbeats 12800000 in
set_option maxRecDepth 100000 in
theorem floorWY_ge (b1 : Bool) (a : Option Addr) (ca : Nat) (p : List Nat) (x : Int) (b2 : Bool) (b : Option Addr) (cb : Nat) (q : List Nat) (y : Int) (w : World) (_hs : Std w) (ha : Wh w b1 a ca p x) (hb : Wh w b2 b cb q y) (hy : 0 < y) (hpl : p.length ≤ 20000) (hql : q.length ≤ 20000) (hcase : ¬ (if x < 0 then -((x.natAbs % y.natAbs : Nat) : Int) else ((x.natAbs % y.natAbs : Nat) : Int)) < 0) :
    Calls Tryz.prog 106 #[whV b1 a ca p, whV b2 b cb q] w fun e w' => (∃ (b3 : Bool) (o3 : Option Addr) (c3 : Nat) (q3 : List Nat) (b4 : Bool) (o4 : Option Addr) (c4 : Nat) (q4 : List Nat), e = .returned (.tuple #[whV b3 o3 c3 q3, whV b4 o4 c4 q4]) ∧ Wf w.heap.size w' b3 o3 c3 q3 (x.fdiv y) ∧ Wf w.heap.size w' b4 o4 c4 q4 (x.fmod y)) ∧ Below w.heap.size w w' := by
  have HX0 := Bq.new w b1 (.slice a p.length ca) b2 (.slice b q.length cb)
  have HDV := Lib.hid (fun (wx : World) (hx : Below w.heap.size w wx) => divideY_any a ca p b cb q x.natAbs y.natAbs wx (ha.pd.below hx) (hb.pd.below hx) ha.pcs hb.pcs (by omega) (by omega) (by omega))
  have HFL := Lib.hid (fl_neg hy hcase)
  have HAN := Lib.hid ha.neg
  obtain ⟨qq, hqq⟩ : ∃ qq, qq = (if x < 0 then -((x.natAbs / y.natAbs : Nat) : Int) else ((x.natAbs / y.natAbs : Nat) : Int)) := ⟨_, rfl⟩
  obtain ⟨rr, hrr⟩ : ∃ rr, rr = (if x < 0 then -((x.natAbs % y.natAbs : Nat) : Int) else ((x.natAbs % y.natAbs : Nat) : Int)) := ⟨_, rfl⟩
  rw [← hqq, ← hrr] at HFL
  rw [← hrr] at hcase
  have HQQ := Lib.hid (show qq.natAbs = x.natAbs / y.natAbs ∧ (qq ≠ 0 → b1 = decide (qq < 0)) from ⟨by rw [hqq]; exact sg_abs, fun h => by rw [HAN.out]; rw [hqq] at h ⊢; exact sg_neg h⟩)
  have HRR := Lib.hid (show rr.natAbs = x.natAbs % y.natAbs ∧ (rr ≠ 0 → b1 = decide (rr < 0)) from ⟨by rw [hrr]; exact sg_abs, fun h => by rw [HAN.out]; rw [hrr] at h ⊢; exact sg_neg h⟩)
  have hsgn : decide (sgnI rr < 0) = false := by rcases sgnI_ways rr with ⟨h, e⟩ | ⟨h, e⟩ | ⟨h, e⟩ <;> rw [e] <;> first | rfl | (exfalso; omega)
  obtain ⟨sg, hsg⟩ : ∃ sg, sg = sgnI rr := ⟨_, rfl⟩
  have HSG := Lib.hid hsg.symm
  rw [← hsg] at hsgn
  unfold whV
  obtain ⟨m, hm⟩ : ∃ m, m = p.length := ⟨_, rfl⟩
  obtain ⟨n, hn⟩ : ∃ m, m = q.length := ⟨_, rfl⟩
  have HN := Lib.hid hn
  rw [← hm, ← hn] at HX0 HDV
  rw [← hm, ← hn]
  clear hm hn ha hb hqq hrr hcase hsg
  go_enter Tryz.func106, Tryz.ntmps106
  go_upto_region 1 with fail
  obtain ⟨W0, hW0⟩ : ∃ W0, W0 = (((w.alloc (.cells #[.bool b1, .slice a m ca] 43)).alloc (.cells #[.bool b2, .slice b n cb] 43)).alloc (.cells #[.bool false, .slice none 0 0] 43)).alloc (.cells #[.bool false, .slice none 0 0] 43) := ⟨_, rfl⟩
  rw [← hW0] at HX0 ⊢
  clear hW0
  have k1 := HX0.one.dig
  have k2 := HX0.two.dig
  have Z0 := Lib.hid HX0
  clear HX0
  go_wp2_with fail
  refine (HDV.out _ Z0.out.below).mono ?_
  rintro e w1 ⟨⟨o5, c5, r5, o6, c6, r6, rfl, hp5, hq5, hn5, hp6, hq6, hn6⟩, h1⟩
  have Z1 := Lib.hid (Z0.out.to h1)
  have N5 := Lib.hid (show NewO (w.heap.size + 4) o5 from hn5.mono Z0.out.lt)
  have N6 := Lib.hid (show NewO (w.heap.size + 4) o6 from hn6.mono Z0.out.lt)
  have D5 := Lib.hid hp5
  have D6 := Lib.hid hp6
  have W5 := Lib.hid (Wh.trimmed b1 hp5 qq (by rw [hq5.val, HQQ.out.1]) HQQ.out.2)
  have W6 := Lib.hid (Wh.trimmed b1 hp6 rr (by rw [hq6.val, HRR.out.1]) HRR.out.2)
  clear h1 hp5 hq5 hn5 hp6 hq6 hn6 k1 k2 HDV
  go_wp2_with fail
  have Y0 := Lib.hid (Z1.out.to (Below.drew (Below.refl _ _)))
  go_region_held3 (fun W => W.cell? ⟨w.heap.size, 0, none⟩ = some (.bool b1)) (first | exact HQ4.out.one.neg | exact ((Y2.out.set1 _).set2 _).one.neg | exact Y2.out.one.neg | exact Y1.out.one.neg | exact Y0.out.one.neg) (first | (go_at_call 75; have hx1 := X1.out; refine (trimY_any b1 o6 c6 r6 _ ?hpp).mono ?_; (case hpp => exact D6.out.below hx1); rintro e w3 ⟨rfl, h3⟩; have Y2 := Lib.hid (Y1.out.to h3); have X2 := Lib.hid (hx1.trans (h3.mono hx1.size)); have hz := Y2.out; have q1 := hz.set1 (b1 && decide (0 < (trimP r5).length)); have q2 := q1.set2 (.slice o5 (trimP r5).length c5); have q3 := q2.set3 (b1 && decide (0 < (trimP r6).length)); have q4 := q3.set4 (.slice o6 (trimP r6).length c6); have qf0 := hz.res.free 0; have qe0 := hz.res.neg; have qe1 := hz.res.dig; have qf1 := q1.res.free 1; have qg1 := q1.res.dig; have qf2 := q2.res2.free 0; have qg2 := q2.res2.neg; have qg3 := q2.res2.dig; have qf3 := q3.res2.free 1; have qg4 := q3.res2.dig; have qk1 := q4.res.neg; have qk2 := q4.res.dig; have qk3 := q4.res2.neg; have qk4 := q4.res2.dig; have HQ4 := Lib.hid q4; have k5 := q4.one.neg; clear hz q1 q2 q3 q4 h3 hx1) | (go_at_call 75; refine (trimY_any b1 o5 c5 r5 _ ?hpp).mono ?_; (case hpp => exact D5.out.below (Below.drew (Below.refl _ _))); rintro e w2 ⟨rfl, h2⟩; have Y1 := Lib.hid (Y0.out.to h2); have X1 := Lib.hid ((Below.drew (Below.refl _ _)).trans h2); clear h2))
  have HW5 := Lib.hid (((((W5.out.below X2.out).stored (w.heap.size + 1 + 1) 0 (.bool (b1 && decide (0 < (trimP r5).length))) (N5.out.ne (by omega))).stored (w.heap.size + 1 + 1) 1 (.slice o5 (trimP r5).length c5) (N5.out.ne (by omega))).stored (w.heap.size + 1 + 1 + 1) 0 (.bool (b1 && decide (0 < (trimP r6).length))) (N5.out.ne (by omega))).stored (w.heap.size + 1 + 1 + 1) 1 (.slice o6 (trimP r6).length c6) (N5.out.ne (by omega)))
  have HW6 := Lib.hid (((((W6.out.below X2.out).stored (w.heap.size + 1 + 1) 0 (.bool (b1 && decide (0 < (trimP r5).length))) (N6.out.ne (by omega))).stored (w.heap.size + 1 + 1) 1 (.slice o5 (trimP r5).length c5) (N6.out.ne (by omega))).stored (w.heap.size + 1 + 1 + 1) 0 (.bool (b1 && decide (0 < (trimP r6).length))) (N6.out.ne (by omega))).stored (w.heap.size + 1 + 1 + 1) 1 (.slice o6 (trimP r6).length c6) (N6.out.ne (by omega)))
  obtain ⟨W2, hW2⟩ : ∃ W2, W2 = (((w3.setCell ⟨w.heap.size + 1 + 1, 0, none⟩ (.bool (b1 && decide (0 < (trimP r5).length)))).setCell ⟨w.heap.size + 1 + 1, 1, none⟩ (.slice o5 (trimP r5).length c5)).setCell ⟨w.heap.size + 1 + 1 + 1, 0, none⟩ (.bool (b1 && decide (0 < (trimP r6).length)))).setCell ⟨w.heap.size + 1 + 1 + 1, 1, none⟩ (.slice o6 (trimP r6).length c6) := ⟨_, rfl⟩
  rw [← hW2] at HQ4 HW5 HW6 qk1 qk2 qk3 qk4 ⊢
  clear hW2 qf0 qe0 qe1 qf1 qg1 qf2 qg2 qg3 qf3 qg4 k5 Y1 Y2 X1 X2 W5 W6
  obtain ⟨V5, hV5⟩ : ∃ V, V = (b1 && decide (0 < (trimP r5).length)) := ⟨_, rfl⟩
  obtain ⟨V6, hV6⟩ : ∃ V, V = (b1 && decide (0 < (trimP r6).length)) := ⟨_, rfl⟩
  obtain ⟨M5, hM5⟩ : ∃ M, M = trimP r5 := ⟨_, rfl⟩
  obtain ⟨M6, hM6⟩ : ∃ M, M = trimP r6 := ⟨_, rfl⟩
  rw [← hM5] at hV5
  rw [← hM6] at hV6
  rw [← hM5, ← hM6, ← hV5, ← hV6] at HQ4
  rw [← hM5, ← hV5] at HW5
  rw [← hM6, ← hV6] at HW6
  rw [← hM5, ← hV5] at qk1
  rw [← hM5] at qk2
  rw [← hM6, ← hV6] at qk3
  rw [← hM6] at qk4
  clear hV5 hV6 hM5 hM6
  have HSW := Lib.hid (signWY_any V6 o6 c6 M6 rr W2 HW6.out)
  unfold whV at HSW
  rw [HSG.out] at HSW
  have hl5 := HW5.out.pd.lc
  have hl6 := HW6.out.pd.lc
  go_wp2_with fail
  refine HSW.out.mono ?_
  rintro e w4 ⟨rfl, h4⟩
  have Q5 := Lib.hid (HQ4.out.to h4)
  have U5 := Lib.hid (HW5.out.below h4)
  have U6 := Lib.hid (HW6.out.below h4)
  clear h4 HQ4 HW5 HW6 qk1 qk2 qk3 qk4 HSW
  go_wp2_with fail
  have hz := Q5.out
  have p1 := hz.set1 V5
  have p2 := p1.set2 (.slice o5 M5.length c5)
  have p3 := p2.set3 V6
  have p4 := p3.set4 (.slice o6 M6.length c6)
  have pf0 := hz.res.free 0
  have pe0 := hz.res.neg
  have pe1 := hz.res.dig
  have pf1 := p1.res.free 1
  have pg1 := p1.res.dig
  have pf2 := p2.res2.free 0
  have pg2 := p2.res2.neg
  have pg3 := p2.res2.dig
  have pf3 := p3.res2.free 1
  have pg4 := p3.res2.dig
  have pk1 := p4.res.neg
  have pk2 := p4.res.dig
  have pk3 := p4.res2.neg
  have pk4 := p4.res2.dig
  have HP4 := Lib.hid p4
  have S0 := Lib.hid (show w4.cell? ⟨w.heap.size + 1 + 1, 0, none⟩ = some (.bool V5) ∧ w4.cell? ⟨w.heap.size + 1 + 1, 1, none⟩ = some (.slice o5 M5.length c5) ∧ w4.cell? ⟨w.heap.size + 1 + 1 + 1, 0, none⟩ = some (.bool V6) ∧ w4.cell? ⟨w.heap.size + 1 + 1 + 1, 1, none⟩ = some (.slice o6 M6.length c6) from ⟨hz.res.neg, hz.res.dig, hz.res2.neg, hz.res2.dig⟩)
  have S2 := Lib.hid (show _ ∧ _ ∧ _ ∧ _ from ⟨p2.res.neg, p2.res.dig, p2.res2.neg, p2.res2.dig⟩)
  have S4 := Lib.hid (show _ ∧ _ ∧ _ ∧ _ from ⟨p4.res.neg, p4.res.dig, p4.res2.neg, p4.res2.dig⟩)
  clear hz p1 p2 p3 p4
  go_region_held3 (fun W => W.cell? ⟨w.heap.size + 1 + 1, 0, none⟩ = some (.bool V5) ∧ W.cell? ⟨w.heap.size + 1 + 1, 1, none⟩ = some (.slice o5 M5.length c5) ∧ W.cell? ⟨w.heap.size + 1 + 1 + 1, 0, none⟩ = some (.bool V6) ∧ W.cell? ⟨w.heap.size + 1 + 1 + 1, 1, none⟩ = some (.slice o6 M6.length c6)) (first | exact S4.out | exact S2.out | exact S0.out) (first | fail)
  go_wp2_with fail
  (try simp only [Exit.inBlock, Exit.then])
  have e5 := ((((U5.out.below (Below.drew (Below.refl _ _))).stored (w.heap.size + 1 + 1) 0 (.bool V5) (N5.out.ne (by omega))).stored (w.heap.size + 1 + 1) 1 (.slice o5 M5.length c5) (N5.out.ne (by omega))).stored (w.heap.size + 1 + 1 + 1) 0 (.bool V6) (N5.out.ne (by omega))).stored (w.heap.size + 1 + 1 + 1) 1 (.slice o6 M6.length c6) (N5.out.ne (by omega))
  have e6 := ((((U6.out.below (Below.drew (Below.refl _ _))).stored (w.heap.size + 1 + 1) 0 (.bool V5) (N6.out.ne (by omega))).stored (w.heap.size + 1 + 1) 1 (.slice o5 M5.length c5) (N6.out.ne (by omega))).stored (w.heap.size + 1 + 1 + 1) 0 (.bool V6) (N6.out.ne (by omega))).stored (w.heap.size + 1 + 1 + 1) 1 (.slice o6 M6.length c6) (N6.out.ne (by omega))
  refine bodyPost_ret (v := .tuple #[.agg #[.bool V5, .slice o5 M5.length c5], .agg #[.bool V6, .slice o6 M6.length c6]]) ?_ rfl ⟨⟨V5, o5, c5, M5, V6, o6, c6, M6, rfl, ⟨by rw [HFL.out.1]; exact e5, N5.out.mono (by omega)⟩, ⟨by rw [HFL.out.2]; exact e6, N6.out.mono (by omega)⟩⟩, below_drewN HP4.out.below 1⟩
  clear e5 e6
  rw [results_cell_cell rfl]
  go_simp
end Go.Proofs.YtdgbplppabalgaaGreatDoor
