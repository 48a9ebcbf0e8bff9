/-
  Texts of one seat, joined: YFloor2.
-/
import Derived.Test.YtdgbplppabalgaaGreatDoorJ31
namespace Go.Proofs.YtdgbplppabalgaaGreatDoor
open Go.RowKit

set_option maxHeartbeats 12800000 in
set_option maxRecDepth 100000 in
theorem floorWY_lt (b1 : Bool) (a : Option Addr) (ca : Nat) (p : List Nat) (x : Int) (b2 : Bool) (b : Option Addr) (cb : Nat) (q : List Nat) (y : Int) (w : World) (hs : Std w) (ha : Wh w b1 a ca p x) (hb : Wh w b2 b cb q y) (hy : 0 < y) (hpl : p.length ≤ 20000) (hql : q.length ≤ 20000) (hcase : (if x < 0 then -((x.natAbs % y.natAbs : Nat) : Int) else ((x.natAbs % y.natAbs : Nat) : Int)) < 0) :
    Calls Tryz.prog 106 #[whV b1 a ca p, whV b2 b cb q] w fun e w' => (∃ (b3 : Bool) (o3 : Option Addr) (c3 : Nat) (q3 : List Nat) (b4 : Bool) (o4 : Option Addr) (c4 : Nat) (q4 : List Nat), e = .returned (.tuple #[whV b3 o3 c3 q3, whV b4 o4 c4 q4]) ∧ Wf w.heap.size w' b3 o3 c3 q3 (x.fdiv y) ∧ Wf w.heap.size w' b4 o4 c4 q4 (x.fmod y)) ∧ Below w.heap.size w w' := by
  have HX0 := Bq.new w b1 (.slice a p.length ca) b2 (.slice b q.length cb)
  have HDV := Lib.hid (fun (wx : World) (hx : Below w.heap.size w wx) => divideY_any a ca p b cb q x.natAbs y.natAbs wx (ha.pd.below hx) (hb.pd.below hx) ha.pcs hb.pcs (by omega) (by omega) (by omega))
  have HFL := Lib.hid (fl_more hy hcase)
  have HAN := Lib.hid ha.neg
  have HAP := Lib.hid ha.pcs
  have HS := Lib.hid hs
  have HOF := Lib.hid (fun wx hw => ofWY_any 1 wx hw (by decide) (by decide))
  have HBB := Lib.hid (fun (wx : World) (hx : Below w.heap.size w wx) => hb.below hx)
  obtain ⟨qq, hqq⟩ : ∃ qq, qq = (if x < 0 then -((x.natAbs / y.natAbs : Nat) : Int) else ((x.natAbs / y.natAbs : Nat) : Int)) := ⟨_, rfl⟩
  obtain ⟨rr, hrr⟩ : ∃ rr, rr = (if x < 0 then -((x.natAbs % y.natAbs : Nat) : Int) else ((x.natAbs % y.natAbs : Nat) : Int)) := ⟨_, rfl⟩
  rw [← hqq, ← hrr] at HFL
  rw [← hrr] at hcase
  have HQQ := Lib.hid (show qq.natAbs = x.natAbs / y.natAbs ∧ (qq ≠ 0 → b1 = decide (qq < 0)) from ⟨by rw [hqq]; exact sg_abs, fun h => by rw [HAN.out]; rw [hqq] at h ⊢; exact sg_neg h⟩)
  have HRR := Lib.hid (show rr.natAbs = x.natAbs % y.natAbs ∧ (rr ≠ 0 → b1 = decide (rr < 0)) from ⟨by rw [hrr]; exact sg_abs, fun h => by rw [HAN.out]; rw [hrr] at h ⊢; exact sg_neg h⟩)
  have hsgn : decide (sgnI rr < 0) = true := by rcases sgnI_ways rr with ⟨h, e⟩ | ⟨h, e⟩ | ⟨h, e⟩ <;> rw [e] <;> first | rfl | (exfalso; omega)
  obtain ⟨sg, hsg⟩ : ∃ sg, sg = sgnI rr := ⟨_, rfl⟩
  have HSG := Lib.hid hsg.symm
  rw [← hsg] at hsgn
  unfold whV
  obtain ⟨m, hm⟩ : ∃ m, m = p.length := ⟨_, rfl⟩
  obtain ⟨n, hn⟩ : ∃ m, m = q.length := ⟨_, rfl⟩
  have HN := Lib.hid hn
  rw [← hm, ← hn] at HX0 HDV
  rw [← hm, ← hn]
  clear hm hn ha hb hqq hrr hcase hsg
  go_enter Tryz.func106, Tryz.ntmps106
  go_upto_region 1 with fail
  obtain ⟨W0, hW0⟩ : ∃ W0, W0 = (((w.alloc (.cells #[.bool b1, .slice a m ca] 43)).alloc (.cells #[.bool b2, .slice b n cb] 43)).alloc (.cells #[.bool false, .slice none 0 0] 43)).alloc (.cells #[.bool false, .slice none 0 0] 43) := ⟨_, rfl⟩
  rw [← hW0] at HX0 ⊢
  clear hW0
  have k1 := HX0.one.dig
  have k2 := HX0.two.dig
  have Z0 := Lib.hid HX0
  clear HX0
  go_wp2_with fail
  refine (HDV.out _ Z0.out.below).mono ?_
  rintro e w1 ⟨⟨o5, c5, r5, o6, c6, r6, rfl, hp5, hq5, hn5, hp6, hq6, hn6⟩, h1⟩
  have Z1 := Lib.hid (Z0.out.to h1)
  have N5 := Lib.hid (show NewO (w.heap.size + 4) o5 from hn5.mono Z0.out.lt)
  have N6 := Lib.hid (show NewO (w.heap.size + 4) o6 from hn6.mono Z0.out.lt)
  have LN5 := Lib.hid (show r5.length ≤ 50000 from Nat.le_trans (Pcs.len_mono HAP.out hq5 (Nat.div_le_self _ _)) (by omega))
  have LN6 := Lib.hid (show r6.length ≤ 50000 from Nat.le_trans (Pcs.len_mono HAP.out hq6 (Nat.mod_le _ _)) (by omega))
  have D5 := Lib.hid hp5
  have D6 := Lib.hid hp6
  have W5 := Lib.hid (Wh.trimmed b1 hp5 qq (by rw [hq5.val, HQQ.out.1]) HQQ.out.2)
  have W6 := Lib.hid (Wh.trimmed b1 hp6 rr (by rw [hq6.val, HRR.out.1]) HRR.out.2)
  clear h1 hp5 hq5 hn5 hp6 hq6 hn6 k1 k2 HDV
  go_wp2_with fail
  have Y0 := Lib.hid (Z1.out.to (Below.drew (Below.refl _ _)))
  go_region_held3 (fun W => W.cell? ⟨w.heap.size, 0, none⟩ = some (.bool b1)) (first | exact HQ4.out.one.neg | exact ((Y2.out.set1 _).set2 _).one.neg | exact Y2.out.one.neg | exact Y1.out.one.neg | exact Y0.out.one.neg) (first | (go_at_call 75; have hx1 := X1.out; refine (trimY_any b1 o6 c6 r6 _ ?hpp).mono ?_; (case hpp => exact D6.out.below hx1); rintro e w3 ⟨rfl, h3⟩; have Y2 := Lib.hid (Y1.out.to h3); have X2 := Lib.hid (hx1.trans (h3.mono hx1.size)); have hz := Y2.out; have q1 := hz.set1 (b1 && decide (0 < (trimP r5).length)); have q2 := q1.set2 (.slice o5 (trimP r5).length c5); have q3 := q2.set3 (b1 && decide (0 < (trimP r6).length)); have q4 := q3.set4 (.slice o6 (trimP r6).length c6); have qf0 := hz.res.free 0; have qe0 := hz.res.neg; have qe1 := hz.res.dig; have qf1 := q1.res.free 1; have qg1 := q1.res.dig; have qf2 := q2.res2.free 0; have qg2 := q2.res2.neg; have qg3 := q2.res2.dig; have qf3 := q3.res2.free 1; have qg4 := q3.res2.dig; have qk1 := q4.res.neg; have qk2 := q4.res.dig; have qk3 := q4.res2.neg; have qk4 := q4.res2.dig; have HQ4 := Lib.hid q4; have k5 := q4.one.neg; clear hz q1 q2 q3 q4 h3 hx1) | (go_at_call 75; refine (trimY_any b1 o5 c5 r5 _ ?hpp).mono ?_; (case hpp => exact D5.out.below (Below.drew (Below.refl _ _))); rintro e w2 ⟨rfl, h2⟩; have Y1 := Lib.hid (Y0.out.to h2); have X1 := Lib.hid ((Below.drew (Below.refl _ _)).trans h2); clear h2))
  have HL5 := Lib.hid (show (trimP r5).length ≤ 50000 from Nat.le_trans (trimP_props r5).2.2.2.1 LN5.out)
  have HL6 := Lib.hid (show (trimP r6).length ≤ 50000 from Nat.le_trans (trimP_props r6).2.2.2.1 LN6.out)
  have HW5 := Lib.hid (((((W5.out.below X2.out).stored (w.heap.size + 1 + 1) 0 (.bool (b1 && decide (0 < (trimP r5).length))) (N5.out.ne (by omega))).stored (w.heap.size + 1 + 1) 1 (.slice o5 (trimP r5).length c5) (N5.out.ne (by omega))).stored (w.heap.size + 1 + 1 + 1) 0 (.bool (b1 && decide (0 < (trimP r6).length))) (N5.out.ne (by omega))).stored (w.heap.size + 1 + 1 + 1) 1 (.slice o6 (trimP r6).length c6) (N5.out.ne (by omega)))
  have HW6 := Lib.hid (((((W6.out.below X2.out).stored (w.heap.size + 1 + 1) 0 (.bool (b1 && decide (0 < (trimP r5).length))) (N6.out.ne (by omega))).stored (w.heap.size + 1 + 1) 1 (.slice o5 (trimP r5).length c5) (N6.out.ne (by omega))).stored (w.heap.size + 1 + 1 + 1) 0 (.bool (b1 && decide (0 < (trimP r6).length))) (N6.out.ne (by omega))).stored (w.heap.size + 1 + 1 + 1) 1 (.slice o6 (trimP r6).length c6) (N6.out.ne (by omega)))
  obtain ⟨W2, hW2⟩ : ∃ W2, W2 = (((w3.setCell ⟨w.heap.size + 1 + 1, 0, none⟩ (.bool (b1 && decide (0 < (trimP r5).length)))).setCell ⟨w.heap.size + 1 + 1, 1, none⟩ (.slice o5 (trimP r5).length c5)).setCell ⟨w.heap.size + 1 + 1 + 1, 0, none⟩ (.bool (b1 && decide (0 < (trimP r6).length)))).setCell ⟨w.heap.size + 1 + 1 + 1, 1, none⟩ (.slice o6 (trimP r6).length c6) := ⟨_, rfl⟩
  rw [← hW2] at HQ4 HW5 HW6 qk1 qk2 qk3 qk4 ⊢
  clear hW2 qf0 qe0 qe1 qf1 qg1 qf2 qg2 qg3 qf3 qg4 k5 Y1 Y2 X1 X2 W5 W6
  obtain ⟨V5, hV5⟩ : ∃ V, V = (b1 && decide (0 < (trimP r5).length)) := ⟨_, rfl⟩
  obtain ⟨V6, hV6⟩ : ∃ V, V = (b1 && decide (0 < (trimP r6).length)) := ⟨_, rfl⟩
  obtain ⟨M5, hM5⟩ : ∃ M, M = trimP r5 := ⟨_, rfl⟩
  obtain ⟨M6, hM6⟩ : ∃ M, M = trimP r6 := ⟨_, rfl⟩
  rw [← hM5] at HL5
  rw [← hM6] at HL6
  rw [← hM5] at hV5
  rw [← hM6] at hV6
  rw [← hM5, ← hM6, ← hV5, ← hV6] at HQ4
  rw [← hM5, ← hV5] at HW5
  rw [← hM6, ← hV6] at HW6
  rw [← hM5, ← hV5] at qk1
  rw [← hM5] at qk2
  rw [← hM6, ← hV6] at qk3
  rw [← hM6] at qk4
  clear hV5 hV6 hM5 hM6
  have HSW := Lib.hid (signWY_any V6 o6 c6 M6 rr W2 HW6.out)
  unfold whV at HSW
  rw [HSG.out] at HSW
  have hl5 := HW5.out.pd.lc
  have hl6 := HW6.out.pd.lc
  go_wp2_with fail
  refine HSW.out.mono ?_
  rintro e w4 ⟨rfl, h4⟩
  have Q5 := Lib.hid (HQ4.out.to h4)
  have U5 := Lib.hid (HW5.out.below h4)
  have U6 := Lib.hid (HW6.out.below h4)
  clear h4 HQ4 HW5 HW6 qk1 qk2 qk3 qk4 HSW
  have HSB := Lib.hid (show ∀ (wx : World) (b7 : Bool) (o7 : Option Addr) (c7 : Nat) (r7 : List Nat), Wh wx V5 o5 c5 M5 qq → Wh wx b7 o7 c7 r7 1 → Calls Tryz.prog 141 #[.agg #[.bool V5, .slice o5 M5.length c5], .agg #[.bool b7, .slice o7 r7.length c7]] wx fun e w' => (∃ (b8 : Bool) (o8 : Option Addr) (c8 : Nat) (r8 : List Nat), e = .returned (.agg #[.bool b8, .slice o8 r8.length c8]) ∧ Wf wx.heap.size w' b8 o8 c8 r8 (qq - 1)) ∧ Below wx.heap.size wx w' from fun wx b7 o7 c7 r7 h1 h2 => subWY_any V5 o5 c5 M5 qq b7 o7 c7 r7 1 wx h1 h2 HL5.out (Nat.le_trans (Pcs.len_mono (p := [1]) ⟨pv_one 1, fun x hx => by simp at hx; omega, by unfold Go.Proofs.YtdgbplppabalgaaGreatDoor.top; simp⟩ h2.pcs (Nat.le_refl _)) (by simp)))
  have HAD := Lib.hid (show ∀ (wx : World), Wh wx V6 o6 c6 M6 rr → Below w.heap.size w wx → Calls Tryz.prog 91 #[.agg #[.bool V6, .slice o6 M6.length c6], .agg #[.bool b2, .slice b n cb]] wx fun e w' => (∃ (b8 : Bool) (o8 : Option Addr) (c8 : Nat) (r8 : List Nat), e = .returned (.agg #[.bool b8, .slice o8 r8.length c8]) ∧ Wf wx.heap.size w' b8 o8 c8 r8 (rr + y)) ∧ Below wx.heap.size wx w' from fun wx h1 h2 => by
    have h := addWY_any V6 o6 c6 M6 rr b2 b cb q y wx h1 (HBB.out _ h2) HL6.out (by omega)
    unfold whV at h
    rw [← HN.out] at h
    exact h)
  go_upto_region 4 with fail
  go_cut [] from 16 (fun wx => ∃ (b8 : Bool) (o8 : Option Addr) (c8 : Nat) (r8 : List Nat) (b9 : Bool) (o9 : Option Addr) (c9 : Nat) (r9 : List Nat), Bq w wx b1 (.slice a m ca) b2 (.slice b n cb) b8 (.slice o8 r8.length c8) b9 (.slice o9 r9.length c9) ∧ Wf (w.heap.size + 4) wx b8 o8 c8 r8 (qq - 1) ∧ Wf (w.heap.size + 4) wx b9 o9 c9 r9 (rr + y))
  case first =>
    have Y6 := Lib.hid (Q5.out.to (Below.drew (Below.refl _ _)))
    have T5 := Lib.hid (U5.out.below (Below.drew (Below.refl _ _)))
    have T6 := Lib.hid (U6.out.below (Below.drew (Below.refl _ _)))
    have l1 := Y6.out.res.neg
    have l2 := Y6.out.res.dig
    have l3 := Y6.out.res2.neg
    have l4 := Y6.out.res2.dig
    have l5 := Y6.out.two.neg
    have l6 := Y6.out.two.dig
    go_region_with (first | (go_at_call 91; have g0 := A2.out; refine (HAD.out _ ?hpp ?hbb).mono ?_; (case hpp => exact R6.out); (case hbb => exact g0.below); rintro e w8 ⟨⟨b9, o9, c9, r9, rfl, hr9⟩, h8⟩; have A3 := Lib.hid (g0.to h8); have E8 := Lib.hid (F8.out.below h8); have E9 := Lib.hid (hr9.mono (show w.heap.size + 4 ≤ w7.heap.size from g0.lt)); have hz := A3.out; have q1 := hz.set1 b8; have q2 := q1.set2 (.slice o8 r8.length c8); have q3 := q2.set3 b9; have q4 := q3.set4 (.slice o9 r9.length c9); have qf0 := hz.res.free 0; have qe0 := hz.res.neg; have qe1 := hz.res.dig; have qf1 := q1.res.free 1; have qg1 := q1.res.dig; have qf2 := q2.res2.free 0; have qg2 := q2.res2.neg; have qg3 := q2.res2.dig; have qf3 := q3.res2.free 1; have qg4 := q3.res2.dig; have qk1 := q4.res.neg; have qk2 := q4.res.dig; have qk3 := q4.res2.neg; have qk4 := q4.res2.dig; have HQ8 := Lib.hid q4; clear hz q1 q2 q3 q4 h8 hr9 g0) | (go_at_call 141; have g0 := A1.out; refine (HSB.out _ b7 o7 c7 r7 ?hpp ?hbb).mono ?_; (case hpp => exact R5.out); (case hbb => exact F7.out.wh); rintro e w7 ⟨⟨b8, o8, c8, r8, rfl, hr8⟩, h7⟩; have A2 := Lib.hid (g0.to h7); have F8 := Lib.hid (hr8.mono (show w.heap.size + 4 ≤ w6.heap.size from g0.lt)); have R6 := Lib.hid (P6.out.below h7); have hz := A2.out; have j1 := hz.res.neg; have j2 := hz.res.dig; have j3 := hz.res2.neg; have j4 := hz.res2.dig; have j5 := hz.two.neg; have j6 := hz.two.dig; clear hz h7 hr8 g0) | (go_at_call 60; refine (HOF.out _ ?hss).mono ?_; (case hss => exact HS.out.below Y6.out.below); rintro e w6 ⟨⟨b7, o7, c7, r7, rfl, hr7⟩, h6⟩; have A1 := Lib.hid (Y6.out.to h6); have F7 := Lib.hid hr7; have R5 := Lib.hid (T5.out.below h6); have P6 := Lib.hid (T6.out.below h6); have hz := A1.out; have i1 := hz.res.neg; have i2 := hz.res.dig; have i3 := hz.res2.neg; have i4 := hz.res2.dig; have i5 := hz.two.neg; have i6 := hz.two.dig; clear hz h6 hr7))
    all_goals (
      go_wp2_with fail
      go_meet
      exact ⟨b8, o8, c8, r8, b9, o9, c9, r9, HQ8.out, (((E8.out.stored 0 _ (by omega)).stored 1 _ (by omega)).stored 0 _ (by omega)).stored 1 _ (by omega), (((E9.out.stored 0 _ (by omega)).stored 1 _ (by omega)).stored 0 _ (by omega)).stored 1 _ (by omega)⟩)
  case rest =>
    obtain ⟨b8, o8, c8, r8, b9, o9, c9, r9, hq8, he8, he9⟩ := hcut
    have Q8 := Lib.hid hq8
    have U8 := Lib.hid he8.wh
    have U9 := Lib.hid he9.wh
    have N8 := Lib.hid he8.new
    have N9 := Lib.hid he9.new
    clear hq8 he8 he9 Q5 U5 U6 N5 N6 HSB HAD HOF HBB
    go_wp2_with fail
    have hz := Q8.out
    have p1 := hz.set1 b8
    have p2 := p1.set2 (.slice o8 r8.length c8)
    have p3 := p2.set3 b9
    have p4 := p3.set4 (.slice o9 r9.length c9)
    have pf0 := hz.res.free 0
    have pe0 := hz.res.neg
    have pe1 := hz.res.dig
    have pf1 := p1.res.free 1
    have pg1 := p1.res.dig
    have pf2 := p2.res2.free 0
    have pg2 := p2.res2.neg
    have pg3 := p2.res2.dig
    have pf3 := p3.res2.free 1
    have pg4 := p3.res2.dig
    have pk1 := p4.res.neg
    have pk2 := p4.res.dig
    have pk3 := p4.res2.neg
    have pk4 := p4.res2.dig
    have HP4 := Lib.hid p4
    have S0 := Lib.hid (show wc.cell? ⟨w.heap.size + 1 + 1, 0, none⟩ = some (.bool b8) ∧ wc.cell? ⟨w.heap.size + 1 + 1, 1, none⟩ = some (.slice o8 r8.length c8) ∧ wc.cell? ⟨w.heap.size + 1 + 1 + 1, 0, none⟩ = some (.bool b9) ∧ wc.cell? ⟨w.heap.size + 1 + 1 + 1, 1, none⟩ = some (.slice o9 r9.length c9) from ⟨hz.res.neg, hz.res.dig, hz.res2.neg, hz.res2.dig⟩)
    have S2 := Lib.hid (show _ ∧ _ ∧ _ ∧ _ from ⟨p2.res.neg, p2.res.dig, p2.res2.neg, p2.res2.dig⟩)
    have S4 := Lib.hid (show _ ∧ _ ∧ _ ∧ _ from ⟨p4.res.neg, p4.res.dig, p4.res2.neg, p4.res2.dig⟩)
    clear hz p1 p2 p3 p4
    go_region_held3 (fun W => W.cell? ⟨w.heap.size + 1 + 1, 0, none⟩ = some (.bool b8) ∧ W.cell? ⟨w.heap.size + 1 + 1, 1, none⟩ = some (.slice o8 r8.length c8) ∧ W.cell? ⟨w.heap.size + 1 + 1 + 1, 0, none⟩ = some (.bool b9) ∧ W.cell? ⟨w.heap.size + 1 + 1 + 1, 1, none⟩ = some (.slice o9 r9.length c9)) (first | exact S4.out | exact S2.out | exact S0.out) (first | fail)
    go_wp2_with fail
    (try simp only [Exit.inBlock, Exit.then])
    have e8 := ((((U8.out.below (Below.drew (Below.refl _ _))).stored (w.heap.size + 1 + 1) 0 (.bool b8) (N8.out.ne (by omega))).stored (w.heap.size + 1 + 1) 1 (.slice o8 r8.length c8) (N8.out.ne (by omega))).stored (w.heap.size + 1 + 1 + 1) 0 (.bool b9) (N8.out.ne (by omega))).stored (w.heap.size + 1 + 1 + 1) 1 (.slice o9 r9.length c9) (N8.out.ne (by omega))
    have e6 := ((((U9.out.below (Below.drew (Below.refl _ _))).stored (w.heap.size + 1 + 1) 0 (.bool b8) (N9.out.ne (by omega))).stored (w.heap.size + 1 + 1) 1 (.slice o8 r8.length c8) (N9.out.ne (by omega))).stored (w.heap.size + 1 + 1 + 1) 0 (.bool b9) (N9.out.ne (by omega))).stored (w.heap.size + 1 + 1 + 1) 1 (.slice o9 r9.length c9) (N9.out.ne (by omega))
    refine bodyPost_ret (v := .tuple #[.agg #[.bool b8, .slice o8 r8.length c8], .agg #[.bool b9, .slice o9 r9.length c9]]) ?_ rfl ⟨⟨b8, o8, c8, r8, b9, o9, c9, r9, rfl, ⟨by rw [HFL.out.1]; exact e8, N8.out.mono (by omega)⟩, ⟨by rw [HFL.out.2]; exact e6, N9.out.mono (by omega)⟩⟩, below_drewN HP4.out.below 1⟩
    clear e8 e6
    rw [results_cell_cell rfl]
    go_simp
theorem floorWY_any (b1 : Bool) (a : Option Addr) (ca : Nat) (p : List Nat) (x : Int) (b2 : Bool) (b : Option Addr) (cb : Nat) (q : List Nat) (y : Int) (w : World) (hs : Std w) (ha : Wh w b1 a ca p x) (hb : Wh w b2 b cb q y) (hy : 0 < y) (hpl : p.length ≤ 20000) (hql : q.length ≤ 20000) :
    Calls Tryz.prog 106 #[whV b1 a ca p, whV b2 b cb q] w fun e w' => (∃ (b3 : Bool) (o3 : Option Addr) (c3 : Nat) (q3 : List Nat) (b4 : Bool) (o4 : Option Addr) (c4 : Nat) (q4 : List Nat), e = .returned (.tuple #[whV b3 o3 c3 q3, whV b4 o4 c4 q4]) ∧ Wf w.heap.size w' b3 o3 c3 q3 (x.fdiv y) ∧ Wf w.heap.size w' b4 o4 c4 q4 (x.fmod y)) ∧ Below w.heap.size w w' := by
  by_cases h : (if x < 0 then -((x.natAbs % y.natAbs : Nat) : Int) else ((x.natAbs % y.natAbs : Nat) : Int)) < 0
  · exact floorWY_lt b1 a ca p x b2 b cb q y w hs ha hb hy hpl hql h
  · exact floorWY_ge b1 a ca p x b2 b cb q y w hs ha hb hy hpl hql h
end Go.Proofs.YtdgbplppabalgaaGreatDoor
